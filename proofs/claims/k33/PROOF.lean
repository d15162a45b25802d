import PyProof.Rows.All
import Wide.All
import OpenK.AllK
import Wide.FinOn
import Lean
import PyProof.EqAt
import PyProof.EqKinds
import PyProof.TupleCall
import PySem.Challenge.RW_beltgarth_k33_loops_and_calls_of_themsel
section
set_option Elab.async false
set_option linter.all false
set_option maxRecDepth 100000
namespace L2
open PySem PySem.Spec PyProof.Rows
abbrev Key := Sum Int Str
def keyIs : Key → Value → Bool
  | .inl k, v => Value.isInt k v
  | .inr x, v => Value.isStrOf x v
def keyH (w : World) : Key → Int
  | .inl k => hashInt k
  | .inr x => hashStr w x
theorem keyIs_shape : ∀ {k : Key} {v : Value}, keyIs k v = true → (∃ i t, k = Sum.inl i ∧ v = Value.int i t) ∨ (∃ x t, k = Sum.inr x ∧ v = Value.str x t)
  | .inl i, v, h => by
    obtain ⟨t, e⟩ := Value.isInt_shape (k := i) (v := v) h
    exact .inl ⟨i, t, rfl, e⟩
  | .inr x, v, h => by
    obtain ⟨t, e⟩ := Value.isStrOf_shape (x := x) (v := v) h
    exact .inr ⟨x, t, rfl, e⟩
theorem keyIs_int (i : Int) (t : Tok) : keyIs (.inl i) (.int i t) = true := by simp [keyIs, Value.isInt]
theorem keyIs_str (x : Str) (t : Tok) : keyIs (.inr x) (.str x t) = true := by simp [keyIs, Value.isStrOf]
theorem key_ll (a b : Int) : decide ((Sum.inl a : Key) = Sum.inl b) = (a == b) := by
  by_cases e : a = b
  · subst e; simp
  · have h : ¬ (Sum.inl a : Key) = Sum.inl b := fun q => e (Sum.inl.inj q)
    rw [decide_eq_false h]
    exact (beq_eq_false_iff_ne.mpr e).symm
theorem key_rr (a b : Str) : decide ((Sum.inr a : Key) = Sum.inr b) = decide (a = b) := by
  by_cases e : a = b
  · subst e; simp
  · have h : ¬ (Sum.inr a : Key) = Sum.inr b := fun q => e (Sum.inr.inj q)
    rw [decide_eq_false h, decide_eq_false e]
theorem key_lr (a : Int) (b : Str) : decide ((Sum.inl a : Key) = Sum.inr b) = false := decide_eq_false (fun q => nomatch q)
theorem key_rl (a : Str) (b : Int) : decide ((Sum.inr a : Key) = Sum.inl b) = false := decide_eq_false (fun q => nomatch q)
def mixKind (prog : Program) (w : World) : PySem.KeyKind prog w Key where
  is := keyIs
  hash := keyH w
  inj := fun v a b ha hb => by
    rcases keyIs_shape ha with ⟨i, t, rfl, rfl⟩ | ⟨x, t, rfl, rfl⟩
    · rcases keyIs_shape hb with ⟨j, u, rfl, e⟩ | ⟨y, u, rfl, e⟩
      · injection e with e1 _; rw [e1]
      · exact nomatch e
    · rcases keyIs_shape hb with ⟨j, u, rfl, e⟩ | ⟨y, u, rfl, e⟩
      · exact nomatch e
      · injection e with e1 _; rw [e1]
  byValue := fun k v h => by
    rcases keyIs_shape h with ⟨i, t, rfl, rfl⟩ | ⟨x, t, rfl, rfl⟩ <;> rfl
  pyHash := fun hv h => by
    rcases keyIs_shape hv with ⟨i, t, rfl, rfl⟩ | ⟨x, t, rfl, rfl⟩
    · exact wpAny_pyHash_int h
    · exact wpAny_pyHash_str h
  eqBool := fun hu hv h => by
    rcases keyIs_shape hu with ⟨i, t, rfl, rfl⟩ | ⟨x, t, rfl, rfl⟩
    · rcases keyIs_shape hv with ⟨j, u, rfl, rfl⟩ | ⟨y, u, rfl, rfl⟩
      · rw [key_ll] at h; exact wpAny_eqBool_int h
      · rw [key_lr] at h; exact SeqAt.EqAt.int_str i t y u _ _ _ _ h
    · rcases keyIs_shape hv with ⟨j, u, rfl, rfl⟩ | ⟨y, u, rfl, rfl⟩
      · rw [key_rl] at h; exact SeqAt.EqAt.str_int x t j u _ _ _ _ h
      · rw [key_rr] at h; exact wpAny_eqBool_str h
  «strs» := fun k x t v h => by
    rcases keyIs_shape h with ⟨i, u, rfl, e⟩ | ⟨y, u, rfl, e⟩
    · exact nomatch e
    · injection e with e1 _
      subst e1
      cases v <;> rfl
theorem mixKind_int (prog : Program) (w : World) (i : Int) (t : Tok) : (mixKind prog w).is (.inl i) (.int i t) = true := keyIs_int i t
theorem mixKind_str (prog : Program) (w : World) (x : Str) (t : Tok) : (mixKind prog w).is (.inr x) (.str x t) = true := keyIs_str x t
end L2
namespace L2
open PySem PySem.Spec PyProof.Rows
inductive V where
  | non | bl (b : Bool) | int (i : Int) | str (x : Str) | byt (b : Array UInt8) | flt (b : UInt64) | ref (a : Addr) | ty (n : String)
  deriving DecidableEq
def RelV : V → Value → Prop
  | .non, u => u = Value.none
  | .bl b, u => u = Value.bool b
  | .int i, u => ∃ t, u = Value.int i t
  | .str x, u => ∃ t, u = Value.str x t
  | .byt b, u => ∃ t, u = Value.bytes b t
  | .flt b, u => ∃ t, u = Value.float b t
  | .ref a, u => u = Value.ref a
  | .ty n, u => u = Value.type n
abbrev Vals : List V → List Value → Prop := Paired RelV
theorem Vals.length {xs : List V} {us : List Value} (r : Vals xs us) : xs.length = us.length := Paired.length r
theorem Vals.get : ∀ {xs : List V} {us : List Value} {i : Nat} {x : V}, Vals xs us → xs[i]? = some x → ∃ u, us[i]? = some u ∧ RelV x u
  | _, _, _, _, .nil, e => by simp at e
  | _, _, 0, _, .cons r _, e => by simp at e; subst e; exact ⟨_, rfl, r⟩
  | _, _, i + 1, x, .cons _ t, e => by
    obtain ⟨u, h1, h2⟩ := Vals.get (i := i) (x := x) t (by simpa using e)
    exact ⟨u, by simpa using h1, h2⟩
theorem Vals.set {x : V} {u : Value} (r : RelV x u) : ∀ {xs : List V} {us : List Value} (i : Nat), Vals xs us → Vals (xs.set i x) (us.set i u)
  | _, _, _, .nil => .nil
  | _, _, 0, .cons _ t => .cons r t
  | _, _, i + 1, .cons q t => .cons q (Vals.set r i t)
theorem Vals.append : ∀ {xs ys : List V} {us ws : List Value}, Vals xs us → Vals ys ws → Vals (xs ++ ys) (us ++ ws)
  | _, _, _, _, .nil, s => s
  | _, _, _, _, .cons r t, s => .cons r (Vals.append t s)
theorem Vals.take : ∀ {xs : List V} {us : List Value} (n : Nat), Vals xs us → Vals (xs.take n) (us.take n)
  | _, _, 0, _ => .nil
  | _, _, _ + 1, .nil => .nil
  | _, _, n + 1, .cons r t => .cons r (Vals.take n t)
theorem Vals.drop : ∀ {xs : List V} {us : List Value} (n : Nat), Vals xs us → Vals (xs.drop n) (us.drop n)
  | _, _, 0, r => r
  | _, _, _ + 1, .nil => .nil
  | _, _, n + 1, .cons _ t => Vals.drop n t
def RelO : Option V → Option Value → Prop
  | some v, some u => RelV v u
  | none, none => True
  | _, _ => False
def KV {κ : Type} : List (κ × V) → List (κ × Value) → Prop := Paired fun (p : κ × V) (q : κ × Value) => p.1 = q.1 ∧ RelV p.2 q.2
def kV : Key → V
  | .inl i => .int i
  | .inr x => .str x
inductive HO where
  /-- a list -/
  | lst (xs : List V)
  /-- a tuple (never changes) -/
  | tup (xs : List V)
  /-- a dict whose keys are ints and texts; one whose keys are tuples of ints and texts (the empty one is both) -/
  | dK (kvs : List (Key × V)) | dT (kvs : List (List Key × V))
  /-- a set of ints: its members, its size -/
  | set (S : Int → Bool) (n : Nat)
  /-- an instance of the class at C, its dict at dx, its attributes -/
  | ins (C dx : Addr) (fs : List (Str × V))
  /-- the dict of the instance at x -/
  | own (x : Addr)
  /-- the dict of an exception -/
  | xd (fs : List (Str × V))
  /-- a bound method, f of x -/
  | met (f x : Addr)
  /-- a range object lo, lo + 1, .. below hi -/
  | rng (lo hi : Int)
  /-- a thing that is known to the object (the script; a dict while a loop walks it): read, never written while it is so -/
  | frz (o : Obj) (u : HO)
  /-- a code object's table -/
  | tbl (ps : Array Value)
  /-- any other thing, by what is true of its one object (a def of one's own: SetO a S n := HO.ext fun h => ..) -/
  | ext (φ : Heap → Prop)
abbrev Hp := Addr → Option HO
def upd (H : Hp) (a : Addr) (o : HO) : Hp := fun b => if b = a then some o else H b
theorem upd_same {H : Hp} {a : Addr} {o : HO} : upd H a o a = some o := by unfold upd; rw [if_pos rfl]
theorem upd_ne {H : Hp} {a b : Addr} {o : HO} (h : b ≠ a) : upd H a o b = H b := by unfold upd; rw [if_neg h]
theorem upd_upd {H : Hp} {a : Addr} {o u : HO} : upd (upd H a o) a u = upd H a u := by
  funext b; unfold upd; split <;> rfl
theorem ne_of {H : Hp} {a b : Addr} {o u : HO} (h : H a = some o) (h' : H b = some u) (d : o ≠ u) : a ≠ b := by
  intro e; subst e; rw [h] at h'; exact d (Option.some.inj h')
theorem ne_of_none {H : Hp} {a b : Addr} {o : HO} (h : H a = some o) (h' : H b = none) : a ≠ b := by
  intro e; subst e; rw [h] at h'; cases h'
def IsTupN (h : Heap) (a : Addr) (items : Array Value) : Prop := ∃ o, h.get? a = some o ∧ (o.cls = .type "tuple" ∧ o.dict = none) ∧ ∃ n, o.data = .seq items n
theorem IsTupN.tup {h : Heap} {a : Addr} {items : Array Value} (x : IsTupN h a items) : IsTup h a items := let ⟨o, e, c, n⟩ := x; ⟨o, e, c.1, n⟩
theorem IsTupN.lt {h : Heap} {a : Addr} {items : Array Value} (x : IsTupN h a items) : a < h.objs.size := let ⟨_, e, _⟩ := x; Heap.lt_size e
theorem IsTupN.new (h : Heap) (items : Array Value) : IsTupN (h.push { cls := .type "tuple", data := .seq items }) h.objs.size items := ⟨_, Heap.get?_push_size _ rfl, ⟨rfl, rfl⟩, _, rfl⟩
section
variable (P : Program) (w : World)
def ObjOk (H : Hp) (h : Heap) (a : Addr) : HO → Prop
  | .lst xs => xs.length ≤ sizeLine ∧ ∃ (its : List Value) (n : Nat), Vals xs its ∧ h.get? a = some { cls := .type "list", data := .seq its.toArray n }
  | .tup xs => xs.length ≤ sizeLine ∧ ∃ its : List Value, Vals xs its ∧ IsTupN h a its.toArray
  | .dK kvs => kvs.length ≤ sizeLine ∧ (a == sysModules) = false ∧ ∃ vs, KV kvs vs ∧ h.DictOf (mixKind P w) a vs
  | .dT kvs => kvs.length ≤ sizeLine ∧ (a == sysModules) = false ∧ ∃ xs : List (List Key × Addr × Value),
      Paired (fun (p : List Key × V) (q : List Key × Addr × Value) => p.1 = q.1 ∧ H q.2.1 = some (.tup (p.1.map kV)) ∧ RelV p.2 q.2.2) kvs xs ∧
      ∃ o es ep, h.get? a = some o ∧ o.ExactDict ∧ o.data = .dict es ep ∧ es.toList = xs.map (entryOfKey (tupleKind (mixKind P w))) ∧ (xs.map (·.1)).Nodup
  | .set S n => h.SetOf (intKind P w) a S n
  | .ins C dx fs => H dx = some (.own a) ∧ fs.length ≤ 1000 ∧ dx ≠ a ∧ h.get? a = some (PySem.W.instObj C dx) ∧
      ∃ mA, h.Ns1 dx mA ∧ (∀ f, RelO (fs.lookup f) (mA f)) ∧ PySem.Within mA (fs.map (·.1))
  | .own _ => ∃ o, h.get? a = some o
  | .xd fs => ∃ mA, h.Ns1 a mA ∧ ∀ f, RelO (fs.lookup f) (mA f)
  | .rng lo hi => ∃ t u v, h.get? a = some { cls := .type "range", data := .fields #[.int lo t, .int hi u, .int 1 v] }
  | .frz o u => h.get? a = some o ∧ ObjOk H h a u
  | .tbl ps => h.get? a = some { cls := .none, data := .fields ps }
  | .met f x => h.get? a = some (PySem.W.methodObj (.ref f) (.ref x))
  | .ext φ => φ h ∧ (∃ o, h.get? a = some o) ∧ ∀ h1 h2 : Heap, φ h1 → (∀ o, h1.get? a = some o → h2.get? a = some o) → φ h2
def HOk (H : Hp) (h : Heap) : Prop := ∀ a o, H a = some o → ObjOk P w H h a o
end
section
variable {P : Program} {w : World} {H H' : Hp} {h h' : Heap} {a : Addr} {o : HO}
theorem ObjOk.lt (x : ObjOk P w H h a o) : a < h.objs.size := by
  cases o with
  | lst xs => obtain ⟨_, _, _, _, e⟩ := x; exact Heap.lt_size e
  | tup xs => obtain ⟨_, _, _, p⟩ := x; exact p.lt
  | dK kvs => obtain ⟨_, _, _, _, o, _, _, e, _⟩ := x; exact Heap.lt_size e
  | dT kvs => obtain ⟨_, _, _, _, o, _, _, e, _⟩ := x; exact Heap.lt_size e
  | set S n => obtain ⟨o, _, _, _, e, _⟩ := x; exact Heap.lt_size e
  | ins C dx fs => obtain ⟨_, _, _, e, _⟩ := x; exact Heap.lt_size e
  | own y => obtain ⟨_, e⟩ := x; exact Heap.lt_size e
  | xd fs => obtain ⟨_, ⟨_, _, _, e, _⟩, _⟩ := x; exact Heap.lt_size e
  | rng lo hi => obtain ⟨_, _, _, e⟩ := x; exact Heap.lt_size e
  | frz ob u => obtain ⟨e, _⟩ := x; exact Heap.lt_size e
  | tbl ps => exact Heap.lt_size (show h.get? a = some _ from x)
  | met f y => exact Heap.lt_size (show h.get? a = some _ from x)
  | ext φ => obtain ⟨_, ⟨_, e⟩, _⟩ := x; exact Heap.lt_size e
theorem Paired.mapP {α β : Type} {F G : α → β → Prop} : ∀ {l₁ : List α} {l₂ : List β}, Paired F l₁ l₂ → (∀ a b, F a b → G a b) → Paired G l₁ l₂
  | _, _, .nil, _ => .nil
  | _, _, .cons r t, f => .cons (f _ _ r) (Paired.mapP t f)
theorem ObjOk.stay (x : ObjOk P w H h a o) (k : ∀ b u, (b = a ∨ H b = some (.own a)) → h.get? b = some u → h'.get? b = some u)
    (ho : ∀ b, H b = some (.own a) → H' b = some (.own a)) (ht : ∀ b xs, H b = some (.tup xs) → H' b = some (.tup xs)) : ObjOk P w H' h' a o := by
  induction o with
  | lst xs => obtain ⟨z, its, n, r, e⟩ := x; exact ⟨z, its, n, r, k _ _ (.inl rfl) e⟩
  | tup xs => obtain ⟨z, its, r, ob, e, c⟩ := x; exact ⟨z, its, r, ob, k _ _ (.inl rfl) e, c⟩
  | dK kvs => obtain ⟨z, y, vs, r, ob, es, ep, e, c⟩ := x; exact ⟨z, y, vs, r, ob, es, ep, k _ _ (.inl rfl) e, c⟩
  | dT kvs =>
    obtain ⟨z, y, xs, r, ob, es, ep, e, c⟩ := x
    exact ⟨z, y, xs, Paired.mapP r fun p q z => ⟨z.1, ht _ _ z.2.1, z.2.2⟩, ob, es, ep, k _ _ (.inl rfl) e, c⟩
  | set S n => obtain ⟨ob, es, ep, t, e, c⟩ := x; exact ⟨ob, es, ep, t, k _ _ (.inl rfl) e, c⟩
  | ins C dx fs =>
    obtain ⟨d, z, ne, e, mA, ⟨od, es, ep, e2, c⟩, r⟩ := x
    exact ⟨ho _ d, z, ne, k _ _ (.inl rfl) e, mA, ⟨od, es, ep, k _ _ (.inr d) e2, c⟩, r⟩
  | own y => obtain ⟨ob, e⟩ := x; exact ⟨ob, k _ _ (.inl rfl) e⟩
  | xd fs => obtain ⟨mA, ⟨od, es, ep, e, c⟩, r⟩ := x; exact ⟨mA, ⟨od, es, ep, k _ _ (.inl rfl) e, c⟩, r⟩
  | rng lo hi => obtain ⟨t, u, v, e⟩ := x; exact ⟨t, u, v, k _ _ (.inl rfl) e⟩
  | frz ob u ih => obtain ⟨e, q⟩ := x; exact ⟨k _ _ (.inl rfl) e, ih q⟩
  | tbl ps =>
    have e : h.get? a = some { cls := .none, data := .fields ps } := x
    show h'.get? a = some { cls := .none, data := .fields ps }
    exact k a _ (.inl rfl) e
  | met f y =>
    have e : h.get? a = some (PySem.W.methodObj (.ref f) (.ref y)) := x
    show h'.get? a = some (PySem.W.methodObj (.ref f) (.ref y))
    exact k a _ (.inl rfl) e
  | ext φ => obtain ⟨p, ⟨o, e⟩, st⟩ := x; exact ⟨st _ _ p fun o q => k _ _ (.inl rfl) q, ⟨o, k _ _ (.inl rfl) e⟩, st⟩
theorem HOk.lt (x : HOk P w H h) (e : H a = some o) : a < h.objs.size := (x a o e).lt
theorem HOk.fresh (x : HOk P w H h) (e : h.objs.size ≤ a) : H a = none := by
  cases q : H a with
  | none => rfl
  | some u => exact absurd (Nat.lt_of_lt_of_le (x.lt q) e) (Nat.lt_irrefl _)
theorem HOk.kept (x : HOk P w H h) (k : ∀ b u, h.get? b = some u → h'.get? b = some u) : HOk P w H h' := fun a o e =>
  (x a o e).stay (fun b u _ q => k b u q) (fun _ q => q) fun _ _ q => q
theorem HOk.laid (x : HOk P w H h) (k : ∀ b u, h.get? b = some u → h'.get? b = some u) (hp : h.objs.size ≤ a) (new : ObjOk P w (upd H a o) h' a o) : HOk P w (upd H a o) h' := fun b u e => by
  have hn := x.fresh hp
  by_cases hb : b = a
  · subst hb; rw [upd_same] at e; cases e; exact new
  · rw [upd_ne hb] at e
    exact (x b u e).stay (fun c v _ q => k c v q) (fun c q => by rw [upd_ne (ne_of_none q hn)]; exact q) fun c xs q => by rw [upd_ne (ne_of_none q hn)]; exact q
end
def Rd (H : Hp) (a : Addr) (u : HO) : Prop := H a = some u ∨ ∃ o, H a = some (.frz o u)
theorem Rd.ok {P : Program} {w : World} {H : Hp} {h : Heap} {a : Addr} {u : HO} (r : Rd H a u) (x : HOk P w H h) : ObjOk P w H h a u := by
  rcases r with r | ⟨o, r⟩
  · exact x a u r
  · obtain ⟨_, q⟩ := x a _ r
    exact q
def Mut : Option HO → Prop
  | some (.lst _) => True
  | some (.dK _) => True
  | some (.dT _) => True
  | some (.set _ _) => True
  | some (.ins _ _ _) => True
  | some (.ext _) => True
  | _ => False
section
variable {P : Program} {w : World} {H : Hp} {h h' : Heap} {x e : Addr} {o' : HO}
theorem HOk.write (ok : HOk P w H h) (mu : Mut (H x)) (he : e = x ∨ H e = some (.own x)) (k : ∀ b u, b ≠ e → h.get? b = some u → h'.get? b = some u) (heo : ∃ u, h'.get? e = some u)
    (new : ObjOk P w (upd H x o') h' x o') : HOk P w (upd H x o') h' := fun b u q => by
  have nown : ∀ c y, H c = some (.own y) → c ≠ x := fun c y r z => by subst z; rw [r] at mu; exact mu
  have ntup : ∀ c xs, H c = some (.tup xs) → c ≠ x := fun c xs r z => by subst z; rw [r] at mu; exact mu
  by_cases hb : b = x
  · subst hb; rw [upd_same] at q; cases q; exact new
  · rw [upd_ne hb] at q
    by_cases hbe : b = e
    · have q' : H b = some (.own x) := by
        rcases he with z | z
        · exact absurd (hbe.trans z) hb
        · rw [hbe]; exact z
      rw [q] at q'; cases q'
      obtain ⟨v, hv⟩ := heo
      exact ⟨v, by rw [hbe]; exact hv⟩
    · refine (ok b u q).stay (fun c v hc r => k c v ?_ r) (fun c r => by rw [upd_ne (nown c b r)]; exact r) fun c xs r => by rw [upd_ne (ntup c xs r)]; exact r
      rcases hc with rfl | hc
      · exact hbe
      · rintro rfl
        rcases he with z | z
        · exact nown c b hc z
        · rw [hc] at z; cases z; exact hb rfl
end
structure Un (fs ex : List Addr) (H H' : Hp) (h h' : Heap) : Prop where
  keep : ∀ b o, h.get? b = some o → H b = none → b ∉ fs → b ∉ ex → h'.get? b = some o
  slot : ∀ b o, h.get? b = some o → H b = none → b ∈ fs → b ∉ ex → ∃ sl, h'.get? b = some { o with slots := sl }
  free : ∀ b o, h.get? b = some o → H b = none → b ∉ ex → H' b = none
  there : ∀ b o, h.get? b = some o → b ∉ ex → ∃ o', h'.get? b = some o'
  tups : ∀ b xs, H b = some (.tup xs) → H' b = some (.tup xs)
  frzs : ∀ b o u, H b = some (.frz o u) → H' b = some (.frz o u)
  tbls : ∀ b ps, H b = some (.tbl ps) → ∃ more, H' b = some (.tbl (ps ++ more))
section
variable {fs fs' ex ex' : List Addr} {H H1 H2 : Hp} {h h1 h2 h' : Heap} {a x e : Addr} {o : HO}
theorem Un.any (u : Un fs ex H H1 h h1) {b : Addr} {ob : Obj} (q : h.get? b = some ob) (n : H b = none) (hx : b ∉ ex) : ∃ sl, h1.get? b = some { ob with slots := sl } := by
  by_cases hb : b ∈ fs
  · exact u.slot b ob q n hb hx
  · exact ⟨ob.slots, u.keep b ob q n hb hx⟩
theorem Un.kept (k : ∀ b u, h.get? b = some u → h'.get? b = some u) : Un fs ex H H h h' :=
  ⟨fun b ob q _ _ _ => k b ob q, fun b ob q _ _ _ => ⟨ob.slots, k b ob q⟩, fun _ _ _ n _ => n, fun b ob q _ => ⟨ob, k b ob q⟩, fun _ _ q => q, fun _ _ _ q => q, fun _ ps q => ⟨#[], by rw [q]; simp⟩⟩
theorem Un.refl : Un fs ex H H h h := Un.kept fun _ _ q => q
theorem Un.laid (k : ∀ b u, h.get? b = some u → h'.get? b = some u) (hp : h.objs.size ≤ a) (hn : H a = none) : Un fs ex H (upd H a o) h h' where
  keep := fun b u q _ _ _ => k b u q
  slot := fun b u q _ _ _ => ⟨u.slots, k b u q⟩
  free := fun b u q n _ => by rw [upd_ne (Nat.ne_of_lt (Nat.lt_of_lt_of_le (Heap.lt_size q) hp))]; exact n
  there := fun b u q _ => ⟨u, k b u q⟩
  tups := fun b xs q => by rw [upd_ne (ne_of_none q hn)]; exact q
  frzs := fun b u xs q => by rw [upd_ne (ne_of_none q hn)]; exact q
  tbls := fun b ps q => ⟨#[], by rw [upd_ne (ne_of_none q hn), q]; simp⟩
theorem Un.write (mu : Mut (H x)) (he : e = x ∨ H e = some (.own x)) (k : ∀ b u, b ≠ e → h.get? b = some u → h'.get? b = some u) (heo : ∃ u, h'.get? e = some u) : Un fs ex H (upd H x o) h h' := by
  have hx : ∀ b, H b = none → b ≠ x := fun b n z => by subst z; rw [n] at mu; exact mu
  have hb : ∀ b, H b = none → b ≠ e := fun b n z => by
    subst z
    rcases he with r | r
    · exact hx b n r
    · rw [n] at r; cases r
  have hm : ∀ b u, H b = some u → ¬ Mut (some u) → b ≠ x := fun b u q nm z => by subst z; rw [q] at mu; exact nm mu
  refine ⟨fun b u q n _ _ => k b u (hb b n) q, fun b u q n _ _ => ⟨u.slots, k b u (hb b n) q⟩, fun b u q n _ => by rw [upd_ne (hx b n)]; exact n, fun b u q _ => ?_,
    fun b xs q => by rw [upd_ne (hm b _ q fun z => z)]; exact q, fun b u xs q => by rw [upd_ne (hm b _ q fun z => z)]; exact q, fun b ps q => ⟨#[], by rw [upd_ne (hm b _ q fun z => z), q]; simp⟩⟩
  by_cases hbe : b = e
  · subst hbe; exact heo
  · exact ⟨u, k b u hbe q⟩
end
def trk (h : Heap) (H : Hp) : List Addr := (List.range h.objs.size).filter fun a => (H a).isSome
def hidT (h : Heap) (H : Hp) : Heap := PySem.W.hideAll h (trk h H)
theorem hidT_size (h : Heap) (H : Hp) : (hidT h H).objs.size = h.objs.size := PySem.W.hideAll_size _ _
theorem hidT_get {h : Heap} {H : Hp} {b : Addr} {o : Obj} (e : h.get? b = some o) (n : H b = none) : (hidT h H).get? b = some o :=
  PySem.W.hideAll_get _ e fun hm => by
    have q : (H b).isSome = true := (List.mem_filter.mp hm).2
    rw [n] at q; simp at q
theorem of_hidT {h : Heap} {H : Hp} {b : Addr} {o : Obj} (e : (hidT h H).get? b = some o) : h.get? b = some o ∧ H b = none := by
  have e' : h.get? b = some o := PySem.W.of_hideAll (trk h H) e
  refine ⟨e', ?_⟩
  cases q : H b with
  | none => rfl
  | some x =>
    have hm : b ∈ trk h H := List.mem_filter.mpr ⟨List.mem_range.mpr (Heap.lt_size e'), by simp [q]⟩
    have z : (hidT h H).get? b = none := PySem.W.hideAll_none (trk h H) hm
    rw [z] at e; cases e
end L2
namespace L2
open PySem PySem.Spec PyProof.Rows
structure Mod (K : PySem.W.Frag) (mg : Str → Option Value) (base : Heap) : Prop where
  kin : K.In base
  glob : base.Ns mainGlobals mg
  blt : ∃ mb, base.Ns builtinsNs mb ∧ ∀ x : Str, x ≠ "__name__" → mb x = bootBuiltins x
  nolimit : base.NoLimit
structure Cx where
  prog : Program
  w : World
  K : PySem.W.Frag
  mg : Str → Option Value
  base : Heap
  A : Around
  N : List Str
  s₀ : Shared
  H₀ : Hp
  env : Env
  outer : List Env
  stack : List Env
  ex : List Addr
  fn : Str → Bool
  calm : Bool
  pn : List (Addr × Obj)
  xe : Value → Shared → Prop
def frs (l : List Env) : List Addr := l.filterMap (·.frame)
abbrev Cx.fs (X : Cx) : List Addr := frs X.outer
def Vis (sc : Scope) (x : Str) : Prop := sc.names.lookup x = some .local ∨ sc.names.lookup x = some .cell ∨ sc.names.lookup x = some .free
def Loc (sc : Scope) (x : Str) : Prop := sc.names.lookup x = some .local ∨ sc.names.lookup x = some .cell
def Look (env : Env) (h : Heap) (m : Str → Option Value) (x : Str) (u : Value) : Prop :=
  (env.kindOf x = some .local ∧ m x = some u) ∨ ((env.kindOf x = some .cell ∨ env.kindOf x = some .free) ∧ ∃ c, env.cells.lookup x = some c ∧ h.IsCell c (some u))
structure Cx.Ok (X : Cx) : Prop where
  mod : Mod X.K X.mg X.base
  kind : X.env.scope.kind = .function
  glob : X.env.globals = mainGlobals
  blt : X.env.builtins = builtinsNs
  above : X.s₀.heap.objs.size ≤ X.env.locals
  inj : ∀ x y c, X.env.cells.lookup x = some c → X.env.cells.lookup y = some c → x = y
  has : ∀ x, (X.env.kindOf x = some .cell ∨ X.env.kindOf x = some .free) → ∃ c, X.env.cells.lookup x = some c
  cab : ∀ x c, X.fn x = true → X.env.cells.lookup x = some c → X.s₀.heap.objs.size ≤ c
  hd : X.calm = true → X.A.handled = none
  frames : X.A.frames = some X.stack
  stk : X.stack = X.outer ∨ (X.stack = X.env :: X.outer ∧ X.env.frame = some X.env.locals)
  exf : ∀ b ∈ X.ex, b ≠ X.env.locals ∧ ∀ x c, X.env.cells.lookup x = some c → c ≠ b
  bs : ∀ b o, X.base.get? b = some o → X.s₀.heap.get? b = some o ∧ X.H₀ b = none
  bsz : X.base.objs.size ≤ X.s₀.heap.objs.size
  noex : ∀ b o, X.base.get? b = some o → b ∉ X.ex
  exfs : ∀ b ∈ X.ex, b ∉ X.fs
  funs : X.s₀.heap.FunFrames X.base X.outer
  frf : ∀ b ∈ X.fs, X.H₀ b = none
structure Inv (X : Cx) (pins : List (Addr × Obj)) (σ : List (Option V)) (H : Hp) (s : Shared) : Prop where
  ok : X.Ok
  os : s.os = X.s₀.os
  bare : AllBare s.gens
  base : Un X.fs X.ex X.H₀ H X.s₀.heap s.heap
  loc : ∃ m, s.heap.Ns X.env.locals m ∧ ∀ (i : Nat) (x : Str) (v : V), X.N[i]? = some x → σ[i]? = some (some v) → Vis X.env.scope x → ∃ u, RelV v u ∧ Look X.env s.heap m x u
  cell : ∀ x c, X.env.cells.lookup x = some c → ∃ v, s.heap.IsCell c v
  free : H X.env.locals = none
  freeC : ∀ x c, X.env.cells.lookup x = some c → H c = none
  pin : ∀ p ∈ X.pn ++ pins, s.heap.get? p.1 = some p.2 ∧ H p.1 = none ∧ p.1 ≠ X.env.locals ∧ p.1 ∉ X.fs ∧ ∀ v, p.2.data ≠ .cell v
  hok : HOk X.prog X.w H s.heap
  len : σ.length = X.N.length
section
variable {X : Cx} {pins : List (Addr × Obj)} {σ : List (Option V)} {H H' : Hp} {s : Shared} {h' : Heap}
theorem Cx.Ok.nofr (ok : X.Ok) {b : Addr} {o : Obj} (e : X.base.get? b = some o) : b ∉ X.fs := fun hb => by
  have := (ok.funs.mem hb).1
  rw [e] at this; cases this
theorem Inv.bs (I : Inv X pins σ H s) : ∀ b o, X.base.get? b = some o → s.heap.get? b = some o ∧ H b = none := fun b o e =>
  ⟨I.base.keep b o (I.ok.bs b o e).1 (I.ok.bs b o e).2 (I.ok.nofr e) (I.ok.noex b o e), I.base.free b o (I.ok.bs b o e).1 (I.ok.bs b o e).2 (I.ok.noex b o e)⟩
theorem Inv.bk (I : Inv X pins σ H s) : ∀ b o, X.base.get? b = some o → s.heap.get? b = some o := fun b o e => (I.bs b o e).1
theorem Inv.mod (I : Inv X pins σ H s) : Mod X.K X.mg X.base := I.ok.mod
theorem Inv.kIn (I : Inv X pins σ H s) : X.K.In s.heap := I.ok.mod.kin.keeps I.bk
theorem Inv.lt (I : Inv X pins σ H s) : X.env.locals < s.heap.objs.size := let ⟨_, hn, _⟩ := I.loc; hn.lt
theorem Inv.sz (I : Inv X pins σ H s) : X.s₀.heap.objs.size ≤ s.heap.objs.size := Nat.le_trans I.ok.above (Nat.le_of_lt I.lt)
theorem Inv.nofs (I : Inv X pins σ H s) {a : Addr} (h : s.heap.objs.size ≤ a) : a ∉ X.fs := fun hb => by
  obtain ⟨_, o, ho, _⟩ := I.ok.funs.mem hb
  exact absurd (Nat.lt_of_lt_of_le (Heap.lt_size ho) (Nat.le_trans I.sz h)) (Nat.lt_irrefl _)
theorem Inv.cne (I : Inv X pins σ H s) : ∀ x c, X.env.cells.lookup x = some c → c ≠ X.env.locals := fun x c e z => by
  obtain ⟨v, o, ho, hd⟩ := I.cell x c e
  obtain ⟨m, ⟨o', es, ep, ho', hd', _⟩, _⟩ := I.loc
  rw [z, ho'] at ho; cases ho; rw [hd'] at hd; cases hd
theorem Inv.funs (I : Inv X pins σ H s) : s.heap.FunFrames X.base X.outer := by
  have all : ∀ (l : List Env), (∀ b ∈ frs l, b ∈ X.fs) → X.s₀.heap.FunFrames X.base l → s.heap.FunFrames X.base l := by
    intro l
    induction l with
    | nil => intro _ _; trivial
    | cons env r ih =>
      intro hs hl
      obtain ⟨hk, ⟨L, o, hf, hn, ho, hd⟩, hr⟩ := hl
      have hL : L ∈ X.fs := hs L (by unfold frs; rw [List.filterMap_cons, hf]; exact List.mem_cons_self)
      obtain ⟨sl, e⟩ := I.base.slot L o ho (I.ok.frf L hL) hL fun z => I.ok.exfs L z hL
      exact ⟨hk, ⟨L, _, hf, hn, e, hd⟩, ih (fun b hb => hs b (by unfold frs; rw [List.filterMap_cons, hf]; exact List.mem_cons_of_mem _ hb)) hr⟩
  exact all X.outer (fun _ hb => hb) I.ok.funs
theorem Inv.stack (I : Inv X pins σ H s) : s.heap.FunFrames X.base X.stack := by
  rcases I.ok.stk with e | ⟨e, hf⟩
  · rw [e]; exact I.funs
  · rw [e]
    obtain ⟨m, hn, _⟩ := I.loc
    refine .cons (by rw [I.ok.kind]; decide) hf hn ?_ I.funs
    exact Heap.get?_none_of_le (Nat.le_trans I.ok.bsz I.ok.above)
theorem Inv.stkSub (I : Inv X pins σ H s) : ∀ b ∈ frs X.stack, b ∈ X.env.locals :: X.fs := fun b hb => by
  rcases I.ok.stk with e | ⟨e, hf⟩
  · rw [e] at hb; exact List.mem_cons_of_mem _ hb
  · rw [e] at hb
    unfold frs at hb
    rw [List.filterMap_cons, hf] at hb
    exact hb
theorem Inv.stkFree (I : Inv X pins σ H s) : ∀ b ∈ frs X.stack, H b = none := fun b hb => by
  rcases List.mem_cons.mp (I.stkSub b hb) with e | hb
  · rw [e]; exact I.free
  · obtain ⟨_, o, ho, _⟩ := I.ok.funs.mem hb
    exact I.base.free b o ho (I.ok.frf b hb) fun z => I.ok.exfs b z hb
theorem Inv.step {g' : Array GenState} {t' : Nat} {d' : Drawn} {ch : List Addr} (I : Inv X pins σ H s)
    (hch : ∀ b ∈ ch, (b ∈ X.ex ∨ X.s₀.heap.objs.size ≤ b) ∧ b ≠ X.env.locals ∧ (∀ x c, X.env.cells.lookup x = some c → c ≠ b) ∧ ∀ p ∈ X.pn ++ pins, p.1 ≠ b)
    (keep : ∀ b o, b ≠ X.env.locals → b ∉ X.fs → b ∉ ch → s.heap.get? b = some o → H b = none → h'.get? b = some o)
    (slot : ∀ b o, b ≠ X.env.locals → b ∈ X.fs → b ∉ ch → s.heap.get? b = some o → H b = none → ∃ sl, h'.get? b = some { o with slots := sl }) (free : ∀ b o, b ∉ ch → s.heap.get? b = some o → H b = none → H' b = none)
    (there : ∀ b o, b ∉ ch → s.heap.get? b = some o → ∃ o', h'.get? b = some o')
    (tups : ∀ b xs, H b = some (.tup xs) → H' b = some (.tup xs)) (frzs : ∀ b o u, H b = some (.frz o u) → H' b = some (.frz o u)) (tbls : ∀ b ps, H b = some (.tbl ps) → ∃ more, H' b = some (.tbl (ps ++ more)))
    (ns : ∀ m, s.heap.Ns X.env.locals m → h'.Ns X.env.locals m) (hok : HOk X.prog X.w H' h') (hg : AllBare g') :
    Inv X pins σ H' { s with heap := h', gens := g', drawn := d', toks := t' } := by
  have neL : ∀ b o, X.s₀.heap.get? b = some o → b ≠ X.env.locals := fun b o e => Nat.ne_of_lt (Nat.lt_of_lt_of_le (Heap.lt_size e) I.ok.above)
  have neC : ∀ b o, X.s₀.heap.get? b = some o → b ∉ X.ex → b ∉ ch := fun b o e hx hb => by
    rcases (hch b hb).1 with z | z
    · exact hx z
    · exact absurd (Nat.lt_of_lt_of_le (Heap.lt_size e) z) (Nat.lt_irrefl _)
  have cellK : ∀ x c, X.env.cells.lookup x = some c → ∀ v, s.heap.IsCell c v → h'.IsCell c v := fun x c e v ⟨o, ho, hd⟩ => by
    have nch : c ∉ ch := fun z => (hch c z).2.2.1 x c e rfl
    by_cases hc : c ∈ X.fs
    · obtain ⟨sl, q⟩ := slot c o (I.cne x c e) hc nch ho (I.freeC x c e)
      exact ⟨_, q, hd⟩
    · exact ⟨o, keep c o (I.cne x c e) hc nch ho (I.freeC x c e), hd⟩
  refine ⟨I.ok, I.os, hg, ⟨fun b o e n hb hx => ?_, fun b o e n hb hx => ?_, fun b o e n hx => ?_, fun b o e hx => ?_, fun b xs e => tups b xs (I.base.tups b xs e), fun b o xs e => frzs b o xs (I.base.frzs b o xs e), fun b ps e => ?_⟩, ?_, fun x c e => ?_, ?_, fun x c e => ?_, fun p hp => ?_, hok, I.len⟩
  · exact keep b o (neL b o e) hb (neC b o e hx) (I.base.keep b o e n hb hx) (I.base.free b o e n hx)
  · obtain ⟨sl, e1⟩ := I.base.slot b o e n hb hx
    obtain ⟨sl', e2⟩ := slot b _ (neL b o e) hb (neC b o e hx) e1 (I.base.free b o e n hx)
    exact ⟨sl', e2⟩
  · obtain ⟨o', e1⟩ := I.base.there b o e hx
    exact free b o' (neC b o e hx) e1 (I.base.free b o e n hx)
  · obtain ⟨o', e1⟩ := I.base.there b o e hx
    exact there b o' (neC b o e hx) e1
  · obtain ⟨m1, e1⟩ := I.base.tbls b ps e
    obtain ⟨m2, e2⟩ := tbls b _ e1
    exact ⟨m1 ++ m2, by rw [e2, Array.append_assoc]⟩
  · obtain ⟨m, hn, hl⟩ := I.loc
    refine ⟨m, ns m hn, fun i x v e1 e2 e3 => ?_⟩
    obtain ⟨u, r, l⟩ := hl i x v e1 e2 e3
    refine ⟨u, r, ?_⟩
    rcases l with l | ⟨k, c, e, z⟩
    · exact .inl l
    · exact .inr ⟨k, c, e, cellK x c e _ z⟩
  · obtain ⟨v, z⟩ := I.cell x c e
    exact ⟨v, cellK x c e v z⟩
  · obtain ⟨m, ⟨o, _, _, ho, _⟩, _⟩ := I.loc
    exact free _ o (fun z => (hch _ z).2.1 rfl) ho I.free
  · obtain ⟨v, o, ho, hd⟩ := I.cell x c e
    exact free c o (fun z => (hch c z).2.2.1 x c e rfl) ho (I.freeC x c e)
  · obtain ⟨e, n, ne, nf, d⟩ := I.pin p hp
    have nch : p.1 ∉ ch := fun z => (hch p.1 z).2.2.2 p hp rfl
    exact ⟨keep p.1 p.2 ne nf nch e n, free p.1 p.2 nch e n, ne, nf, d⟩
theorem Inv.un {t' : Nat} (I : Inv X pins σ H s) (u : Un X.fs [] H H' s.heap h') (hok : HOk X.prog X.w H' h') : Inv X pins σ H' { s with heap := h', toks := t' } := by
  obtain ⟨m, ⟨o, es, ep, ho, r⟩, _⟩ := id I.loc
  obtain ⟨sl, hL⟩ := u.any ho I.free (by simp)
  exact I.step (g' := s.gens) (d' := s.drawn) (ch := []) (fun _ z => nomatch z) (fun b o _ hb _ e n => u.keep b o e n hb (by simp)) (fun b o _ hb _ e n => u.slot b o e n hb (by simp)) (fun b o _ e n => u.free b o e n (by simp)) (fun b o _ e => u.there b o e (by simp)) u.tups u.frzs u.tbls (fun m' hm => by
    obtain ⟨o', es', ep', ho', r'⟩ := hm
    rw [ho] at ho'; cases ho'
    exact ⟨_, es', ep', hL, r'⟩) hok I.bare
theorem Inv.call {g' : Array GenState} {t' : Nat} {d' : Drawn} {ch : List Addr} (I : Inv X pins σ H s) (u : Un (frs X.stack) ch H H' s.heap h') (hok : HOk X.prog X.w H' h') (hg : AllBare g')
    (hch : ∀ b ∈ ch, (b ∈ X.ex ∨ X.s₀.heap.objs.size ≤ b) ∧ b ≠ X.env.locals ∧ (∀ x c, X.env.cells.lookup x = some c → c ≠ b) ∧ ∀ p ∈ X.pn ++ pins, p.1 ≠ b) :
    Inv X pins σ H' { s with heap := h', gens := g', drawn := d', toks := t' } := by
  obtain ⟨m, ⟨o, es, ep, ho, r⟩, _⟩ := id I.loc
  obtain ⟨sl, hL⟩ := u.any ho I.free fun z => (hch _ z).2.1 rfl
  exact I.step (ch := ch) hch (fun b o hL hb hc e n => u.keep b o e n (fun z => (List.mem_cons.mp (I.stkSub b z)).elim hL hb) hc) (fun b o _ _ hc e n => u.any e n hc) (fun b o hc e n => u.free b o e n hc) (fun b o hc e => u.there b o e hc) u.tups u.frzs u.tbls (fun m' hm => by
    obtain ⟨o', es', ep', ho', r'⟩ := hm
    rw [ho] at ho'; cases ho'
    exact ⟨_, es', ep', hL, r'⟩) hok hg
theorem Inv.turned {t' : Nat} {it : Addr} (I : Inv X pins σ H s) (k : ∀ b o, b ≠ it → s.heap.get? b = some o → h'.get? b = some o) (hn : H it = none) (hL : it ≠ X.env.locals)
    (h1 : it ∈ X.ex ∨ X.s₀.heap.objs.size ≤ it) (h2 : ∀ x c, X.env.cells.lookup x = some c → c ≠ it) (h3 : ∀ p ∈ X.pn ++ pins, p.1 ≠ it) : Inv X pins σ H { s with heap := h', toks := t' } := by
  have nit : ∀ b u, H b = some u → b ≠ it := fun b u e z => by rw [z, hn] at e; cases e
  refine I.step (g' := s.gens) (d' := s.drawn) (ch := [it]) (fun b hb => ?_) (fun b o _ _ hc e _ => k b o (fun z => hc (by simp [z])) e) (fun b o _ _ hc e _ => ⟨o.slots, k b o (fun z => hc (by simp [z])) e⟩) (fun _ _ _ _ n => n)
    (fun b o hc e => ⟨o, k b o (fun z => hc (by simp [z])) e⟩) (fun _ _ e => e) (fun _ _ _ e => e) (fun b ps e => ⟨#[], by rw [e]; simp⟩) (fun m hm => ?_) (fun b u e => ?_) I.bare
  · have e : b = it := by simpa using hb
    subst e
    exact ⟨h1, hL, h2, h3⟩
  · obtain ⟨o, es, ep, ho, r⟩ := hm
    exact ⟨o, es, ep, k _ o (Ne.symm hL) ho, r⟩
  · refine (I.hok b u e).stay (fun c v hc q => k c v ?_ q) (fun _ q => q) fun _ _ q => q
    rcases hc with z | z
    · rw [z]; exact nit b u e
    · exact nit c _ z
theorem Inv.tok (I : Inv X pins σ H s) (t : Nat) : Inv X pins σ H { s with toks := t } := I.un (h' := s.heap) (t' := t) Un.refl I.hok
theorem Inv.kept {t' : Nat} (I : Inv X pins σ H s) (k : ∀ b u, s.heap.get? b = some u → h'.get? b = some u) : Inv X pins σ H { s with heap := h', toks := t' } := I.un (Un.kept k) (I.hok.kept k)
theorem Inv.laid {a : Addr} {o : HO} {t' : Nat} (I : Inv X pins σ H s) (k : ∀ b u, s.heap.get? b = some u → h'.get? b = some u) (hp : s.heap.objs.size ≤ a) (new : ObjOk X.prog X.w (upd H a o) h' a o) :
    Inv X pins σ (upd H a o) { s with heap := h', toks := t' } := I.un (Un.laid k hp (I.hok.fresh hp)) (I.hok.laid k hp new)
theorem Inv.write {x e : Addr} {o : HO} {t' : Nat} (I : Inv X pins σ H s) (mu : Mut (H x)) (he : e = x ∨ H e = some (.own x)) (k : ∀ b u, b ≠ e → s.heap.get? b = some u → h'.get? b = some u) (heo : ∃ u, h'.get? e = some u)
    (new : ObjOk X.prog X.w (upd H x o) h' x o) : Inv X pins σ (upd H x o) { s with heap := h', toks := t' } := I.un (Un.write mu he k heo) (I.hok.write mu he k heo new)
theorem Inv.pins_of {pins' : List (Addr × Obj)} (I : Inv X pins σ H s) (h : ∀ p ∈ pins', s.heap.get? p.1 = some p.2 ∧ H p.1 = none ∧ p.1 ≠ X.env.locals ∧ p.1 ∉ X.fs ∧ ∀ v, p.2.data ≠ .cell v) : Inv X pins' σ H s :=
  ⟨I.ok, I.os, I.bare, I.base, I.loc, I.cell, I.free, I.freeC, fun p hp => (List.mem_append.mp hp).elim (fun z => I.pin p (List.mem_append_left _ z)) (h p), I.hok, I.len⟩
theorem nodup_ix {N : List Str} (hN : N.Nodup) {i j : Nat} {x : Str} (a : N[i]? = some x) (b : N[j]? = some x) : i = j := by
  obtain ⟨h1, e1⟩ := List.getElem?_eq_some_iff.mp a
  obtain ⟨h2, e2⟩ := List.getElem?_eq_some_iff.mp b
  exact (List.getElem_inj hN).mp (e1.trans e2.symm)
theorem store_ok2 {M : Model} {A : Around} {E : Value → Shared → Prop} {i : Nat} {x : Str} {v : V} {u : Value} {Q : Unit → Shared → Prop} (I : Inv X pins σ H s) (hN : X.N.Nodup) (hi : X.N[i]? = some x) (hx : Loc X.env.scope x) (r : RelV v u)
    (h : ∀ s', Inv X pins (σ.set i (some v)) H s' → (∃ a, Heap.SameBut a s.heap s'.heap ∧ (a = X.env.locals ∨ X.env.cells.lookup x = some a)) → Q () s') (hf : X.fn x = true ∨ X.env.scope.names.lookup x = some .local := by first | exact .inl rfl | exact .inr rfl | assumption) : wpAny M A (storeName X.env x u) Q E s := by
  obtain ⟨m, hn, hl⟩ := id I.loc
  have hcls : (X.env.scope.kind == .class || (X.env.scope.kind == .module && X.env.locals != X.env.globals)) = false := by rw [I.ok.kind]; rfl
  have hiσ : i < σ.length := by rw [I.len]; exact (List.getElem?_eq_some_iff.mp hi).1
  have cne := I.cne
  have tracked : ∀ {a : Addr} {h' : Heap}, (∃ o, s.heap.get? a = some o ∧ H a = none) → Heap.SameBut a s.heap h' → HOk X.prog X.w H h' := fun {a h'} ha hs b ob e => by
    obtain ⟨_, _, hfree⟩ := ha
    refine (I.hok b ob e).stay (fun c w' hc q => (hs.2 c ?_).trans q) (fun _ q => q) fun _ _ q => q
    rintro rfl
    rcases hc with rfl | hc
    · rw [hfree] at e; cases e
    · rw [hfree] at hc; cases hc
  rcases hx with hk | hk
  · refine wpAny_storeName_local hk hn (fun h' hn' hs => ?_) hcls
    obtain ⟨oL, _, _, hoL, _⟩ := id hn
    refine h _ ⟨I.ok, I.os, I.bare, ⟨fun b o e n hb hx => ?_, fun b o e n hb hx => ?_, I.base.free, fun b o e hx => ?_, I.base.tups, I.base.frzs, I.base.tbls⟩, ⟨_, hn', fun j y v' e1 e2 e3 => ?_⟩, fun y c e => ?_, I.free, I.freeC, fun p hp => ?_, tracked ⟨oL, hoL, I.free⟩ hs, by simpa using I.len⟩ ⟨_, hs, .inl rfl⟩
    · exact (hs.2 b (Nat.ne_of_lt (Nat.lt_of_lt_of_le (Heap.lt_size e) I.ok.above))).trans (I.base.keep b o e n hb hx)
    · obtain ⟨sl, e1⟩ := I.base.slot b o e n hb hx
      exact ⟨sl, (hs.2 b (Nat.ne_of_lt (Nat.lt_of_lt_of_le (Heap.lt_size e) I.ok.above))).trans e1⟩
    · obtain ⟨o', e1⟩ := I.base.there b o e hx
      exact ⟨o', (hs.2 b (Nat.ne_of_lt (Nat.lt_of_lt_of_le (Heap.lt_size e) I.ok.above))).trans e1⟩
    · by_cases hj : j = i
      · subst hj
        rw [hi] at e1; cases e1
        rw [List.getElem?_set_self hiσ] at e2
        cases e2
        exact ⟨u, r, .inl ⟨hk, by simp⟩⟩
      · rw [List.getElem?_set_ne (Ne.symm hj)] at e2
        obtain ⟨u', r', q⟩ := hl j y v' e1 e2 e3
        refine ⟨u', r', ?_⟩
        rcases q with ⟨k, e⟩ | ⟨k, c, e, z⟩
        · refine .inl ⟨k, ?_⟩
          have : y ≠ x := fun e => hj (nodup_ix hN e1 (e ▸ hi))
          simp [this, e]
        · exact .inr ⟨k, c, e, z.sameBut hs (cne y c e)⟩
    · obtain ⟨w', z⟩ := I.cell y c e
      exact ⟨w', z.sameBut hs (cne y c e)⟩
    · obtain ⟨e, n, ne, nf, d⟩ := I.pin p hp
      exact ⟨(hs.2 p.1 ne).trans e, n, ne, nf, d⟩
  · have hfn : X.fn x = true := by
      rcases hf with z | z
      · exact z
      · rw [z] at hk; cases hk
    obtain ⟨c, hc⟩ := I.ok.has x (.inl hk)
    obtain ⟨w', z⟩ := I.cell x c hc
    refine wpAny_storeName_cell I.ok.kind hk hc z (fun h' hc' hs => ?_)
    obtain ⟨oc, hoc, hocd⟩ := id z
    refine h { s with heap := h' } ⟨I.ok, I.os, I.bare, ⟨fun b o e n hb hx => ?_, fun b o e n hb hx => ?_, I.base.free, fun b o e hx => ?_, I.base.tups, I.base.frzs, I.base.tbls⟩, ⟨m, hn.sameBut hs (Ne.symm (cne x c hc)), fun j y v' e1 e2 e3 => ?_⟩, fun y c' e => ?_, I.free, I.freeC, fun p hp => ?_, tracked ⟨oc, hoc, I.freeC x c hc⟩ hs, by simpa using I.len⟩ ⟨c, hs, .inr hc⟩
    · exact (hs.2 b (Nat.ne_of_lt (Nat.lt_of_lt_of_le (Heap.lt_size e) (I.ok.cab x c hfn hc)))).trans (I.base.keep b o e n hb hx)
    · obtain ⟨sl, e1⟩ := I.base.slot b o e n hb hx
      exact ⟨sl, (hs.2 b (Nat.ne_of_lt (Nat.lt_of_lt_of_le (Heap.lt_size e) (I.ok.cab x c hfn hc)))).trans e1⟩
    · obtain ⟨o', e1⟩ := I.base.there b o e hx
      exact ⟨o', (hs.2 b (Nat.ne_of_lt (Nat.lt_of_lt_of_le (Heap.lt_size e) (I.ok.cab x c hfn hc)))).trans e1⟩
    · by_cases hj : j = i
      · subst hj
        rw [hi] at e1; cases e1
        rw [List.getElem?_set_self hiσ] at e2
        cases e2
        exact ⟨u, r, .inr ⟨.inl hk, c, hc, hc'⟩⟩
      · rw [List.getElem?_set_ne (Ne.symm hj)] at e2
        obtain ⟨u', r', q⟩ := hl j y v' e1 e2 e3
        refine ⟨u', r', ?_⟩
        rcases q with q | ⟨k, c', e, z'⟩
        · exact .inl q
        · refine .inr ⟨k, c', e, z'.sameBut hs ?_⟩
          rintro rfl
          exact hj (nodup_ix hN e1 (I.ok.inj _ _ _ e hc ▸ hi))
    · by_cases hcc : c' = c
      · subst hcc; exact ⟨_, hc'⟩
      · obtain ⟨w2, z2⟩ := I.cell y c' e
        exact ⟨w2, z2.sameBut hs hcc⟩
    · obtain ⟨e, n, ne, nf, d⟩ := I.pin p hp
      refine ⟨(hs.2 p.1 ?_).trans e, n, ne, nf, d⟩
      intro q
      rw [q, hoc] at e
      have q' : oc = p.2 := Option.some.inj e
      exact d w' (by rw [← q']; exact hocd)
theorem store_ok {M : Model} {A : Around} {E : Value → Shared → Prop} {i : Nat} {x : Str} {v : V} {u : Value} {Q : Unit → Shared → Prop} (I : Inv X pins σ H s) (hN : X.N.Nodup) (hi : X.N[i]? = some x) (hx : Loc X.env.scope x) (r : RelV v u)
    (h : ∀ s', Inv X pins (σ.set i (some v)) H s' → Q () s') (hf : X.fn x = true ∨ X.env.scope.names.lookup x = some .local := by first | exact .inl rfl | exact .inr rfl | assumption) : wpAny M A (storeName X.env x u) Q E s :=
  store_ok2 I hN hi hx r (fun s' I' _ => h s' I') hf
theorem Inv.call' {s' : Shared} {ch : List Addr} (I : Inv X pins σ H s) (ho : s'.os = s.os) (u : Un (frs X.stack) ch H H' s.heap s'.heap) (hok : HOk X.prog X.w H' s'.heap) (hg : AllBare s'.gens)
    (hch : ∀ b ∈ ch, (b ∈ X.ex ∨ X.s₀.heap.objs.size ≤ b) ∧ b ≠ X.env.locals ∧ (∀ x c, X.env.cells.lookup x = some c → c ≠ b) ∧ ∀ p ∈ X.pn ++ pins, p.1 ≠ b) : Inv X pins σ H' s' := by
  obtain ⟨h', g', d', t', o'⟩ := s'
  have e : o' = s.os := ho
  subst e
  exact I.call (g' := g') (t' := t') (d' := d') u hok hg hch
end
abbrev XK := Value → Option Addr → Hp → Prop
abbrev St := List (Option V)
abbrev VK := V → Hp → Prop
abbrev TE := St → Hp → VK → Prop
abbrev TT := St → Hp → (Bool → Hp → Prop) → Prop
abbrev TA := St → Hp → (List V → Hp → Prop) → Prop
structure Ends where
  nx : St → Hp → Prop
  rt : VK
  bk : St → Hp → Prop := fun _ _ => False
  ct : St → Hp → Prop := fun _ _ => False
abbrev TS := Ends → St → Hp → Prop
def EP (X : Cx) (pins : List (Addr × Obj)) (σ : St) (Q : VK) (u : Value) (s' : Shared) : Prop := ∃ v H', Inv X pins σ H' s' ∧ RelV v u ∧ Q v H'
def TP (X : Cx) (pins : List (Addr × Obj)) (σ : St) (Q : Bool → Hp → Prop) (b : Bool) (s' : Shared) : Prop := ∃ H', Inv X pins σ H' s' ∧ Q b H'
def AP (X : Cx) (pins : List (Addr × Obj)) (σ : St) (Q : List V → Hp → Prop) (us : List Value) (s' : Shared) : Prop := ∃ vs H', Inv X pins σ H' s' ∧ Vals vs us ∧ Q vs H'
def SP (X : Cx) (pins : List (Addr × Obj)) (D : Ends) (f : Flow) (s' : Shared) : Prop :=
  match f with
  | .next => ∃ σ' H', Inv X pins σ' H' s' ∧ D.nx σ' H'
  | .brk => ∃ σ' H', Inv X pins σ' H' s' ∧ D.bk σ' H'
  | .cont => ∃ σ' H', Inv X pins σ' H' s' ∧ D.ct σ' H'
  | .ret u => ∃ v σ' H', Inv X pins σ' H' s' ∧ RelV v u ∧ D.rt v H'
def PE (X : Cx) (e : Expr) (t : TE) : Prop :=
  ∀ (pins : List (Addr × Obj)) (s : Shared) (σ : St) (H : Hp) (Q : VK), Inv X pins σ H s → t σ H Q → wpAny (model X.prog X.w) X.A (eval e X.env) (EP X pins σ Q) X.xe s
def PT (X : Cx) (e : Expr) (t : TT) : Prop :=
  ∀ (pins : List (Addr × Obj)) (s : Shared) (σ : St) (H : Hp) (Q : Bool → Hp → Prop), Inv X pins σ H s → t σ H Q → wpAny (model X.prog X.w) X.A (isTrue e X.env (eval e X.env)) (TP X pins σ Q) X.xe s
def PW (X : Cx) (e : Expr) (t : TT) : Prop :=
  ∀ (whole : Sem Value) (pins : List (Addr × Obj)) (s : Shared) (σ : St) (H : Hp) (Q : Bool → Hp → Prop), Inv X pins σ H s → t σ H Q → wpAny (model X.prog X.w) X.A (isTrue e X.env whole) (TP X pins σ Q) X.xe s
theorem PW.pt {X : Cx} {e : Expr} {t : TT} (h : PW X e t) : PT X e t := h _
def PA (X : Cx) (es : List Expr) (t : TA) : Prop :=
  ∀ (pos : Pos) (pins : List (Addr × Obj)) (s : Shared) (σ : St) (H : Hp) (Q : List V → Hp → Prop), Inv X pins σ H s → t σ H Q → wpAny (model X.prog X.w) X.A (spliced (backTo pos (starEach es X.env))) (AP X pins σ Q) X.xe s
def PS (X : Cx) (st : Stmt) (t : TS) : Prop :=
  ∀ (pins : List (Addr × Obj)) (s : Shared) (σ : St) (H : Hp) (D : Ends), Inv X pins σ H s → t D σ H → wpAny (model X.prog X.w) X.A (exec st X.env) (SP X pins D) X.xe s
def PSs (X : Cx) (st : List Stmt) (t : TS) : Prop :=
  ∀ (pins : List (Addr × Obj)) (s : Shared) (σ : St) (H : Hp) (D : Ends), Inv X pins σ H s → t D σ H → wpAny (model X.prog X.w) X.A (execs st X.env) (SP X pins D) X.xe s
theorem thn {α : Type} {t : Sem α} {Q Q' : α → Shared → Prop} {M : Model} {A : Around} {E : Value → Shared → Prop} {s : Shared} (h : wpAny M A t Q E s) (hQ : ∀ a s, Q a s → Q' a s) : wpAny M A t Q' E s := wpAny_mono h hQ fun _ _ x => x
end L2
namespace L2
open PySem PySem.Spec PyProof.Rows
section
variable {X : Cx}
def tVar (i : Nat) : TE := fun σ H Q => ∃ v, σ[i]? = some (some v) ∧ Q v H
def tC (v : V) : TE := fun _ H Q => Q v H
theorem pe_var {i : Nat} {x : Str} {pos : Pos} (hN : X.N[i]? = some x) (hv : Vis X.env.scope x) (hd : (x == ("__debug__" : Str)) = false := by decide) (hcd : (x == ("__classdict__" : Str)) = false := by decide) : PE X (.Name x pos) (tVar i) := by
  intro pins s σ H Q I h
  obtain ⟨v, e, h⟩ := h
  obtain ⟨m, hn, hl⟩ := I.loc
  obtain ⟨u, r, l⟩ := hl i x v hN e hv
  have fin : EP X pins σ Q u s := ⟨v, H, I, r, h⟩
  rcases l with ⟨hk, hm⟩ | ⟨hk, c, hc, hcell⟩
  · exact wpAny_Name (wpAny_loadName_local I.ok.kind hk hn hm fin) hd
  · rcases hk with hk | hk
    · exact wpAny_Name (wpAny_loadName_cell I.ok.kind hk hc hcell fin) hd
    · exact wpAny_Name (wpAny_loadName_free I.ok.kind hk hc hcell fin hcd) hd
theorem pe_int {i j pos} : PE X (.Constant (.int i) j pos) (tC (.int i)) := fun _ _ _ H _ I h => wpAny_Constant_int ⟨.int i, H, I.tok _, ⟨_, rfl⟩, h⟩
theorem pe_bl {b j pos} : PE X (.Constant (.bool b) j pos) (tC (.bl b)) := fun _ _ _ H _ I h => Constant_bool ⟨.bl b, H, I, rfl, h⟩
theorem pe_non {j pos} : PE X (.Constant .none j pos) (tC .non) := fun _ _ _ H _ I h => Constant_none ⟨.non, H, I, rfl, h⟩
theorem pe_str {x j pos} : PE X (.Constant (.str x) j pos) (tC (.str x)) := fun _ _ _ H _ I h => Calls.Constant_str ⟨.str x, H, I.tok _, ⟨_, rfl⟩, h⟩
def Gl (X : Cx) (x : Str) : Prop := X.env.kindOf x = some .globalImplicit
theorem ld_glob {E : Value → Shared → Prop} {pins : List (Addr × Obj)} {s : Shared} {σ : St} {H : Hp} {x : Str} {u : Value} {pos : Pos} {Q : Value → Shared → Prop} (I : Inv X pins σ H s) (hg : Gl X x) (hm : X.mg x = some u) (h : Q u s)
    (hd : (x == ("__debug__" : Str)) = false := by decide) : wpAny (model X.prog X.w) X.A (eval (.Name x pos) X.env) Q E s :=
  Calls.Name_function_global I.ok.kind hg (Calls.loadGlobal_global (by rw [I.ok.glob]; exact I.mod.glob.keeps I.bk) hm h) hd
theorem ld_blt {E : Value → Shared → Prop} {pins : List (Addr × Obj)} {s : Shared} {σ : St} {H : Hp} {x : Str} {u : Value} {pos : Pos} {Q : Value → Shared → Prop} (I : Inv X pins σ H s) (hg : Gl X x) (hm : X.mg x = none) (hv : bootBuiltins x = some u) (h : Q u s)
    (hn : x ≠ "__name__" := by decide) (hd : (x == ("__debug__" : Str)) = false := by decide) : wpAny (model X.prog X.w) X.A (eval (.Name x pos) X.env) Q E s := by
  obtain ⟨mb, h1, h2⟩ := I.mod.blt
  exact Calls.Name_function_global I.ok.kind hg (Calls.loadGlobal_builtin (by rw [I.ok.glob]; exact I.mod.glob.keeps I.bk) hm (by rw [I.ok.blt]; exact h1.keeps I.bk) ((h2 x hn).trans hv) h) hd
variable {a b : Expr} {ta tb : TE} {pos : Pos}
def tB (t : TE) : TT := fun σ H Q => t σ H fun x H1 => ∃ c, x = .bl c ∧ Q c H1
theorem pt_val {e : Expr} {t : TE} (h : PE X e t) (he : ∀ whole, isTrue e X.env whole = (do let v ← whole; standAt e.pos; holding [v] (truthy v)) := by intro _; rfl) : PT X e (tB t) := by
  intro pins s σ H Q I hw
  refine isTrue_plain (thn (h pins s σ H _ I hw) fun v s1 ⟨x, H1, I1, r1, q1⟩ => ?_) (he _)
  obtain ⟨d, rfl, q⟩ := q1
  cases r1
  exact wpAny_truthy_bool ⟨H1, I1, q⟩
variable {tA tB' : TT} {rest : List Expr}
def tAnd (t u : TT) : TT := fun σ H Q => t σ H fun c H1 => if c = true then u σ H1 Q else Q false H1
def tOr (t u : TT) : TT := fun σ H Q => t σ H fun c H1 => if c = true then Q true H1 else u σ H1 Q
def tNot (t : TT) : TT := fun σ H Q => t σ H fun c H1 => Q (!c) H1
theorem pw_and1 (ha : PT X a tA) : PW X (.BoolOp .And [a] pos) tA := by
  intro wh pins s σ H Q I h
  refine isTrue_and (thn (ha pins s σ H Q I h) fun c s1 e => ?_)
  cases c with
  | true => exact isTrue_and_nil e
  | false => exact e
theorem pw_or1 (ha : PT X a tA) : PW X (.BoolOp .Or [a] pos) tA := by
  intro wh pins s σ H Q I h
  refine isTrue_or (thn (ha pins s σ H Q I h) fun c s1 e => ?_)
  cases c with
  | false => exact isTrue_or_nil e
  | true => exact e
theorem pw_and (ha : PT X a tA) (hb : PW X (.BoolOp .And (b :: rest) pos) tB') : PW X (.BoolOp .And (a :: b :: rest) pos) (tAnd tA tB') := by
  intro wh pins s σ H Q I h
  refine isTrue_and (thn (ha pins s σ H _ I h) fun c s1 ⟨H1, I1, q1⟩ => ?_)
  cases c with
  | true => exact hb wh pins s1 σ H1 Q I1 q1
  | false => exact ⟨H1, I1, q1⟩
theorem pw_or (ha : PT X a tA) (hb : PW X (.BoolOp .Or (b :: rest) pos) tB') : PW X (.BoolOp .Or (a :: b :: rest) pos) (tOr tA tB') := by
  intro wh pins s σ H Q I h
  refine isTrue_or (thn (ha pins s σ H _ I h) fun c s1 ⟨H1, I1, q1⟩ => ?_)
  cases c with
  | true => exact ⟨H1, I1, q1⟩
  | false => exact hb wh pins s1 σ H1 Q I1 q1
theorem pt_not (ha : PT X a tA) : PT X (.UnaryOp .Not a pos) (tNot tA) := by
  intro pins s σ H Q I h
  exact isTrue_not (ha pins s σ H (fun c H1 => Q (!c) H1) I h)
def tIf (t : TT) (ta tb : TE) : TE := fun σ H Q => t σ H fun c H1 => if c = true then ta σ H1 Q else tb σ H1 Q
theorem pe_ifExp {c : Expr} (hc : PT X c tA) (ha : PE X a ta) (hb : PE X b tb) : PE X (.IfExp c a b pos) (tIf tA ta tb) := by
  intro pins s σ H Q I h
  refine wpAny_IfExp (thn (hc pins s σ H _ I h) fun d s1 ⟨H1, I1, q1⟩ => ?_)
  cases d with
  | true => exact ha pins s1 σ H1 Q I1 q1
  | false => exact hb pins s1 σ H1 Q I1 q1
end
end L2
namespace L2
open PySem PySem.Spec PyProof.Rows
def SqL (K : PySem.W.Frag) (H : Hp) (a : Addr) (xs : List V) : Prop :=
  Rd H a (.lst xs) ∨
    ∃ (o : Obj) (its : Array Value) (n : Nat), K.lookup a = some o ∧ o.cls = .type "list" ∧ o.dict = none ∧ o.data = .seq its n ∧ its.size ≤ sizeLine ∧ Vals xs its.toList
def SqT (K : PySem.W.Frag) (H : Hp) (a : Addr) (xs : List V) : Prop :=
  Rd H a (.tup xs) ∨
    ∃ (o : Obj) (its : Array Value) (n : Nat), K.lookup a = some o ∧ o.cls = .type "tuple" ∧ o.data = .seq its n ∧ its.size ≤ sizeLine ∧ Vals xs its.toList
def absV : Value → Option V
  | .none => some .non
  | .bool b => some (.bl b)
  | .int i _ => some (.int i)
  | .str x _ => some (.str x)
  | .bytes b _ => some (.byt b)
  | .float b _ => some (.flt b)
  | .ref a => some (.ref a)
  | .type n => some (.ty n)
  | _ => none
theorem RelV.abs {x : V} {u : Value} (r : RelV x u) : absV u = some x := by
  cases x with
  | non => cases r; rfl
  | bl _ => cases r; rfl
  | int _ => obtain ⟨t, rfl⟩ := r; rfl
  | str _ => obtain ⟨t, rfl⟩ := r; rfl
  | byt _ => obtain ⟨t, rfl⟩ := r; rfl
  | flt _ => obtain ⟨t, rfl⟩ := r; rfl
  | ref _ => cases r; rfl
  | ty _ => cases r; rfl
theorem RelV.inj {x y : V} {u : Value} (r : RelV x u) (q : RelV y u) : x = y := Option.some.inj (r.abs.symm.trans q.abs)
theorem Vals.inj : ∀ {xs ys : List V} {us : List Value}, Vals xs us → Vals ys us → xs = ys
  | _, _, _, .nil, .nil => rfl
  | _, _, _, .cons r t, .cons r' t' => by rw [r.inj r', Vals.inj t t']
section
variable {X : Cx} {pins : List (Addr × Obj)} {σ : St} {H : Hp} {s : Shared} {a : Addr} {xs ys : List V}
theorem SqL.of {K : PySem.W.Frag} (h : H a = some (.lst xs)) : SqL K H a xs := .inl (.inl h)
theorem SqT.of {K : PySem.W.Frag} (h : H a = some (.tup xs)) : SqT K H a xs := .inl (.inl h)
theorem Inv.list (I : Inv X pins σ H s) (h : SqL X.K H a xs) : ∃ its : List Value, Vals xs its ∧ PlainL s.heap a its.toArray ∧ xs.length ≤ sizeLine := by
  rcases h with h | ⟨o, its, n, hk, hc, hd, hs, hz, r⟩
  · obtain ⟨z, its, n, r, e⟩ := h.ok I.hok
    exact ⟨its, r, ⟨_, n, e, rfl, rfl, rfl⟩, z⟩
  · refine ⟨its.toList, r, ⟨o, n, I.kIn a o hk, hc, hd, by simpa using hs⟩, ?_⟩
    have e := r.length
    simp only [Array.length_toList] at e
    omega
theorem Inv.tuple (I : Inv X pins σ H s) (h : SqT X.K H a xs) : ∃ its : List Value, Vals xs its ∧ IsTup s.heap a its.toArray ∧ xs.length ≤ sizeLine := by
  rcases h with h | ⟨o, its, n, hk, hc, hs, hz, r⟩
  · obtain ⟨z, its, r, p⟩ := h.ok I.hok
    exact ⟨its, r, p.tup, z⟩
  · refine ⟨its.toList, r, ⟨o, I.kIn a o hk, hc, n, by simpa using hs⟩, ?_⟩
    have e := r.length
    simp only [Array.length_toList] at e
    omega
theorem Inv.list_inj (I : Inv X pins σ H s) (h : SqL X.K H a xs) (h' : SqL X.K H a ys) : xs = ys := by
  obtain ⟨its, r, ⟨o, n, e, _, _, d⟩, _⟩ := I.list h
  obtain ⟨its', r', ⟨o', n', e', _, _, d'⟩, _⟩ := I.list h'
  rw [e] at e'; cases e'
  rw [d] at d'
  injection d' with d1 _
  have : its = its' := by simpa using congrArg Array.toList d1
  subst this
  exact r.inj r'
theorem Inv.tuple_inj (I : Inv X pins σ H s) (h : SqT X.K H a xs) (h' : SqT X.K H a ys) : xs = ys := by
  obtain ⟨its, r, ⟨o, e, _, n, d⟩, _⟩ := I.tuple h
  obtain ⟨its', r', ⟨o', e', _, n', d'⟩, _⟩ := I.tuple h'
  rw [e] at e'; cases e'
  rw [d] at d'
  injection d' with d1 _
  have : its = its' := by simpa using congrArg Array.toList d1
  subst this
  exact r.inj r'
end
abbrev Cx.wish (X : Cx) (E : Value → Shared → Prop) : Cx := { X with xe := E }
abbrev Cx.nox (X : Cx) : Cx := X.wish fun _ _ => False
theorem Cx.Ok.wish {X : Cx} (ok : X.Ok) (E : Value → Shared → Prop) : (X.wish E).Ok :=
  ⟨ok.mod, ok.kind, ok.glob, ok.blt, ok.above, ok.inj, ok.has, ok.cab, ok.hd, ok.frames, ok.stk, ok.exf, ok.bs, ok.bsz, ok.noex, ok.exfs, ok.funs, ok.frf⟩
theorem Cx.Ok.unwish {X : Cx} {E : Value → Shared → Prop} (ok : (X.wish E).Ok) : X.Ok :=
  ⟨ok.mod, ok.kind, ok.glob, ok.blt, ok.above, ok.inj, ok.has, ok.cab, ok.hd, ok.frames, ok.stk, ok.exf, ok.bs, ok.bsz, ok.noex, ok.exfs, ok.funs, ok.frf⟩
section
variable {X : Cx} {pins : List (Addr × Obj)} {σ : St} {H : Hp} {s : Shared} {E : Value → Shared → Prop}
theorem Inv.wish (I : Inv X pins σ H s) (E : Value → Shared → Prop) : Inv (X.wish E) pins σ H s := ⟨I.ok.wish E, I.os, I.bare, I.base, I.loc, I.cell, I.free, I.freeC, I.pin, I.hok, I.len⟩
theorem Inv.unwish (I : Inv (X.wish E) pins σ H s) : Inv X pins σ H s := ⟨I.ok.unwish, I.os, I.bare, I.base, I.loc, I.cell, I.free, I.freeC, I.pin, I.hok, I.len⟩
theorem SP.unwish {D : Ends} {f : Flow} {s' : Shared} (h : SP (X.wish E) pins D f s') : SP X pins D f s' := by
  cases f with
  | next => obtain ⟨σ', H', I, q⟩ := h; exact ⟨σ', H', I.unwish, q⟩
  | brk => obtain ⟨σ', H', I, q⟩ := h; exact ⟨σ', H', I.unwish, q⟩
  | cont => obtain ⟨σ', H', I, q⟩ := h; exact ⟨σ', H', I.unwish, q⟩
  | ret u => obtain ⟨v, σ', H', I, r, q⟩ := h; exact ⟨v, σ', H', I.unwish, r, q⟩
theorem PSs.nox {st : List Stmt} {t : TS} (h : PSs X.nox st t) : PSs X st t := fun pins s σ H D I hw =>
  wpAny_mono (h pins s σ H D (I.wish _) hw) (fun _ _ q => q.unwish) fun _ _ z => False.elim z
end
section
variable {X : Cx} {st : Stmt} {rest : List Stmt} {t u : TS} {e : Expr} {te : TE} {pos : Pos}
def tNext : TS := fun D σ H => D.nx σ H
def tSeq (t u : TS) : TS := fun D σ H => t { D with nx := u D } σ H
theorem pss_nil : PSs X [] tNext := fun _ _ σ H _ I h => wpAny_execs_nil ⟨σ, H, I, h⟩
theorem pss_cons (h1 : PS X st t) (h2 : PSs X rest u) : PSs X (st :: rest) (tSeq t u) := by
  intro pins s σ H D I h
  refine wpAny_execs_cons (thn (h1 pins s σ H { D with nx := u D } I h) fun f s1 q => ?_)
  cases f with
  | next =>
    obtain ⟨σ', H', I', q⟩ := q
    exact h2 pins s1 σ' H' D I' q
  | ret v => exact q
  | brk => exact q
  | cont => exact q
theorem pss_one (h1 : PS X st t) : PSs X [st] t := by
  intro pins s σ H D I h
  refine wpAny_execs_cons (thn (h1 pins s σ H D I h) fun f s1 q => ?_)
  cases f with
  | next => exact wpAny_execs_nil q
  | ret v => exact q
  | brk => exact q
  | cont => exact q
theorem Inv.quiet {pins : List (Addr × Obj)} {σ : St} {H : Hp} {s : Shared} (I : Inv X pins σ H s) : interactive X.env = false := by simp [interactive, I.ok.kind]
def tDrop (te : TE) : TS := fun D σ H => te σ H fun _ H1 => D.nx σ H1
theorem ps_expr (he : PE X e te) (hs : swapsWith e none pos.line X.env = pure false := by rfl) : PS X (.Expr e pos) (tDrop te) := by
  intro pins s σ H D I h
  exact wpAny_Expr_any (thn (he pins s σ H _ I h) fun v s1 ⟨x, H1, I1, r1, q1⟩ => ⟨σ, H1, I1, q1⟩) I.quiet hs
def tRet (te : TE) : TS := fun D σ H => te σ H D.rt
theorem ps_ret (he : PE X e te) : PS X (.Return (some e) pos) (tRet te) := by
  intro pins s σ H D I h
  exact wpAny_Return_some (thn (he pins s σ H _ I h) fun v s1 ⟨x, H1, I1, r1, q1⟩ => ⟨x, σ, H1, I1, r1, q1⟩)
def tRetN : TS := fun D _ H => D.rt .non H
theorem ps_retN : PS X (.Return none pos) tRetN := fun _ _ σ H _ I h => wpAny_Return_none ⟨.non, σ, H, I, rfl, h⟩
def tIfS (c : TT) (t u : TS) : TS := fun D σ H => c σ H fun b H1 => if b = true then t D σ H1 else u D σ H1
theorem ps_if {c : Expr} {a b : List Stmt} {tc : TT} (hc : PT X c tc) (ha : PSs X a t) (hb : PSs X b u) : PS X (.If c a b pos) (tIfS tc t u) := by
  intro pins s σ H D I h
  refine wpAny_If (thn (hc pins s σ H _ I h) fun d s1 ⟨H1, I1, q1⟩ => ?_)
  cases d with
  | true => exact ha pins s1 σ H1 D I1 q1
  | false => exact hb pins s1 σ H1 D I1 q1
end
abbrev TG := V → St → Hp → (St → Hp → Prop) → Prop
abbrev TGs := List V → St → Hp → (St → Hp → Prop) → Prop
def PG (X : Cx) (target : Expr) (t : TG) : Prop :=
  ∀ (pins : List (Addr × Obj)) (s : Shared) (σ : St) (H : Hp) (v : V) (u : Value) (Q : St → Hp → Prop), Inv X pins σ H s → RelV v u → t v σ H Q →
    wpAny (model X.prog X.w) X.A (assign target X.env u) (fun _ s' => ∃ σ' H', Inv X pins σ' H' s' ∧ Q σ' H') X.xe s
def PGs (X : Cx) (ts : List Expr) (t : TGs) : Prop :=
  ∀ (pins : List (Addr × Obj)) (s : Shared) (σ : St) (H : Hp) (vs : List V) (us : List Value) (Q : St → Hp → Prop), Inv X pins σ H s → Vals vs us → t vs σ H Q →
    wpAny (model X.prog X.w) X.A (assignInOrder ((assignEach ts X.env).map (·.2)) us) (fun _ s' => ∃ σ' H', Inv X pins σ' H' s' ∧ Q σ' H') X.xe s
abbrev TSet := V → V → V → Hp → (Hp → Prop) → Prop
def PSet (X : Cx) (t : TSet) : Prop :=
  ∀ (pins : List (Addr × Obj)) (s : Shared) (σ : St) (H : Hp) (o i v : V) (ov iv u : Value) (Q : Hp → Prop), Inv X pins σ H s → RelV o ov → RelV i iv → RelV v u → t o i v H Q →
    wpAny (model X.prog X.w) X.A (setItem ov iv u) (fun _ s' => ∃ H', Inv X pins σ H' s' ∧ Q H') X.xe s
abbrev TIp := V → V → Hp → VK → Prop
def PIp (X : Cx) (op : Operator) (t : TIp) : Prop :=
  ∀ (pins : List (Addr × Obj)) (s : Shared) (σ : St) (H : Hp) (x y : V) (v u : Value) (Q : VK), Inv X pins σ H s → RelV x v → RelV y u → t x y H Q →
    wpAny (model X.prog X.w) X.A (inplaceOp op v u) (EP X pins σ Q) X.xe s
section
variable {X : Cx} {pos : Pos}
def gName (i : Nat) : TG := fun v σ H Q => Q (σ.set i (some v)) H
theorem pg_name {i : Nat} {x : Str} (hN : X.N.Nodup) (hi : X.N[i]? = some x) (hx : Loc X.env.scope x) (hf : X.fn x = true ∨ X.env.scope.names.lookup x = some .local := by first | exact .inl rfl | exact .inr rfl | assumption) : PG X (.Name x pos) (gName i) := by
  intro pins s σ H v u Q I r h
  exact wpAny_assign_Name (store_ok I hN hi hx r (fun s' I' => ⟨_, H, I', h⟩) hf)
def gNil : TGs := fun vs σ H Q => vs = [] ∧ Q σ H
def gCons (t : TG) (u : TGs) : TGs := fun vs σ H Q => ∃ v r, vs = v :: r ∧ t v σ H fun σ' H' => u r σ' H' Q
theorem pgs_nil : PGs X [] gNil := by
  intro pins s σ H vs us Q I r h
  obtain ⟨e, h⟩ := h
  subst e
  cases r
  exact assignInOrder_nil ⟨σ, H, I, h⟩
theorem pgs_cons {e : Expr} {es : List Expr} {t : TG} {u : TGs} (h1 : PG X e t) (h2 : PGs X es u)
    (hs : (assignEach (e :: es) X.env).map (·.2) = assign e X.env :: (assignEach es X.env).map (·.2) := by rfl) : PGs X (e :: es) (gCons t u) := by
  intro pins s σ H vs us Q I r h
  obtain ⟨v, vr, e1, h⟩ := h
  subst e1
  cases r with
  | cons r rr =>
    rw [hs]
    refine assignInOrder_cons (thn (h1 pins s σ H _ _ _ I r h) fun _ s1 ⟨σ1, H1, I1, q1⟩ => ?_)
    exact h2 pins s1 σ1 H1 _ _ Q I1 rr q1
def gTup (K : PySem.W.Frag) (n : Nat) (t : TGs) : TG := fun v σ H Q => ∃ a xs, v = .ref a ∧ SqT K H a xs ∧ xs.length = n ∧ t xs σ H Q
theorem pg_tup {es : List Expr} {k : Nat} {t : TGs} {n : Nat} (hc : X.calm = true) (h : PGs X es t)
    (hn : (assignEach es X.env).length = n := by rfl) (hst : (assignEach es X.env).findIdx? (·.1) = none := by rfl) : PG X (.Tuple es k pos) (gTup X.K n t) := by
  intro pins s σ H v u Q I r hw
  obtain ⟨a, xs, e1, hq, hl, hw⟩ := hw
  subst e1
  cases r
  obtain ⟨its, rv, ht, hz⟩ := I.tuple hq
  refine assign_Tuple_tuple (I.ok.hd hc) ht (by simp [hn, ← hl, rv.length]) hst fun h' hx => ?_
  have I1 : Inv X pins σ H { s with heap := h' } := I.kept (t' := s.toks) fun b o e => hx b o (Nat.ne_of_lt (Heap.lt_size e)) e
  exact h pins _ σ H xs _ Q I1 (by simpa using rv) hw
def gSub (to ti : TE) (t : TSet) : TG := fun v σ H Q => to σ H fun o H1 => ti σ H1 fun i H2 => t o i v H2 fun H3 => Q σ H3
theorem pg_sub {o i : Expr} {to ti : TE} {t : TSet} (ho : PE X o to) (hi : PE X i ti) (hs : PSet X t)
    (ha : ∀ v, assign (.Subscript o i pos) X.env v = (do
      let ov ← holding [v] (eval o X.env)
      let iv ← holding [v, ov] (eval i X.env)
      standAt pos
      holding [v, ov, iv] (setItem ov iv v)
      release [v, ov, iv] []) := by intro _; rfl) : PG X (.Subscript o i pos) (gSub to ti t) := by
  intro pins s σ H v u Q I r h
  rw [ha]
  refine wpAny_bind (wpAny_holding (thn (ho pins s σ H _ I h) fun ov s1 ⟨x, H1, I1, r1, q1⟩ => ?_))
  refine wpAny_bind (wpAny_holding (thn (hi pins s1 σ H1 _ I1 q1) fun iv s2 ⟨y, H2, I2, r2, q2⟩ => ?_))
  refine wpAny_bind (wpAny_standAt (wpAny_bind (wpAny_holding (thn (hs pins s2 σ H2 x y v ov iv u _ I2 r1 r2 r q2) fun _ s3 ⟨H3, I3, q3⟩ => ?_))))
  exact wpAny_release ⟨σ, H3, I3, q3⟩
def tAsg (te : TE) (g : TG) : TS := fun D σ H => te σ H fun x H1 => g x σ H1 D.nx
theorem ps_asg {tg e : Expr} {te : TE} {g : TG} (he : PE X e te) (hg : PG X tg g) (hs : swapsWithSole [tg] e pos.line X.env = pure false := by rfl) (hw : swappedStores [tg] e X.env = pure none := by rfl)
    (h1 : (assignEach [tg] X.env).map (·.2) = [assign tg X.env] := by rfl) : PS X (.Assign [tg] e pos) (tAsg te g) := by
  intro pins s σ H D I h
  refine wpAny_Assign_stores (thn (he pins s σ H _ I h) fun v s1 ⟨x, H1, I1, r1, q1⟩ => ?_) hs hw
  rw [h1]
  exact thn (hg pins s1 σ H1 x v _ I1 r1 q1) fun _ s2 q => q
theorem ps_set {i : Nat} {x : Str} {e : Expr} {te : TE} {pos' : Pos} (hN : X.N.Nodup) (hi : X.N[i]? = some x) (hx : Loc X.env.scope x) (he : PE X e te) (hs : swapsWith e (some (.Name x pos')) pos.line X.env = pure false := by rfl) (hf : X.fn x = true ∨ X.env.scope.names.lookup x = some .local := by first | exact .inl rfl | exact .inr rfl | assumption) :
    PS X (.Assign [.Name x pos'] e pos) (tAsg te (gName i)) := by
  intro pins s σ H D I h
  refine wpAny_Assign_Name (thn (he pins s σ H _ I h) fun v s1 ⟨y, H1, I1, r1, q1⟩ => ?_) hs
  exact store_ok I1 hN hi hx r1 (fun s2 I2 => ⟨_, H1, I2, q1⟩) hf
def tAug (i : Nat) (te : TE) (ti : TIp) : TS := fun D σ H => ∃ x, σ[i]? = some (some x) ∧ te σ H fun y H1 => ti x y H1 fun z H2 => D.nx (σ.set i (some z)) H2
theorem ps_aug {i : Nat} {x : Str} {e : Expr} {te : TE} {op : Operator} {ti : TIp} {pos' : Pos} (hN : X.N.Nodup) (hi : X.N[i]? = some x) (hx : Loc X.env.scope x) (he : PE X e te) (ho : PIp X op ti) (hf : X.fn x = true ∨ X.env.scope.names.lookup x = some .local := by first | exact .inl rfl | exact .inr rfl | assumption) :
    PS X (.AugAssign (.Name x pos') op e pos) (tAug i te ti) := by
  intro pins s σ H D I h
  obtain ⟨v, e1, h⟩ := h
  obtain ⟨m, hn, hl⟩ := I.loc
  have vis : Vis X.env.scope x := by rcases hx with k | k; exact .inl k; exact .inr (.inl k)
  obtain ⟨u, r, l⟩ := hl i x v hi e1 vis
  refine wpAny_AugAssign_Name ?_
  have go : wpAny (model X.prog X.w) X.A (eval e X.env) (fun w s₂ => wpAny (model X.prog X.w) X.A (inplaceOp op u w) (fun r s₃ => wpAny (model X.prog X.w) X.A (storeName X.env x r) (fun _ => SP X pins D .next) X.xe s₃) X.xe s₂) X.xe s := by
    refine thn (he pins s σ H _ I h) fun w s1 ⟨y, H1, I1, r1, q1⟩ => ?_
    refine thn (ho pins s1 σ H1 v y u w _ I1 r r1 q1) fun z s2 ⟨zv, H2, I2, r2, q2⟩ => ?_
    exact store_ok I2 hN hi hx r2 (fun s3 I3 => ⟨_, H2, I3, q2⟩) hf
  rcases l with ⟨hk, hm⟩ | ⟨hk, c, hc, hcell⟩
  · exact wpAny_loadName_local I.ok.kind hk hn hm go
  · rcases hk with hk | hk
    · exact wpAny_loadName_cell I.ok.kind hk hc hcell go
    · rcases hx with k | k
      · have : X.env.scope.names.lookup x = some .free := hk
        rw [k] at this; cases this
      · have : X.env.scope.names.lookup x = some .free := hk
        rw [k] at this; cases this
def ipI (f : Int → Int → Int) : TIp := fun x y H Q => ∃ i j, x = .int i ∧ y = .int j ∧ Q (.int (f i j)) H
theorem ip_add : PIp X .Add (ipI fun i j => i + j) := by
  intro pins s σ H x y v u Q I r1 r2 h
  obtain ⟨i, j, e1, e2, q⟩ := h
  subst e1; subst e2
  obtain ⟨t, rfl⟩ := r1
  obtain ⟨t', rfl⟩ := r2
  exact iadd_int ⟨.int _, H, I.tok _, ⟨_, rfl⟩, q⟩
end
section
variable {X : Cx} {pos : Pos}
def tWhile (c : TT) (tb : TS) : TS := fun D σ H => ∃ W : Nat → St → Hp → Prop, (∃ m, W m σ H) ∧ ∀ m σ H, W m σ H →
  c σ H fun b H1 => if b = true then ∃ N : St → Hp → Prop, (∀ σ' H', N σ' H' → ∃ m', m' < m ∧ W m' σ' H') ∧ tb { D with nx := N, ct := N, bk := D.nx } σ H1 else D.nx σ H1
theorem ps_while {c : Expr} {body : List Stmt} {tc : TT} {tb : TS} (hp : PassesOwn (model X.prog X.w) X.A X.env X.xe) (hc : PT X c tc) (hb : PSs X body tb) : PS X (.While c body [] pos) (tWhile tc tb) := by
  intro pins s σ H D I h
  obtain ⟨W, ⟨m0, w0⟩, turn⟩ := h
  refine wpAny_While (codeAny_whileLoop (fun n s' => ∃ σ' H', Inv X pins σ' H' s' ∧ W n σ' H') ?_ m0 ⟨σ, H, I, w0⟩)
  rintro n s1 ⟨σ1, H1, I1, w1⟩
  refine wpAny_passesOwn hp (thn (hc pins s1 σ1 H1 _ I1 (turn n σ1 H1 w1)) fun b s2 ⟨H2, I2, q2⟩ => ?_)
  cases b with
  | true =>
    obtain ⟨N, hN, q2⟩ := q2
    rw [if_pos rfl]
    refine wpAny_passesOwn hp (thn (hb pins s2 σ1 H2 _ I2 q2) fun f s3 q3 => ?_)
    cases f with
    | next =>
      obtain ⟨σ3, H3, I3, n3⟩ := q3
      obtain ⟨m', hm, w3⟩ := hN σ3 H3 n3
      exact ⟨m', hm, σ3, H3, I3, w3⟩
    | cont =>
      obtain ⟨σ3, H3, I3, n3⟩ := q3
      obtain ⟨m', hm, w3⟩ := hN σ3 H3 n3
      exact ⟨m', hm, σ3, H3, I3, w3⟩
    | brk => exact q3
    | ret v => exact q3
  | false =>
    rw [if_neg Bool.false_ne_true]
    exact wpAny_execs_nil ⟨σ1, H2, I2, q2⟩
end
structure It where
  go : Nat → Hp → Prop
  yld : Nat → Hp → V → Hp → Prop
  stop : Nat → Hp → Prop
def FpOk (X : Cx) (pins : List (Addr × Obj)) (H : Hp) (b : Addr) : Prop :=
  H b = none ∧ b ≠ X.env.locals ∧ b ∉ X.fs ∧ (b ∈ X.ex ∨ X.s₀.heap.objs.size ≤ b) ∧ (∀ x c, X.env.cells.lookup x = some c → c ≠ b) ∧ ∀ p ∈ X.pn ++ pins, p.1 ≠ b
theorem Inv.fpOk {X : Cx} {pins : List (Addr × Obj)} {σ : St} {H H' : Hp} {s : Shared} {b : Addr} (I : Inv X pins σ H s) (hb : s.heap.objs.size ≤ b) (hn : H' b = none) : FpOk X pins H' b := by
  refine ⟨hn, Nat.ne_of_gt (Nat.lt_of_lt_of_le I.lt hb), I.nofs hb, .inr (Nat.le_trans I.sz hb), fun x c e z => ?_, fun p hp z => ?_⟩
  · obtain ⟨v, q⟩ := I.cell x c e
    exact absurd (Nat.lt_of_lt_of_le q.lt (by rw [z]; exact hb)) (Nat.lt_irrefl _)
  · exact absurd (Nat.lt_of_lt_of_le (Heap.lt_size (I.pin p hp).1) (by rw [z]; exact hb)) (Nat.lt_irrefl _)
structure Turn (P : Program) (w : World) (K : PySem.W.Frag) (tg : Expr) (J : It) (fp : List Addr) (it : Addr) (tn : Nat → Heap → Prop) : Prop where
  mem : it ∈ fp
  obj : ∀ i h, tn i h → ∀ b ∈ fp, ∃ o, h.get? b = some o ∧ ∀ v, o.data ≠ .cell v
  keep : ∀ i h h', tn i h → (∀ b ∈ fp, ∀ o, h.get? b = some o → h'.get? b = some o) → tn i h'
  item : ∀ (X : Cx), X.prog = P → X.w = w → X.K = K → X.calm = true → ∀ (i : Nat) (pins : List (Addr × Obj)) (s : Shared) (σ : St) (H : Hp) (E : Value → Shared → Prop), Inv X pins σ H s → (∀ b ∈ fp, FpOk X pins H b) → tn i s.heap → J.go i H →
    wpAny (model P w) X.A (pyNext (.ref it)) (fun r s1 => ∃ u, r = some u ∧
      wpAny (model P w) X.A (letOwnedTupleGo tg (.ref it) u) (fun _ s2 => ∃ x H', Inv X pins σ H' s2 ∧ RelV x u ∧ J.yld i H x H' ∧ tn (i + 1) s2.heap ∧ ∀ b ∈ fp, H' b = none) E s1) E s
  done : ∀ (X : Cx), X.prog = P → X.w = w → X.K = K → X.calm = true → ∀ (i : Nat) (pins : List (Addr × Obj)) (s : Shared) (σ : St) (H : Hp) (E : Value → Shared → Prop), Inv X pins σ H s → (∀ b ∈ fp, FpOk X pins H b) → tn i s.heap → J.stop i H →
    wpAny (model P w) X.A (pyNext (.ref it)) (fun r s1 => r = none ∧ Inv X pins σ H s1) E s
  self : ∀ (A : Around) (i : Nat) (s : Shared) (Q : Value → Shared → Prop) (E : Value → Shared → Prop), tn i s.heap → Q (.ref it) s → wpAny (model P w) A (pyIter (.ref it)) Q E s
abbrev TI := St → Hp → (It → Hp → Prop) → Prop
def PIE (X : Cx) (pins : List (Addr × Obj)) (σ : St) (tg : Expr) (R : It → Hp → Prop) (itv : Value) (s2 : Shared) : Prop :=
  ∃ (it : Addr) (fp : List Addr) (tn : Nat → Heap → Prop) (J : It) (H' : Hp), itv = .ref it ∧ Inv X pins σ H' s2 ∧ Turn X.prog X.w X.K tg J fp it tn ∧ tn 0 s2.heap ∧ (∀ b ∈ fp, FpOk X pins H' b) ∧ R J H'
def PI (X : Cx) (tg iter : Expr) (wi : TI) : Prop :=
  ∀ (pins : List (Addr × Obj)) (s : Shared) (σ : St) (H : Hp) (R : It → Hp → Prop), Inv X pins σ H s → wi σ H R →
    wpAny (model X.prog X.w) X.A (eval iter X.env) (fun v s1 => wpAny (model X.prog X.w) X.A (pyIter v) (PIE X pins σ tg R) X.xe s1) X.xe s
theorem go_of {M : Model} {A : Around} {E : Value → Shared → Prop} {s : Shared} {tg : Expr} {it : Addr} {u : Value} {o : Obj} {n : String} {vs : Array Value} {Q : Unit → Shared → Prop} (ho : s.heap.get? it = some o) (hc : o.cls = .type n) (hd : o.data = .fields vs)
    (hn : ["enumerate", "zip", "dict_itemiterator", "dict_reverseitemiterator", "odict_iterator", "itertools.zip_longest", "itertools.pairwise"].contains n = false) (hQ : Q () s) : wpAny M A (letOwnedTupleGo tg (.ref it) u) Q E s := by
  unfold letOwnedTupleGo
  cases tg <;> first
    | exact wpAny_pure hQ
    | (cases u <;> first
        | exact wpAny_pure hQ
        | (refine wpAny_bind (wpAny_load ho ?_)
           rw [hc, hd]
           show wpAny M A (if (["enumerate", "zip", "dict_itemiterator", "dict_reverseitemiterator", "odict_iterator", "itertools.zip_longest", "itertools.pairwise"].contains n && vs[0]? == some (rawInt _)) = true then _ else _) Q E s
           rw [if_neg (by intro h; rw [hn, Bool.false_and] at h; cases h)]
           exact wpAny_pure hQ))
def Itl (K : PySem.W.Frag) (a : Addr) : It :=
  ⟨fun i H => ∃ xs x, SqL K H a xs ∧ xs[i]? = some x, fun i H x H' => H' = H ∧ ∀ xs, SqL K H a xs → xs[i]? = some x, fun i H => ∃ xs, SqL K H a xs ∧ xs.length ≤ i⟩
def Itt (K : PySem.W.Frag) (a : Addr) : It :=
  ⟨fun i H => ∃ xs x, SqT K H a xs ∧ xs[i]? = some x, fun i H x H' => H' = H ∧ ∀ xs, SqT K H a xs → xs[i]? = some x, fun i H => ∃ xs, SqT K H a xs ∧ xs.length ≤ i⟩
def Itr (lo : Int) (n : Nat) : It := ⟨fun i _ => i < n, fun i H x H' => H' = H ∧ x = .int (lo + i), fun i _ => n ≤ i⟩
theorem turn_list {P : Program} {w : World} {K : PySem.W.Frag} {tg : Expr} (a it : Addr) : Turn P w K tg (Itl K a) [it] it (fun i h => h.IsListIter it a i) where
  mem := by simp
  obj := fun i h st b hb => by
    have e : b = it := by simpa using hb
    subst e
    obtain ⟨o, e, c, d⟩ := st
    exact ⟨o, e, fun v z => by rw [d] at z; cases z⟩
  keep := fun i h h' st k => st.at fun o e => k it (by simp) o e
  item := by
    intro X hP hw hK hc i pins s σ H E I hf st hg
    subst hP hw hK
    obtain ⟨xs, x, hq, hx⟩ := hg
    obtain ⟨its, rv, p, hz⟩ := I.list hq
    obtain ⟨u, hu, ru⟩ := rv.get hx
    obtain ⟨f0, f1, f2, f3, f4, f5⟩ := hf it (by simp)
    refine wpAny_pyNext_list_item st p.isList (x := u) (by simpa using hu) fun h' st' sb => ?_
    have I1 : Inv X pins σ H { s with heap := h' } := I.turned (t' := s.toks) (fun b o hb e => (sb.2 b hb).trans e) f0 f1 f3 f4 f5
    obtain ⟨o, e, c, d⟩ := id st'
    exact ⟨u, rfl, go_of (s := { s with heap := h' }) e c d (by decide) ⟨x, H, I1, ru, ⟨rfl, fun ys hy => by rw [I.list_inj hy hq]; exact hx⟩, st', fun b hb => (hf b hb).1⟩⟩
  done := by
    intro X hP hw hK hc i pins s σ H E I hf st hg
    subst hP hw hK
    obtain ⟨xs, hq, hx⟩ := hg
    obtain ⟨its, rv, p, hz⟩ := I.list hq
    obtain ⟨f0, f1, f2, f3, f4, f5⟩ := hf it (by simp)
    have hl := rv.length
    exact wpAny_pyNext_list_end (I.ok.hd hc) st p.isList (by simp; omega) fun h' eb => ⟨rfl, I.turned (t' := s.toks) (fun b o hb e => eb b o hb e) f0 f1 f3 f4 f5⟩
  self := fun _ _ _ _ _ st h => wpAny_pyIter_listiter st h
theorem turn_tuple {P : Program} {w : World} {K : PySem.W.Frag} {tg : Expr} (a it : Addr) : Turn P w K tg (Itt K a) [it] it (fun i h => h.IsTupleIter it a i) where
  mem := by simp
  obj := fun i h st b hb => by
    have e : b = it := by simpa using hb
    subst e
    obtain ⟨o, e, c, d⟩ := st
    exact ⟨o, e, fun v z => by rw [d] at z; cases z⟩
  keep := fun i h h' st k => st.at fun o e => k it (by simp) o e
  item := by
    intro X hP hw hK hc i pins s σ H E I hf st hg
    subst hP hw hK
    obtain ⟨xs, x, hq, hx⟩ := hg
    obtain ⟨its, rv, p, hz⟩ := I.tuple hq
    obtain ⟨u, hu, ru⟩ := rv.get hx
    obtain ⟨f0, f1, f2, f3, f4, f5⟩ := hf it (by simp)
    refine wpAny_pyNext_tuple_item st (show s.heap.IsTuple a its.toArray from p) (x := u) (by simpa using hu) fun h' st' sb => ?_
    have I1 : Inv X pins σ H { s with heap := h' } := I.turned (t' := s.toks) (fun b o hb e => (sb.2 b hb).trans e) f0 f1 f3 f4 f5
    obtain ⟨o, e, c, d⟩ := id st'
    exact ⟨u, rfl, go_of (s := { s with heap := h' }) e c d (by decide) ⟨x, H, I1, ru, ⟨rfl, fun ys hy => by rw [I.tuple_inj hy hq]; exact hx⟩, st', fun b hb => (hf b hb).1⟩⟩
  done := by
    intro X hP hw hK hc i pins s σ H E I hf st hg
    subst hP hw hK
    obtain ⟨xs, hq, hx⟩ := hg
    obtain ⟨its, rv, p, hz⟩ := I.tuple hq
    obtain ⟨f0, f1, f2, f3, f4, f5⟩ := hf it (by simp)
    have hl := rv.length
    exact wpAny_pyNext_tuple_end (I.ok.hd hc) st (show s.heap.IsTuple a its.toArray from p) (by simp; omega) fun h' eb => ⟨rfl, I.turned (t' := s.toks) (fun b o hb e => eb b o hb e) f0 f1 f3 f4 f5⟩
  self := fun _ _ _ _ _ st h => wpAny_pyIter_tupleiter st h
theorem turn_range {P : Program} {w : World} {K : PySem.W.Frag} {tg : Expr} (it : Addr) (lo : Int) (n : Nat) : Turn P w K tg (Itr lo n) [it] it (fun i h => IsRangeIter h it (lo + (i : Nat) * 1) ((n : Int) - (i : Nat)) 1) where
  mem := by simp
  obj := fun i h st b hb => by
    have e : b = it := by simpa using hb
    subst e
    exact ⟨_, st, fun v z => by
      have z' : Data.fields _ = Data.cell v := z
      cases z'⟩
  keep := fun i h h' st k => k it (by simp) _ st
  item := by
    intro X hP hw hK hc i pins s σ H E I hf st hg
    subst hP hw hK
    obtain ⟨f0, f1, f2, f3, f4, f5⟩ := hf it (by simp)
    have W := Walks.range (prog := X.prog) (w := X.w) (I.ok.hd hc) it lo 1 n
    refine W.item i s _ _ hg st fun v h' tk hv st' kk => ?_
    obtain ⟨t, rfl⟩ := hv
    have I1 : Inv X pins σ H { s with heap := h', toks := tk } := I.turned (fun b o hb e => kk b o (by simpa using hb) e) f0 f1 f3 f4 f5
    refine ⟨_, rfl, go_of (s := { s with heap := h', toks := tk }) (n := "range_iterator") st' rfl rfl (by decide) ⟨.int (lo + i), H, I1, ⟨t, ?_⟩, ⟨rfl, rfl⟩, st', fun b hb => (hf b hb).1⟩⟩
    rw [Int.mul_one]
  done := by
    intro X hP hw hK hc i pins s σ H E I hf st hg
    subst hP hw hK
    obtain ⟨f0, f1, f2, f3, f4, f5⟩ := hf it (by simp)
    exact wpAny_pyNext_range_end (I.ok.hd hc) st (by have : n ≤ i := hg; omega) fun h' eb => ⟨rfl, I.turned (t' := s.toks) (fun b o hb e => eb b o hb e) f0 f1 f3 f4 f5⟩
  self := fun _ _ _ _ _ st h => wpAny_pyIter_rangeiter st h
end L2
namespace L2
open PySem PySem.Spec PyProof.Rows
section
variable {X : Cx} {tg : Expr}
def iList (K : PySem.W.Frag) (tl : TE) : TI := fun σ H R => tl σ H fun x H1 => ∃ a, x = .ref a ∧ (∃ xs, SqL K H1 a xs) ∧ R (Itl K a) H1
def iTup (K : PySem.W.Frag) (tl : TE) : TI := fun σ H R => tl σ H fun x H1 => ∃ a, x = .ref a ∧ (∃ xs, SqT K H1 a xs) ∧ R (Itt K a) H1
theorem pi_list {l : Expr} {tl : TE} (hl : PE X l tl) : PI X tg l (iList X.K tl) := by
  intro pins s σ H R I h
  refine thn (hl pins s σ H _ I h) fun v s1 ⟨x, H1, I1, r1, q1⟩ => ?_
  obtain ⟨a, e, ⟨xs, hq⟩, q⟩ := q1
  subst e
  cases r1
  obtain ⟨its, rv, p, hz⟩ := I1.list hq
  refine wpAny_pyIter_list p.isList ?_
  refine ⟨s1.heap.objs.size, [s1.heap.objs.size], _, _, H1, rfl, I1.kept (t' := s1.toks) fun b o e => Heap.get?_push_of_some _ e, turn_list a _, ⟨_, Heap.get?_push_size _ rfl, rfl, rfl⟩, fun b hb => ?_, q⟩
  have e : b = s1.heap.objs.size := by simpa using hb
  subst e
  exact I1.fpOk (Nat.le_refl _) (I1.hok.fresh (Nat.le_refl _))
theorem pi_tup {l : Expr} {tl : TE} (hl : PE X l tl) : PI X tg l (iTup X.K tl) := by
  intro pins s σ H R I h
  refine thn (hl pins s σ H _ I h) fun v s1 ⟨x, H1, I1, r1, q1⟩ => ?_
  obtain ⟨a, e, ⟨xs, hq⟩, q⟩ := q1
  subst e
  cases r1
  obtain ⟨its, rv, p, hz⟩ := I1.tuple hq
  refine wpAny_pyIter_tuple (show s1.heap.IsTuple a its.toArray from p) ?_
  refine ⟨s1.heap.objs.size, [s1.heap.objs.size], _, _, H1, rfl, I1.kept (t' := s1.toks) fun b o e => Heap.get?_push_of_some _ e, turn_tuple a _, ⟨_, Heap.get?_push_size _ rfl, rfl, rfl⟩, fun b hb => ?_, q⟩
  have e : b = s1.heap.objs.size := by simpa using hb
  subst e
  exact I1.fpOk (Nat.le_refl _) (I1.hok.fresh (Nat.le_refl _))
theorem range_it {pins : List (Addr × Obj)} {σ : St} {H : Hp} {s : Shared} {R : It → Hp → Prop} {E : Value → Shared → Prop} {lo hi : Int} {t u v : Tok} {tk : Nat} (I : Inv X pins σ H s) (h1 : -(2 ^ 62) ≤ lo) (h2 : lo < 2 ^ 62) (h3 : -(2 ^ 62) ≤ hi) (h4 : hi < 2 ^ 62)
    (q : R (Itr lo (hi - lo).toNat) H) : wpAny (model X.prog X.w) X.A (pyIter (.ref s.heap.objs.size)) (PIE X pins σ tg R) E { s with heap := s.heap.push { cls := .type "range", data := .fields #[.int lo t, .int hi u, .int 1 v] }, toks := tk } := by
  refine wpAny_pyIter_range (IsRange.new ..) (small_one h1 h2 h3 h4) ?_
  have I1 : Inv X pins σ H { s with heap := s.heap.push { cls := .type "range", data := .fields #[.int lo t, .int hi u, .int 1 v] }, toks := tk } := I.kept fun b o e => Heap.get?_push_of_some _ e
  refine ⟨(s.heap.push { cls := .type "range", data := .fields #[.int lo t, .int hi u, .int 1 v] }).objs.size, [(s.heap.push { cls := .type "range", data := .fields #[.int lo t, .int hi u, .int 1 v] }).objs.size], _, _, H, rfl,
    I1.kept (t' := tk) fun b o e => Heap.get?_push_of_some _ e, turn_range _ lo (hi - lo).toNat, ?_, fun b hb => ?_, q⟩
  · have e1 : lo + ((0 : Nat) : Int) * 1 = lo := by simp
    have e2 : (((hi - lo).toNat : Nat) : Int) - ((0 : Nat) : Int) = Builtin.Range.rangeSize lo hi 1 := by rw [rangeSize_one]; split <;> omega
    show IsRangeIter _ _ (lo + ((0 : Nat) : Int) * 1) ((((hi - lo).toNat : Nat) : Int) - ((0 : Nat) : Int)) 1
    rw [e1, e2]
    exact Heap.get?_push_size _ rfl
  · have e : b = (s.heap.push { cls := .type "range", data := .fields #[.int lo t, .int hi u, .int 1 v] }).objs.size := by simpa using hb
    subst e
    exact I1.fpOk (Nat.le_refl _) (I1.hok.fresh (Nat.le_refl _))
def iRng1 (ta : TA) : TI := fun σ H R => ta σ H fun vs H1 => ∃ j : Int, vs = [.int j] ∧ -(2 ^ 62) ≤ j ∧ j < 2 ^ 62 ∧ R (Itr 0 j.toNat) H1
theorem pi_range1 {a : Expr} {ta : TA} {p pos : Pos} (hg : Gl X "range") (hm : X.mg "range" = none) (ha : PA X [a] ta) (hs : starEach [a] X.env = [(false, eval a X.env)] := by rfl) : PI X tg (.Call (.Name "range" p) [a] [] pos) (iRng1 ta) := by
  intro pins s σ H R I h
  refine Call_ (ld_blt I hg hm boot_range (PyProof.Rows.callWith_type1 (thn (ha pos pins s σ H _ I h) fun us s1 ⟨vs, H1, I1, r1, q1⟩ => ?_) hs rfl))
  obtain ⟨j, e, q1, q2, q⟩ := q1
  subst e
  cases r1 with
  | cons r rr =>
    cases rr
    obtain ⟨t, rfl⟩ := r
    exact call_range_1 (range_it I1 (by omega) (by omega) q1 q2 (by simpa using q))
def tFor (wi : TI) (g : TG) (tb : TS) : TS := fun D σ H => wi σ H fun J H1 => ∃ W : Nat → Nat → St → Hp → Prop, (∃ m, W 0 m σ H1) ∧ ∀ i m σ H, W i m σ H →
  (J.stop i H ∧ D.nx σ H) ∨ (J.go i H ∧ ∃ N : St → Hp → Prop, (∀ σ' H', N σ' H' → ∃ m', m' < m ∧ W (i + 1) m' σ' H') ∧ ∀ x H', J.yld i H x H' → g x σ H' fun σ2 H2 => tb { D with nx := N, ct := N, bk := D.nx } σ2 H2)
def pinsAt (fp : List Addr) (h : Heap) : List (Addr × Obj) := fp.filterMap fun b => (h.get? b).map fun o => (b, o)
theorem mem_pinsAt {fp : List Addr} {h : Heap} {b : Addr} {o : Obj} (hb : b ∈ fp) (e : h.get? b = some o) : (b, o) ∈ pinsAt fp h := List.mem_filterMap.mpr ⟨b, hb, by rw [e]; rfl⟩
theorem of_pinsAt {fp : List Addr} {h : Heap} {p : Addr × Obj} (hp : p ∈ pinsAt fp h) : p.1 ∈ fp ∧ h.get? p.1 = some p.2 := by
  obtain ⟨b, hb, e⟩ := List.mem_filterMap.mp hp
  cases q : h.get? b with
  | none => rw [q] at e; cases e
  | some o =>
    rw [q] at e
    have e' : (b, o) = p := Option.some.inj e
    subst e'
    exact ⟨hb, q⟩
theorem Inv.pinned {pins : List (Addr × Obj)} {σ : St} {H : Hp} {s : Shared} {fp : List Addr} (I : Inv X pins σ H s) (hf : ∀ b ∈ fp, FpOk X pins H b) (ho : ∀ b ∈ fp, ∃ o, s.heap.get? b = some o ∧ ∀ v, o.data ≠ .cell v) : Inv X (pins ++ pinsAt fp s.heap) σ H s :=
  I.pins_of fun p hp => (List.mem_append.mp hp).elim (fun z => I.pin p (List.mem_append_right _ z)) fun z => by
    obtain ⟨hb, e⟩ := of_pinsAt z
    obtain ⟨f0, f1, f2, _⟩ := hf p.1 hb
    obtain ⟨o, e', d⟩ := ho p.1 hb
    rw [e] at e'; cases e'
    exact ⟨e, f0, f1, f2, d⟩
theorem Inv.unpinned {pins pl : List (Addr × Obj)} {σ : St} {H : Hp} {s : Shared} (I : Inv X (pins ++ pl) σ H s) : Inv X pins σ H s := I.pins_of fun p hp => I.pin p (List.mem_append_right _ (List.mem_append_left _ hp))
theorem ps_for {iter : Expr} {body : List Stmt} {wi : TI} {g : TG} {tb : TS} {pos : Pos} (hp : PassesOwn (model X.prog X.w) X.A X.env X.xe) (hc : X.calm = true) (hi : PI X tg iter wi) (hg : PG X tg g) (hb : PSs X body tb)
    (hs : ∀ x, foldedSetIterable iter X.env x = pure x := by intro _; rfl) : PS X (.For tg iter body [] pos) (tFor wi g tb) := by
  intro pins s σ H D I h
  refine wpAny_For (thn (hi pins s σ H _ I h) fun v s1 h1 => thn h1 fun itv s2 h2 => ?_) hs
  obtain ⟨it, fp, tn, J, H2, e, I2, T, st2, f2, W, ⟨m0, w0⟩, turn⟩ := h2
  subst e
  have stat : ∀ {H' : Hp}, (∀ b ∈ fp, H' b = none) → ∀ b ∈ fp, FpOk X pins H' b := fun hn b hb => ⟨hn b hb, (f2 b hb).2⟩
  refine codeAny_forLoop_any (fun n s' => ∃ i σ' H', Inv X pins σ' H' s' ∧ tn i s'.heap ∧ (∀ b ∈ fp, H' b = none) ∧ W i n σ' H') ?_ m0 ⟨0, σ, H2, I2, st2, fun b hb => (f2 b hb).1, w0⟩
  rintro n s3 ⟨i, σ3, H3, I3, st3, fr3, w3⟩
  rcases turn i n σ3 H3 w3 with ⟨stop, qn⟩ | ⟨go, N, hN, step⟩
  · refine wpAny_passesOwn hp (thn (T.done X rfl rfl rfl hc i pins s3 σ3 H3 X.xe I3 (stat fr3) st3 stop) fun r s4 ⟨hr, I4⟩ => ?_)
    subst hr
    exact wpAny_execs_nil ⟨σ3, H3, I4, qn⟩
  · refine wpAny_passesOwn hp (thn (T.item X rfl rfl rfl hc i pins s3 σ3 H3 X.xe I3 (stat fr3) st3 go) fun r s4 ⟨u, hr, h4⟩ => ?_)
    subst hr
    refine wpAny_passesOwn hp (thn h4 fun _ s5 ⟨x, H5, I5, r5, y5, st5, fr5⟩ => ?_)
    have I5' := I5.pinned (stat fr5) (T.obj _ _ st5)
    refine wpAny_passesOwn hp (thn (hg _ s5 σ3 H5 x u _ I5' r5 (step x H5 y5)) fun _ s6 ⟨σ6, H6, I6, q6⟩ => ?_)
    refine wpAny_passesOwn hp (thn (hb _ s6 σ6 H6 _ I6 q6) fun f s7 q7 => ?_)
    have again : ∀ {σ7 : St} {H7 : Hp}, Inv X (pins ++ pinsAt fp s5.heap) σ7 H7 s7 → N σ7 H7 → ∃ m, m < n ∧ ∃ i σ' H', Inv X pins σ' H' s7 ∧ tn i s7.heap ∧ (∀ b ∈ fp, H' b = none) ∧ W i m σ' H' := fun {σ7 H7} I7 n7 => by
      obtain ⟨m', hm, w7⟩ := hN σ7 H7 n7
      refine ⟨m', hm, i + 1, σ7, H7, I7.unpinned, T.keep _ _ _ st5 fun b hb o e => (I7.pin (b, o) (List.mem_append_right _ (List.mem_append_right _ (mem_pinsAt hb e)))).1, fun b hb => ?_, w7⟩
      obtain ⟨o, e, d⟩ := T.obj _ _ st5 b hb
      exact (I7.pin (b, o) (List.mem_append_right _ (List.mem_append_right _ (mem_pinsAt hb e)))).2.1
    cases f with
    | next => obtain ⟨σ7, H7, I7, n7⟩ := q7; exact again I7 n7
    | cont => obtain ⟨σ7, H7, I7, n7⟩ := q7; exact again I7 n7
    | brk => obtain ⟨σ7, H7, I7, q7⟩ := q7; exact ⟨σ7, H7, I7.unpinned, q7⟩
    | ret v => obtain ⟨x7, σ7, H7, I7, r7, q7⟩ := q7; exact ⟨x7, σ7, H7, I7.unpinned, r7, q7⟩
end
theorem for_tup {K : PySem.W.Frag} {a : Addr} {xs : List V} {g : TG} {tb : TS} {D : Ends} {σ : St} {H : Hp} (Pv : Nat → St → Hp → Prop) (h0 : Pv 0 σ H) (hl : ∀ i σ H, i ≤ xs.length → Pv i σ H → SqT K H a xs)
    (hs : ∀ i x σ H, xs[i]? = some x → Pv i σ H → g x σ H fun σ2 H2 => tb { D with nx := Pv (i + 1), ct := Pv (i + 1), bk := D.nx } σ2 H2) (hd : ∀ σ H, Pv xs.length σ H → D.nx σ H) :
    ∃ W : Nat → Nat → St → Hp → Prop, (∃ m, W 0 m σ H) ∧ ∀ i m σ H, W i m σ H →
      ((Itt K a).stop i H ∧ D.nx σ H) ∨ ((Itt K a).go i H ∧ ∃ N : St → Hp → Prop, (∀ σ' H', N σ' H' → ∃ m', m' < m ∧ W (i + 1) m' σ' H') ∧ ∀ x H', (Itt K a).yld i H x H' → g x σ H' fun σ2 H2 => tb { D with nx := N, ct := N, bk := D.nx } σ2 H2) := by
  refine ⟨fun i m σ H => m = xs.length - i ∧ i ≤ xs.length ∧ Pv i σ H, ⟨xs.length, by simp, Nat.zero_le _, h0⟩, ?_⟩
  rintro i m σ H ⟨rfl, hi, p⟩
  have q := hl i σ H hi p
  by_cases hlt : i < xs.length
  · refine .inr ⟨⟨xs, xs[i], q, by simp [hlt]⟩, Pv (i + 1), fun σ' H' p' => ⟨xs.length - (i + 1), by omega, rfl, hlt, p'⟩, fun x H' y => ?_⟩
    obtain ⟨e, y⟩ := y
    subst e
    exact hs i x σ _ (y xs q) p
  · have e : i = xs.length := by omega
    subst e
    exact .inl ⟨⟨xs, q, Nat.le_refl _⟩, hd σ H p⟩
theorem for_range {lo : Int} {n : Nat} {g : TG} {tb : TS} {D : Ends} {σ : St} {H : Hp} (Pv : Nat → St → Hp → Prop) (h0 : Pv 0 σ H)
    (hs : ∀ i σ H, i < n → Pv i σ H → g (.int (lo + i)) σ H fun σ2 H2 => tb { D with nx := Pv (i + 1), ct := Pv (i + 1), bk := D.nx } σ2 H2) (hd : ∀ σ H, Pv n σ H → D.nx σ H) :
    ∃ W : Nat → Nat → St → Hp → Prop, (∃ m, W 0 m σ H) ∧ ∀ i m σ H, W i m σ H →
      ((Itr lo n).stop i H ∧ D.nx σ H) ∨ ((Itr lo n).go i H ∧ ∃ N : St → Hp → Prop, (∀ σ' H', N σ' H' → ∃ m', m' < m ∧ W (i + 1) m' σ' H') ∧ ∀ x H', (Itr lo n).yld i H x H' → g x σ H' fun σ2 H2 => tb { D with nx := N, ct := N, bk := D.nx } σ2 H2) := by
  refine ⟨fun i m σ H => m = n - i ∧ i ≤ n ∧ Pv i σ H, ⟨n, by simp, Nat.zero_le _, h0⟩, ?_⟩
  rintro i m σ H ⟨rfl, hi, p⟩
  by_cases hlt : i < n
  · refine .inr ⟨hlt, Pv (i + 1), fun σ' H' p' => ⟨n - (i + 1), by omega, rfl, hlt, p'⟩, fun x H' y => ?_⟩
    obtain ⟨e, y⟩ := y
    subst e y
    exact hs i σ _ hlt p
  · have e : i = n := by omega
    subst e
    exact .inl ⟨Nat.le_refl _, hd σ H p⟩
end L2
namespace L2
open PySem PySem.Spec PyProof.Rows
abbrev R2 := V → V → Hp → VK → Prop
def OpR (X : Cx) (f : Value → Value → Sem Value) (r : R2) : Prop :=
  ∀ (pins : List (Addr × Obj)) (s : Shared) (σ : St) (H : Hp) (x y : V) (v u : Value) (Q : VK), Inv X pins σ H s → RelV x v → RelV y u → r x y H Q →
    wpAny (model X.prog X.w) X.A (f v u) (EP X pins σ Q) X.xe s
def UnR (X : Cx) (f : Value → Sem Value) (r : V → Hp → VK → Prop) : Prop :=
  ∀ (pins : List (Addr × Obj)) (s : Shared) (σ : St) (H : Hp) (x : V) (v : Value) (Q : VK), Inv X pins σ H s → RelV x v → r x H Q →
    wpAny (model X.prog X.w) X.A (f v) (EP X pins σ Q) X.xe s
def CallR (X : Cx) (f : Value) (r : List V → Hp → VK → Prop) : Prop :=
  ∀ (pins : List (Addr × Obj)) (s : Shared) (σ : St) (H : Hp) (xs : List V) (us : List Value) (Q : VK), Inv X pins σ H s → Vals xs us → r xs H Q →
    wpAny (model X.prog X.w) X.A (call f us) (EP X pins σ Q) X.xe s
def tOp (r : R2) (ta tb : TE) : TE := fun σ H Q => ta σ H fun x H1 => tb σ H1 fun y H2 => r x y H2 Q
def tUn (r : V → Hp → VK → Prop) (ta : TE) : TE := fun σ H Q => ta σ H fun x H1 => r x H1 Q
def rI (C : Int → Int → Prop) (g : Int → Int → V) : R2 := fun x y H Q => ∃ i j, x = .int i ∧ y = .int j ∧ C i j ∧ Q (g i j) H
def rI0 (g : Int → Int → V) : R2 := fun x y H Q => ∃ i j, x = .int i ∧ y = .int j ∧ Q (g i j) H
def rU (g : Int → V) : V → Hp → VK → Prop := fun x H Q => ∃ i, x = .int i ∧ Q (g i) H
section
variable {X : Cx} {a b c : Expr} {ta tb tc : TE} {pos : Pos}
theorem binT (ha : PE X a ta) (hb : PE X b tb) {pins : List (Addr × Obj)} {s : Shared} {σ : St} {H : Hp} {R : V → V → Hp → Prop} (I : Inv X pins σ H s)
    (h : ta σ H fun x H1 => tb σ H1 fun y H2 => R x y H2) {Q : Value → Shared → Prop} {f : Value → Value → Sem Value}
    (hf : ∀ v u s2 x y H2, Inv X pins σ H2 s2 → RelV x v → RelV y u → R x y H2 → wpAny (model X.prog X.w) X.A (f v u) Q X.xe s2) :
    wpAny (model X.prog X.w) X.A (eval a X.env) (fun v s₁ => wpAny (model X.prog X.w) X.A (eval b X.env) (fun u s₂ => wpAny (model X.prog X.w) X.A (f v u) Q X.xe s₂) X.xe s₁) X.xe s := by
  refine thn (ha pins s σ H _ I h) fun v s1 ⟨x, H1, I1, r1, q1⟩ => ?_
  refine thn (hb pins s1 σ H1 _ I1 q1) fun u s2 ⟨y, H2, I2, r2, q2⟩ => ?_
  exact hf v u s2 x y H2 I2 r1 r2 q2
theorem pe_op {op : Operator} {r : R2} (ho : OpR X (binaryOp op) r) (ha : PE X a ta) (hb : PE X b tb) : PE X (.BinOp a op b pos) (tOp r ta tb) := by
  intro pins s σ H Q I h
  exact wpAny_BinOp (binT ha hb I h fun v u s2 x y H2 I2 rx ry q => ho pins s2 σ H2 x y v u Q I2 rx ry q)
theorem pe_un {op : UnaryOp} {r : V → Hp → VK → Prop} (ho : UnR X (unaryOp op) r) (ha : PE X a ta) : PE X (.UnaryOp op a pos) (tUn r ta) := by
  intro pins s σ H Q I h
  exact UnaryOp_ (thn (ha pins s σ H _ I h) fun v s1 ⟨x, H1, I1, r1, q1⟩ => ho pins s1 σ H1 x v Q I1 r1 q1)
theorem opI {f : Value → Value → Sem Value} {C : Int → Int → Prop} {g : Int → Int → Int}
    (rule : ∀ (i j : Int) (t u : Tok) (s : Shared) (Q : Value → Shared → Prop) (E : Value → Shared → Prop), C i j → Q (.int (g i j) s.toks) { s with toks := s.toks + 1 } → wpAny (model X.prog X.w) X.A (f (.int i t) (.int j u)) Q E s) :
    OpR X f (rI C fun i j => .int (g i j)) := by
  intro pins s σ H x y v u Q I rx ry h
  obtain ⟨i, j, rfl, rfl, hc, q⟩ := h
  obtain ⟨t, rfl⟩ := rx
  obtain ⟨t', rfl⟩ := ry
  exact rule i j t t' s _ _ hc ⟨.int (g i j), H, I.tok _, ⟨_, rfl⟩, q⟩
theorem opI0 {f : Value → Value → Sem Value} {g : Int → Int → Int}
    (rule : ∀ (i j : Int) (t u : Tok) (s : Shared) (Q : Value → Shared → Prop) (E : Value → Shared → Prop), Q (.int (g i j) s.toks) { s with toks := s.toks + 1 } → wpAny (model X.prog X.w) X.A (f (.int i t) (.int j u)) Q E s) :
    OpR X f (rI0 fun i j => .int (g i j)) := by
  intro pins s σ H x y v u Q I rx ry h
  obtain ⟨i, j, rfl, rfl, q⟩ := h
  obtain ⟨t, rfl⟩ := rx
  obtain ⟨t', rfl⟩ := ry
  exact rule i j t t' s _ _ ⟨.int (g i j), H, I.tok _, ⟨_, rfl⟩, q⟩
theorem opB0 {f : Value → Value → Sem Value} {g : Int → Int → Bool}
    (rule : ∀ (i j : Int) (t u : Tok) (s : Shared) (Q : Value → Shared → Prop) (E : Value → Shared → Prop), Q (.bool (g i j)) s → wpAny (model X.prog X.w) X.A (f (.int i t) (.int j u)) Q E s) :
    OpR X f (rI0 fun i j => .bl (g i j)) := by
  intro pins s σ H x y v u Q I rx ry h
  obtain ⟨i, j, rfl, rfl, q⟩ := h
  obtain ⟨t, rfl⟩ := rx
  obtain ⟨t', rfl⟩ := ry
  exact rule i j t t' s _ _ ⟨.bl (g i j), H, I, rfl, q⟩
def CDiv (i j : Int) : Prop := 0 < j ∧ j < 1073741824
def CPow (i j : Int) : Prop := 0 ≤ j ∧ j ≤ 1000000 ∧ i.natAbs < 2 ^ 64
def CMul (i j : Int) : Prop := (-(2 ^ 64) < i ∧ i < 2 ^ 64) ∨ (-(2 ^ 64) < j ∧ j < 2 ^ 64)
theorem CMul.ok {i j : Int} (h : CMul i j) : IntMulOk i j := by
  rcases h with ⟨h1, h2⟩ | ⟨h1, h2⟩
  · exact .of_left (intBits_le_64 h1 h2)
  · exact .of_right (intBits_le_64 h1 h2)
theorem op_add : OpR X (binaryOp .Add) (rI0 fun i j => .int (i + j)) := opI0 fun _ _ _ _ _ _ _ q => add_int q
theorem op_sub : OpR X (binaryOp .Sub) (rI0 fun i j => .int (i - j)) := opI0 fun _ _ _ _ _ _ _ q => sub_int q
theorem op_mul : OpR X (binaryOp .Mult) (rI CMul fun i j => .int (i * j)) := opI fun _ _ _ _ _ _ _ hc q => mul_int q hc.ok
theorem op_fdiv : OpR X (binaryOp .FloorDiv) (rI CDiv fun i j => .int (i / j)) := opI fun i j _ _ _ _ _ hc q => by
  have h1 : (0 : Int) < j := hc.1
  have h2 : j < 1073741824 := hc.2
  exact floordiv_int (by omega) (by rw [Int.fdiv_eq_ediv_of_nonneg i (by omega)]; exact q) (.inl (PyProof.noPylong_small (by omega)))
theorem op_mod : OpR X (binaryOp .Mod) (rI (fun _ j => 0 < j) fun i j => .int (i % j)) := opI fun i j _ _ _ _ _ hc q => by
  have h1 : (0 : Int) < j := hc
  exact mod_int' (by omega) (by rw [Int.fmod_eq_emod_of_nonneg i (by omega)]; exact q)
theorem op_pow : OpR X (binaryOp .Pow) (rI CPow fun i j => .int (i ^ j.toNat)) := opI fun _ _ _ _ _ _ _ hc q => pow_int_small hc.1 hc.2.1 hc.2.2 q
theorem unI {f : Value → Sem Value} {g : Int → Int}
    (rule : ∀ (i : Int) (t : Tok) (s : Shared) (Q : Value → Shared → Prop) (E : Value → Shared → Prop), Q (.int (g i) s.toks) { s with toks := s.toks + 1 } → wpAny (model X.prog X.w) X.A (f (.int i t)) Q E s) :
    UnR X f (rU fun i => .int (g i)) := by
  intro pins s σ H x v Q I rx h
  obtain ⟨i, rfl, q⟩ := h
  obtain ⟨t, rfl⟩ := rx
  exact rule i t s _ _ ⟨.int (g i), H, I.tok _, ⟨_, rfl⟩, q⟩
theorem un_neg : UnR X (unaryOp .USub) (rU fun i => .int (-i)) := unI fun _ _ _ _ _ q => neg_int q
end
def scal : V → V → Bool
  | .non, .non => true | .non, .int _ => true | .int _, .non => true | .non, .bl _ => true | .bl _, .non => true | .non, .str _ => true | .str _, .non => true
  | .int _, .int _ => true | .bl _, .bl _ => true | .str _, .str _ => true | .byt _, .byt _ => true
  | .int _, .str _ => true | .str _, .int _ => true | .bl _, .str _ => true | .str _, .bl _ => true
  | _, _ => false
def rEq : R2 := fun x y H Q => scal x y = true ∧ Q (.bl (decide (x = y))) H
def rNe : R2 := fun x y H Q => scal x y = true ∧ Q (.bl (!decide (x = y))) H
theorem dec_int {i j : Int} : decide (V.int i = V.int j) = (i == j) := by
  rw [Bool.eq_iff_iff]
  simp
theorem dec_bl {i j : Bool} : decide (V.bl i = V.bl j) = (i == j) := by
  rw [Bool.eq_iff_iff]
  simp
theorem dec_str {i j : Str} : decide (V.str i = V.str j) = (i == j) := by
  rw [Bool.eq_iff_iff]
  simp
theorem dec_byt {i j : Array UInt8} : decide (V.byt i = V.byt j) = (i.toList == j.toList) := by
  rw [Bool.eq_iff_iff]
  cases i
  cases j
  simp
section
variable {X : Cx} {a b c : Expr} {ta tb tc : TE} {pos : Pos}
theorem fin_bl {pins : List (Addr × Obj)} {σ : St} {H : Hp} {s : Shared} {Q : VK} {k k' : Bool} (I : Inv X pins σ H s) (q : Q (.bl k) H) (e : k = k') : EP X pins σ Q (.bool k') s := by
  subst e
  exact ⟨.bl k, H, I, rfl, q⟩
theorem op_eq : OpR X (compareOp .Eq) rEq := by
  intro pins s σ H x y v u Q I rx ry h
  obtain ⟨hs, q⟩ := h
  cases x with
  | non =>
    cases rx
    cases y with
    | non => cases ry; exact PySem.EqNone.eq_none_none (fin_bl I q (by simp))
    | bl j => cases ry; exact PySem.EqNone.eq_none_bool (fin_bl I q (by simp))
    | int j => obtain ⟨t', rfl⟩ := ry; exact PySem.EqNone.eq_none_int (fin_bl I q (by simp))
    | str j => obtain ⟨t', rfl⟩ := ry; exact PySem.EqNone.eq_none_str (fin_bl I q (by simp))
    | _ => exact absurd (show false = true from hs) Bool.false_ne_true
  | bl i =>
    cases rx
    cases y with
    | non => cases ry; exact PySem.EqNone.eq_bool_none (fin_bl I q (by simp))
    | bl j => cases ry; exact eq_bool (fin_bl I q dec_bl)
    | str j => obtain ⟨t', rfl⟩ := ry; exact PySem.EqMixed.eq_bool_str (fin_bl I q (by simp))
    | _ => exact absurd (show false = true from hs) Bool.false_ne_true
  | int i =>
    obtain ⟨t, rfl⟩ := rx
    cases y with
    | non => cases ry; exact PySem.EqNone.eq_int_none (fin_bl I q (by simp))
    | int j => obtain ⟨t', rfl⟩ := ry; exact eq_int (fin_bl I q dec_int)
    | str j => obtain ⟨t', rfl⟩ := ry; exact PySem.EqMixed.eq_int_str (fin_bl I q (by simp))
    | _ => exact absurd (show false = true from hs) Bool.false_ne_true
  | str i =>
    obtain ⟨t, rfl⟩ := rx
    cases y with
    | non => cases ry; exact PySem.EqNone.eq_str_none (fin_bl I q (by simp))
    | bl j => cases ry; exact PySem.EqMixed.eq_str_bool (fin_bl I q (by simp))
    | int j => obtain ⟨t', rfl⟩ := ry; exact PySem.EqMixed.eq_str_int (fin_bl I q (by simp))
    | str j => obtain ⟨t', rfl⟩ := ry; exact eq_str (fin_bl I q dec_str)
    | _ => exact absurd (show false = true from hs) Bool.false_ne_true
  | byt i =>
    obtain ⟨t, rfl⟩ := rx
    cases y with
    | byt j => obtain ⟨t', rfl⟩ := ry; exact PySem.W.eq_bytes (fin_bl I q dec_byt)
    | _ => exact absurd (show false = true from hs) Bool.false_ne_true
  | _ => cases y <;> exact absurd (show false = true from hs) Bool.false_ne_true
theorem op_ne : OpR X (compareOp .NotEq) rNe := by
  intro pins s σ H x y v u Q I rx ry h
  obtain ⟨hs, q⟩ := h
  cases x with
  | non =>
    cases rx
    cases y with
    | non => cases ry; exact PySem.EqNone.ne_none_none (fin_bl I q (by simp))
    | bl j => cases ry; exact PySem.EqNone.ne_none_bool (fin_bl I q (by simp))
    | int j => obtain ⟨t', rfl⟩ := ry; exact PySem.EqNone.ne_none_int (fin_bl I q (by simp))
    | str j => obtain ⟨t', rfl⟩ := ry; exact PySem.EqNone.ne_none_str (fin_bl I q (by simp))
    | _ => exact absurd (show false = true from hs) Bool.false_ne_true
  | bl i =>
    cases rx
    cases y with
    | non => cases ry; exact PySem.EqNone.ne_bool_none (fin_bl I q (by simp))
    | bl j => cases ry; exact ne_bool (fin_bl I q (congrArg not dec_bl))
    | str j => obtain ⟨t', rfl⟩ := ry; exact PySem.EqMixed.ne_bool_str (fin_bl I q (by simp))
    | _ => exact absurd (show false = true from hs) Bool.false_ne_true
  | int i =>
    obtain ⟨t, rfl⟩ := rx
    cases y with
    | non => cases ry; exact PySem.EqNone.ne_int_none (fin_bl I q (by simp))
    | int j => obtain ⟨t', rfl⟩ := ry; exact ne_int (fin_bl I q (congrArg not dec_int))
    | str j => obtain ⟨t', rfl⟩ := ry; exact PySem.EqMixed.ne_int_str (fin_bl I q (by simp))
    | _ => exact absurd (show false = true from hs) Bool.false_ne_true
  | str i =>
    obtain ⟨t, rfl⟩ := rx
    cases y with
    | non => cases ry; exact PySem.EqNone.ne_str_none (fin_bl I q (by simp))
    | bl j => cases ry; exact PySem.EqMixed.ne_str_bool (fin_bl I q (by simp))
    | int j => obtain ⟨t', rfl⟩ := ry; exact PySem.EqMixed.ne_str_int (fin_bl I q (by simp))
    | str j => obtain ⟨t', rfl⟩ := ry; exact ne_str (fin_bl I q (congrArg not dec_str))
    | _ => exact absurd (show false = true from hs) Bool.false_ne_true
  | byt i =>
    obtain ⟨t, rfl⟩ := rx
    cases y with
    | byt j => obtain ⟨t', rfl⟩ := ry; exact PySem.W.ne_bytes (fin_bl I q (congrArg not dec_byt))
    | _ => exact absurd (show false = true from hs) Bool.false_ne_true
  | _ => cases y <;> exact absurd (show false = true from hs) Bool.false_ne_true
theorem op_lt : OpR X (compareOp .Lt) (rI0 fun i j => .bl (decide (i < j))) := opB0 fun _ _ _ _ _ _ _ q => lt_int q
theorem op_gt : OpR X (compareOp .Gt) (rI0 fun i j => .bl (decide (j < i))) := opB0 fun _ _ _ _ _ _ _ q => gt_int q
theorem op_ge : OpR X (compareOp .GtE) (rI0 fun i j => .bl (decide (j ≤ i))) := opB0 fun _ _ _ _ _ _ _ q => ge_int q
theorem OpR.or {f : Value → Value → Sem Value} {r r' : R2} (h : OpR X f r) (h' : OpR X f r') : OpR X f (fun x y H Q => r x y H Q ∨ r' x y H Q) := by
  intro pins s σ H x y v u Q I rx ry q
  rcases q with q | q
  · exact h pins s σ H x y v u Q I rx ry q
  · exact h' pins s σ H x y v u Q I rx ry q
theorem pe_cmpR {op : CmpOp} {r : R2} (ho : OpR X (compareOp op) r) (ha : PE X a ta) (hb : PE X b tb) (hm : behindInMarks op b = false) : PE X (.Compare a [op] [b] pos) (tOp r ta tb) := by
  intro pins s σ H Q I h
  exact wpAny_Compare1 (binT ha hb I h fun v u s2 x y H2 I2 rx ry q => ho pins s2 σ H2 x y v u Q I2 rx ry q) hm
def tTest (t : TE) : TT := fun σ H Q => t σ H fun x H' => ∃ k, x = .bl k ∧ Q k H'
theorem pt_cmpR {op : CmpOp} {r : R2} (ho : OpR X (compareOp op) r) (ha : PE X a ta) (hb : PE X b tb) (hm : behindInMarks op b = false) : PT X (.Compare a [op] [b] pos) (tTest (tOp r ta tb)) := by
  intro pins s σ H Q I h
  refine wpAny_isTrue_Compare1 (thn (ha pins s σ H _ I h) fun v s1 ⟨x, H1, I1, r1, q1⟩ => thn (hb pins s1 σ H1 _ I1 q1) fun u s2 ⟨y, H2, I2, r2, q2⟩ =>
    thn (ho pins s2 σ H2 x y v u _ I2 r1 r2 q2) fun c s3 ⟨z, H3, I3, r3, k, e, q3⟩ => ?_) hm
  subst e
  cases r3
  exact wpAny_truthy_bool ⟨H3, I3, q3⟩
theorem line63 : (sizeLine : Nat) < 2 ^ 63 := by rw [sizeLine_eq]; decide
theorem op_add_str : OpR X (binaryOp .Add) (fun x y H Q => ∃ i j, x = .str i ∧ y = .str j ∧ i.length + j.length ≤ sizeLine ∧ Q (.str (i ++ j)) H) := by
  intro pins s σ H x y v u Q I rx ry h
  obtain ⟨i, j, rfl, rfl, hz, q⟩ := h
  obtain ⟨t, rfl⟩ := rx
  obtain ⟨t', rfl⟩ := ry
  exact add_str (fun t' tk => ⟨.str (i ++ j), H, I.tok _, ⟨_, rfl⟩, q⟩) hz
theorem vals1 {x : V} {us : List Value} (r : Vals [x] us) : ∃ u, us = [u] ∧ RelV x u := by
  cases r with
  | cons r1 r2 => cases r2; exact ⟨_, rfl, r1⟩
theorem vals2 {x y : V} {us : List Value} (r : Vals [x, y] us) : ∃ u w', us = [u, w'] ∧ RelV x u ∧ RelV y w' := by
  cases r with
  | cons r1 r2 =>
    cases r2 with
    | cons r3 r4 => cases r4; exact ⟨_, _, rfl, r1, r3⟩
def LenV (K : PySem.W.Frag) (x : V) (H : Hp) (n : Nat) : Prop :=
  match x with
  | .str y => y.length ≤ sizeLine ∧ n = y.length
  | .byt y => y.size ≤ sizeLine ∧ n = y.size
  | .ref p => (∃ xs, SqL K H p xs ∧ n = xs.length) ∨ ∃ xs, SqT K H p xs ∧ n = xs.length
  | _ => False
theorem call_len : CallR X (.builtin "len") (fun xs H Q => ∃ x n, xs = [x] ∧ LenV X.K x H n ∧ Q (.int n) H) := by
  intro pins s σ H xs us Q I r h
  obtain ⟨x, n, rfl, e, q⟩ := h
  obtain ⟨u, rfl, rx⟩ := vals1 r
  have hl := line63
  have hs : sizeLine = 16777216 := sizeLine_eq
  cases x with
  | str y =>
    obtain ⟨t, rfl⟩ := rx
    obtain ⟨hy, e'⟩ : y.length ≤ sizeLine ∧ n = y.length := e
    subst e'
    exact len_str (by omega) ⟨.int _, H, I.tok _, ⟨_, rfl⟩, q⟩
  | byt y =>
    obtain ⟨t, rfl⟩ := rx
    obtain ⟨hy, e'⟩ : y.size ≤ sizeLine ∧ n = y.size := e
    subst e'
    exact PySem.W.len_bytes (by omega) ⟨.int _, H, I.tok _, ⟨_, rfl⟩, q⟩
  | ref p =>
    cases rx
    have e' : (∃ xs, SqL X.K H p xs ∧ n = xs.length) ∨ ∃ xs, SqT X.K H p xs ∧ n = xs.length := e
    rcases e' with ⟨xs, hx, e'⟩ | ⟨xs, hx, e'⟩
    · subst e'
      obtain ⟨its, r', pl, hz⟩ := I.list hx
      have hlen := r'.length
      exact Calls.call_len_list pl.isList (by simp only [List.size_toArray]; omega) ⟨.int xs.length, H, I.tok _, ⟨_, by simp only [List.size_toArray]; rw [hlen]⟩, q⟩
    · subst e'
      obtain ⟨its, r', pl, hz⟩ := I.tuple hx
      have hlen := r'.length
      exact len_tuple pl (by simp only [List.size_toArray]; omega) ⟨.int xs.length, H, I.tok _, ⟨_, by simp only [List.size_toArray]; rw [hlen]⟩, q⟩
  | _ => exact (show False from e).elim
end
end L2
namespace L2
open PySem PySem.Spec PyProof.Rows
structure ObjM (h : Heap) (x dx C : Addr) (mA : Str → Option Value) : Prop where
  obj : h.get? x = some (PySem.W.instObj C dx)
  ns : h.Ns1 dx mA
  ne : dx ≠ x
theorem lookIn_ns {h : Heap} {dx : Addr} {mA : Str → Option Value} (n : h.Ns1 dx mA) : ∃ od, h.get? dx = some od ∧ ∀ name, PySem.W.lookIn name od = some (mA name) := by
  obtain ⟨o, es, ep, ho, hd, hk, _, hm⟩ := n
  refine ⟨o, ho, fun name => ?_⟩
  have e := hm name
  unfold nsFind findBy at e
  rw [← Array.find?_toList] at e
  unfold PySem.W.lookIn
  rw [hd]
  dsimp only
  split
  · rename_i y q
    rw [q] at e
    exact congrArg some e
  · rename_i q
    rw [q] at e
    have a : es.toList.any (·.refKey) = false := by
      rw [List.any_eq_false]
      intro y hy
      obtain ⟨z, t, hkey⟩ := hk y (Array.mem_toList_iff.mp hy)
      simp [DictEntry.refKey, hkey]
    have a' : ¬ es.toList.any (·.refKey) = true := by rw [a]; exact Bool.false_ne_true
    rw [if_neg a']
    exact congrArg some e
theorem ObjM.look {h : Heap} {x dx C : Addr} {mA : Str → Option Value} (I : ObjM h x dx C mA) : ∃ od, PySem.W.InstAt h x (PySem.W.instObj C dx) C (some od) ∧ ∀ name, PySem.W.lookIn name od = some (mA name) :=
  let ⟨od, ho, hl⟩ := lookIn_ns I.ns
  ⟨od, ⟨I.obj, rfl, rfl, ho⟩, hl⟩
section
variable {prog : Program} {w : World} {A : Around} {E : Value → Shared → Prop} {s : Shared} {K : PySem.W.Frag} {x dx C f : Addr} {mA : Str → Option Value} {name : Str} {v : Value}
theorem get_map {expr : Bool} {Q : Value → Shared → Prop} (X : K.In s.heap) (I : ObjM s.heap x dx C mA) (hg : PySem.W.plainGet K C name = true) (hh : PySem.W.hasDictIn K C = true)
    (ha : PySem.W.findIn K (.ref C) name = some none) (hv : mA name = some v) (hv' : PySem.W.handedIn v = true) (h : Q v { s with toks := s.toks + 1 }) :
    wpAny (model prog w) A (getAttr (.ref x) name expr) Q E s := by
  obtain ⟨od, J, hl⟩ := I.look
  exact PySem.W.get_value X J (PySem.W.plainGet_of hg).1 (PySem.W.findObj_own hh ha rfl (by rw [hl, hv])) hv' h
theorem get_meth {pl : Sem Bool} {Q : Value × List Value → Shared → Prop} (X : K.In s.heap) (I : ObjM s.heap x dx C mA) (hg : PySem.W.plainGet K C name = true)
    (hf : PySem.W.findIn K (.ref C) name = some (some (.ref f))) (ht : PySem.W.isFn K (.ref f) = true) (hv : mA name = none) (h : Q (.ref f, [.ref x]) s) :
    wpAny (model prog w) A (getMethod (.ref x) name pl) Q E s := by
  obtain ⟨od, J, hl⟩ := I.look
  exact PySem.W.method_fn X J (PySem.W.plainGet_of hg).1 (PySem.W.plainGet_of hg).2 hf (beq_iff_eq.mp ht) (by show (PySem.W.lookIn name od).map (·.isSome) = some false; rw [hl, hv]; rfl) h
theorem set_map {ns : List Str} {Q : Unit → Shared → Prop} (X : K.In s.heap) (I : ObjM s.heap x dx C mA)
    (hs : PySem.W.findIn K (.ref C) "__setattr__" = some (some (.builtin "object.__setattr__"))) (hp : PySem.W.plainOver K C = true) (ht : PySem.W.takerIn K C name = some none) (hh : PySem.W.hasDictIn K C = true)
    (hw : PySem.Within mA ns) (hsz : ns.length ≤ sizeLine)
    (h : ∀ h', ObjM h' x dx C (fun y => if y = name then some v else mA y) → Heap.SameBut dx s.heap h' → Q () { s with heap := h', toks := s.toks + 2 }) :
    wpAny (model prog w) A (setAttr (.ref x) name v) Q E s := by
  obtain ⟨od, J, hl⟩ := I.look
  refine PySem.W.set_plain X J hs (PySem.W.osa_open (s := { s with toks := s.toks + 1 }) (r := none) X J hp ht fun b => ?_)
  obtain ⟨cd, hc, hd'⟩ := PySem.W.any_some hh
  have hx : s.heap.get? x = some ⟨.ref C, some dx, .plain, #[]⟩ := I.obj
  refine wpAny_bind (wpAny_pure (wpAny_bind (wpAny_bind (wpAny_loadPart hx (wpAny_bind (PySem.W.Looks.here (s := { s with toks := s.toks + 1 }) (PySem.W.looks_clsIn X hc) ?_))))))
  rw [hd']
  refine wpAny_pure (a := some dx) (wpAny_bind (wpAny_pure (wpAny_bind ?_)))
  refine wpAny_nsSet1 (s := { s with toks := s.toks + 1 }) I.ns fun h' hn2 hs2 => ?_
  obtain ⟨oD, esD, epD, hoD, hdD, hcD⟩ := hn2.count (PySem.Within.cons name v hw)
  refine wpAny_bind (wpAny_lookBehind hoD (by rw [hdD]; exact pastItsLine_dict (Nat.le_trans hcD (by rw [List.length_cons]; omega))) ?_)
  exact wpAny_pure (h _ ⟨(hs2.2 _ (Ne.symm I.ne)).trans I.obj, hn2, I.ne⟩ hs2)
theorem make_map {R : Result → Shared → Prop} {vs : List Value} {kw : List (Str × Value)} (X : K.In s.heap) (hm : PySem.W.makesIn K C = true)
    (hi : PySem.W.findIn K (.ref C) "__init__" = some (some (.ref f))) (hf : PySem.W.typeIn K (.ref f) = some (.type "function"))
    (h : codeAny (model prog w) (A.under (.builtin "type.__call__" ⟨.ref C :: vs, kw⟩)) (.call (.ref f) ⟨.ref (s.heap.objs.size + 1) :: vs, kw⟩) (PySem.W.InitBack (s.heap.objs.size + 1) R)
      { s with heap := (s.heap.push PySem.W.emptyDict).push (PySem.W.instObj C s.heap.objs.size) }) :
    codeAny (model prog w) A (.call (.ref C) ⟨vs, kw⟩) R s := by
  obtain ⟨hh, g, d, t, os⟩ := s
  exact PySem.W.make_core (PySem.W.makes_of X hm) (PySem.W.looks_findIn X hi) (fun self => PySem.W.bind_fn X self hf) (.inl rfl) h
end
def putF (f : Str) (v : V) : List (Str × V) → List (Str × V)
  | [] => [(f, v)]
  | (g, x) :: r => if g = f then (g, v) :: r else (g, x) :: putF f v r
theorem lookup_putF (f g : Str) (v : V) : ∀ fs : List (Str × V), (putF f v fs).lookup g = if g = f then some v else fs.lookup g
  | [] => by
    show List.lookup g [(f, v)] = _
    by_cases h : g = f
    · have hb : (g == f) = true := beq_iff_eq.mpr h
      simp only [List.lookup, hb, if_pos h]
    · have hb : (g == f) = false := beq_eq_false_iff_ne.mpr h
      simp only [List.lookup, hb, if_neg h]
  | (k, x) :: r => by
    have ih := lookup_putF f g v r
    rw [show putF f v ((k, x) :: r) = (if k = f then (k, v) :: r else (k, x) :: putF f v r) from rfl]
    by_cases hk : k = f
    · rw [if_pos hk]
      by_cases h : g = k
      · have hb : (g == k) = true := beq_iff_eq.mpr h
        simp only [List.lookup, hb, if_pos (h.trans hk)]
      · have hb : (g == k) = false := beq_eq_false_iff_ne.mpr h
        simp only [List.lookup, hb, if_neg (fun e : g = f => h (e.trans hk.symm))]
    · rw [if_neg hk]
      by_cases h : g = k
      · have hb : (g == k) = true := beq_iff_eq.mpr h
        simp only [List.lookup, hb, if_neg (fun e : g = f => hk (h.symm.trans e))]
      · have hb : (g == k) = false := beq_eq_false_iff_ne.mpr h
        simp only [List.lookup, hb]
        exact ih
theorem keys_putF (f : Str) (v : V) : ∀ fs : List (Str × V), f ∈ (putF f v fs).map (·.1) ∧ ∀ g, g ∈ fs.map (·.1) → g ∈ (putF f v fs).map (·.1)
  | [] => ⟨by simp [putF], fun g h => by simp at h⟩
  | (k, x) :: r => by
    obtain ⟨i1, i2⟩ := keys_putF f v r
    rw [show putF f v ((k, x) :: r) = (if k = f then (k, v) :: r else (k, x) :: putF f v r) from rfl]
    by_cases hk : k = f
    · rw [if_pos hk]
      subst hk
      exact ⟨by simp, fun g h => by simpa using h⟩
    · rw [if_neg hk]
      refine ⟨?_, fun g h => ?_⟩
      · rw [List.map_cons]
        exact List.mem_cons_of_mem _ i1
      · rw [List.map_cons] at h ⊢
        rcases List.mem_cons.mp h with e | e
        · exact List.mem_cons.mpr (.inl e)
        · exact List.mem_cons_of_mem _ (i2 g e)
theorem length_putF (f : Str) (v : V) : ∀ fs : List (Str × V), (putF f v fs).length ≤ fs.length + 1
  | [] => by simp [putF]
  | (k, x) :: r => by
    have ih := length_putF f v r
    rw [show putF f v ((k, x) :: r) = (if k = f then (k, v) :: r else (k, x) :: putF f v r) from rfl]
    by_cases hk : k = f
    · rw [if_pos hk, List.length_cons, List.length_cons]; omega
    · rw [if_neg hk, List.length_cons, List.length_cons]; omega
theorem RelO.some_of {v : V} {o : Option Value} (r : RelO (some v) o) : ∃ u, o = some u ∧ RelV v u := by
  cases o with
  | none => exact (show False from r).elim
  | some u => exact ⟨u, rfl, r⟩
theorem RelO.none_of {o : Option Value} (r : RelO none o) : o = none := by
  cases o with
  | none => rfl
  | some u => exact (show False from r).elim
theorem handed_of {v : V} {u : Value} (r : RelV v u) : PySem.W.handedIn u = true := by
  cases v with
  | non => cases (show u = Value.none from r); rfl
  | bl b => cases (show u = Value.bool b from r); rfl
  | int i => obtain ⟨t, e⟩ := (show ∃ t, u = Value.int i t from r); cases e; rfl
  | str x => obtain ⟨t, e⟩ := (show ∃ t, u = Value.str x t from r); cases e; rfl
  | byt b => obtain ⟨t, e⟩ := (show ∃ t, u = Value.bytes b t from r); cases e; rfl
  | flt b => obtain ⟨t, e⟩ := (show ∃ t, u = Value.float b t from r); cases e; rfl
  | ref a => cases (show u = Value.ref a from r); rfl
  | ty n => cases (show u = Value.type n from r); rfl
section
variable {P : Program} {w : World} {H H' : Hp} {h h' : Heap} {a C dx : Addr} {fs fs' : List (Str × V)}
theorem ins_get (hok : HOk P w H h) (e : H a = some (.ins C dx fs)) : ∃ mA, ObjM h a dx C mA ∧ (∀ f, RelO (fs.lookup f) (mA f)) ∧ PySem.Within mA (fs.map (·.1)) ∧ fs.length ≤ 1000 ∧ H dx = some (.own a) := by
  obtain ⟨d, z, ne, ob, mA, n, r, q⟩ := (show ObjOk P w H h a (.ins C dx fs) from hok a _ e)
  exact ⟨mA, ⟨ob, n, ne⟩, r, q, z, d⟩
end
structure Cls (K : PySem.W.Frag) (C : Addr) : Prop where
  pg : PySem.W.plainGet K C Str.empty = true
  hd : PySem.W.hasDictIn K C = true
  po : PySem.W.plainOver K C = true
  sa : PySem.W.findIn K (.ref C) "__setattr__" = some (some (.builtin "object.__setattr__"))
theorem Cls.get {K : PySem.W.Frag} {C : Addr} (c : Cls K C) (f : Str) : PySem.W.plainGet K C f = true := c.pg
def NoAttr (K : PySem.W.Frag) (C : Addr) (f : Str) : Prop := PySem.W.findIn K (.ref C) f = some none
theorem NoAttr.taker {K : PySem.W.Frag} {C : Addr} {f : Str} (n : NoAttr K C f) : PySem.W.takerIn K C f = some none := by
  unfold PySem.W.takerIn
  rw [show PySem.W.findIn K (.ref C) f = some none from n]
  rfl
structure Meth (K : PySem.W.Frag) (C : Addr) (m : Str) (f : Addr) : Prop where
  at_ : PySem.W.findIn K (.ref C) m = some (some (.ref f))
  fn : PySem.W.isFn K (.ref f) = true
  kp : PySem.W.keepIn K (.ref f) = true
section
variable {X : Cx} {pins : List (Addr × Obj)} {σ : St} {H : Hp} {s : Shared} {a C dx : Addr} {fs : List (Str × V)} {f : Str} {v : V} {A : Around} {E : Value → Shared → Prop}
theorem getattr_ok {b : Bool} {Q : Value → Shared → Prop} (I : Inv X pins σ H s) (e : H a = some (.ins C dx fs)) (c : Cls X.K C) (n : NoAttr X.K C f) (l : fs.lookup f = some v)
    (h : ∀ u s', Inv X pins σ H s' → RelV v u → Q u s') : wpAny (model X.prog X.w) A (getAttr (.ref a) f b) Q E s := by
  obtain ⟨mA, O, r, _, _, _⟩ := ins_get I.hok e
  obtain ⟨u, hu, ru⟩ := RelO.some_of (v := v) (o := mA f) (by rw [← l]; exact r f)
  exact get_map I.kIn O (c.get f) c.hd n hu (handed_of ru) (h u _ (I.tok _) ru)
theorem getmeth_ok {m : Str} {g : Addr} {pl : Sem Bool} {Q : Value × List Value → Shared → Prop} (I : Inv X pins σ H s) (e : H a = some (.ins C dx fs)) (c : Cls X.K C) (k : Meth X.K C m g) (l : fs.lookup m = none)
    (h : Q (.ref g, [.ref a]) s) : wpAny (model X.prog X.w) A (getMethod (.ref a) m pl) Q E s := by
  obtain ⟨mA, O, r, _, _, _⟩ := ins_get I.hok e
  have hn : mA m = none := RelO.none_of (by rw [← l]; exact r m)
  exact get_meth I.kIn O (c.get m) k.at_ k.fn hn h
theorem setattr_ok {y : V} {u : Value} {Q : Unit → Shared → Prop} (I : Inv X pins σ H s) (e : H a = some (.ins C dx fs)) (c : Cls X.K C) (n : NoAttr X.K C f) (hl : fs.length < 1000) (ry : RelV y u)
    (h : ∀ s', Inv X pins σ (upd H a (.ins C dx (putF f y fs))) s' → Q () s') : wpAny (model X.prog X.w) A (setAttr (.ref a) f u) Q E s := by
  obtain ⟨mA, O, r, wi, _, ho⟩ := ins_get I.hok e
  have hz : (fs.map (·.1)).length ≤ sizeLine := by rw [List.length_map, sizeLine_eq]; omega
  refine set_map I.kIn O c.sa c.po n.taker c.hd wi hz fun h' O' sb => h _ ?_
  have hd : ∃ o, h'.get? dx = some o := let ⟨o, _, _, e', _⟩ := O'.ns; ⟨o, e'⟩
  refine I.write (x := a) (e := dx) (by rw [e]; exact True.intro) (.inr ho) (fun b q hb z => (sb.2 b hb).trans z) hd ?_
  refine ⟨by rw [upd_ne O.ne]; exact ho, ?_, O.ne, O'.obj, _, O'.ns, fun g => ?_, fun g hg => ?_⟩
  · have := length_putF f y fs; omega
  · show RelO ((putF f y fs).lookup g) (if g = f then some u else mA g)
    rw [lookup_putF]
    by_cases q : g = f
    · rw [if_pos q, if_pos q]; exact ry
    · rw [if_neg q, if_neg q]; exact r g
  · by_cases q : g = f
    · rw [q]; exact (keys_putF f y fs).1
    · refine (keys_putF f y fs).2 g (wi g fun z => hg ?_)
      show (if g = f then some u else mA g) = none
      rw [if_neg q]; exact z
theorem Inv.made (I : Inv X pins σ H s) : Inv X pins σ (upd (upd H s.heap.objs.size (.own (s.heap.objs.size + 1))) (s.heap.objs.size + 1) (.ins C s.heap.objs.size []))
    { s with heap := (s.heap.push PySem.W.emptyDict).push (PySem.W.instObj C s.heap.objs.size) } := by
  have e1 : (s.heap.push PySem.W.emptyDict).get? s.heap.objs.size = some PySem.W.emptyDict := Heap.get?_push_size s.heap rfl
  have e2 : ((s.heap.push PySem.W.emptyDict).push (PySem.W.instObj C s.heap.objs.size)).get? (s.heap.objs.size + 1) = some (PySem.W.instObj C s.heap.objs.size) := by
    have := Heap.get?_push_size (s.heap.push PySem.W.emptyDict) (o := PySem.W.instObj C s.heap.objs.size) rfl
    rwa [Heap.size_push] at this
  have e3 : (s.heap.push PySem.W.emptyDict).Ns s.heap.objs.size (fun _ => none) := ⟨PySem.W.emptyDict, #[], _, e1, rfl, (fun e he => absurd he (by simp)), fun _ => rfl⟩
  have I1 := I.laid (a := s.heap.objs.size) (o := .own (s.heap.objs.size + 1)) (h' := s.heap.push PySem.W.emptyDict) (t' := s.toks) (fun b u q => Heap.get?_push_of_some _ q) (Nat.le_refl _) ⟨_, e1⟩
  refine I1.laid (a := s.heap.objs.size + 1) (o := .ins C s.heap.objs.size []) (t' := s.toks) (fun b u q => Heap.get?_push_of_some _ q) (Nat.le_of_eq (Heap.size_push _ _)) ?_
  have ne : s.heap.objs.size ≠ s.heap.objs.size + 1 := Nat.ne_of_lt (Nat.lt_succ_self _)
  refine ⟨by rw [upd_ne ne, upd_same], Nat.zero_le _, ne, e2, fun _ => none, (Heap.Ns1.of_empty e3).at fun o q => Heap.get?_push_of_some _ q, fun _ => True.intro, fun y hy => absurd rfl hy⟩
theorem attr_of {prog : Program} {w : World} {env : Env} {e : Expr} {f : Str} {pos : Pos} {s : Shared} {Q : Value → Shared → Prop} (hb : attributeBase e f env (eval e env) = eval e env)
    (h : wpAny (model prog w) A (eval e env) (fun o s₁ => wpAny (model prog w) A (getAttr o f true) Q E s₁) E s) : wpAny (model prog w) A (eval (.Attribute e f pos) env) Q E s :=
  Attribute_any_ h (by rw [arm_eval_Attribute, hb])
end
def tFld (K : PySem.W.Frag) (ta : TE) (f : Str) : TE := fun σ H Q => ta σ H fun x H1 => ∃ a C dx fs v, x = .ref a ∧ H1 a = some (.ins C dx fs) ∧ Cls K C ∧ NoAttr K C f ∧ fs.lookup f = some v ∧ Q v H1
def sFld (K : PySem.W.Frag) (ta tv : TE) (f : Str) : TS := fun D σ H => tv σ H fun y H1 => ta σ H1 fun x H2 => ∃ a C dx fs, x = .ref a ∧ H2 a = some (.ins C dx fs) ∧ Cls K C ∧ NoAttr K C f ∧ fs.length < 1000 ∧
  D.nx σ (upd H2 a (.ins C dx (putF f y fs)))
section
variable {X : Cx} {o e value : Expr} {f : Str} {pos pos' tpos : Pos} {ta tv : TE}
theorem pe_fld (he : PE X e ta) (hb : attributeBase e f X.env (eval e X.env) = eval e X.env) : PE X (.Attribute e f pos) (tFld X.K ta f) := by
  intro pins s σ H Q I h
  refine attr_of hb (thn (he pins s σ H _ I h) fun u s1 ⟨x, H1, I1, rx, a, C, dx, fs, v, ex, ea, c, n, l, q⟩ => ?_)
  subst ex
  obtain rfl : u = Value.ref a := rx
  exact getattr_ok I1 ea c n l fun u' s2 I2 ru => ⟨v, H1, I2, ru, q⟩
theorem ps_fld (ha : PE X o ta) (hv : PE X value tv) (hs : swapsWith value (some (.Attribute o f pos')) pos.line X.env = pure false) : PS X (.Assign [.Attribute o f pos'] value pos) (sFld X.K ta tv f) := by
  intro pins s σ H D I h
  refine plainObj_wpAny_Assign_Attribute (thn (hv pins s σ H _ I h) fun u s1 ⟨y, H1, I1, ry, q⟩ => thn (ha pins s1 σ H1 _ I1 q) fun ov s2 ⟨x, H2, I2, rx, a, C, dx, fs, ex, ea, c, n, l, q2⟩ => ?_) hs
  subst ex
  obtain rfl : ov = Value.ref a := rx
  exact setattr_ok I2 ea c n l ry fun s3 I3 => ⟨σ, _, I3, q2⟩
end
section
variable {X : Cx} {pins : List (Addr × Obj)} {σ : St} {H : Hp} {s : Shared} {A : Around} {E : Value → Shared → Prop} {Q : Value → Shared → Prop} {c : Value} {b : Bool}
end
end L2
namespace L2
open PySem PySem.Spec PyProof.Rows
structure Room (k : Nat) (A : Around) : Prop where
  hd : A.handled = none
  dp : A.depth + 3 * k + 5 < recursionLimit
  un : A.units + 16 * k + 200 < cLine
theorem Room.mono {j k : Nat} {A : Around} (r : Room k A) (h : j ≤ k) : Room j A := ⟨r.hd, by have := r.dp; omega, by have := r.un; omega⟩
theorem Room.deeper {k : Nat} {A : Around} (r : Room (k + 1) A) (env : Env) : Room k (A.deeper env) :=
  ⟨r.hd, by have := r.dp; show A.depth + 1 + 3 * k + 5 < _; omega, by have := r.un; show A.units + 3 + 16 * k + 200 < _; omega⟩
theorem make_depth {A : Around} {C : Addr} {us : List Value} {kw : List (Str × Value)} : (A.under (.builtin "type.__call__" ⟨.ref C :: us, kw⟩)).depth = A.depth + 1 := by
  first | rfl | simp [Around.under, Code.weight, Code.isCreation, Code.isGuard, Code.isCaller, Code.frames, Code.isFrame, guardIds]
theorem make_units {A : Around} {C : Addr} {us : List Value} {kw : List (Str × Value)} : (A.under (.builtin "type.__call__" ⟨.ref C :: us, kw⟩)).units = A.units + 1 := by
  first | rfl | simp [Around.under, Code.cUnits, Code.frames, Code.isFrame]
theorem Room.make {k : Nat} {A : Around} (r : Room (k + 1) A) (C : Addr) (us : List Value) (kw : List (Str × Value)) : Room k (A.under (.builtin "type.__call__" ⟨.ref C :: us, kw⟩)) :=
  ⟨r.hd, by have := r.dp; rw [make_depth]; omega, by have := r.un; rw [make_units]; omega⟩
theorem Room.depth {k : Nat} {A : Around} (r : Room k A) : A.depth < recursionLimit := by have := r.dp; omega
theorem Room.units {k : Nat} {A : Around} (r : Room k A) : A.units + 64 < cLine := by have := r.un; omega
theorem Room.units0 {k : Nat} {A : Around} (r : Room k A) : A.units < cLine := by have := r.un; omega
def tNil : TA := fun _ H Q => Q [] H
def tCons (ta : TE) (tr : TA) : TA := fun σ H Q => ta σ H fun x H1 => tr σ H1 fun xs H2 => Q (x :: xs) H2
section
variable {X : Cx} {e : Expr} {es : List Expr} {te : TE} {t : TA} {pos : Pos}
theorem pa_nil : PA X [] tNil := fun _ _ _ _ H Q I h => Calls.spliced_nil ⟨[], H, I, .nil, h⟩
theorem pa_cons (ha : PE X e te) (hr : PA X es t) (hs : starEach (e :: es) X.env = (false, eval e X.env) :: starEach es X.env := by rfl) : PA X (e :: es) (tCons te t) := by
  intro pos pins s σ H Q I h
  rw [hs]
  show wpAny _ _ (spliced ((false, eval e X.env) :: backTo pos (starEach es X.env))) _ _ s
  refine Calls.spliced_cons (thn (ha pins s σ H _ I h) fun u s1 ⟨x, H1, I1, r1, q1⟩ => ?_)
  exact thn (hr pos pins s1 σ H1 _ I1 q1) fun us s2 ⟨xs, H2, I2, r2, q2⟩ => ⟨x :: xs, H2, I2, .cons r1 r2, q2⟩
def tTup (t : TA) : TE := fun σ H Q => t σ H fun xs H1 => xs.length ≤ sizeLine ∧ ∀ p, H1 p = none → Q (.ref p) (upd H1 p (.tup xs))
def tLst (t : TA) : TE := fun σ H Q => t σ H fun xs H1 => xs.length ≤ sizeLine ∧ ∀ p, H1 p = none → Q (.ref p) (upd H1 p (.lst xs))
theorem pe_tup {x1} (h : PA X es t) : PE X (.Tuple es x1 pos) (tTup t) := by
  intro pins s σ H Q I hq
  refine wpAny_Tuple_spliced (thn (h pos pins s σ H _ I hq) fun us s1 ⟨xs, H1, I1, r, z, q⟩ => ⟨by rw [← r.length]; exact z, ?_⟩)
  have hf : H1 s1.heap.objs.size = none := I1.hok.fresh (Nat.le_refl _)
  refine ⟨.ref s1.heap.objs.size, upd H1 s1.heap.objs.size (.tup xs), I1.laid (t' := s1.toks) (fun b u e => Heap.get?_push_of_some _ e) (Nat.le_refl _) ?_, rfl, q _ hf⟩
  exact ⟨z, us, r, ⟨_, Heap.get?_push_size _ rfl, ⟨rfl, rfl⟩, _, rfl⟩⟩
theorem pe_lst (h : PA X es t) : PE X (.List es pos) (tLst t) := by
  intro pins s σ H Q I hq
  refine wpAny_List_spliced (thn (h pos pins s σ H _ I hq) fun us s1 ⟨xs, H1, I1, r, z, q⟩ => ⟨by rw [← r.length]; exact z, ?_⟩)
  have hf : H1 s1.heap.objs.size = none := I1.hok.fresh (Nat.le_refl _)
  refine ⟨.ref s1.heap.objs.size, upd H1 s1.heap.objs.size (.lst xs), I1.laid (t' := s1.toks) (fun b u e => Heap.get?_push_of_some _ e) (Nat.le_refl _) ?_, rfl, q _ hf⟩
  exact ⟨z, us, 0, r, Heap.get?_push_size _ rfl⟩
end
abbrev Sp := List V → Hp → VK → XK → Prop
abbrev CXT := List Env → Hp → Shared → XK → Value → Shared → Prop
structure Env0 (P : Program) (w : World) (K : PySem.W.Frag) (mg : Str → Option Value) (base : Heap) (A : Around) (outer : List Env) (s : Shared) (H : Hp) : Prop where
  frames : A.frames = some outer
  mod : Mod K mg base
  bs : ∀ b o, base.get? b = some o → s.heap.get? b = some o ∧ H b = none
  bsz : base.objs.size ≤ s.heap.objs.size
  funs : s.heap.FunFrames base outer
  frf : ∀ b ∈ frs outer, H b = none
  hok : HOk P w H s.heap
  bare : AllBare s.gens
def CE (outer : List Env) (P : Program) (w : World) (H : Hp) (s : Shared) (Q : VK) (u : Value) (s' : Shared) : Prop :=
  ∃ v H', s'.os = s.os ∧ AllBare s'.gens ∧ Un (frs outer) [] H H' s.heap s'.heap ∧ HOk P w H' s'.heap ∧ RelV v u ∧ Q v H'
def CR (CX : CXT) (outer : List Env) (P : Program) (w : World) (H : Hp) (s : Shared) (Q : VK) (E : XK) (r : Result) (s' : Shared) : Prop :=
  match r with
  | .ok (.ret u) => CE outer P w H s Q u s'
  | .ok _ => False
  | .error e => CX outer H s E e s'
structure FnOk (P : Program) (w : World) (K : PySem.W.Frag) (mg : Str → Option Value) (base : Heap) (CX : CXT) (k : Nat) (f : Addr) (fd : FuncData) (ps : List Str) (sp : Sp) : Prop where
  len : ∀ vs H Q E, sp vs H Q E → vs.length = ps.length
  run : ∀ (A : Around) (outer : List Env) (s : Shared) (H : Hp) (args : Args) (us : List Value) (vs : List V) (Q : VK) (E : XK), Room k A → Env0 P w K mg base A outer s H → BindsTo s fd args (ps.zip us) → Vals vs us → sp vs H Q E →
    codeAny (model P w) A (.call (.ref f) args) (CR CX outer P w H s Q E) s
theorem Env0.make {P : Program} {w : World} {K : PySem.W.Frag} {mg : Str → Option Value} {base : Heap} {A : Around} {outer : List Env} {s : Shared} {H : Hp} (e : Env0 P w K mg base A outer s H) (C : Addr) (us : List Value) (kw : List (Str × Value)) :
    Env0 P w K mg base (A.under (.builtin "type.__call__" ⟨.ref C :: us, kw⟩)) outer s H := ⟨by first | exact e.frames | (simpa [Around.under, Code.envs, Code.isFrame, pushEnvs] using e.frames), e.mod, e.bs, e.bsz, e.funs, e.frf, e.hok, e.bare⟩
section
variable {X : Cx} {pins : List (Addr × Obj)} {σ : St} {H : Hp} {s s' : Shared}
theorem Inv.env0 (I : Inv X pins σ H s) : Env0 X.prog X.w X.K X.mg X.base X.A X.stack s H :=
  ⟨I.ok.frames, I.ok.mod, I.bs, Nat.le_trans I.ok.bsz I.sz, I.stack, I.stkFree, I.hok, I.bare⟩
theorem Inv.after {Q : VK} {u : Value} (I : Inv X pins σ H s) (h : CE X.stack X.prog X.w H s Q u s') : EP X pins σ Q u s' := by
  obtain ⟨v, H', os, bare, un, hok, r, q⟩ := h
  obtain ⟨hh, g, d, t, os'⟩ := s'
  obtain rfl : os' = s.os := os
  exact ⟨v, H', I.call (h' := hh) (g' := g) (d' := d) (t' := t) (ch := []) un hok bare (fun b z => absurd z (by simp)), r, q⟩
end
def tCall (sp : Sp) (dvs : List V) (E : XK) (t : TA) : TE := fun σ H Q => t σ H fun vs H1 => sp (vs ++ dvs) H1 Q E
def tMeth (C : Addr) (m : Str) (sp : Sp) (dvs : List V) (E : XK) (ta : TE) (t : TA) : TE := fun σ H Q => ta σ H fun x H1 => ∃ a dx fs, x = .ref a ∧ H1 a = some (.ins C dx fs) ∧ fs.lookup m = none ∧
  t σ H1 fun vs H2 => sp (x :: (vs ++ dvs)) H2 Q E
def tMake (C : Addr) (sp : Sp) (dvs : List V) (E : XK) (t : TA) : TE := fun σ H Q => t σ H fun vs H1 => ∀ x dx, H1 x = none → H1 dx = none → dx ≠ x →
  sp (.ref x :: (vs ++ dvs)) (upd (upd H1 dx (.own x)) x (.ins C dx [])) (fun v H2 => v = .non ∧ Q (.ref x) H2) E
def Binds (K : PySem.W.Frag) (fd : FuncData) (ps : List Str) (ds : List Value) : Prop :=
  ∀ (s : Shared) (us : List Value), K.In s.heap → (us ++ ds).length = ps.length → BindsTo s fd ⟨us, []⟩ (ps.zip (us ++ ds))
theorem Binds.all {K : PySem.W.Frag} {fd : FuncData} {ps : List Str} (h : ∀ us : List Value, us.length = ps.length → bindArgs fd ⟨us, []⟩ = pure (ps.zip us)) : Binds K fd ps [] := fun s us _ hl => by
  rw [List.append_nil] at hl ⊢
  exact .of_eq (h us hl)
def Passes (CX : CXT) (X : Cx) (E : XK) : Prop := ∀ (pins : List (Addr × Obj)) (σ : St) (H : Hp) (s : Shared) (e : Value) (s' : Shared), Inv X pins σ H s → CX X.stack H s E e s' → X.xe e s'
section
variable {X : Cx} {CX : CXT} {k : Nat} {f C : Addr} {fd : FuncData} {ps : List Str} {sp : Sp} {dvs : List V} {ds : List Value} {E : XK} {x m : Str} {p pos apos : Pos} {e o : Expr} {es : List Expr} {ta : TE} {t : TA}
theorem run_fn {pins : List (Addr × Obj)} {σ : St} {H : Hp} {s : Shared} {Q : VK} {us : List Value} {vs : List V} (F : FnOk X.prog X.w X.K X.mg X.base CX k f fd ps sp) (hr : Room k X.A) (hb : Binds X.K fd ps ds) (hd : Vals dvs ds) (hx : Passes CX X E)
    (I : Inv X pins σ H s) (r : Vals vs us) (h : sp (vs ++ dvs) H Q E) : wpAny (model X.prog X.w) X.A (call (.ref f) us) (EP X pins σ Q) X.xe s := by
  have r2 : Vals (vs ++ dvs) (us ++ ds) := r.append hd
  have hl : (us ++ ds).length = ps.length := by rw [← r2.length]; exact F.len _ _ _ _ h
  refine wpAny_call (codeAny_mono (F.run X.A X.stack s H ⟨us, []⟩ (us ++ ds) (vs ++ dvs) Q E hr I.env0 (hb s us I.kIn hl) r2 h) fun r s' hq => ?_)
  cases r with
  | error e => exact hx pins σ H s e s' I hq
  | ok fl =>
    cases fl with
    | ret u => exact I.after hq
    | next => exact False.elim hq
    | brk => exact False.elim hq
    | cont => exact False.elim hq
theorem pe_call (F : FnOk X.prog X.w X.K X.mg X.base CX k f fd ps sp) (hr : Room k X.A) (hg : Gl X x) (hm : X.mg x = some (.ref f)) (hk : PySem.W.keepIn X.K (.ref f) = true) (hb : Binds X.K fd ps ds) (hd : Vals dvs ds) (hx : Passes CX X E)
    (ha : PA X (e :: es) t) (hdb : (x == ("__debug__" : Str)) = false := by decide) (he : starEach (e :: es) X.env = (false, eval e X.env) :: starEach es X.env := by rfl) (hpl : (backTo pos (starEach es X.env)).any (·.1) = false := by rfl) :
    PE X (.Call (.Name x p) (e :: es) [] pos) (tCall sp dvs E t) := by
  intro pins s σ H Q I h
  refine wpAny_Call_Name_kw (ld_glob I hg hm ?_ hdb)
  refine PySem.W.callWith_K (h₀ := X.base) I.ok.mod.kin hk (thn (ha pos pins s σ H _ I h) fun us s1 ⟨vs, H1, I1, r, q⟩ => ⟨I1.kIn, ?_⟩) he hpl
  exact run_fn F hr hb hd hx I1 r q
theorem pe_meth {pl : Sem Bool} (he : PE X o ta) (c : Cls X.K C) (hm : Meth X.K C m f) (F : FnOk X.prog X.w X.K X.mg X.base CX k f fd ps sp) (hr : Room k X.A) (hb : Binds X.K fd ps ds) (hd : Vals dvs ds) (hx : Passes CX X E) (ha : PA X (e :: es) t)
    (hst : starEach (e :: es) X.env = (false, eval e X.env) :: starEach es X.env := by rfl) (hpl : (backTo pos (starEach es X.env)).any (·.1) = false := by rfl)
    (ht : eval (.Call (.Attribute o m apos) (e :: es) [] pos) X.env = (do
      let ov ← eval o X.env
      standAt apos.atName
      let (f, first) ← holding [ov] (getMethod ov m pl)
      callWith pos f first (backTo pos (starEach (e :: es) X.env)) (backToKw pos (keywordEach [] X.env))) := by rfl) :
    PE X (.Call (.Attribute o m apos) (e :: es) [] pos) (tMeth C m sp dvs E ta t) := by
  intro pins s σ H Q I h
  refine PySem.W.methodCall_KW (pl := pl) (thn (he pins s σ H _ I h) fun u s1 ⟨x, H1, I1, rx, a, dx, fs, ex, ea, l, q⟩ => ?_) ht
  subst ex
  obtain rfl : u = Value.ref a := rx
  refine getmeth_ok I1 ea c hm l ?_
  refine PySem.W.callWith_K (first := [.ref a]) (h₀ := X.base) I.ok.mod.kin hm.kp (thn (ha pos pins s1 σ H1 _ I1 q) fun us s2 ⟨vs, H2, I2, r, q2⟩ => ⟨I2.kIn, ?_⟩) hst hpl
  exact run_fn (us := .ref a :: us) (vs := .ref a :: vs) F hr hb hd hx I2 (.cons rfl r) q2
theorem pe_meth0 {pl : Sem Bool} (he : PE X o ta) (c : Cls X.K C) (hm : Meth X.K C m f) (F : FnOk X.prog X.w X.K X.mg X.base CX k f fd ps sp) (hr : Room k X.A) (hb : Binds X.K fd ps ds) (hd : Vals dvs ds) (hx : Passes CX X E)
    (ht : eval (.Call (.Attribute o m apos) [] [] pos) X.env = (do
      let ov ← eval o X.env
      standAt apos.atName
      let (f, first) ← holding [ov] (getMethod ov m pl)
      callWith pos f first (backTo pos (starEach [] X.env)) (backToKw pos (keywordEach [] X.env))) := by rfl) :
    PE X (.Call (.Attribute o m apos) [] [] pos) (tMeth C m sp dvs E ta tNil) := by
  intro pins s σ H Q I h
  refine PySem.W.methodCall_KW (pl := pl) (thn (he pins s σ H _ I h) fun u s1 ⟨x, H1, I1, rx, a, dx, fs, ex, ea, l, q⟩ => ?_) ht
  subst ex
  obtain rfl : u = Value.ref a := rx
  refine getmeth_ok I1 ea c hm l ?_
  exact PySem.W.callWith_K0 (first := [.ref a]) I1.kIn hm.kp (run_fn (us := [.ref a]) (vs := [.ref a]) F hr hb hd hx I1 (.cons rfl .nil) q)
structure Mk (K : PySem.W.Frag) (C f : Addr) : Prop where
  makes : PySem.W.makesIn K C = true
  init : PySem.W.findIn K (.ref C) "__init__" = some (some (.ref f))
  fn : PySem.W.isFn K (.ref f) = true
  kp : PySem.W.keepIn K (.ref C) = true
theorem run_make {pins : List (Addr × Obj)} {σ : St} {H : Hp} {s : Shared} {Q : VK} {us : List Value} {vs : List V} (M : Mk X.K C f) (F : FnOk X.prog X.w X.K X.mg X.base CX k f fd ps sp) (hr : Room (k + 1) X.A) (hb : Binds X.K fd ps ds) (hd : Vals dvs ds)
    (hx : Passes CX X E) (I : Inv X pins σ H s) (r : Vals vs us)
    (h : ∀ x dx, H x = none → H dx = none → dx ≠ x → sp (.ref x :: (vs ++ dvs)) (upd (upd H dx (.own x)) x (.ins C dx [])) (fun v H2 => v = .non ∧ Q (.ref x) H2) E) :
    wpAny (model X.prog X.w) X.A (call (.ref C) us) (EP X pins σ Q) X.xe s := by
  have hq := h (s.heap.objs.size + 1) s.heap.objs.size (I.hok.fresh (Nat.le_succ _)) (I.hok.fresh (Nat.le_refl _)) (Nat.ne_of_lt (Nat.lt_succ_self _))
  have I2 := Inv.made (C := C) I
  have r2 : Vals (V.ref (s.heap.objs.size + 1) :: (vs ++ dvs)) (Value.ref (s.heap.objs.size + 1) :: (us ++ ds)) := .cons rfl (r.append hd)
  have hl : (Value.ref (s.heap.objs.size + 1) :: us ++ ds).length = ps.length := by
    have e := r2.length
    rw [F.len _ _ _ _ hq] at e
    exact e.symm
  refine wpAny_call (make_map (f := f) I.kIn M.makes M.init (beq_iff_eq.mp M.fn) (codeAny_mono (F.run _ X.stack _ _ ⟨Value.ref (s.heap.objs.size + 1) :: us, []⟩ (Value.ref (s.heap.objs.size + 1) :: (us ++ ds)) _ _ E (hr.make C us [])
    (I2.env0.make C us []) (hb _ (Value.ref (s.heap.objs.size + 1) :: us) I2.kIn hl) r2 hq) fun r s' hq' => ?_))
  cases r with
  | error e => exact hx pins σ _ _ e s' I2 hq'
  | ok fl =>
    cases fl with
    | ret u =>
      obtain ⟨v, H', I3, rv, ev, q3⟩ := I2.after hq'
      subst ev
      exact ⟨rv, ⟨V.ref (s.heap.objs.size + 1), H', I3, rfl, q3⟩⟩
    | next => exact False.elim hq'
    | brk => exact False.elim hq'
    | cont => exact False.elim hq'
theorem pe_make (M : Mk X.K C f) (F : FnOk X.prog X.w X.K X.mg X.base CX k f fd ps sp) (hr : Room (k + 1) X.A) (hg : Gl X x) (hm : X.mg x = some (.ref C)) (hb : Binds X.K fd ps ds) (hd : Vals dvs ds) (hx : Passes CX X E)
    (ha : PA X (e :: es) t) (hdb : (x == ("__debug__" : Str)) = false := by decide) (he : starEach (e :: es) X.env = (false, eval e X.env) :: starEach es X.env := by rfl) (hpl : (backTo pos (starEach es X.env)).any (·.1) = false := by rfl) :
    PE X (.Call (.Name x p) (e :: es) [] pos) (tMake C sp dvs E t) := by
  intro pins s σ H Q I h
  refine wpAny_Call_Name_kw (ld_glob I hg hm ?_ hdb)
  refine PySem.W.callWith_K (h₀ := X.base) I.ok.mod.kin M.kp (thn (ha pos pins s σ H _ I h) fun us s1 ⟨vs, H1, I1, r, q⟩ => ⟨I1.kIn, ?_⟩) he hpl
  exact run_make M F hr hb hd hx I1 r q
end
section
variable {X : Cx} {CX : CXT} {k : Nat} {f C : Addr} {fd : FuncData} {ps ks : List Str} {sp : Sp} {E : XK} {x m : Str} {p pos apos kpos : Pos} {e o : Expr} {es : List Expr} {kws : List Keyword} {te ta : TE} {t tk : TA} {nm : Option Str}
variable {g : List Value → List Value → List Value} {gV : List V → List V → List V}
end
structure FnScope (N P : List Str) (sc : Scope) : Prop where
  kind : sc.kind = .function
  co : sc.isCoroutine = false
  gen : sc.isGenerator = false
  nd : N.Nodup
  pre : N.take P.length = P
  par : ∀ x ∈ P, sc.names.lookup x = some .local ∨ sc.names.lookup x = some .cell
  nofree : ∀ y ∈ sc.names, y.2 ≠ .free
theorem bindL_out {kindOf : Str → Option NameKind} {x : Str} : ∀ {binds : List (Str × Value)} {m : Str → Option Value}, (∀ v, (x, v) ∉ binds) → bindL kindOf binds m x = m x
  | [], _, _ => rfl
  | (n, v) :: r, m, h => by
    unfold bindL
    rw [bindL_out fun w hw => h w (List.mem_cons_of_mem _ hw)]
    split
    · have : x ≠ n := by rintro rfl; exact h v List.mem_cons_self
      simp [this]
    · rfl
theorem bindC_out {kindOf : Str → Option NameKind} {x : Str} : ∀ {binds : List (Str × Value)} {m : Str → Option Value}, (∀ v, (x, v) ∉ binds) → bindC kindOf binds m x = m x
  | [], _, _ => rfl
  | (n, v) :: r, m, h => by
    unfold bindC
    rw [bindC_out fun w hw => h w (List.mem_cons_of_mem _ hw)]
    split
    · rfl
    · have : x ≠ n := by rintro rfl; exact h v List.mem_cons_self
      simp [this]
theorem bindL_get {kindOf : Str → Option NameKind} {x : Str} {v : Value} : ∀ {P : List Str} {vs : List Value} {i : Nat} {m : Str → Option Value}, P.Nodup → P[i]? = some x → vs[i]? = some v → kindOf x = some .local →
    bindL kindOf (P.zip vs) m x = some v
  | [], _, _, _, _, h, _, _ => by simp at h
  | _ :: _, [], _, _, _, _, h, _ => by simp at h
  | p :: P, w :: vs, 0, m, nd, h1, h2, hk => by
    simp at h1 h2; subst h1; subst h2
    show bindL kindOf ((p, w) :: P.zip vs) m p = _
    unfold bindL
    rw [bindL_out fun v hv => (List.nodup_cons.mp nd).1 (List.of_mem_zip hv).1, if_pos hk]
    simp
  | p :: P, w :: vs, i + 1, m, nd, h1, h2, hk => by
    show bindL kindOf ((p, w) :: P.zip vs) m x = _
    unfold bindL
    exact bindL_get (i := i) (List.nodup_cons.mp nd).2 (by simpa using h1) (by simpa using h2) hk
theorem bindC_get {kindOf : Str → Option NameKind} {x : Str} {v : Value} : ∀ {P : List Str} {vs : List Value} {i : Nat} {m : Str → Option Value}, P.Nodup → P[i]? = some x → vs[i]? = some v → kindOf x ≠ some .local →
    bindC kindOf (P.zip vs) m x = some v
  | [], _, _, _, _, h, _, _ => by simp at h
  | _ :: _, [], _, _, _, _, h, _ => by simp at h
  | p :: P, w :: vs, 0, m, nd, h1, h2, hk => by
    simp at h1 h2; subst h1; subst h2
    show bindC kindOf ((p, w) :: P.zip vs) m p = _
    unfold bindC
    rw [bindC_out fun v hv => (List.nodup_cons.mp nd).1 (List.of_mem_zip hv).1, if_neg hk]
    simp
  | p :: P, w :: vs, i + 1, m, nd, h1, h2, hk => by
    show bindC kindOf ((p, w) :: P.zip vs) m x = _
    unfold bindC
    exact bindC_get (i := i) (List.nodup_cons.mp nd).2 (by simpa using h1) (by simpa using h2) hk
def start (N : List Str) (vs : List V) : St := vs.map some ++ List.replicate (N.length - vs.length) none
def cxOf (CX : CXT) (P : Program) (w : World) (K : PySem.W.Frag) (mg : Str → Option Value) (base : Heap) (N : List Str) (qual : Str) (scope : Scope) (f : Addr) (cd : Value) (A : Around) (outer : List Env) (s : Shared) (H : Hp) (E : XK) : Cx where
  prog := P
  w := w
  K := K
  mg := mg
  base := base
  A := A.deeper (envOfC qual scope s.heap.objs.size f cd)
  N := N
  s₀ := s
  H₀ := H
  env := envOfC qual scope s.heap.objs.size f cd
  outer := outer
  stack := envOfC qual scope s.heap.objs.size f cd :: outer
  ex := []
  calm := true
  fn := fun _ => true
  pn := []
  xe := fun e s' => wpAny (model P w) (A.deeper (envOfC qual scope s.heap.objs.size f cd)) (leaving (envOfC qual scope s.heap.objs.size f cd) e) (fun _ s'' => CX outer H s E e s'') (fun e' s'' => CX outer H s E e' s'') s'
theorem cell_has {sc : Scope} {n : Nat} {x : Str} (h : sc.names.lookup x = some .cell) : ∃ c, (cellsFrom n sc.names []).lookup x = some c := by
  have q := PySem.W.cellsFrom_some sc.names n [] (.inl h)
  exact Option.isSome_iff_exists.mp q
theorem inv_start {CX : CXT} {P : Program} {w : World} {K : PySem.W.Frag} {mg : Str → Option Value} {base : Heap} {N ps : List Str} {qual : Str} {scope : Scope} {f : Addr} {cd : Value} {A : Around} {outer : List Env} {s s1 : Shared} {H : Hp} {E : XK} {us : List Value} {vs : List V}
    (S : FnScope N ps scope) (hd : A.handled = none) (e0 : Env0 P w K mg base A outer s H) (hl : vs.length = ps.length) (r : Vals vs us)
    (x : InCallC s s.heap.objs.size (bindL (envOfC qual scope s.heap.objs.size f cd).kindOf (ps.zip us) fun _ => none) (cellsFrom (s.heap.objs.size + 1) scope.names []) (bindC (envOfC qual scope s.heap.objs.size f cd).kindOf (ps.zip us) fun _ => none) s1) :
    Inv (cxOf CX P w K mg base N qual scope f cd A outer s H E) [] (start N vs) H s1 := by
  have hpl : ps.length ≤ N.length := by have := congrArg List.length S.pre; rw [List.length_take] at this; omega
  obtain ⟨h1, tk, rfl, hk⟩ := x.done
  have noA : ∀ b : Addr, b ∉ (cxOf CX P w K mg base N qual scope f cd A outer s H E).ex := fun b z => absurd (show b ∈ ([] : List Addr) from z) (by simp)
  refine ⟨⟨e0.mod, S.kind, rfl, rfl, Nat.le_refl _, fun y z c h1 h2 => ?_, fun y hy => ?_, fun y c _ h => ?_, fun _ => hd, Around.frames_deeper e0.frames, .inr ⟨rfl, rfl⟩, fun b z => absurd z (noA b), e0.bs, e0.bsz, fun b _ _ => noA b, fun b z => absurd z (noA b), e0.funs, e0.frf⟩,
    rfl, e0.bare, Un.kept hk, ⟨_, x.toInCall.ns, fun i y v h1 h2 h3 => ?_⟩, fun y c h => ⟨_, x.cell y c h⟩, e0.hok.fresh (Nat.le_refl _), fun y c h => ?_, fun p hp => absurd (show p ∈ ([] : List (Addr × Obj)) from hp) (by simp), e0.hok.kept hk, ?_⟩
  · exact name_of_addr x.apart (PySem.mem_of_lookup h1) (PySem.mem_of_lookup h2)
  · have hy : scope.names.lookup y = some .cell ∨ scope.names.lookup y = some .free := hy
    rcases hy with hy | hy
    · exact cell_has hy
    · exact absurd rfl (S.nofree _ (PySem.mem_of_lookup hy))
  · exact Nat.le_of_lt (x.above y c (PySem.mem_of_lookup h))
  · have hi : i < vs.length := by
      unfold start at h2
      by_cases hi : i < vs.length
      · exact hi
      · rw [List.getElem?_append_right (by simpa using hi)] at h2
        rw [List.getElem?_replicate] at h2
        split at h2 <;> cases h2
    have ha : vs[i]? = some v := by
      unfold start at h2
      rw [List.getElem?_append_left (by simpa using hi), List.getElem?_map] at h2
      cases e : vs[i]? with
      | none => rw [e] at h2; cases h2
      | some a => rw [e] at h2; cases h2; rfl
    obtain ⟨u, hu, rv⟩ := r.get ha
    have hp : ps[i]? = some y := by
      rw [← S.pre, List.getElem?_take_of_lt (by omega)]; exact h1
    have ndP : ps.Nodup := by rw [← S.pre]; exact S.nd.sublist (List.take_sublist _ _)
    refine ⟨u, rv, ?_⟩
    rcases S.par y (List.mem_of_getElem? hp) with k | k
    · exact .inl ⟨k, bindL_get ndP hp hu k⟩
    · obtain ⟨c, e⟩ := cell_has (n := s.heap.objs.size + 1) k
      refine .inr ⟨.inl k, c, e, ?_⟩
      have q := x.cell y c e
      rw [bindC_get ndP hp hu (by show scope.names.lookup y ≠ _; rw [k]; decide)] at q
      exact q
  · exact e0.hok.fresh (Nat.le_of_lt (x.above y c (PySem.mem_of_lookup h)))
  · unfold start
    show _ = N.length
    rw [List.length_append, List.length_map, List.length_replicate]
    omega
theorem fn_of {CX : CXT} {P : Program} {w : World} {K : PySem.W.Frag} {mg : Str → Option Value} {base : Heap} {k : Nat} {f : Addr} {name qual : Str} {params : Arguments} {body : List Stmt} {scope : Scope} {dV kV doc pm cdv ct oc : Value} {an od : Option Addr}
    {osl : Array (Option Value)} {N ps : List Str} {sp : Sp} (lk : K.lookup f = some ⟨oc, od, .func (PySem.W.fnOf name qual params body scope dV kV doc pm an cdv ct), osl⟩) (hcd : PySem.W.codeIn K cdv qual = true) (S : FnScope N ps scope)
    (len : ∀ vs H Q E, sp vs H Q E → vs.length = ps.length)
    (hbody : ∀ (A : Around) (outer : List Env) (s : Shared) (H : Hp) (vs : List V) (Q : VK) (E : XK), Room k (A.deeper (envOfC qual scope s.heap.objs.size f cdv)) → sp vs H Q E →
      ∃ t, PSs (cxOf CX P w K mg base N qual scope f cdv A outer s H E) body t ∧ t { nx := fun _ H' => Q .non H', rt := Q } (start N vs) H) :
    FnOk P w K mg base CX (k + 1) f (PySem.W.fnOf name qual params body scope dV kV doc pm an cdv ct) ps sp := by
  refine ⟨len, fun A outer s H args us vs Q E hr e0 hb r hsp => ?_⟩
  have hl := len _ _ _ _ hsp
  have KX : K.In s.heap := e0.mod.kin.keeps fun b o e => (e0.bs b o e).1
  have lim : s.heap.NoLimit := e0.mod.nolimit.keeps fun b o e => (e0.bs b o e).1
  have hkind : ∀ y ∈ ps.zip us, scope.names.lookup y.1 = some .local ∨ (scope.names.lookup y.1 = some .cell ∧ ((cellsFrom (s.heap.objs.size + 1) scope.names []).lookup y.1).isSome = true) := fun ⟨n, v⟩ hy => by
    rcases S.par n (List.of_mem_zip hy).1 with q | q
    · exact .inl q
    · exact .inr ⟨q, PySem.W.cellsFrom_some _ _ _ (.inl q)⟩
  refine codeAny_call_function hr.depth (KX _ _ lk) rfl S.co S.gen rfl (PySem.W.codeRec_of KX hcd) (hb _ _ _ _ ?_)
  refine wpAny_newFunctionEnv_cells S.kind hkind fun env he s1 x => ?_
  subst he
  refine ⟨lim.keeps x.toInCall.keep, codeAny_func ?_⟩
  obtain ⟨t, ht, hq⟩ := hbody A outer s H vs Q E (hr.deeper _) hsp
  have I : Inv (cxOf CX P w K mg base N qual scope f cdv A outer s H E) [] (start N vs) H s1 := inv_start S hr.hd e0 hl r x
  refine wpAny_mono (ht [] s1 (start N vs) H _ I hq) (fun fl s' hs => ?_) fun e s' hs => hs
  have fin : ∀ {σ' : St} {H' : Hp} {v : V} {u : Value}, Inv (cxOf CX P w K mg base N qual scope f cdv A outer s H E) [] σ' H' s' → RelV v u → Q v H' → CE outer P w H s Q u s' :=
    fun {σ' H' v u} J rv q => ⟨v, H', J.os, J.bare, J.base, J.hok, rv, q⟩
  cases fl with
  | ret u =>
    obtain ⟨v, σ', H', J, rv, q⟩ := hs
    exact fin J rv q
  | next =>
    obtain ⟨σ', H', J, q⟩ := hs
    exact fin (v := V.non) (u := Value.none) J rfl q
  | brk =>
    obtain ⟨_, _, _, q⟩ := hs
    exact False.elim q
  | cont =>
    obtain ⟨_, _, _, q⟩ := hs
    exact False.elim q
end L2
namespace L2
open PySem PySem.Spec PyProof.Rows
section
variable {X : Cx} {x : Str} {p pos : Pos} {e : Expr} {es : List Expr} {t : TA} {id T : String} {r : List V → Hp → VK → Prop}
def tCB (r : List V → Hp → VK → Prop) (t : TA) : TE := fun σ H Q => t σ H fun vs H1 => r vs H1 Q
theorem pe_callB (hc : CallR X (.builtin id) r) (hg : Gl X x) (hm : X.mg x = none) (hv : bootBuiltins x = some (.builtin id)) (ha : PA X (e :: es) t) (hn : x ≠ "__name__" := by decide) (hdb : (x == ("__debug__" : Str)) = false := by decide)
    (he : starEach (e :: es) X.env = (false, eval e X.env) :: starEach es X.env := by rfl) (hpl : (backTo pos (starEach es X.env)).any (·.1) = false := by rfl) : PE X (.Call (.Name x p) (e :: es) [] pos) (tCB r t) := by
  intro pins s σ H Q I h
  refine wpAny_Call_Name_kw (ld_blt I hg hm hv ?_ hn hdb)
  exact PyProof.Rows.callWith_builtin1 (thn (ha pos pins s σ H _ I h) fun us s1 ⟨vs, H1, I1, r1, q1⟩ => hc pins s1 σ H1 vs us Q I1 r1 q1) he hpl
theorem pe_callTy (hc : CallR X (.type T) r) (hg : Gl X x) (hm : X.mg x = none) (hv : bootBuiltins x = some (.type T)) (ha : PA X (e :: es) t) (hn : x ≠ "__name__" := by decide) (hdb : (x == ("__debug__" : Str)) = false := by decide)
    (he : starEach (e :: es) X.env = (false, eval e X.env) :: starEach es X.env := by rfl) (hpl : (backTo pos (starEach es X.env)).any (·.1) = false := by rfl) : PE X (.Call (.Name x p) (e :: es) [] pos) (tCB r t) := by
  intro pins s σ H Q I h
  refine wpAny_Call_Name_kw (ld_blt I hg hm hv ?_ hn hdb)
  exact PyProof.Rows.callWith_type1 (thn (ha pos pins s σ H _ I h) fun us s1 ⟨vs, H1, I1, r1, q1⟩ => hc pins s1 σ H1 vs us Q I1 r1 q1) he hpl
end
end L2
namespace HT
open PySem PyProof.Rows
section
open PySem.SeqAt
open PySem.AutoSeq1 (wpAny_loadPart')
open PySem.MeetsSeq PySem.MeetsSeq2 PySem.MeetsSeq3
end
section
variable {prog : Program} {w : World} {A : Around} {E : Value → Shared → Prop} {s : Shared}
theorem cat_tup {t b : Addr} {vs ws : List Value} {Q : Value → Shared → Prop} (ht : IsTup s.heap t vs.toArray) (hb : IsTup s.heap b ws.toArray) (hv : vs ≠ [])
    (h1 : ws = [] → Q (.ref t) s) (h2 : ws ≠ [] → Q (.ref s.heap.objs.size) { s with heap := s.heap.push { cls := .type "tuple", data := .seq (vs ++ ws).toArray } })
    (hsz : vs.length + ws.length ≤ sizeLine) : wpAny (model prog w) A (binaryOp .Add (.ref t) (.ref b)) Q E s := by
  obtain ⟨⟨cls, dd, data, sl⟩, ho, hc, n, hd⟩ := id ht
  obtain ⟨⟨cls2, dd2, data2, sl2⟩, ho2, hc2, n2, hd2⟩ := id hb
  simp only at hc hd hc2 hd2
  subst hc hd hc2 hd2
  have e : vs.toArray ++ ws.toArray = (vs ++ ws).toArray := by simp
  by_cases hw : ws = []
  · exact concat_meets ⟨_, ho, rfl⟩ ⟨_, ho2, rfl⟩ noFill_tuple_add seq_tuple_add PySem.F.slot_tuple_add PySem.F.entry_tuple_add (PySem.F.args_tuple_add_2 _ _)
      (tuple_addW1 t b vs.toArray ws.toArray n n2 dd dd2 sl sl2 (by simpa using hv) (by simp [hw])) ⟨ho, ho2, h1 hw⟩
  · refine concat_meets ⟨_, ho, rfl⟩ ⟨_, ho2, rfl⟩ noFill_tuple_add seq_tuple_add PySem.F.slot_tuple_add PySem.F.entry_tuple_add (PySem.F.args_tuple_add_2 _ _)
      (tuple_addW2 t b vs.toArray ws.toArray n n2 dd dd2 sl sl2 (by simpa using hv) (by simpa using hw) (by rw [List.size_toArray, List.size_toArray]; exact hsz)) ⟨ho, ho2, ?_⟩
    rw [e]
    exact h2 hw
def sIx (n d : Nat) : Option Int → Nat
  | none => d
  | some v => if v < 0 then (v + (n : Int)).toNat else min v.toNat n
theorem sIx_none (n d : Nat) : sIx n d none = d := rfl
theorem sIx_nat (n d k : Nat) : sIx n d (some (k : Int)) = min k n := by
  show (if (k : Int) < 0 then ((k : Int) + (n : Int)).toNat else min (k : Int).toNat n) = min k n
  rw [if_neg (by omega), Int.toNat_natCast]
theorem sIx_le (n d : Nat) (hd : d ≤ n) (o : Option Int) : sIx n d o ≤ n := by
  cases o with
  | none => exact hd
  | some v =>
    show (if v < 0 then (v + (n : Int)).toNat else min v.toNat n) ≤ n
    by_cases hv : v < 0
    · rw [if_pos hv]; omega
    · rw [if_neg hv]; exact Nat.min_le_right _ _
theorem clip_eq (v : Int) (n d : Nat) : (if v < 0 then max (v + (n : Int)) 0 else min v (n : Int)) = ((sIx n d (some v) : Nat) : Int) := by
  show (if v < 0 then max (v + (n : Int)) 0 else min v (n : Int)) = (((if v < 0 then (v + (n : Int)).toNat else min v.toNat n) : Nat) : Int)
  by_cases hv : v < 0
  · simp only [if_pos hv]; omega
  · simp only [if_neg hv]; omega
theorem adjust_gen (lo hi : Option Int) (n : Nat) : Builtin.Slice.sliceAdjust lo hi 1 (n : Int) = (((sIx n 0 lo : Nat) : Int), ((sIx n n hi : Nat) : Int)) := by
  have h1 : ¬ ((1 : Int) < 0) := by omega
  unfold Builtin.Slice.sliceAdjust
  simp only [h1, if_false]
  refine Prod.ext ?_ ?_
  · cases lo with
    | none => rfl
    | some v => exact clip_eq v n 0
  · cases hi with
    | none => rfl
    | some v => exact clip_eq v n n
theorem places_gen (i j : Nat) : Builtin.Slice.slicePlaces (i : Int) (j : Int) 1 = j - i := by
  unfold Builtin.Slice.slicePlaces
  have h1 : (1 : Int) > 0 := by omega
  simp only [h1, if_true, Int.ediv_one]
  split <;> omega
theorem slicePart_ {v : Value} {o : Option Int} {Q : Option Int → Shared → Prop} (p : IsPart v o) (h : Q o s) : wpAny (model prog w) A (Builtin.Slice.slicePartIndex v) Q E s := by
  cases p with
  | none => exact slicePart_none h
  | int i t => exact slicePart_int h
theorem sliceApplied_gen {sl : Addr} {vl vu : Value} {lo hi : Option Int} {n : Nat} {Q : Int × Int × Nat → Shared → Prop} (hs : s.heap.IsSliceOf sl vl vu .none) (pl : IsPart vl lo) (pu : IsPart vu hi)
    (h : Q (((sIx n 0 lo : Nat) : Int), 1, sIx n n hi - sIx n 0 lo) s) : wpAny (model prog w) A (Builtin.Slice.sliceApplied (.ref sl) (pure (n : Int))) Q E s := by
  obtain ⟨os, hos, hcs, hds⟩ := id hs
  unfold Builtin.Slice.sliceApplied Builtin.Slice.sliceFields
  refine wpAny_bind (wpAny_bind (wpAny_field hos hds (x := vl) rfl (wpAny_bind (wpAny_field hos hds (x := vu) rfl (wpAny_bind (wpAny_field hos hds (x := .none) rfl (wpAny_pure ?_)))))))
  refine wpAny_bind (slicePart_none ?_)
  show wpAny _ _ (if ((1 : Int) == 0) = true then _ else _) _ _ s
  rw [if_neg (by decide)]
  refine wpAny_bind (slicePart_ pl (wpAny_bind (slicePart_ pu (wpAny_bind (wpAny_pure ?_)))))
  show wpAny _ _ (match Builtin.Slice.sliceAdjust lo hi 1 (n : Int) with | (lo, hi) => pure (lo, (1 : Int), Builtin.Slice.slicePlaces lo hi 1)) _ _ s
  rw [adjust_gen lo hi n]
  show wpAny _ _ (pure (((sIx n 0 lo : Nat) : Int), (1 : Int), Builtin.Slice.slicePlaces ((sIx n 0 lo : Nat) : Int) ((sIx n n hi : Nat) : Int) 1)) _ _ s
  rw [places_gen]
  exact wpAny_pure h
theorem pick_gen (xs : Array Value) (i k : Nat) : ((List.range k).filterMap fun (m : Nat) => xs[((i : Int) + (m : Int) * 1).toNat]?).toArray = ((xs.toList.drop i).take k).toArray := by
  have e : (fun (m : Nat) => xs[((i : Int) + (m : Int) * 1).toNat]?) = fun m => xs[i + m]? := by
    funext m
    have : ((i : Int) + (m : Int) * 1).toNat = i + m := by omega
    rw [this]
  rw [e]
  have := pick_run xs i k
  rw [List.filterMap_map] at this
  have e2 : ((fun x => xs[x]?) ∘ fun x => i + x) = fun m => xs[i + m]? := rfl
  rw [e2] at this
  rw [this]
theorem getItem_tuple_cut {t sl : Addr} {items : Array Value} {vl vu : Value} {lo hi : Option Int} {Q : Value → Shared → Prop} (ht : IsTup s.heap t items) (hs : s.heap.IsSliceOf sl vl vu .none) (pl : IsPart vl lo) (pu : IsPart vu hi)
    (hw : ¬ (sIx items.size 0 lo = 0 ∧ sIx items.size items.size hi = items.size))
    (h : Q (.ref s.heap.objs.size) { s with heap := s.heap.push { cls := .type "tuple", data := .seq ((items.toList.drop (sIx items.size 0 lo)).take (sIx items.size items.size hi - sIx items.size 0 lo)).toArray } })
    (hsz : items.size ≤ sizeLine) : wpAny (model prog w) A (getItem (.ref t) (.ref sl)) Q E s := by
  have htake : sizeOk (.seq ((items.toList.drop (sIx items.size 0 lo)).take (sIx items.size items.size hi - sIx items.size 0 lo)).toArray) := by
    show ((items.toList.drop (sIx items.size 0 lo)).take (sIx items.size items.size hi - sIx items.size 0 lo)).toArray.size ≤ sizeLine
    rw [List.size_toArray, List.length_take, List.length_drop, Array.length_toList]
    omega
  have hj : sIx items.size items.size hi ≤ items.size := sIx_le _ _ (Nat.le_refl _) hi
  obtain ⟨os, hos, hcs, hds⟩ := id hs
  have hTs : s.TypeIs (.ref sl) "slice" := ⟨os, hos, hcs⟩
  unfold getItem
  try with_reducible refine wpAny_holding ?_
  first | refine wpAny_bind (wpAny_pure ?_) | skip
  refine wpAny_bind (wpAny_sequenceKey ht.typeIs (by decide) ?_)
  refine wpAny_bind (wpAny_callSpecial?_slot (name := Str.ofString "__getitem__") ht.typeIs PyProof.Rows.slot_tuple_getitem
    (wpAny_call_entry PyProof.Rows.slot_tuple_getitem ht.typeIs entry_tuple_getitem ?_ (args_tuple_getitem _ _)))
  show wpAny _ _ (Builtin.Tuple.tupleItemsOf (.ref t) >>= _) _ _ s
  refine wpAny_bind (tupleItemsOf_ ht ?_)
  refine wpAny_bind (wpAny_typeOf hTs ?_)
  rw [if_pos (by decide)]
  refine wpAny_bind (sliceApplied_gen hs pl pu ?_)
  have hno : ¬ ((((sIx items.size 0 lo : Nat) : Int) == 0 && (1 : Int) == 1 && (sIx items.size items.size hi - sIx items.size 0 lo) == items.size) = true) := by
    intro q
    rw [Bool.and_eq_true, Bool.and_eq_true] at q
    have q1 : ((sIx items.size 0 lo : Nat) : Int) = 0 := eq_of_beq q.1.1
    have q2 : sIx items.size items.size hi - sIx items.size 0 lo = items.size := eq_of_beq q.2
    exact hw ⟨by omega, by omega⟩
  show wpAny _ _ (if (((sIx items.size 0 lo : Nat) : Int) == 0 && (1 : Int) == 1 && (sIx items.size items.size hi - sIx items.size 0 lo) == items.size) = true then _ else _) _ _ s
  rw [if_neg hno, pick_gen]
  first
    | exact wpAny_bind (m := Builtin.Tuple.tupleExact _) (wpAny_newObj_type (wpAny_pure ⟨_, rfl, wpAny_pure h⟩) htake)
    | exact wpAny_bind (m := Builtin.Tuple.tupleExact _) (wpAny_newObj_type (wpAny_bind (wpAny_pure (wpAny_pure ⟨_, rfl, wpAny_pure h⟩))) htake)
    | exact wpAny_bind (wpAny_bind (m := Builtin.Tuple.tupleExact _) (wpAny_newObj_type (wpAny_pure (wpAny_pure ⟨_, rfl, wpAny_pure h⟩)) htake))
    | exact wpAny_bind (wpAny_bind (m := Builtin.Tuple.tupleExact _) (wpAny_newObj_type (wpAny_pure ⟨_, rfl, wpAny_pure h⟩) htake))
end
end HT
namespace L2
open PySem PySem.Spec PyProof.Rows
abbrev TO := St → Hp → (Option Int → Hp → Prop) → Prop
def PO (X : Cx) (e : Option Expr) (t : TO) : Prop :=
  ∀ (pins : List (Addr × Obj)) (s : Shared) (σ : St) (H : Hp) (Q : Option Int → Hp → Prop), Inv X pins σ H s → t σ H Q →
    wpAny (model X.prog X.w) X.A (evalPart e X.env) (fun u s' => ∃ o H', Inv X pins σ H' s' ∧ IsPart u o ∧ Q o H') X.xe s
def tNoPart : TO := fun _ H Q => Q none H
def tPart (t : TE) : TO := fun σ H Q => t σ H fun x H1 => ∃ i, x = .int i ∧ Q (some i) H1
section
variable {X : Cx} {e : Expr} {te : TE} {lo hi : Option Expr} {tl th : TO} {pos p2 : Pos}
theorem po_none : PO X none tNoPart := by
  intro pins s σ H Q I h
  rw [evalPart_none]
  exact wpAny_pure ⟨none, H, I, .none, h⟩
theorem po_some (h : PE X e te) : PO X (some e) (tPart te) := by
  intro pins s σ H Q I hw
  rw [evalPart_some]
  refine thn (h pins s σ H _ I hw) fun u s1 ⟨x, H1, I1, r1, q1⟩ => ?_
  obtain ⟨i, rfl, q⟩ := q1
  obtain ⟨t, rfl⟩ := r1
  exact ⟨some i, H1, I1, .int i t, q⟩
def SlR (X : Cx) (r : V → Option Int → Option Int → Hp → VK → Prop) : Prop :=
  ∀ (pins : List (Addr × Obj)) (s : Shared) (σ : St) (H : Hp) (x : V) (v vl vu : Value) (lo hi : Option Int) (sl : Addr) (Q : VK), Inv X pins σ H s → RelV x v → s.heap.IsSliceOf sl vl vu .none → IsPart vl lo → IsPart vu hi → r x lo hi H Q →
    ∃ T id, typeLookup (.type T) "__getitem__" = pure (some (.builtin id)) ∧ s.TypeIs v T ∧ wpAny (model X.prog X.w) X.A (getItem v (.ref sl)) (EP X pins σ Q) X.xe s
theorem SlR.or {r r' : V → Option Int → Option Int → Hp → VK → Prop} (h : SlR X r) (h' : SlR X r') : SlR X (fun x lo hi H Q => r x lo hi H Q ∨ r' x lo hi H Q) := by
  intro pins s σ H x v vl vu lo hi sl Q I rx hs pl pu q
  rcases q with q | q
  · exact h pins s σ H x v vl vu lo hi sl Q I rx hs pl pu q
  · exact h' pins s σ H x v vl vu lo hi sl Q I rx hs pl pu q
def tSl (r : V → Option Int → Option Int → Hp → VK → Prop) (te : TE) (tl th : TO) : TE := fun σ H Q => te σ H fun x H1 => tl σ H1 fun l H2 => th σ H2 fun u H3 => r x l u H3 Q
theorem pe_slice {r : V → Option Int → Option Int → Hp → VK → Prop} (hr : SlR X r) (he : PE X e te) (hl : PO X lo tl) (hu : PO X hi th) : PE X (.Subscript e (.Slice lo hi none p2) pos) (tSl r te tl th) := by
  intro pins s σ H Q I h
  refine Subscript_ (thn (he pins s σ H _ I h) fun v s1 ⟨x, H1, I1, r1, q1⟩ => ?_)
  refine wpAny_Slice (thn (hl pins s1 σ H1 _ I1 q1) fun vl s2 ⟨l, H2, I2, pl, q2⟩ => thn (hu pins s2 σ H2 _ I2 q2) fun vu s3 ⟨u, H3, I3, pu, q3⟩ => ?_)
  rw [evalPart_none]
  refine wpAny_pure ?_
  have I4 : Inv X pins σ H3 { s3 with heap := s3.heap.push { cls := .type "slice", data := .fields #[vl, vu, .none] } } := I3.kept (t' := s3.toks) fun b ob q => Heap.get?_push_of_some _ q
  obtain ⟨T, id, hT, ht, hg⟩ := hr pins { s3 with heap := s3.heap.push { cls := .type "slice", data := .fields #[vl, vu, .none] } } σ H3 x v vl vu l u s3.heap.objs.size Q I4 r1 (Heap.IsSliceOf.new ..) pl pu q3
  show wpAny (model X.prog X.w) X.A (subscriptTail e (.Slice lo hi none p2) v (.ref s3.heap.objs.size)) (EP X pins σ Q) X.xe { s3 with heap := s3.heap.push { cls := .type "slice", data := .fields #[vl, vu, .none] } }
  exact tail_any (ops := [.ref s3.heap.objs.size, v]) ht hT hg (by with_unfolding_all rfl)
def cutV (xs : List V) (lo hi : Option Int) : List V := (xs.drop (HT.sIx xs.length 0 lo)).take (HT.sIx xs.length xs.length hi - HT.sIx xs.length 0 lo)
theorem cutV_length (xs : List V) (lo hi : Option Int) : (cutV xs lo hi).length ≤ xs.length := by
  unfold cutV
  rw [List.length_take, List.length_drop]
  omega
def rSlT (K : PySem.W.Frag) : V → Option Int → Option Int → Hp → VK → Prop := fun x lo hi H Q => ∃ a xs, x = .ref a ∧ SqT K H a xs ∧
  ¬ (HT.sIx xs.length 0 lo = 0 ∧ HT.sIx xs.length xs.length hi = xs.length) ∧ ∀ p, H p = none → Q (.ref p) (upd H p (.tup (cutV xs lo hi)))
theorem sl_tup : SlR X (rSlT X.K) := by
  intro pins s σ H x v vl vu lo hi sl Q I rx hs pl pu h
  obtain ⟨a, xs, rfl, hx, hw, q⟩ := h
  cases rx
  obtain ⟨its, r, ht, hz⟩ := I.tuple hx
  have hlen : its.toArray.size = xs.length := by rw [List.size_toArray]; exact r.length.symm
  refine ⟨"tuple", _, PyProof.Rows.slot_tuple_getitem.lookup, ht.typeIs, ?_⟩
  refine HT.getItem_tuple_cut ht hs pl pu (by rw [hlen]; exact hw) ?_ (by rw [hlen]; exact hz)
  rw [hlen]
  refine ⟨.ref s.heap.objs.size, _, I.laid (t' := s.toks) (o := .tup (cutV xs lo hi)) (fun b ob q => Heap.get?_push_of_some _ q) (Nat.le_refl _) ?_, rfl, q _ (I.hok.fresh (Nat.le_refl _))⟩
  exact ⟨Nat.le_trans (cutV_length xs lo hi) hz, _, (r.drop (HT.sIx xs.length 0 lo)).take (HT.sIx xs.length xs.length hi - HT.sIx xs.length 0 lo), IsTupN.new _ _⟩
def rCatT (K : PySem.W.Frag) : R2 := fun x y H Q => ∃ a b xs ys, x = .ref a ∧ y = .ref b ∧ SqT K H a xs ∧ SqT K H b ys ∧ xs ≠ [] ∧ xs.length + ys.length ≤ sizeLine ∧
  (ys = [] → Q (.ref a) H) ∧ (ys ≠ [] → ∀ p, H p = none → Q (.ref p) (upd H p (.tup (xs ++ ys))))
theorem Vals.nil_iff {xs : List V} {us : List Value} (r : Vals xs us) : us = [] ↔ xs = [] := by
  cases r with
  | nil => simp
  | cons _ _ => simp
theorem op_catT : OpR X (binaryOp .Add) (rCatT X.K) := by
  intro pins s σ H x y v u Q I rx ry h
  obtain ⟨a, b, xs, ys, rfl, rfl, ha, hb, hx, hz, q1, q2⟩ := h
  cases rx
  cases ry
  obtain ⟨its, r1, p1, _⟩ := I.tuple ha
  obtain ⟨its2, r2, p2, _⟩ := I.tuple hb
  refine HT.cat_tup p1 p2 (fun z => hx (r1.nil_iff.mp z)) (fun z => ⟨.ref a, H, I, rfl, q1 (r2.nil_iff.mp z)⟩) (fun z => ?_) (by rw [← r1.length, ← r2.length]; exact hz)
  refine ⟨.ref s.heap.objs.size, _, I.laid (t' := s.toks) (o := .tup (xs ++ ys)) (fun b ob q => Heap.get?_push_of_some _ q) (Nat.le_refl _) ?_, rfl, q2 (fun w => z (r2.nil_iff.mpr w)) _ (I.hok.fresh (Nat.le_refl _))⟩
  exact ⟨by rw [List.length_append]; exact hz, _, r1.append r2, IsTupN.new _ _⟩
end
end L2
namespace L2
open PySem PySem.Spec PyProof.Rows
def ixN (n : Nat) (i : Int) : Option Nat := if 0 ≤ i then (if i < n then some i.toNat else none) else if -(n : Int) ≤ i then some (i + n).toNat else none
def atI {α : Type} (xs : List α) (i : Int) : Option α := (ixN xs.length i).bind fun j => xs[j]?
theorem ixN_seq {n : Nat} {i : Int} {j : Nat} (h : ixN n i = some j) : seqIndex? i n = some j ∧ j < n ∧ -(n : Int) ≤ i ∧ i < n := by
  unfold ixN at h
  by_cases h0 : 0 ≤ i
  · rw [if_pos h0] at h
    by_cases h1 : i < n
    · rw [if_pos h1] at h
      have e : i.toNat = j := Option.some.inj h
      exact ⟨by rw [seqIndex_of h0 h1, e], by omega, by omega, h1⟩
    · rw [if_neg h1] at h; cases h
  · rw [if_neg h0] at h
    by_cases h1 : -(n : Int) ≤ i
    · rw [if_pos h1] at h
      have e : (i + n).toNat = j := Option.some.inj h
      exact ⟨by rw [seqIndex_neg (by omega) h1, e], by omega, h1, by omega⟩
    · rw [if_neg h1] at h; cases h
theorem atI_get {α : Type} {xs : List α} {i : Int} {v : α} (h : atI xs i = some v) : ∃ j, seqIndex? i xs.length = some j ∧ xs[j]? = some v ∧ j < xs.length ∧ -(xs.length : Int) ≤ i ∧ i < xs.length := by
  unfold atI at h
  cases e : ixN xs.length i with
  | none => rw [e] at h; cases h
  | some j =>
    rw [e] at h
    obtain ⟨h1, h2, h3, h4⟩ := ixN_seq e
    exact ⟨j, h1, h, h2, h3, h4⟩
def PlainIx (b : Expr) : Prop := ∀ o i, subscripted b false o i = operate [o, i] (getItem o i)
def IxR (X : Cx) (r : R2) : Prop :=
  ∀ (value slice : Expr) (pins : List (Addr × Obj)) (s : Shared) (σ : St) (H : Hp) (x y : V) (v u : Value) (Q : VK), Inv X pins σ H s → RelV x v → RelV y u → r x y H Q →
    subscripted slice false v u = operate [v, u] (getItem v u) → wpAny (model X.prog X.w) X.A (subscriptTail value slice v u) (EP X pins σ Q) X.xe s
def MtR (X : Cx) (id : String) (r : V → List V → Hp → VK → Prop) : Prop :=
  ∀ (pins : List (Addr × Obj)) (s : Shared) (σ : St) (H : Hp) (x : V) (xs : List V) (v : Value) (us : List Value) (Q : VK), Inv X pins σ H s → RelV x v → Vals xs us → r x xs H Q →
    wpAny (model X.prog X.w) X.A (call (.builtin id) (v :: us)) (EP X pins σ Q) X.xe s
section
variable {X : Cx} {a b : Expr} {ta tb : TE} {pos : Pos}
theorem IxR.or {r r' : R2} (h : IxR X r) (h' : IxR X r') : IxR X (fun x y H Q => r x y H Q ∨ r' x y H Q) := by
  intro value slice pins s σ H x y v u Q I rx ry q hs
  rcases q with q | q
  · exact h value slice pins s σ H x y v u Q I rx ry q hs
  · exact h' value slice pins s σ H x y v u Q I rx ry q hs
theorem pe_ix {r : R2} (hr : IxR X r) (ha : PE X a ta) (hb : PE X b tb) (hs : PlainIx b) : PE X (.Subscript a b pos) (tOp r ta tb) := by
  intro pins s σ H Q I h
  exact Subscript_ (binT ha hb I h fun v u s2 x y H2 I2 rx ry q => hr a b pins s2 σ H2 x y v u Q I2 rx ry q (hs _ _))
def rIxL (K : PySem.W.Frag) : R2 := fun x y H Q => ∃ p xs i v, x = .ref p ∧ y = .int i ∧ SqL K H p xs ∧ atI xs i = some v ∧ Q v H
def rIxT (K : PySem.W.Frag) : R2 := fun x y H Q => ∃ p xs i v, x = .ref p ∧ y = .int i ∧ SqT K H p xs ∧ atI xs i = some v ∧ Q v H
def rIxS : R2 := fun x y H Q => ∃ z i c, x = .str z ∧ y = .int i ∧ z.length ≤ sizeLine ∧ atI z.cps.toList i = some c ∧ Q (.str ⟨#[c]⟩) H
theorem ix_list : IxR X (rIxL X.K) := by
  intro value slice pins s σ H x y v u Q I rx ry h hs
  obtain ⟨p, xs, i, z, rfl, rfl, hq, he, q⟩ := h
  cases rx
  obtain ⟨t, rfl⟩ := ry
  obtain ⟨its, r, pl, hz⟩ := I.list hq
  obtain ⟨j, h1, h2, h3, h4, h5⟩ := atI_get he
  obtain ⟨w, ew, rw'⟩ := r.get h2
  have hl := r.length
  have hn := line63
  have fin : EP X pins σ Q w s := ⟨z, H, I, rw', q⟩
  by_cases h0 : 0 ≤ i
  · have hj : i.toNat = j := by
      rw [seqIndex_of h0 h5] at h1
      exact Option.some.inj h1
    exact item_listR pl.isList h0 (by omega) (by rw [hj]; simpa using ew) fin hs
  · have hj : (i + (its.toArray.size : Int)).toNat = j := by
      rw [seqIndex_neg (by omega) h4] at h1
      rw [List.size_toArray, ← hl]
      exact Option.some.inj h1
    exact subscriptTail_builtinR (x := w) pl.isList.typeIs slot_list_getitem.lookup
      (wpAny_getItem_list_neg (Q := fun r s' => r = w ∧ EP X pins σ Q r s') pl.isList (by omega) (by rw [List.size_toArray] <;> omega) (by omega) (by rw [hj]; simpa using ew) ⟨rfl, fin⟩) hs
theorem ix_tup : IxR X (rIxT X.K) := by
  intro value slice pins s σ H x y v u Q I rx ry h hs
  obtain ⟨p, xs, i, z, rfl, rfl, hq, he, q⟩ := h
  cases rx
  obtain ⟨t, rfl⟩ := ry
  obtain ⟨its, r, pl, hz⟩ := I.tuple hq
  obtain ⟨j, h1, h2, h3, h4, h5⟩ := atI_get he
  obtain ⟨w, ew, rw'⟩ := r.get h2
  have hl := r.length
  have hn := line63
  have fin : EP X pins σ Q w s := ⟨z, H, I, rw', q⟩
  exact subscriptTail_builtinR (x := w) pl.typeIs slot_tuple_getitem.lookup
    (getItem_tuple (j := j) (Q := fun r s' => r = w ∧ EP X pins σ Q r s') pl (by omega) (by omega) (by rw [List.size_toArray, ← hl]; exact h1) (by simpa using ew) ⟨rfl, fin⟩) hs
theorem ix_str : IxR X rIxS := by
  intro value slice pins s σ H x y v u Q I rx ry h hs
  obtain ⟨z, i, c, rfl, rfl, hz, he, q⟩ := h
  obtain ⟨t, rfl⟩ := rx
  obtain ⟨t', rfl⟩ := ry
  obtain ⟨j, h1, h2, h3, h4, h5⟩ := atI_get he
  have hl : z.cps.toList.length = z.length := by simp [Str.length]
  rw [hl] at h1 h4 h5
  have hn := line63
  exact tail_any (typeIs_str s z t) slot_str_getitem.lookup (getItem_str (c := c) (by
    have e1 : decide (i < -(2 ^ 63 : Int)) = false := decide_eq_false (by omega)
    have e2 : decide (i ≥ 2 ^ 63) = false := decide_eq_false (by omega)
    rw [e1, e2, Bool.or_false]) (by rw [h1]; simpa using h2) ⟨.str ⟨#[c]⟩, H, I.tok _, ⟨_, rfl⟩, q⟩) hs
def rIx (K : PySem.W.Frag) : R2 := fun x y H Q => rIxL K x y H Q ∨ rIxT K x y H Q ∨ rIxS x y H Q
theorem ix_seq : IxR X (rIx X.K) := ix_list.or (ix_tup.or ix_str)
theorem mapSeq_set (its : List Value) (n j : Nat) (u : Value) : Obj.mapSeq (·.setIfInBounds j u) { cls := .type "list", data := .seq its.toArray n } = { cls := .type "list", data := .seq (its.set j u).toArray n } := by
  simp [Obj.mapSeq]
theorem Inv.lst {pins : List (Addr × Obj)} {σ : St} {H : Hp} {s : Shared} {p : Addr} {xs : List V} (I : Inv X pins σ H s) (h : H p = some (.lst xs)) :
    ∃ (its : List Value) (n : Nat), Vals xs its ∧ s.heap.get? p = some { cls := .type "list", data := .seq its.toArray n } ∧ xs.length ≤ sizeLine := by
  obtain ⟨z, its, n, r, e⟩ := I.hok p _ h
  exact ⟨its, n, r, e, z⟩
theorem Inv.lstUpd {pins : List (Addr × Obj)} {σ : St} {H : Hp} {s : Shared} {p : Addr} {xs ys : List V} {its its' : List Value} {n n' : Nat} {f : Obj → Obj} (I : Inv X pins σ H s) (h : H p = some (.lst xs))
    (ho : s.heap.get? p = some { cls := .type "list", data := .seq its.toArray n }) (hf : f { cls := .type "list", data := .seq its.toArray n } = { cls := .type "list", data := .seq its'.toArray n' }) (r : Vals ys its') (hz : ys.length ≤ sizeLine) (t : Nat) :
    Inv X pins σ (upd H p (.lst ys)) { s with heap := s.heap.update p f, toks := t } := by
  have e : (s.heap.update p f).get? p = some { cls := .type "list", data := .seq its'.toArray n' } := by
    rw [Heap.get?_update_self f ho (by rw [hf] <;> rfl), hf]
  refine I.write (x := p) (e := p) (by rw [h]; trivial) (.inl rfl) (fun b u hb q => (Heap.get?_update_other _ _ (Ne.symm hb)).trans q) ⟨_, e⟩ ?_
  exact ⟨hz, its', n', r, e⟩
def rSetL : V → V → V → Hp → (Hp → Prop) → Prop := fun o i v H Q => ∃ p xs k j, o = .ref p ∧ i = .int k ∧ H p = some (.lst xs) ∧ ixN xs.length k = some j ∧ Q (upd H p (.lst (xs.set j v)))
theorem set_list : PSet X rSetL := by
  intro pins s σ H o i v ov iv u Q I ro ri rv h
  obtain ⟨p, xs, k, j, rfl, rfl, hp, hj, q⟩ := h
  cases ro
  obtain ⟨t, rfl⟩ := ri
  obtain ⟨its, n, r, ho, hz⟩ := I.lst hp
  obtain ⟨h1, h2, h3, h4⟩ := ixN_seq hj
  have hl := r.length
  have hn := line63
  have I' : Inv X pins σ (upd H p (.lst (xs.set j v))) { s with heap := s.heap.update p (Obj.mapSeq (·.setIfInBounds j u)) } :=
    I.lstUpd hp ho (mapSeq_set its n j u) (r.set rv j) (by rw [List.length_set]; exact hz) s.toks
  by_cases h0 : 0 ≤ k
  · have hk : k.toNat = j := by
      rw [seqIndex_of h0 h4] at h1
      exact Option.some.inj h1
    exact PySem.W.ki_setAt ho h0 (by omega) (by rw [List.size_toArray, ← hl]; exact h4) (by rw [hk]; exact ⟨_, I', q⟩)
  · have hk : (k + (its.toArray.size : Int)).toNat = j := by
      rw [seqIndex_neg (by omega) h3] at h1
      rw [List.size_toArray, ← hl]
      exact Option.some.inj h1
    exact PySem.W.ki_setBack ho (by omega) (by rw [List.size_toArray, ← hl]; exact h3) (by omega) (by rw [hk]; exact ⟨_, I', q⟩)
theorem slice_bounds (lo hi : Option Int) (n : Nat) : (sliceBounds lo hi none n).1 = ((HT.sIx n 0 lo : Nat) : Int) ∧ (sliceBounds lo hi none n).2.1 = ((HT.sIx n n hi : Nat) : Int) ∧ (sliceBounds lo hi none n).2.2 = 1 := by
  refine ⟨?_, ?_, rfl⟩
  · cases lo with
    | none => simp [sliceBounds, HT.sIx]
    | some i =>
      simp only [sliceBounds, HT.sIx, Option.getD_none, show (1 : Int) > 0 by decide, if_true]
      by_cases h : i < 0
      · simp only [h, if_true] <;> omega
      · simp only [h, if_false] <;> omega
  · cases hi with
    | none => simp [sliceBounds, HT.sIx]
    | some i =>
      simp only [sliceBounds, HT.sIx, Option.getD_none, show (1 : Int) > 0 by decide, if_true]
      by_cases h : i < 0
      · simp only [h, if_true] <;> omega
      · simp only [h, if_false] <;> omega
theorem slicePick_cut (its : List Value) (lo hi : Option Int) : slicePick its.toArray lo hi none = ((its.drop (HT.sIx its.length 0 lo)).take (HT.sIx its.length its.length hi - HT.sIx its.length 0 lo)).toArray := by
  obtain ⟨h1, h2, h3⟩ := slice_bounds lo hi its.toArray.size
  unfold slicePick
  rw [h1, h2, h3]
  simp only [sliceRange_one, pick_run, List.size_toArray] <;> rfl
def rSlL (K : PySem.W.Frag) : V → Option Int → Option Int → Hp → VK → Prop := fun x lo hi H Q => ∃ a xs, x = .ref a ∧ SqL K H a xs ∧ ∀ p, H p = none → Q (.ref p) (upd H p (.lst (cutV xs lo hi)))
theorem sl_list : SlR X (rSlL X.K) := by
  intro pins s σ H x v vl vu lo hi sl Q I rx hs pl pu h
  obtain ⟨a, xs, rfl, hx, q⟩ := h
  cases rx
  obtain ⟨its, r, ht, hz⟩ := I.list hx
  have hlen := r.length
  refine ⟨"list", _, slot_list_getitem.lookup, ht.isList.typeIs, ?_⟩
  refine wpAny_getItem_list_slice ht.isList hs pl pu .none (by simp) ?_ (by rw [List.size_toArray] <;> omega)
  rw [slicePick_cut, ← hlen]
  refine ⟨.ref s.heap.objs.size, _, I.laid (t' := s.toks) (o := .lst (cutV xs lo hi)) (fun b ob q => Heap.get?_push_of_some _ q) (Nat.le_refl _) ?_, rfl, q _ (I.hok.fresh (Nat.le_refl _))⟩
  exact ⟨Nat.le_trans (cutV_length xs lo hi) hz, _, 0, (r.drop (HT.sIx xs.length 0 lo)).take (HT.sIx xs.length xs.length hi - HT.sIx xs.length 0 lo), Heap.get?_push_size _ rfl⟩
def flatV : V → Bool
  | .non => true
  | .bl _ => true
  | .int _ => true
  | .str _ => true
  | _ => false
def eqV : V → V → Bool
  | .non, .non => true
  | .bl a, .bl b => a == b
  | .bl a, .int b => (if a then 1 else 0) == b
  | .int a, .bl b => a == (if b then 1 else 0)
  | .int a, .int b => a == b
  | .str a, .str b => a == b
  | _, _ => false
theorem eqAt_V {A : Around} {s : Shared} {y x : V} {u v : Value} (ry : RelV y u) (rx : RelV x v) (fy : flatV y = true) (fx : flatV x = true) : SeqAt.EqAt A s u v (eqV y x) := by
  cases y with
  | non =>
    cases ry
    cases x with
    | non => cases rx; exact SeqAt.EqAt.same _
    | bl b => cases rx; exact SeqAt.EqAt.none_bool b
    | int b => obtain ⟨t, rfl⟩ := rx; exact SeqAt.EqAt.none_int b t
    | str b => obtain ⟨t, rfl⟩ := rx; exact SeqAt.EqAt.none_str b t
    | _ => exact absurd (show false = true from fx) Bool.false_ne_true
  | bl a =>
    cases ry
    cases x with
    | non => cases rx; exact SeqAt.EqAt.bool_none a
    | bl b => cases rx; exact SeqAt.EqAt.bool_bool a b
    | int b => obtain ⟨t, rfl⟩ := rx; exact SeqAt.EqAt.bool_int a b t
    | str b => obtain ⟨t, rfl⟩ := rx; exact SeqAt.EqAt.bool_str a b t
    | _ => exact absurd (show false = true from fx) Bool.false_ne_true
  | int a =>
    obtain ⟨t', rfl⟩ := ry
    cases x with
    | non => cases rx; exact SeqAt.EqAt.int_none a t'
    | bl b => cases rx; exact SeqAt.EqAt.int_bool a t' b
    | int b => obtain ⟨t, rfl⟩ := rx; exact SeqAt.EqAt.int_int a t' b t
    | str b => obtain ⟨t, rfl⟩ := rx; exact SeqAt.EqAt.int_str a t' b t
    | _ => exact absurd (show false = true from fx) Bool.false_ne_true
  | str a =>
    obtain ⟨t', rfl⟩ := ry
    cases x with
    | non => cases rx; exact SeqAt.EqAt.str_none a t'
    | bl b => cases rx; exact SeqAt.EqAt.str_bool a t' b
    | int b => obtain ⟨t, rfl⟩ := rx; exact SeqAt.EqAt.str_int a t' b t
    | str b => obtain ⟨t, rfl⟩ := rx; exact SeqAt.EqAt.str_str a t' b t
    | _ => exact absurd (show false = true from fx) Bool.false_ne_true
  | _ => exact absurd (show false = true from fy) Bool.false_ne_true
def eqU (x : V) (u : Value) : Bool := match u with
  | .none => eqV .non x
  | .bool b => eqV (.bl b) x
  | .int i _ => eqV (.int i) x
  | .str z _ => eqV (.str z) x
  | _ => false
theorem eqU_of {x y : V} {u : Value} (r : RelV y u) (f : flatV y = true) : eqU x u = eqV y x := by
  cases y with
  | non => cases r; rfl
  | bl b => cases r; rfl
  | int i => obtain ⟨t, rfl⟩ := r; rfl
  | str z => obtain ⟨t, rfl⟩ := r; rfl
  | _ => exact absurd (show false = true from f) Bool.false_ne_true
theorem any_eqU {x : V} : ∀ {xs : List V} {us : List Value}, Vals xs us → xs.all flatV = true → us.any (eqU x) = xs.any fun y => eqV y x
  | _, _, .nil, _ => rfl
  | y :: xs, u :: us, .cons r t, f => by
    rw [List.all_cons, Bool.and_eq_true] at f
    rw [List.any_cons, List.any_cons, eqU_of r f.1, any_eqU t f.2]
theorem mem_eqAt {A : Around} {s : Shared} {x : V} {v : Value} (rx : RelV x v) (fx : flatV x = true) : ∀ {xs : List V} {us : List Value}, Vals xs us → xs.all flatV = true → ∀ u ∈ us, SeqAt.EqAt A s u v (eqU x u)
  | _, _, .nil, _ => fun u hu => by cases hu
  | y :: xs, u :: us, .cons r t, f => fun u' hu => by
    rw [List.all_cons, Bool.and_eq_true] at f
    rcases List.mem_cons.mp hu with rfl | hu
    · rw [eqU_of r f.1]; exact eqAt_V r rx f.1 fx
    · exact mem_eqAt rx fx t f.2 u' hu
def inV (x : V) (xs : List V) : Bool := xs.any fun y => eqV y x
def rIn (K : PySem.W.Frag) (neg : Bool) : R2 := fun x y H Q => ∃ p xs, y = .ref p ∧ (SqL K H p xs ∨ SqT K H p xs) ∧ flatV x = true ∧ xs.all flatV = true ∧ Q (.bl (if neg then !inV x xs else inV x xs)) H
theorem op_in_seq : OpR X (compareOp .In) (rIn X.K false) := by
  intro pins s σ H x y v u Q I rx ry h
  obtain ⟨p, xs, rfl, hq, fx, fs, q⟩ := h
  cases ry
  rcases hq with hq | hq
  · obtain ⟨its, r, pl, hz⟩ := I.list hq
    refine SeqAt.in_listAt (eqU x) pl.isList (fun w hw => mem_eqAt rx fx r fs w (by simpa using hw)) ⟨.bl _, H, I, rfl, ?_⟩
    rw [show its.toArray.any (eqU x) = its.any (eqU x) by simp, any_eqU r fs]
    exact q
  · obtain ⟨its, r, pl, hz⟩ := I.tuple hq
    refine SeqAt.in_tupleAt (eqU x) pl (fun w hw => mem_eqAt rx fx r fs w (by simpa using hw)) ⟨.bl _, H, I, rfl, ?_⟩
    rw [show its.toArray.any (eqU x) = its.any (eqU x) by simp, any_eqU r fs]
    exact q
theorem op_notIn_seq : OpR X (compareOp .NotIn) (rIn X.K true) := by
  intro pins s σ H x y v u Q I rx ry h
  obtain ⟨p, xs, rfl, hq, fx, fs, q⟩ := h
  cases ry
  rcases hq with hq | hq
  · obtain ⟨its, r, pl, hz⟩ := I.list hq
    refine SeqAt.notIn_listAt (eqU x) pl.isList (fun w hw => mem_eqAt rx fx r fs w (by simpa using hw)) ⟨.bl _, H, I, rfl, ?_⟩
    rw [show its.toArray.any (eqU x) = its.any (eqU x) by simp, any_eqU r fs]
    exact q
  · obtain ⟨its, r, pl, hz⟩ := I.tuple hq
    refine SeqAt.notIn_tupleAt (eqU x) pl (fun w hw => mem_eqAt rx fx r fs w (by simpa using hw)) ⟨.bl _, H, I, rfl, ?_⟩
    rw [show its.toArray.any (eqU x) = its.any (eqU x) by simp, any_eqU r fs]
    exact q
theorem call_list_of : CallR X (.type "list") (fun xs H Q => ∃ p ys, xs = [.ref p] ∧ (SqL X.K H p ys ∨ SqT X.K H p ys) ∧ ∀ l, H l = none → Q (.ref l) (upd H l (.lst ys))) := by
  intro pins s σ H xs us Q I r h
  obtain ⟨p, ys, rfl, hq, q⟩ := h
  obtain ⟨u, rfl, rx⟩ := vals1 r
  cases rx
  have fin : ∀ (its : List Value), Vals ys its → ys.length ≤ sizeLine → ∀ (h' : Heap) (c' : Nat), (∀ b o', s.heap.get? b = some o' → h'.get? b = some o') →
      h'.get? s.heap.objs.size = some { cls := .type "list", dict := none, data := .seq its.toArray c', slots := #[] } → EP X pins σ Q (.ref s.heap.objs.size) { s with heap := h' } := fun its r' hz h' c' kp e =>
    ⟨.ref s.heap.objs.size, _, I.laid (t' := s.toks) kp (Nat.le_refl _) (show ObjOk X.prog X.w _ h' _ (.lst ys) from ⟨hz, its, c', r', e⟩), rfl, q _ (I.hok.fresh (Nat.le_refl _))⟩
  rcases hq with hq | hq
  · obtain ⟨its, r', pl, hz⟩ := I.list hq
    have hlen := r'.length
    obtain ⟨o, ho, hc, n, hd⟩ := pl.isList
    exact call_list_seq p (.inl rfl) ho hc hd (fun h' c' kp e => fin its r' hz h' c' kp e) (by simp only [List.size_toArray] <;> omega)
  · obtain ⟨its, r', pl, hz⟩ := I.tuple hq
    have hlen := r'.length
    obtain ⟨o, ho, hc, n, hd⟩ := pl
    exact call_list_seq p (.inr rfl) ho hc hd (fun h' c' kp e => fin its r' hz h' c' kp e) (by simp only [List.size_toArray] <;> omega)
theorem call_tuple_of : CallR X (.type "tuple") (fun xs H Q => ∃ p ys, xs = [.ref p] ∧ ((SqL X.K H p ys ∧ ∀ l, H l = none → Q (.ref l) (upd H l (.tup ys))) ∨ (SqT X.K H p ys ∧ Q (.ref p) H))) := by
  intro pins s σ H xs us Q I r h
  obtain ⟨p, ys, rfl, h⟩ := h
  obtain ⟨u, rfl, rx⟩ := vals1 r
  cases rx
  rcases h with ⟨hq, q⟩ | ⟨hq, q⟩
  · obtain ⟨its, r', pl, hz⟩ := I.list hq
    have hlen := r'.length
    refine call_tuple_list pl.isList (fun h' kp => ?_) (by simp only [List.size_toArray] <;> omega)
    have I1 : Inv X pins σ H { s with heap := h' } := I.kept (t' := s.toks) kp
    have I2 : Inv X pins σ (upd H h'.objs.size (.tup ys)) { s with heap := h'.push { cls := .type "tuple", data := .seq its.toArray } } :=
      I1.laid (t' := s.toks) (fun b o e => Heap.get?_push_of_some _ e) (Nat.le_refl _) (show ObjOk X.prog X.w _ _ _ (.tup ys) from ⟨hz, its, r', IsTupN.new _ _⟩)
    exact ⟨.ref h'.objs.size, _, I2, rfl, q _ (I1.hok.fresh (Nat.le_refl _))⟩
  · obtain ⟨its, r', pl, hz⟩ := I.tuple hq
    exact call_tuple_same pl ⟨.ref p, H, I, rfl, q⟩
def tyV (K : PySem.W.Frag) (T : String) (x : V) (H : Hp) : Prop := match x with
  | .str _ => T = "str"
  | .int _ => T = "int"
  | .ref p => (T = "list" ∧ ∃ xs, SqL K H p xs) ∨ (T = "tuple" ∧ ∃ o, K.lookup p = some o ∧ o.cls = .type "tuple" ∧ o.dict = none) ∨
      (T = "dict" ∧ ((∃ kvs, H p = some (.dK kvs)) ∨ ∃ kvs, H p = some (.dT kvs))) ∨ (T = "set" ∧ ∃ S n, H p = some (.set S n))
  | _ => False
theorem tyV_is {pins : List (Addr × Obj)} {σ : St} {H : Hp} {s : Shared} {T : String} {x : V} {v : Value} (I : Inv X pins σ H s) (r : RelV x v) (ty : tyV X.K T x H) :
    s.TypeIs v T ∧ ∀ a, v = .ref a → ∃ ob, s.heap.get? a = some ob ∧ ob.dict = none := by
  cases x with
  | str z =>
    obtain ⟨t, rfl⟩ := r
    cases (show T = "str" from ty)
    exact ⟨typeIs_str s z t, fun _ e => nomatch e⟩
  | int i =>
    obtain ⟨t, rfl⟩ := r
    cases (show T = "int" from ty)
    exact ⟨typeIs_int s i t, fun _ e => nomatch e⟩
  | ref p =>
    cases r
    rcases ty with ⟨rfl, xs, hq⟩ | ⟨rfl, o, hk, hc, hd⟩ | ⟨rfl, hk⟩ | ⟨rfl, S, n, hk⟩
    · obtain ⟨its, _, pl, _⟩ := I.list hq
      refine ⟨pl.isList.typeIs, fun a e => ?_⟩
      cases e
      obtain ⟨o, n, e, c, hd, _⟩ := pl
      exact ⟨o, e, hd⟩
    · refine ⟨⟨o, I.kIn p o hk, hc⟩, fun a e => ?_⟩
      cases e
      exact ⟨o, I.kIn _ o hk, hd⟩
    · have z : ∃ o, s.heap.get? p = some o ∧ o.ExactDict := by
        rcases hk with ⟨kvs, hk⟩ | ⟨kvs, hk⟩
        · obtain ⟨_, _, _, _, o, _, _, e, ex, _⟩ := I.hok p _ hk
          exact ⟨o, e, ex⟩
        · obtain ⟨_, _, _, _, o, _, _, e, ex, _⟩ := I.hok p _ hk
          exact ⟨o, e, ex⟩
      obtain ⟨o, e, ex⟩ := z
      refine ⟨⟨o, e, ex.1⟩, fun a e2 => ?_⟩
      cases e2
      exact ⟨o, e, ex.2.1⟩
    · obtain ⟨o, _, _, _, e, ex, _⟩ := I.hok p _ hk
      refine ⟨⟨o, e, ex.1⟩, fun a e2 => ?_⟩
      cases e2
      exact ⟨o, e, ex.2.1⟩
  | _ => exact False.elim ty
def tBM0 (K : PySem.W.Frag) (T : String) (r : V → List V → Hp → VK → Prop) (to : TE) : TE := fun σ H Q => to σ H fun x H1 => tyV K T x H1 ∧ r x [] H1 Q
def tBM (K : PySem.W.Frag) (T : String) (r : V → List V → Hp → VK → Prop) (to : TE) (t : TA) : TE := fun σ H Q => to σ H fun x H1 => tyV K T x H1 ∧ t σ H1 fun xs H2 => r x xs H2 Q
variable {o e : Expr} {es : List Expr} {to : TE} {t : TA} {name : Str} {apos cpos : Pos} {T id : String} {r : V → List V → Hp → VK → Prop}
theorem pe_bm0 (pa : PlainAttrs T) (slot : Slot T name id) (hty : typeOf (.builtin id) = pure (.type "method_descriptor")) (hm : MtR X id r) (ho : PE X o to)
    (hbase : attributeBase o name X.env (eval o X.env) = eval o X.env := by rfl) (hline : (apos.endLine == cpos.line) = true := by rfl) : PE X (.Call (.Attribute o name apos) [] [] cpos) (tBM0 X.K T r to) := by
  intro pins s σ H Q I h
  refine wpAny_Call_method0_late hbase hline (thn (ho pins s σ H _ I h) fun v s1 ⟨x, H1, I1, r1, ty, q1⟩ => ?_)
  obtain ⟨h1, h2⟩ := tyV_is I1 r1 ty
  exact ⟨T, id, pa, slot, hty, h1, h2, Calls.callWith_builtin rfl (PySem.evalArgs_none (hm pins s1 σ H1 x [] v [] Q I1 r1 .nil q1))⟩
theorem pe_bm (pa : PlainAttrs T) (slot : Slot T name id) (hty : typeOf (.builtin id) = pure (.type "method_descriptor")) (hm : MtR X id r) (ho : PE X o to) (ha : PA X (e :: es) t)
    (hbase : attributeBase o name X.env (eval o X.env) = eval o X.env := by rfl)
    (hfew : ((backTo cpos (starEach (e :: es) X.env)).all (fun x => !x.1) && (backToKw cpos (keywordEach [] X.env)).all (fun x => x.1.isSome)
      && decide ((e :: es).length + ([] : List Keyword).length + (if ([] : List Keyword).isEmpty then 0 else 1) < 30)) = true := by rfl)
    (hline : (apos.endLine == cpos.line) = true := by rfl) (hs : starEach (e :: es) X.env = (false, eval e X.env) :: starEach es X.env := by rfl) (hplain : (backTo cpos (starEach es X.env)).any (·.1) = false := by rfl) :
    PE X (.Call (.Attribute o name apos) (e :: es) [] cpos) (tBM X.K T r to t) := by
  intro pins s σ H Q I h
  refine wpAny_Call_method_late hbase hfew hline rfl (thn (ho pins s σ H _ I h) fun v s1 ⟨x, H1, I1, r1, ty, q1⟩ => ?_)
  obtain ⟨h1, h2⟩ := tyV_is I1 r1 ty
  refine ⟨T, id, pa, slot, hty, h1, h2, ?_⟩
  have hA := ha cpos pins s1 σ H1 _ I1 q1
  rw [hs] at hA ⊢
  refine Calls.callWith_builtin (by show (false || (backTo cpos (starEach es X.env)).any (·.1)) = false; rw [hplain] <;> rfl) (Calls.evalArgs_plain ?_)
  exact thn hA fun us s2 ⟨vs, H2, I2, r2, q2⟩ => hm pins s2 σ H2 x vs v us Q I2 r1 r2 q2
/- xs.append(e), list.index on a module's tuple .. are MtR facts of 06m -/
end
end L2
namespace L2
open PySem PySem.Spec PyProof.Rows
def MtM (X : Cx) (id : String) (r : V → List V → Hp → VK → Prop) : Prop :=
  ∀ (pins : List (Addr × Obj)) (s : Shared) (σ : St) (H : Hp) (x : V) (xs : List V) (v : Value) (us : List Value) (Q : VK), Inv X pins σ H s → RelV x v → Vals xs us → r x xs H Q →
    wpAny (model X.prog X.w) X.A (call (.builtin id) (v :: us)) (EP X pins σ Q) X.xe s
theorem Vals.one : ∀ {x : V} {us : List Value}, Vals [x] us → ∃ u, us = [u] ∧ RelV x u
  | _, _, .cons r .nil => ⟨_, rfl, r⟩
theorem Vals.zero : ∀ {us : List Value}, Vals [] us → us = []
  | _, .nil => rfl
theorem Vals.dropLast {xs : List V} {us : List Value} (h : Vals xs us) : Vals xs.dropLast us.dropLast := by
  induction h with
  | nil => exact .nil
  | cons r t ih =>
    cases t with
    | nil => exact .nil
    | cons q t' => exact .cons r ih
theorem Vals.rep {xs : List V} {us : List Value} (h : Vals xs us) : ∀ k : Nat, Vals (List.replicate k xs).flatten (List.replicate k us).flatten
  | 0 => .nil
  | k + 1 => by
    rw [List.replicate_succ, List.replicate_succ, List.flatten_cons, List.flatten_cons]
    exact Vals.append h (Vals.rep h k)
theorem erase_last {α : Type} (l : List α) : l.eraseIdx (l.length - 1) = l.dropLast := by
  induction l with
  | nil => rfl
  | cons a r ih =>
    cases r with
    | nil => rfl
    | cons b r =>
      have e : (a :: b :: r).length - 1 = ((b :: r).length - 1) + 1 := by
        have h1 : (a :: b :: r).length = r.length + 2 := rfl
        have h2 : (b :: r).length = r.length + 1 := rfl
        omega
      rw [e, List.eraseIdx_cons_succ, ih]
      all_goals rfl
theorem foldl_rep (its : List Value) : ∀ (k : Nat) (acc : List Value),
    List.foldl (fun x1 x2 => x1 ++ x2) acc.toArray (List.replicate k its.toArray) = (acc ++ (List.replicate k its).flatten).toArray
  | 0, acc => by simp
  | k + 1, acc => by
    have e : acc.toArray ++ its.toArray = (acc ++ its).toArray := by simp
    have e2 : (acc ++ its) ++ (List.replicate k its).flatten = acc ++ (List.replicate (k + 1) its).flatten := by
      rw [List.replicate_succ, List.flatten_cons, List.append_assoc]
    rw [← e2, ← foldl_rep its k (acc ++ its), ← e, List.replicate_succ, List.foldl_cons]
section
variable {X : Cx} {pins : List (Addr × Obj)} {σ : St} {H : Hp} {s : Shared} {l b : Addr} {xs ys zs : List V}
theorem Inv.lset {its its' : List Value} {n : Nat} {f : Array Value → Array Value} {t' : Nat} (I : Inv X pins σ H s) (hH : H l = some (.lst xs))
    (e : s.heap.get? l = some { cls := .type "list", data := .seq its.toArray n }) (hf : f its.toArray = its'.toArray) (hv : Vals ys its') (hz : ys.length ≤ sizeLine) :
    Inv X pins σ (upd H l (.lst ys)) { s with heap := s.heap.update l (Obj.mapSeq f), toks := t' } := by
  have q := PySem.IsL.update e f
  rw [hf] at q
  refine I.write (x := l) (e := l) (by rw [hH]; exact trivial) (.inl rfl) (fun b' u hb hu => (Heap.get?_update_other s.heap (Obj.mapSeq f) (Ne.symm hb)).trans hu) ⟨_, q⟩ ?_
  exact ⟨hz, its', _, hv, q⟩
theorem Inv.lnew {its : List Value} {t' : Nat} (I : Inv X pins σ H s) (hv : Vals ys its) (hz : ys.length ≤ sizeLine) :
    Inv X pins σ (upd H s.heap.objs.size (.lst ys)) { s with heap := s.heap.push { cls := .type "list", data := .seq its.toArray }, toks := t' } :=
  I.laid (fun _ _ q => Heap.get?_push_of_some _ q) (Nat.le_refl _) ⟨hz, its, 0, hv, Heap.get?_push_size _ rfl⟩
theorem Inv.fresh (I : Inv X pins σ H s) : H s.heap.objs.size = none := I.hok.fresh (Nat.le_refl _)
theorem Inv.lstM (I : Inv X pins σ H s) (hH : H l = some (.lst xs)) : xs.length ≤ sizeLine ∧ ∃ (its : List Value) (n : Nat), Vals xs its ∧ xs.length = its.length ∧ s.heap.get? l = some { cls := .type "list", data := .seq its.toArray n } := by
  obtain ⟨z, its, n, r, e⟩ := I.hok l _ hH
  exact ⟨z, its, n, r, r.length, e⟩
end
section
variable {X : Cx}
def rAppend : V → List V → Hp → VK → Prop := fun x vs H Q => ∃ l xs y, x = .ref l ∧ vs = [y] ∧ H l = some (.lst xs) ∧ xs.length < sizeLine ∧ Q .non (upd H l (.lst (xs ++ [y])))
theorem mt_append : MtM X "list.append" rAppend := by
  intro pins s σ H x vs v us Q I rx rv h
  obtain ⟨l, xs, y, rfl, rfl, hH, hz, q⟩ := h
  cases rx
  obtain ⟨u, rfl, ru⟩ := rv.one
  obtain ⟨z, its, n, r, hl, e⟩ := I.lstM hH
  refine call_meets F.slot_list_append ⟨_, e, rfl⟩ F.entry_list_append (F.args_list_append_2 _ _) (PySem.list_append l its.toArray n u (by rw [List.size_toArray]; omega)) ⟨e, ?_⟩
  refine ⟨.non, _, I.lset (its' := its ++ [u]) hH e (by simp) (r.append (.cons ru .nil)) ?_, rfl, q⟩
  rw [List.length_append, List.length_singleton]
  omega
def rPop : V → List V → Hp → VK → Prop := fun x vs H Q => ∃ l xs y, x = .ref l ∧ vs = [] ∧ H l = some (.lst xs) ∧ xs[xs.length - 1]? = some y ∧ Q y (upd H l (.lst xs.dropLast))
theorem mt_pop : MtM X "list.pop" rPop := by
  intro pins s σ H x vs v us Q I rx rv h
  obtain ⟨l, xs, y, rfl, rfl, hH, hy, q⟩ := h
  cases rx
  have hus := rv.zero
  subst hus
  obtain ⟨z, its, n, r, hl, e⟩ := I.lstM hH
  obtain ⟨u, hu, ru⟩ := r.get hy
  have hy' : its.toArray[its.toArray.size - 1]? = some u := by
    show its.toArray[its.length - 1]? = some u
    rw [← Array.getElem?_toList, ← hl]
    exact hu
  refine call_meets F.slot_list_pop ⟨_, e, rfl⟩ F.entry_list_pop (F.args_list_pop_1 _) (MeetsSeq.list_pop_last l its.toArray n u hy' (by rw [List.size_toArray]; omega)) ⟨e, ?_⟩
  refine ⟨y, _, I.lset (its' := its.dropLast) hH e ?_ r.dropLast ?_, ru, q⟩
  · show its.toArray.eraseIdxIfInBounds (its.toArray.size - 1) = its.dropLast.toArray
    rw [List.size_toArray, List.eraseIdxIfInBounds_toArray, erase_last]
  · rw [List.length_dropLast]
    omega
def rCat : R2 := fun x y H Q => ∃ l b xs zs, x = .ref l ∧ y = .ref b ∧ H l = some (.lst xs) ∧ H b = some (.lst zs) ∧ xs.length + zs.length ≤ sizeLine ∧ ∀ p, H p = none → Q (.ref p) (upd H p (.lst (xs ++ zs)))
theorem op_cat : OpR X (binaryOp .Add) rCat := by
  intro pins s σ H x y v u Q I rx ry h
  obtain ⟨l, b, xs, zs, rfl, rfl, hH, hB, hz, q⟩ := h
  cases rx
  cases ry
  obtain ⟨z, its, n, r, hl, e⟩ := I.lstM hH
  obtain ⟨z2, its2, n2, r2, hl2, e2⟩ := I.lstM hB
  refine PySem.P.add_list e e2 ?_ (by rw [List.size_toArray, List.size_toArray]; omega)
  have ea : its.toArray ++ its2.toArray = (its ++ its2).toArray := by simp
  rw [ea]
  exact ⟨.ref _, _, I.lnew (t' := s.toks) (r.append r2) (by rw [List.length_append]; omega), rfl, q _ I.fresh⟩
theorem len_rep {α : Type} (xs : List α) (k : Nat) : (List.replicate k xs).flatten.length = k * xs.length := by
  induction k with
  | zero => simp
  | succ k ih => rw [List.replicate_succ, List.flatten_cons, List.length_append, ih, Nat.succ_mul, Nat.add_comm]
end
section
variable {prog : Program} {w : World} {A : Around} {E : Value → Shared → Prop} {s : Shared}
set_option maxRecDepth 100000 in
end
section
variable {X : Cx}
end
end L2
namespace Att
open PySem PySem.W PySem.Calls PyProof.Rows
theorem ints_of_wellAll {P : Params} {h : Heap} : ∀ (ns : List Int) (vs : List Value), WellAll P h vs (ns.map WData.int) → IntsAre vs ns := by
  intro ns
  induction ns with
  | nil =>
    intro vs w
    rw [List.map_nil] at w
    cases w
    exact .nil
  | cons n ns ih =>
    intro vs w
    rw [List.map_cons] at w
    cases w with
    | cons a b =>
      cases a
      exact .cons _ _ (ih _ b)
theorem script_of {l : OpenLaw} {n : Nat} (hn : l.most = some n) {P : Params} {h : Heap} {args : List WData} {vals : List Value}
    (hpre : l.row.toRowW.claim.pre args = true) (hwl : WellAll P h vals args) :
    ∃ a vs ns, vals = [Value.ref a] ∧ args = [WData.list (ns.map WData.int)] ∧ h.get? a = some { cls := .type "list", data := .seq vs.toArray } ∧ IntsAre vs ns ∧ ns.length ≤ n := by
  have hsh : WShape.hasAll [] args [.list .int] = true := (pre_splitW hpre).1
  have hc : l.pre.holds [] { args := args } = true := (pre_splitW hpre).2
  obtain ⟨d, r, rfl, h1, h2⟩ := hasAllW_cons hsh
  obtain rfl := hasAllW_nil h2
  obtain ⟨xs, rfl, h3⟩ := hasW_list h1
  obtain ⟨ns, rfl⟩ := items_int h3
  have hlen : ns.length ≤ n := by
    unfold OpenLaw.pre at hc
    have h4 : (WTm.not (.lt (.lit (.int (n : Int))) (.len (.arg 0)))).holds [] { args := [.list (ns.map .int)] } = true := by
      have h4 := (holds_andW hc).1
      rw [hn] at h4
      exact h4
    have h5 := condW_of h4 (w_not (w_lt w_lit (w_len_list (w_arg rfl))))
    rw [List.length_map] at h5
    refine Nat.le_of_not_lt fun q => ?_
    have q' : (n : Int) < ((ns.length : Nat) : Int) := by omega
    first
      | (rw [decide_eq_true q'] at h5; exact absurd h5 (by decide))
      | (simp at h5; omega)
  cases hwl with
  | cons w1 w2 =>
    cases w2
    cases w1 with
    | list ho hall => exact ⟨_, _, ns, rfl, rfl, ho, ints_of_wellAll ns _ hall, hlen⟩
theorem post_true (l : OpenLaw) (args : List WData) : l.row.toRowW.claim.post args (.bool true) args = true :=
  postW_of (r := l.row.toRowW) (X := (true == true))
    (show WShape.has [] (.bool true) .bool = true by first | rfl | decide | simp [WShape.has, WShape.arms, WShape.armsAll])
    (show (WTm.eq .res (.lit (.bool true))).value [] { args := args, res := some (.bool true), after := args } = some (.bool (true == true)) from w_eq_bool (w_res rfl) w_lit) rfl
theorem attach_call {l : OpenLaw} {n : Nat} {q : Program} {loose : List Str} {XP : (Str → Option Value) → Heap → Prop} {YP : World → Heap → Prop} {d : DefRec}
    (hn : l.most = some n) (hdf : d.params.defaults = [])
    (call : ∀ (w : World) (s₀ s₁ : Shared) (mg mb : Str → Option Value) (fa : Addr) (o : Obj) (pm cd doc : Value) (a : Addr) (vs : List Value) (ns : List Int),
      Ground q loose [] XP w s₀ mg mb s₁.heap → YP w s₁.heap →
      s₁.heap.get? fa = some o → o.data = .func (docDef d.name d.params d.body d.scope pm cd doc) → s₁.heap.CodeRec cd d.name → mg d.name = some (.ref fa) →
      s₁.heap.get? a = some { cls := .type "list", data := .seq vs.toArray } → IntsAre vs ns → ns.length ≤ n → s₁.gens = #[] →
      codeAny (model l.prog w) callerA (.call (.ref fa) ⟨[.ref a], []⟩) (fun r s' => r = .ok (.ret (.bool true)) ∧ OldK s₁.heap s'.heap ∧ s'.os = s₁.os ∧ AllBare s'.gens) s₁) :
    WalkO q loose XP YP l.row.toRowW d [] (fun f vs => PySem.call f vs) := by
  intro w s₀ s₁ mg mb G Y fa o pm cd doc dV kV ho hd hcd hD hmg hg args vals as hpre hlay hrd hwl hlo
  obtain rfl : dV = .none := Dflts.none hD hdf
  obtain rfl : kV = .none := Dflts.noKw hD
  obtain ⟨a, vs, ns, rfl, rfl, hobj, hints, hlen⟩ := script_of hn hpre hwl
  refine enter_call (codeAny_mono (call w s₀ s₁ mg mb fa o pm cd doc a vs ns G Y ho (fd_plain hd) hcd hmg hobj hints hlen hg) fun r s' hq => ?_)
  obtain ⟨rfl, h2, h3, h4⟩ := hq
  exact ⟨.inl ⟨.bool true, .bool true, [], rfl, fun _ => rfl, .bool true, post_true l _, fun _ => ⟨List.Pairwise.nil, fun _ hm => (nomatch hm)⟩⟩, h2, h3, h4⟩
section
variable {prog : Program} {w : World} {A : Around} {E : Value → Shared → Prop} {s : Shared} {K : Frag}
end
end Att
namespace L2
open PySem PySem.Spec PyProof.Rows
theorem vals_ints : ∀ {vs : List Value} {ns : List Int}, IntsAre vs ns → Vals (ns.map V.int) vs
  | _, _, .nil => .nil
  | _, _, .cons n t h => .cons ⟨t, rfl⟩ (vals_ints h)
def Only (H : Hp) : Prop := ∀ b, H b = none ∨ ∃ o xs, H b = some (.frz o (.lst xs))
theorem law_call {P : Program} {w : World} {K : PySem.W.Frag} {mg mb : Str → Option Value} {CX : CXT} {k : Nat} {fa a : Addr} {fd : FuncData} {x : Str} {sp : Sp} {s₁ : Shared} {vs : List Value} {ns : List Int}
    (KX : K.In s₁.heap) (hns : s₁.heap.Ns mainGlobals mg) (hb : s₁.heap.Ns builtinsNs mb) (hbb : ∀ x : Str, x ≠ "__name__" → mb x = bootBuiltins x) (hlim : s₁.heap.NoLimit) (hg : s₁.gens = #[])
    (ha : s₁.heap.get? a = some { cls := .type "list", data := .seq vs.toArray }) (hi : IntsAre vs ns) (hl : ns.length ≤ sizeLine) (hr : Room k callerA)
    (F : ∀ base : Heap, K.In base → base.Ns mainGlobals mg → FnOk P w K mg base CX k fa fd [x] sp) (hbind : ∀ (s : Shared) (u : Value), BindsTo s fd ⟨[u], []⟩ [(x, u)])
    (hsp : ∀ H : Hp, Only H → SqL K H a (ns.map V.int) → sp [.ref a] H (fun v _ => v = .bl true) fun _ _ _ => False)
    (hCX : ∀ H e s', CX [] H s₁ (fun _ _ _ => False) e s' → False) :
    codeAny (model P w) callerA (.call (.ref fa) ⟨[.ref a], []⟩) (fun r s' => r = .ok (.ret (.bool true)) ∧ OldK s₁.heap s'.heap ∧ s'.os = s₁.os ∧ AllBare s'.gens) s₁ := by
  have rv := vals_ints hi
  have lenV := hi.length
  have core : ∀ H : Hp, Only H → SqL K H a (ns.map V.int) → HOk P w H s₁.heap → (∀ b, H b ≠ none → b = a) → (H a ≠ none → K.lookup a = none) →
      codeAny (model P w) callerA (.call (.ref fa) ⟨[.ref a], []⟩) (fun r s' => r = .ok (.ret (.bool true)) ∧ OldK s₁.heap s'.heap ∧ s'.os = s₁.os ∧ AllBare s'.gens) s₁ := by
    intro H hO hS hok hA hK
    have base_of : ∀ {b : Addr} {o : Obj}, s₁.heap.get? b = some o → H b = none → (hidT s₁.heap H).get? b = some o := fun e n => hidT_get e n
    have noA : ∀ {b : Addr} {o : Obj} {es : Array DictEntry} {ep : Nat}, s₁.heap.get? b = some o → o.data = .dict es ep → H b = none := fun {b o es ep} e d => by
      cases q : H b with
      | none => rfl
      | some u =>
        have e' : b = a := hA b (by rw [q]; simp)
        subst e'
        rw [ha] at e; cases e
        have d' : Data.seq vs.toArray _ = Data.dict es ep := d
        cases d'
    have nsK : ∀ {b : Addr} {m : Str → Option Value}, s₁.heap.Ns b m → (hidT s₁.heap H).Ns b m := fun {b m} ⟨o, es, ep, e, d, r⟩ => ⟨o, es, ep, base_of e (noA e d), d, r⟩
    have hKb : K.In (hidT s₁.heap H) := fun b o e => base_of (KX b o e) (by
      cases q : H b with
      | none => rfl
      | some u =>
        have e' : b = a := hA b (by rw [q]; simp)
        subst e'
        rw [hK (by rw [q]; simp)] at e; cases e)
    have hM : Mod K mg (hidT s₁.heap H) := ⟨hKb, nsK hns, ⟨mb, nsK hb, hbb⟩, let ⟨mc, h1, h2⟩ := hlim; ⟨mc, nsK h1, h2⟩⟩
    have e0 : Env0 P w K mg (hidT s₁.heap H) callerA [] s₁ H := ⟨rfl, hM, fun b o e => of_hidT e, Nat.le_of_eq (hidT_size _ _), trivial, fun b hb => absurd (show b ∈ ([] : List Addr) from hb) (by simp), hok, .of_eq hg⟩
    refine codeAny_mono ((F _ hKb (nsK hns)).run callerA [] s₁ H ⟨[.ref a], []⟩ [.ref a] [.ref a] _ _ hr e0 (hbind s₁ (.ref a)) (.cons rfl .nil) (hsp H hO hS)) fun r s' h => ?_
    cases r with
    | error e => exact (hCX H e s' h).elim
    | ok fl =>
      cases fl with
      | next => exact False.elim h
      | brk => exact False.elim h
      | cont => exact False.elim h
      | ret u =>
        obtain ⟨v, H', os, bare, un, hok', r', q⟩ := h
        have q' : v = .bl true := q
        subst q'
        obtain rfl : u = Value.bool true := r'
        refine ⟨rfl, OldK.of_keep fun b o e => ?_, os, bare⟩
        cases q : H b with
        | none => exact un.keep b o e q (by intro z; exact absurd (show b ∈ ([] : List Addr) from z) (by simp)) (by simp)
        | some u =>
          rcases hO b with z | ⟨ob, xs, z⟩
          · rw [q] at z; cases z
          · have z2 := un.frzs b ob _ z
            obtain ⟨e1, _⟩ := hok b _ z
            obtain ⟨e2, _⟩ := hok' b _ z2
            rw [e] at e1; cases e1
            exact e2
  cases hk : K.lookup a with
  | some o =>
    have e := KX a o hk
    rw [ha] at e
    cases e
    refine core (fun _ => none) (fun _ => .inl rfl) (.inr ⟨_, vs.toArray, _, hk, rfl, rfl, rfl, by rw [List.size_toArray, lenV]; exact hl, by simpa using rv⟩) (fun b u z => by have z' : (none : Option HO) = some u := z; cases z') (fun b z => absurd rfl z) fun z => absurd rfl z
  | none =>
    refine core (fun b => if b = a then some (.frz { cls := .type "list", data := .seq vs.toArray } (.lst (ns.map V.int))) else none) (fun b => ?_) (.inl (.inr ⟨{ cls := .type "list", data := .seq vs.toArray }, if_pos rfl⟩)) (fun b u z => ?_) (fun b z => ?_) fun _ => hk
    · by_cases hb : b = a
      · exact .inr ⟨_, _, if_pos hb⟩
      · exact .inl (if_neg hb)
    · by_cases hb : b = a
      · have z' := (if_pos hb).symm.trans z
        cases z'
        subst hb
        exact ⟨ha, by rw [List.length_map]; exact hl, vs, _, rv, ha⟩
      · have z' := (if_neg hb).symm.trans z
        cases z'
    · by_cases hb : b = a
      · exact hb
      · exact absurd (if_neg hb) z
end L2
namespace L2
open PySem PySem.Spec PyProof.Rows
theorem walk_of {l : PySem.W.OpenLaw} {n k : Nat} {q : Program} {loose : List Str} {XP : (Str → Option Value) → Heap → Prop} {YP : World → Heap → Prop} {d : DefRec} {K : Params → PySem.W.Frag} {CX : World → CXT} {sp : World → Sp} {x : Str}
    (hn : l.most = some n) (hn2 : n ≤ sizeLine) (hdf : d.params.defaults = []) (hr : Room k callerA)
    (hY : ∀ (w : World) (h : Heap), YP w h → (K w.params).In h)
    (F : ∀ (w : World) (mg : Str → Option Value) (fa : Addr) (h : Heap), (K w.params).In h → h.Ns mainGlobals mg → mg d.name = some (.ref fa) →
      ∃ fd : FuncData, (∀ (s : Shared) (u : Value), BindsTo s fd ⟨[u], []⟩ [(x, u)]) ∧
        ∀ base : Heap, (K w.params).In base → base.Ns mainGlobals mg → FnOk l.prog w (K w.params) mg base (CX w) k fa fd [x] (sp w))
    (hsp : ∀ (w : World) (H : Hp) (a : Addr) (ns : List Int), ns.length ≤ n → Only H → SqL (K w.params) H a (ns.map V.int) → sp w [.ref a] H (fun v _ => v = .bl true) fun _ _ _ => False)
    (hCX : ∀ (w : World) (H : Hp) (s : Shared) (e : Value) (s' : Shared), CX w [] H s (fun _ _ _ => False) e s' → False) :
    PySem.W.WalkO q loose XP YP l.row.toRowW d [] (fun f vs => PySem.call f vs) := by
  refine Att.attach_call hn hdf fun w s₀ s₁ mg mb fa o pm cd doc a vs ns G Y ho hd hcd hmg hobj hints hlen hg => ?_
  have KX := hY w _ Y
  obtain ⟨fd, hb, hF⟩ := F w mg fa _ KX G.T.g hmg
  exact law_call KX G.T.g G.T.b G.T.builtins G.T.nolimit hg hobj hints (Nat.le_trans hlen hn2) hr hF hb (fun H hO hS => hsp w H a ns hlen hO hS) fun H e s' => hCX w H s₁ e s'
end L2
/- THE LAST THEOREM (shape; LID, My.* are yours):
   My.Adr: a structure of the addresses that your layer names (classes, functions); My.Txt K t: a structure (Prop) of the equations over K;
   My.txt_mk : {K} {implicit addresses ..} (e1 : nsIn K mainGlobals "law" = some (some (.ref f))) (e2 : K.lookup f = some ⟨oc, od, .func (fnOf "law" "law" params body scope dV kV doc pm an cdv ct), sl⟩) (e3 : codeIn K cdv "law" = true) .. : ∃ t, My.Txt K t
set_option maxRecDepth 100000 in
set_option maxHeartbeats 0 in
theorem PySem.Challenge.cw_LID_holds : PySem.Challenge.rw_LID.Holds := by
  w_on; o_law; k_head; (case hw => w_witness2)
  k_fill
  refine L2.walk_of (l := PySem.Challenge.rw_LID) (n := 63) (k := 40) (x := "script") (CX := fun w => ..) (sp := fun _ => My.sp_law) rfl (by decide) rfl ⟨rfl, by decide, by decide⟩ (fun w h Y => PySem.W.kIn_of Y) ?F ?S ?C
  case F =>
    intro w mg fa h KX G hmg
    have T : ∃ t, My.Txt (L2.KOf KX) t := by
      dsimp only [L2.KOf]                          -- K must stand as «<heap const> w.params» for k_is
      refine' My.txt_mk ?e1 ?e2 ?e3 ..
      (case e1 => PySem.W.k_is)                    -- in the order: a name -> its address -> its object -> its parts
      (case e2 => PySem.W.k_is)
      ..
    obtain ⟨t, T⟩ := T
    have e0 := hmg.symm.trans (PySem.W.mg_of KX G T.law)
    cases e0                                       -- fa is the law's own address
    exact ⟨_, fun s u => .of_eq rfl, fun base kb nb => My.law_fn T kb nb⟩     -- if «.of_eq rfl» comes too early: refine' ⟨_, ?b, fun base kb nb => My.law_fn T kb nb⟩; exact fun s u => .of_eq rfl
  case S => exact fun w H a ns hl hO hS => ..
  case C => exact ..
(the tactic k_is has no namespace: write k_is) -/
namespace L2
open PySem PySem.Spec PyProof.Rows
def defArgs (s : Stmt) : Arguments := match s with
  | .FunctionDef _ a _ _ _ _ _ _ _ _ => a
  | _ => { posonlyargs := [], args := [], vararg := none, kwonlyargs := [], kw_defaults := [], kwarg := none, defaults := [] }
def defBody (s : Stmt) : List Stmt := match s with
  | .FunctionDef _ _ b _ _ _ _ _ _ _ => b
  | _ => []
def defScope (s : Stmt) : Scope := match s with
  | .FunctionDef _ _ _ _ _ _ sc _ _ _ => sc
  | _ => { kind := .function, names := [], isGenerator := false, isCoroutine := false }
abbrev CX0 : CXT := fun _ _ _ _ _ _ => False
abbrev E0 : XK := fun _ _ _ => False
theorem pass0 {X : Cx} : Passes CX0 X E0 := fun _ _ _ _ _ _ _ h => h.elim
structure Fun (K : PySem.W.Frag) (x qual : Str) (st : Stmt) (f : Addr) (fd : FuncData) : Prop where
  ex : ∃ (oc : Value) (od : Option Addr) (kV doc pm : Value) (an : Option Addr) (cdv ct : Value) (osl : Array (Option Value)),
    fd = PySem.W.fnOf x qual (defArgs st) (defBody st) (defScope st) .none kV doc pm an cdv ct ∧ K.lookup f = some ⟨oc, od, .func fd, osl⟩ ∧ PySem.W.codeIn K cdv qual = true
  kp : PySem.W.keepIn K (.ref f) = true
section
variable {P : Program} {w : World} {K : PySem.W.Frag} {mg : Str → Option Value} {base : Heap}
theorem Fun.ok {x qual : Str} {st : Stmt} {f : Addr} {fd : FuncData} {N ps : List Str} {k : Nat} {sp : Sp} (F : Fun K x qual st f fd) (S : FnScope N ps (defScope st)) (len : ∀ vs H Q E, sp vs H Q E → vs.length = ps.length)
    (hbody : ∀ (cdv : Value) (A : Around) (outer : List Env) (s : Shared) (H : Hp) (vs : List V) (Q : VK) (E : XK), Room k (A.deeper (envOfC qual (defScope st) s.heap.objs.size f cdv)) → sp vs H Q E →
      ∃ t, PSs (cxOf CX0 P w K mg base N qual (defScope st) f cdv A outer s H E).nox (defBody st) t ∧ t { nx := fun _ H' => Q .non H', rt := Q } (start N vs) H) : FnOk P w K mg base CX0 (k + 1) f fd ps sp := by
  obtain ⟨oc, od, kV, doc, pm, an, cdv, ct, osl, rfl, lk, hcd⟩ := F.ex
  refine fn_of lk hcd S len fun A outer s H vs Q E hr hsp => ?_
  obtain ⟨t, h, q⟩ := hbody cdv A outer s H vs Q E hr hsp
  exact ⟨t, h.nox, q⟩
theorem Fun.binds {x qual : Str} {st : Stmt} {f : Addr} {fd : FuncData} {ps : List Str} (F : Fun K x qual st f fd)
    (h : ∀ (kV doc pm : Value) (an : Option Addr) (cdv ct : Value) (us : List Value), us.length = ps.length → bindArgs (PySem.W.fnOf x qual (defArgs st) (defBody st) (defScope st) .none kV doc pm an cdv ct) ⟨us, []⟩ = pure (ps.zip us)) : Binds K fd ps [] := by
  obtain ⟨oc, od, kV, doc, pm, an, cdv, ct, osl, rfl, lk, hcd⟩ := F.ex
  exact .all (h kV doc pm an cdv ct)
theorem fun_mk {x qual : Str} {st : Stmt} {f : Addr} {oc : Value} {od an : Option Addr} {osl : Array (Option Value)} {kV doc pm cdv ct : Value} (l : K.lookup f = some ⟨oc, od, .func (PySem.W.fnOf x qual (defArgs st) (defBody st) (defScope st) .none kV doc pm an cdv ct), osl⟩)
    (c : PySem.W.codeIn K cdv qual = true) (k : PySem.W.keepIn K (.ref f) = true) : Fun K x qual st f (PySem.W.fnOf x qual (defArgs st) (defBody st) (defScope st) .none kV doc pm an cdv ct) := ⟨⟨oc, od, kV, doc, pm, an, cdv, ct, osl, rfl, l, c⟩, k⟩
end
theorem hu_of {A : Around} {k : Nat} (hr : Room k A) : A.units + 1 < cLine := Nat.lt_of_le_of_lt (Nat.add_le_add_left (by decide : 1 ≤ 64) _) hr.units
section
variable {X : Cx}
theorem pv (i : Nat) {x : Str} {pos : Pos} (hN : X.N[i]? = some x := by rfl) (hv : Vis X.env.scope x := by first | exact Or.inl rfl | exact Or.inr (Or.inl rfl) | exact Or.inr (Or.inr rfl)) (hd : (x == ("__debug__" : Str)) = false := by decide)
    (hcd : (x == ("__classdict__" : Str)) = false := by decide) : PE X (.Name x pos) (tVar i) := pe_var hN hv hd hcd
end
theorem iteF {A B : Prop} (h : B) : if false = true then A else B := by
  rw [if_neg Bool.false_ne_true]
  exact h
theorem iteT {A B : Prop} (h : A) : if true = true then A else B := by
  rw [if_pos rfl]
  exact h
def Same (H H' : Hp) : Prop := ∀ b o, H b = some o → H' b = some o
theorem Same.refl (H : Hp) : Same H H := fun _ _ h => h
theorem Same.trans {H H1 H2 : Hp} (a : Same H H1) (b : Same H1 H2) : Same H H2 := fun c o h => b c o (a c o h)
end L2
end
section
set_option Elab.async false
set_option linter.all false
set_option maxRecDepth 100000
set_option maxHeartbeats 4000000
namespace L2
open PySem PySem.Spec PyProof.Rows
section
variable {prog : Program} {w : World} {A : Around} {R : Result → Shared → Prop} {s : Shared}
theorem compLoop_own {elt target iter : Expr} {ifs : List Expr} {scope : Scope} {pos : Pos} {it acc : Value} {env : Env} (I : Nat → Shared → Prop)
    (turn : ∀ n s, I n s → wpAny (model prog w) A (pyNext it) (fun r s₁ => match r with
      | none => R (.ok .next) s₁
      | some v => wpAny (model prog w) A (letOwnedTupleGo target it v) (fun _ s₁ => wpAny (model prog w) A (assign target env v) (fun _ s₂ =>
          wpAny (model prog w) A (forIn ifs true fun c r => if r = true then do let ok ← isTrue c env (eval c env); pure (ForInStep.yield ok) else pure (ForInStep.yield r)) (fun ok s₃ =>
            if ok = true then wpAny (model prog w) A (eval elt env) (fun x s₄ =>
              wpAny (model prog w) A (call (.builtin "list.append") [acc, x]) (fun _ s₅ => ∃ m, m < n ∧ I m s₅) (fun _ _ => False) s₄) (fun _ _ => False) s₃
            else ∃ m, m < n ∧ I m s₃) (fun _ _ => False) s₂) (fun _ _ => False) s₁) (fun _ _ => False) s₁) (fun _ _ => False) s)
    (n : Nat) (h : I n s) :
    codeAny (model prog w) A (.compLoop (.ListComp elt [⟨target, iter, ifs, 0⟩] scope pos) 0 it acc env) R s := by
  refine codeAny_loop rfl I (fun n s hI => ?_) n h
  show wpAny _ A ((compTurn (.ListComp elt [⟨target, iter, ifs, 0⟩] scope pos) 0 it acc env).onRaise (fun x => do noteFrame x env; theTreesLotGoes x)) _ _ s
  refine wpAny_noted ?_
  rw [compTurn_list]
  refine wpAny_bind (wpAny_standAt (wpAny_bind (wpAny_mono (turn n s hI) (fun r s₁ h₁ => ?_) fun _ _ h' => h'.elim)))
  cases r with
  | none => exact wpAny_pure h₁
  | some v =>
    refine wpAny_bind (wpAny_mono h₁ (fun _ s₁' h₁' => ?_) fun _ _ h' => h'.elim)
    refine wpAny_bind (wpAny_mono h₁' (fun _ s₂ h₂ => wpAny_bind (wpAny_mono h₂ (fun ok s₃ h₃ => ?_) fun _ _ h' => h'.elim)) fun _ _ h' => h'.elim)
    cases ok with
    | false => exact wpAny_pure ⟨rfl, h₃⟩
    | true =>
      exact wpAny_bind (wpAny_bind (wpAny_mono h₃ (fun x s₄ h₄ => wpAny_bind (wpAny_mono h₄ (fun _ s₅ h₅ => wpAny_pure (wpAny_pure ⟨rfl, h₅⟩)) fun _ _ h' => h'.elim)) fun _ _ h' => h'.elim))
end
theorem closure_go {env : Env} {f : Str × NameKind → List (Str × Addr) → Sem (ForInStep (List (Str × Addr)))}
    (hf : ∀ n k cs, f (n, k) cs = if (k == NameKind.free) = true then (do let c ← cellOf env n; pure (.yield ((n, c) :: cs))) else pure (.yield cs)) :
    ∀ (names : List (Str × NameKind)) (cs : List (Str × Addr)), (∀ x ∈ names, x.2 = NameKind.free → ∃ c, env.cells.lookup x.1 = some c) → (∀ n c, cs.lookup n = some c → env.cells.lookup n = some c) →
      ∃ cl, (forIn names cs f : Sem (List (Str × Addr))) = pure cl ∧ (∀ n c, cl.lookup n = some c → env.cells.lookup n = some c) ∧ (∀ n, (cs.lookup n).isSome = true → (cl.lookup n).isSome = true) ∧ ∀ x ∈ names, x.2 = NameKind.free → (cl.lookup x.1).isSome = true
  | [], cs, _, h2 => ⟨cs, rfl, h2, fun _ h => h, fun _ h => nomatch h⟩
  | (n, k) :: r, cs, h1, h2 => by
    have h1r : ∀ x ∈ r, x.2 = NameKind.free → ∃ c, env.cells.lookup x.1 = some c := fun x hx => h1 x (List.mem_cons_of_mem _ hx)
    rw [List.forIn_cons, hf]
    by_cases hk : k = NameKind.free
    · subst hk
      obtain ⟨c, hc⟩ := h1 (n, NameKind.free) List.mem_cons_self rfl
      have h2' : ∀ m d, ((n, c) :: cs).lookup m = some d → env.cells.lookup m = some d := fun m d hd => by
        rw [List.lookup_cons] at hd
        cases e : (m == n) with
        | true =>
          rw [e] at hd
          have : m = n := by simpa using e
          rw [this]; cases hd; exact hc
        | false => rw [e] at hd; exact h2 m d hd
      obtain ⟨cl, e1, e2, e3, e4⟩ := closure_go hf r ((n, c) :: cs) h1r h2'
      refine ⟨cl, ?_, e2, fun m hm => e3 m ?_, fun x hx hk => ?_⟩
      · rw [← e1]
        have ec : cellOf env n = pure c := by unfold cellOf; rw [hc]
        rw [ec]
        rfl
      · rw [List.lookup_cons]
        cases e : (m == n) with
        | true => rfl
        | false => exact hm
      · rcases List.mem_cons.mp hx with rfl | hx
        · exact e3 n (by rw [List.lookup_cons, beq_self_eq_true]; rfl)
        · exact e4 x hx hk
    · have hb : (k == NameKind.free) = false := by simpa using hk
      obtain ⟨cl, e1, e2, e3, e4⟩ := closure_go hf r cs h1r h2
      refine ⟨cl, ?_, e2, e3, fun x hx hk' => ?_⟩
      · rw [← e1, hb]
        rfl
      · rcases List.mem_cons.mp hx with rfl | hx
        · exact absurd hk' hk
        · exact e4 x hx hk'
theorem closure_of {scope : Scope} {env : Env} (h1 : ∀ x ∈ scope.names, x.2 = NameKind.free → ∃ c, env.cells.lookup x.1 = some c) :
    ∃ cl, closureFor scope env = pure cl ∧ (∀ n c, cl.lookup n = some c → env.cells.lookup n = some c) ∧ ∀ x ∈ scope.names, x.2 = NameKind.free → (cl.lookup x.1).isSome = true := by
  obtain ⟨cl, e1, e2, _, e4⟩ := closure_go (env := env) (f := fun (x : Str × NameKind) cs => if (x.2 == NameKind.free) = true then (do let c ← cellOf env x.1; pure (.yield ((x.1, c) :: cs))) else pure (.yield cs)) (fun _ _ _ => rfl) scope.names [] h1 (fun _ _ h => nomatch h)
  refine ⟨cl, Eq.trans (show closureFor scope env = ((forIn scope.names ([] : List (Str × Addr)) fun (x : Str × NameKind) cs => if (x.2 == NameKind.free) = true then (do let c ← cellOf env x.1; pure (.yield ((x.1, c) :: cs))) else pure (.yield cs)) >>= fun cs => pure cs) from rfl) ?_, e2, e4⟩
  rw [e1]
  all_goals rfl
theorem lookup_relabel {env : Env} {x : Str} : ∀ (names : List (Str × NameKind)),
    (names.map fun (n, k) => if (k == NameKind.free && env.scope.kind == .function && env.kindOf n == some .cell) then (n, NameKind.cell) else (n, k)).lookup x =
      (names.lookup x).map fun k => if (k == NameKind.free && env.scope.kind == .function && env.kindOf x == some .cell) then NameKind.cell else k
  | [] => rfl
  | (n, k) :: r => by
    have ih := lookup_relabel (env := env) (x := x) r
    show List.lookup x ((if (k == NameKind.free && env.scope.kind == .function && env.kindOf n == some .cell) = true then (n, NameKind.cell) else (n, k)) :: _) = _
    cases hx : x == n with
    | true =>
      have e : x = n := by simpa using hx
      subst e
      by_cases hc : (k == NameKind.free && env.scope.kind == .function && env.kindOf x == some .cell) = true
      · rw [if_pos hc]; simp only [List.lookup_cons, hx, Option.map_some, if_pos hc]
      · rw [if_neg hc]; simp only [List.lookup_cons, hx, Option.map_some, if_neg hc]
    | false =>
      by_cases hc : (k == NameKind.free && env.scope.kind == .function && env.kindOf n == some .cell) = true
      · rw [if_pos hc]; simp only [List.lookup_cons, hx]; exact ih
      · rw [if_neg hc]; simp only [List.lookup_cons, hx]; exact ih
theorem rel_free {scope : Scope} {env : Env} {x : Str} (hcell : ∀ y ∈ scope.names, y.2 ≠ NameKind.cell) (h : (relabel scope env).names.lookup x = some .cell ∨ (relabel scope env).names.lookup x = some .free) : scope.names.lookup x = some .free := by
  have e : (relabel scope env).names.lookup x = _ := lookup_relabel (env := env) (x := x) scope.names
  rw [e] at h
  cases q : scope.names.lookup x with
  | none => rw [q] at h; rcases h with h | h <;> cases h
  | some k =>
    rw [q] at h
    by_cases hk : k = NameKind.free
    · rw [hk]
    · have hb : (k == NameKind.free) = false := by simpa using hk
      simp only [Option.map_some, hb, Bool.false_and, Bool.false_eq_true, if_false] at h
      rcases h with h | h
      · cases h; exact absurd rfl (hcell _ (PySem.mem_of_lookup q))
      · exact h
theorem rel_any {scope : Scope} {env : Env} {x : Str} (h : (relabel scope env).names.lookup x ≠ none) : scope.names.lookup x ≠ none := by
  have e : (relabel scope env).names.lookup x = _ := lookup_relabel (env := env) (x := x) scope.names
  intro q
  rw [e, q] at h
  exact h rfl
structure CompOk (sc : Scope) (N : List Str) (scope : Scope) (NY : List Str) (js : List Nat) : Prop where
  kind : scope.kind = .function
  cell : ∀ y ∈ scope.names, y.2 ≠ NameKind.cell
  names : ∀ x ∈ scope.names, x.2 = NameKind.local → scope.names.lookup x.1 = some .local
  free : ∀ x ∈ scope.names, x.2 = NameKind.free → sc.names.lookup x.1 = some .cell ∨ sc.names.lookup x.1 = some .free
  pre : NY.take N.length = N
  cap : ∀ p ∈ N.zipIdx, js.contains p.2 = true ∨ scope.names.lookup p.1 = none ∨ scope.names.lookup p.1 = some .free
def emS (js : List Nat) (k : Nat) (σ : St) : St := js.foldl (fun s j => s.set j none) σ ++ List.replicate k none
theorem clear_len : ∀ (js : List Nat) (σ : St), (js.foldl (fun s j => s.set j none) σ).length = σ.length
  | [], _ => rfl
  | j :: r, σ => by rw [List.foldl_cons, clear_len r, List.length_set]
theorem clear_get : ∀ (js : List Nat) (σ : St) (i : Nat) (v : V), (js.foldl (fun s j => s.set j none) σ)[i]? = some (some v) → σ[i]? = some (some v) ∧ js.contains i = false
  | [], σ, i, v, h => ⟨h, rfl⟩
  | j :: r, σ, i, v, h => by
    rw [List.foldl_cons] at h
    obtain ⟨h1, h2⟩ := clear_get r _ i v h
    by_cases e : j = i
    · subst e
      by_cases hj : j < σ.length
      · rw [List.getElem?_set_self hj] at h1; cases h1
      · rw [List.getElem?_eq_none (by rw [List.length_set]; omega)] at h1; cases h1
    · rw [List.getElem?_set_ne e] at h1
      refine ⟨h1, ?_⟩
      rw [List.contains_cons, h2]
      have : (i == j) = false := by simpa using fun z => e z.symm
      rw [this]; rfl
theorem emS_get {js : List Nat} {k : Nat} {σ : St} {i : Nat} {v : V} (h : (emS js k σ)[i]? = some (some v)) : σ[i]? = some (some v) ∧ js.contains i = false := by
  unfold emS at h
  by_cases hi : i < σ.length
  · rw [List.getElem?_append_left (by rw [clear_len]; exact hi)] at h
    exact clear_get js σ i v h
  · rw [List.getElem?_append_right (by rw [clear_len]; omega), List.getElem?_replicate] at h
    split at h <;> cases h
theorem emS_len {js : List Nat} {k : Nat} {σ : St} : (emS js k σ).length = σ.length + k := by
  unfold emS
  rw [List.length_append, clear_len, List.length_replicate]
def cxComp (X : Cx) (NY : List Str) (scope : Scope) (cl : List (Str × Addr)) (C : Addr) (s₀ : Shared) (H₀ : Hp) (fp : List Addr) : Cx :=
  { X with N := NY, s₀ := s₀, H₀ := H₀, env := compEnvC scope cl C X.env, outer := X.stack, ex := fp, fn := fun _ => false, pn := [], xe := fun _ _ => False }
def PIfs (X : Cx) (ifs : List Expr) (t : TT) : Prop :=
  ∀ (pins : List (Addr × Obj)) (s : Shared) (σ : St) (H : Hp) (Q : Bool → Hp → Prop), Inv X pins σ H s → t σ H Q →
    wpAny (model X.prog X.w) X.A (forIn ifs true fun c r => if r = true then do let ok ← isTrue c X.env (eval c X.env); pure (ForInStep.yield ok) else pure (ForInStep.yield r)) (TP X pins σ Q) X.xe s
def tYes : TT := fun _ H Q => Q true H
theorem pif_nil {X : Cx} : PIfs X [] tYes := fun _ _ _ H _ I h => wpAny_tests_nil ⟨H, I, h⟩
def sApp (D : Addr) (tc : TT) (te : TE) : TS := fun E σ H => tc σ H fun b H1 => if b = true then te σ H1 fun y H2 => ∃ ys, H2 D = some (.lst ys) ∧ ys.length < sizeLine ∧ E.nx σ (upd H2 D (.lst (ys ++ [y]))) else E.nx σ H1
def tComp (js : List Nat) (k : Nat) (wi : TI) (g : TG) (tc : TT) (te : TE) : TE := fun σ H Q => wi σ H fun J H1 => ∀ D, H1 D = none →
  ∃ W : Nat → Nat → St → Hp → Prop, (∃ m, W 0 m (emS js k σ) (upd H1 D (.lst []))) ∧ ∀ i m σ H, W i m σ H →
    (J.stop i H ∧ Q (.ref D) H) ∨ (J.go i H ∧ ∃ N : St → Hp → Prop, (∀ σ' H', N σ' H' → ∃ m', m' < m ∧ W (i + 1) m' σ' H') ∧ ∀ x H', J.yld i H x H' → g x σ H' fun σ2 H2 => sApp D tc te { nx := N, rt := fun _ _ => False, ct := N, bk := fun _ H' => Q (.ref D) H' } σ2 H2)
section
variable {X : Cx} {pins : List (Addr × Obj)} {σ : St} {H2 : Hp} {s₂ : Shared} {N NY : List Str} {sc scope : Scope} {cl : List (Str × Addr)} {C : Addr} {fp : List Addr} {js : List Nat} {k : Nat}
theorem comp_ok (I2 : Inv X pins σ H2 s₂) (hf : ∀ b ∈ fp, FpOk X pins H2 b) (hfl : ∀ b ∈ fp, ∃ o, s₂.heap.get? b = some o) (hkind : scope.kind = .function) (hcell : ∀ y ∈ scope.names, y.2 ≠ NameKind.cell)
    (hcl1 : ∀ n c, cl.lookup n = some c → X.env.cells.lookup n = some c) (hcl2 : ∀ x ∈ scope.names, x.2 = NameKind.free → (cl.lookup x.1).isSome = true) (hC : s₂.heap.objs.size ≤ C) :
    (cxComp X NY scope cl C s₂ H2 fp).Ok where
  mod := I2.ok.mod
  kind := hkind
  glob := I2.ok.glob
  blt := I2.ok.blt
  above := hC
  inj := fun x y c h1 h2 => I2.ok.inj x y c (hcl1 x c h1) (hcl1 y c h2)
  has := fun x hx => by
    have e : scope.names.lookup x = some .free := rel_free (env := X.env) hcell hx
    exact Option.isSome_iff_exists.mp (hcl2 (x, .free) (PySem.mem_of_lookup e) rfl)
  cab := fun _ _ h _ => nomatch h
  hd := I2.ok.hd
  frames := I2.ok.frames
  stk := .inl rfl
  exf := fun b hb => by
    obtain ⟨o, ho⟩ := hfl b hb
    exact ⟨Nat.ne_of_lt (Nat.lt_of_lt_of_le (Heap.lt_size ho) hC), fun x c h => (hf b hb).2.2.2.2.1 x c (hcl1 x c h)⟩
  bs := I2.bs
  bsz := Nat.le_trans I2.ok.bsz I2.sz
  noex := fun b o e hb => by
    rcases (hf b hb).2.2.2.1 with z | z
    · exact I2.ok.noex b o e z
    · exact absurd (Nat.lt_of_lt_of_le (Heap.lt_size e) (Nat.le_trans I2.ok.bsz z)) (Nat.lt_irrefl _)
  exfs := fun b hb z => by
    rcases List.mem_cons.mp (I2.stkSub b z) with e | e
    · exact (hf b hb).2.1 e
    · exact (hf b hb).2.2.1 e
  funs := I2.stack
  frf := I2.stkFree
variable {elt iter target : Expr} {ifs : List Expr} {pos : Pos} {it : Addr} {tn : Nat → Heap → Prop} {J : It} {g : TG} {tc : TT} {te : TE} {Q : VK} {RR : Value → Addr → Result → Shared → Prop} {E : Value → Shared → Prop}
theorem comp_block (ok : CompOk sc N scope NY js) (hsc : X.env.scope = sc) (hN : X.N = N) (hk : NY.length = N.length + k) (hc : X.calm = true) (I2 : Inv X pins σ H2 s₂) (T : Turn X.prog X.w X.K target J fp it tn) (st2 : tn 0 s₂.heap) (f2 : ∀ b ∈ fp, FpOk X pins H2 b)
    (hcl1 : ∀ n c, cl.lookup n = some c → X.env.cells.lookup n = some c) (hcl2 : ∀ x ∈ scope.names, x.2 = NameKind.free → (cl.lookup x.1).isSome = true)
    (hg : ∀ cl C s₀ H₀ fp, PG (cxComp X NY scope cl C s₀ H₀ fp) target g) (hi : ∀ cl C s₀ H₀ fp, PIfs (cxComp X NY scope cl C s₀ H₀ fp) ifs tc) (he : ∀ cl C s₀ H₀ fp, PE (cxComp X NY scope cl C s₀ H₀ fp) elt te)
    (loop : ∀ D, H2 D = none →
      ∃ W : Nat → Nat → St → Hp → Prop, (∃ m, W 0 m (emS js k σ) (upd H2 D (.lst []))) ∧ ∀ i m σ H, W i m σ H →
        (J.stop i H ∧ Q (.ref D) H) ∨ (J.go i H ∧ ∃ N : St → Hp → Prop, (∀ σ' H', N σ' H' → ∃ m', m' < m ∧ W (i + 1) m' σ' H') ∧ ∀ x H', J.yld i H x H' → g x σ H' fun σ2 H2 => sApp D tc te { nx := N, rt := fun _ _ => False, ct := N, bk := fun _ H' => Q (.ref D) H' } σ2 H2))
    (hRR : ∀ D C H' s' m, s'.heap.Ns C m → Inv X pins σ H' s' → H' C = none → C ≠ X.env.locals → X.s₀.heap.objs.size ≤ C → (∀ x c, X.env.cells.lookup x = some c → c ≠ C) → (∀ p ∈ X.pn ++ pins, p.1 ≠ C) → D ≠ C → Q (.ref D) H' → RR (.ref D) C (.ok .next) s') :
    wpAny (model X.prog X.w) X.A (newList []) (fun acc s₃ => wpAny (model X.prog X.w) X.A (newFunctionEnv scope X.env.globals cl [] X.env.qual none .none (some X.env)) (fun cenv s₄ =>
      codeAny (model X.prog X.w) X.A (.compStart (.ListComp elt [⟨target, iter, ifs, 0⟩] scope pos) 0 (.ref it) acc { cenv with scope := relabel scope X.env }) (RR acc cenv.locals) s₄) E s₃) E s₂ := by
  refine wpAny_newObj_type (wpAny_newFunctionEnv ok.cell (by intro y hy; simp at hy) (fun h₁ hns₁ hsb₁ => ?_) ok.kind)
  dsimp only at hns₁ hsb₁ ⊢
  generalize hG : s₂.heap.push { cls := .type "list", dict := none, data := .seq ([] : List Value).toArray } = G at hns₁ hsb₁ ⊢
  have hC : G.objs.size = s₂.heap.objs.size + 1 := by rw [← hG, Heap.size_push]
  have hDC : s₂.heap.objs.size ≠ G.objs.size := by rw [hC]; exact Nat.ne_of_lt (Nat.lt_succ_self _)
  have hCle : s₂.heap.objs.size ≤ G.objs.size := by rw [hC]; exact Nat.le_succ _
  have below : ∀ b, b < s₂.heap.objs.size → b ≠ G.objs.size := fun b hb => by rw [hC]; exact Nat.ne_of_lt (Nat.lt_succ_of_lt hb)
  have old : ∀ b o, s₂.heap.get? b = some o → h₁.get? b = some o := fun b o e => hsb₁.extBut b o (below b (Heap.lt_size e)) (Heap.get?_push_of_some _ (hG ▸ Heap.get?_push_of_some _ e))
  have hacc : h₁.get? s₂.heap.objs.size = some { cls := .type "list", dict := none, data := .seq ([] : List Value).toArray } := hsb₁.extBut _ _ hDC (Heap.get?_push_of_some _ (hG ▸ Heap.get?_push_size _ rfl))
  have hfl : ∀ b ∈ fp, ∃ o, s₂.heap.get? b = some o := fun b hb => let ⟨o, ho, _⟩ := T.obj 0 _ st2 b hb; ⟨o, ho⟩
  have fD : H2 s₂.heap.objs.size = none := I2.hok.fresh (Nat.le_refl _)
  have fC : H2 G.objs.size = none := I2.hok.fresh hCle
  have I4 : Inv (cxComp X NY scope cl G.objs.size s₂ H2 fp) [] (emS js k σ) (upd H2 s₂.heap.objs.size (.lst [])) { s₂ with heap := h₁, toks := s₂.toks + ([] : List (Str × Value)).length } := by
    refine ⟨comp_ok I2 f2 hfl ok.kind ok.cell hcl1 hcl2 hCle, rfl, I2.bare, Un.laid old (Nat.le_refl _) fD, ⟨_, hns₁, fun i y v h1 h2 h3 => ?_⟩, fun x c h => ?_, ?_, fun x c h => ?_, fun p hp => absurd (show p ∈ ([] : List (Addr × Obj)) from hp) (by simp), I2.hok.laid old (Nat.le_refl _) ⟨Nat.zero_le _, [], 0, .nil, hacc⟩, ?_⟩
    · obtain ⟨e1, e2⟩ := emS_get h2
      have hi : i < N.length := by
        have := (List.getElem?_eq_some_iff.mp e1).1
        rw [I2.len, hN] at this; exact this
      have hy : N[i]? = some y := by
        rw [← ok.pre, List.getElem?_take_of_lt hi]; exact h1
      have hz : (y, i) ∈ N.zipIdx := by
        rw [List.mem_zipIdx_iff_getElem?]; exact hy
      have nn : scope.names.lookup y ≠ none := rel_any (env := X.env) (x := y) (by
        rcases h3 with z | z | z
        · intro q; rw [show (relabel scope X.env).names.lookup y = _ from z] at q; cases q
        · intro q; rw [show (relabel scope X.env).names.lookup y = _ from z] at q; cases q
        · intro q; rw [show (relabel scope X.env).names.lookup y = _ from z] at q; cases q)
      have hfr : scope.names.lookup y = some .free := by
        rcases ok.cap (y, i) hz with z | z | z
        · rw [e2] at z; cases z
        · exact absurd z nn
        · exact z
      have hX := ok.free (y, .free) (PySem.mem_of_lookup hfr) rfl
      rw [← hsc] at hX
      obtain ⟨m, hn, hl⟩ := I2.loc
      obtain ⟨u, ru, lk⟩ := hl i y v (by rw [hN]; exact hy) e1 (by
        rcases hX with z | z
        · exact .inr (.inl z)
        · exact .inr (.inr z))
      refine ⟨u, ru, ?_⟩
      rcases lk with ⟨lk, _⟩ | ⟨_, c, hc1, hc2⟩
      · have lk : X.env.scope.names.lookup y = some .local := lk
        rcases hX with z | z <;> · rw [z] at lk; cases lk
      · have hs := hcl2 (y, .free) (PySem.mem_of_lookup hfr) rfl
        obtain ⟨c', hc'⟩ := Option.isSome_iff_exists.mp hs
        have e3 := hcl1 y c' hc'
        rw [hc1] at e3; cases e3
        refine .inr ⟨?_, c, hc', hc2.keeps old⟩
        show (relabel scope X.env).names.lookup y = some .cell ∨ (relabel scope X.env).names.lookup y = some .free
        have e : (relabel scope X.env).names.lookup y = _ := lookup_relabel (env := X.env) (x := y) scope.names
        rw [e, hfr, Option.map_some]
        split
        · exact .inl rfl
        · exact .inr rfl
    · obtain ⟨v, q⟩ := I2.cell x c (hcl1 x c h)
      exact ⟨v, q.keeps old⟩
    · show upd H2 s₂.heap.objs.size (.lst []) G.objs.size = none
      rw [upd_ne (Ne.symm hDC)]; exact fC
    · have q := I2.freeC x c (hcl1 x c h)
      obtain ⟨v, o, ho, _⟩ := I2.cell x c (hcl1 x c h)
      show upd H2 s₂.heap.objs.size (.lst []) c = none
      rw [upd_ne (Nat.ne_of_lt (Heap.lt_size ho))]; exact q
    · show (emS js k σ).length = NY.length
      rw [emS_len, I2.len, hN, hk]
  have st4 : tn 0 h₁ := T.keep _ _ _ st2 fun b _ o e => old b o e
  obtain ⟨W, ⟨m0, w0⟩, turn⟩ := loop s₂.heap.objs.size fD
  have stat : ∀ {H' : Hp}, (∀ b ∈ fp, H' b = none) → ∀ b ∈ fp, FpOk (cxComp X NY scope cl G.objs.size s₂ H2 fp) [] H' b := fun hn b hb => by
    obtain ⟨o, ho⟩ := hfl b hb
    refine ⟨hn b hb, below b (Heap.lt_size ho), fun z => ?_, .inl hb, fun x c h => (f2 b hb).2.2.2.2.1 x c (hcl1 x c h), fun p hp => absurd (show p ∈ ([] : List (Addr × Obj)) from hp) (by simp)⟩
    rcases List.mem_cons.mp (I2.stkSub b z) with e | e
    · exact (f2 b hb).2.1 e
    · exact (f2 b hb).2.2.1 e
  have go : ∀ s₄ : Shared, s₄ = { s₂ with heap := h₁, toks := s₂.toks + ([] : List (Str × Value)).length } →
      codeAny (model X.prog X.w) X.A (.compLoop (.ListComp elt [⟨target, iter, ifs, 0⟩] scope pos) 0 (.ref it) (.ref s₂.heap.objs.size) (compEnvC scope cl G.objs.size X.env)) (RR (.ref s₂.heap.objs.size) G.objs.size) s₄ := by
    rintro s₄ rfl
    refine compLoop_own (fun n s' => ∃ i σ' H', Inv (cxComp X NY scope cl G.objs.size s₂ H2 fp) [] σ' H' s' ∧ tn i s'.heap ∧ (∀ b ∈ fp, H' b = none) ∧ W i n σ' H') ?_ m0
      ⟨0, _, _, I4, st4, fun b hb => by
        obtain ⟨o, ho⟩ := hfl b hb
        rw [upd_ne (Nat.ne_of_lt (Heap.lt_size ho))]; exact (f2 b hb).1, w0⟩
    rintro n s3 ⟨i, σ3, H3, I3, st3, fr3, w3⟩
    rcases turn i n σ3 H3 w3 with ⟨stop, qn⟩ | ⟨go, Nx, hNx, step⟩
    · refine thn (T.done (cxComp X NY scope cl G.objs.size s₂ H2 fp) rfl rfl rfl hc i [] s3 σ3 H3 _ I3 (stat fr3) st3 stop) fun r s5 ⟨hr, I5⟩ => ?_
      subst hr
      have IX : Inv X pins σ H3 s5 := I2.call' (ch := fp) I5.os I5.base I5.hok I5.bare fun b hb => ⟨(f2 b hb).2.2.2.1, (f2 b hb).2.1, (f2 b hb).2.2.2.2.1, (f2 b hb).2.2.2.2.2⟩
      obtain ⟨m, hm, _⟩ := I5.loc
      refine hRR _ _ H3 s5 m hm IX I5.free (fun z => ?_) (Nat.le_trans I2.sz hCle) (fun x c h z => ?_) (fun p hp z => ?_) hDC qn
      · have := I2.lt; rw [← z] at this; exact Nat.lt_irrefl _ (Nat.lt_of_lt_of_le this hCle)
      · obtain ⟨v, o, ho, _⟩ := I2.cell x c h
        have := Heap.lt_size ho; rw [z] at this; exact Nat.lt_irrefl _ (Nat.lt_of_lt_of_le this hCle)
      · have := Heap.lt_size (I2.pin p hp).1; rw [z] at this; exact Nat.lt_irrefl _ (Nat.lt_of_lt_of_le this hCle)
    · refine thn (T.item (cxComp X NY scope cl G.objs.size s₂ H2 fp) rfl rfl rfl hc i [] s3 σ3 H3 _ I3 (stat fr3) st3 go) fun r s5 ⟨u, hr, h5⟩ => ?_
      subst hr
      refine thn h5 fun _ s6 ⟨x, H6, I6, r6, y6, st6, fr6⟩ => ?_
      have I6' := I6.pinned (stat fr6) (T.obj _ _ st6)
      have again : ∀ {σ7 : St} {H7 : Hp} {s7 : Shared}, Inv (cxComp X NY scope cl G.objs.size s₂ H2 fp) ([] ++ pinsAt fp s6.heap) σ7 H7 s7 → Nx σ7 H7 → ∃ m, m < n ∧ ∃ i σ' H', Inv (cxComp X NY scope cl G.objs.size s₂ H2 fp) [] σ' H' s7 ∧ tn i s7.heap ∧ (∀ b ∈ fp, H' b = none) ∧ W i m σ' H' := fun {σ7 H7 s7} I7 n7 => by
        obtain ⟨m', hm, w7⟩ := hNx σ7 H7 n7
        refine ⟨m', hm, i + 1, σ7, H7, I7.unpinned, T.keep _ _ _ st6 fun b hb o e => (I7.pin (b, o) (List.mem_append_right _ (List.mem_append_right _ (mem_pinsAt hb e)))).1, fun b hb => ?_, w7⟩
        obtain ⟨o, e, d⟩ := T.obj _ _ st6 b hb
        exact (I7.pin (b, o) (List.mem_append_right _ (List.mem_append_right _ (mem_pinsAt hb e)))).2.1
      refine thn (hg cl G.objs.size s₂ H2 fp _ s6 σ3 H6 x u _ I6' r6 (step x H6 y6)) fun _ s7 ⟨σ7, H7, I7, q7⟩ => ?_
      refine thn (hi cl G.objs.size s₂ H2 fp _ s7 σ7 H7 _ I7 q7) fun ok s8 ⟨H8, I8, q8⟩ => ?_
      cases ok with
      | false =>
        rw [if_neg Bool.false_ne_true] at q8 ⊢
        exact again I8 q8
      | true =>
        rw [if_pos rfl] at q8 ⊢
        refine thn (he cl G.objs.size s₂ H2 fp _ s8 σ7 H8 _ I8 q8) fun y s9 ⟨z, H9, I9, r9, ys, hD, hz, n9⟩ => ?_
        refine thn (mt_append (X := cxComp X NY scope cl G.objs.size s₂ H2 fp) _ s9 σ7 H9 (.ref s₂.heap.objs.size) [z] (.ref s₂.heap.objs.size) [y] (fun _ H' => H' = upd H9 s₂.heap.objs.size (.lst (ys ++ [z]))) I9 rfl (.cons r9 .nil) ⟨_, ys, z, rfl, rfl, hD, hz, rfl⟩) fun _ s10 ⟨_, H10, I10, _, q10⟩ => ?_
        subst q10
        exact again I10 n9
  exact codeAny_compStart_list (go _ rfl) (T.self _ 0 _ _ _ st4 (go _ rfl))
theorem ps_comp {wi : TI} {i : Nat} {y : Str} {py spos : Pos} (ok : CompOk sc N scope NY js) (hsc : X.env.scope = sc) (hN : X.N = N) (hk : NY.length = N.length + k) (hc : X.calm = true) (hit : PI X target iter wi)
    (hg : ∀ cl C s₀ H₀ fp, PG (cxComp X NY scope cl C s₀ H₀ fp) target g) (hi : ∀ cl C s₀ H₀ fp, PIfs (cxComp X NY scope cl C s₀ H₀ fp) ifs tc) (he : ∀ cl C s₀ H₀ fp, PE (cxComp X NY scope cl C s₀ H₀ fp) elt te)
    (nd : X.N.Nodup) (hy : X.N[i]? = some y) (hl : Loc X.env.scope y) (hsw : swapsWith (.ListComp elt [⟨target, iter, ifs, 0⟩] scope pos) (some (.Name y py)) spos.line X.env = pure true)
    (hs : ∀ x, foldedSetIterable iter X.env x = pure x := by intro _; rfl) (hf : X.fn y = true ∨ X.env.scope.names.lookup y = some .local := by first | exact .inl rfl | exact .inr rfl | assumption) :
    PS X (.Assign [.Name y py] (.ListComp elt [⟨target, iter, ifs, 0⟩] scope pos) spos) (tAsg (tComp js k wi g tc te) (gName i)) := by
  intro pins s σ H D I h
  obtain ⟨cl, hclos, hcl1, hcl2⟩ := closure_of (scope := scope) (env := X.env) fun x hx hf => I.ok.has x.1 (by
    have := ok.free x hx hf
    rw [← hsc] at this
    exact this)
  rw [exec_Assign_Name_used _ _ _ _ hsw]
  refine wpAny_bind (wpAny_standAt (wpAny_bind ?_))
  show wpAny _ X.A (do let _ ← comprehension (.ListComp elt [⟨target, iter, ifs, 0⟩] scope pos) scope X.env _ (newList []) false (eval iter X.env) (some (assign (.Name y py) X.env))) _ _ s
  refine wpAny_bind (wpAny_mono (wpAny_comprehension_free (use := some (assign (.Name y py) X.env)) (Q := fun _ s' => SP X pins D .next s') rfl hs hclos ok.kind ok.names
    (thn (hit pins s σ H _ I h) fun xv s₁ h₁ => thn h₁ fun itv s₂ h₂ => ?_)) (fun _ s' hq => wpAny_pure (wpAny_pure hq)) fun _ _ e => e)
  obtain ⟨it, fp, tn, J, H2, rfl, I2, T, st2, f2, loop⟩ := h₂
  refine comp_block (RR := fun acc C => compPost (model X.prog X.w) X.A X.xe (some (assign (.Name y py) X.env)) (fun _ s' => SP X pins D .next s') acc C) (Q := fun x H1 => gName i x σ H1 D.nx) ok hsc hN hk hc I2 T st2 f2 hcl1 hcl2 hg hi he loop ?_
  intro Da C H' s' m hm IX fC c1 c2 c3 c4 _ q
  show wpAny _ X.A (assign (.Name y py) X.env (.ref Da)) _ _ _
  refine wpAny_assign_Name (store_ok2 IX nd hy hl (v := .ref Da) rfl (fun s2 IY ⟨a, sb, ha⟩ => ?_) hf)
  have hne : C ≠ a := by
    rcases ha with rfl | ha
    · exact c1
    · exact fun z => c3 y a ha z.symm
  exact ⟨m, hm.sameBut sb hne, fun h' hs' => ⟨_, H', IY.turned (t' := s2.toks) (fun b o hb e => (hs'.2 b hb).trans e) fC c1 (.inr c2) c3 c4, q⟩⟩
end
end L2
end
section
set_option Elab.async false
set_option linter.all false
set_option maxRecDepth 100000
set_option maxHeartbeats 4000000
namespace L2
open PySem PySem.Spec PyProof.Rows
section
variable {X : Cx} {pins : List (Addr × Obj)} {σ : St} {H : Hp} {s : Shared} {h' : Heap}
end
section
variable {X : Cx} {elts : List Expr} {k : Nat} {tpos : Pos}
end
section
variable {X : Cx} {elts : List Expr} {k : Nat} {tpos : Pos}
end
end L2
namespace PySem
open Sem (wp)
open Builtin MeetsSeq MeetsSeq2 MeetsSeq3
theorem noFill_tuple_mul : fillsNumberSlot (.type "tuple") "mul" = pure false :=
  fillsNumberSlot_seq (id := "tuple.__mul__") (r := some (.builtin "tuple.__rmul__")) F.slot_tuple_mul.lookup (by decide +kernel) F.slot_tuple_rmul.lookup (by decide +kernel)
theorem repeat_tuple : seqRepeat? (.type "tuple") = pure (some (.builtin "tuple.__mul__")) := by
  unfold seqRepeat?
  rw [seqSlot_of (T := "tuple") (name := "__mul__") (id := "tuple.__mul__") F.slot_tuple_mul.lookup (by decide +kernel), seqSlot_of (T := "tuple") (name := "__rmul__") (id := "tuple.__rmul__") F.slot_tuple_rmul.lookup (by decide +kernel)]
  rfl
theorem int_rmul_tuple (a : Int) (t : Tok) (l : Addr) (items : Array Value) (n : Nat) (dd : Option Addr) (sl : Array (Option Value)) :
    Meets (Builtin.«int.__rmul__» ⟨[.int a t, .ref l], []⟩) (fun _ R s => s.heap.get? l = some { cls := .type "tuple", dict := dd, data := .seq items n, slots := sl } ∧ R (.ok (.ret Value.notImplemented)) s) :=
  .of_wp fun prog w A R s h => by obtain ⟨hp, g, d, tk, os⟩ := s; obtain ⟨hl, h⟩ := h; wp_walk; exact ⟨_, rfl, h⟩
theorem tuple_mul_many (l : Addr) (items : Array Value) (n : Nat) (dd : Option Addr) (sl : Array (Option Value)) (x : Int) (u : Tok) (hlo : -(2 ^ 63) ≤ x) (hhi : x < 2 ^ 63) (he : items.isEmpty = false) (h1 : ¬ x = 1) (hp : 0 < x) (hsz : items.size * x.toNat ≤ sizeLine) :
    Meets (Builtin.«tuple.__mul__» ⟨[.ref l, .int x u], []⟩) (fun _ R s => s.heap.get? l = some { cls := .type "tuple", dict := dd, data := .seq items n, slots := sl } ∧
      R (.ok (.ret (Value.ref s.heap.objs.size))) { s with heap := s.heap.push { cls := Value.type "tuple", data := Data.seq (List.foldl (fun x1 x2 => x1 ++ x2) #[] (List.replicate x.toNat items)) }, toks := s.toks }) :=
  .of_wp fun prog w A R s h => by
    obtain ⟨hp, g, d, tk, os⟩ := s; obtain ⟨hl, h⟩ := h
    have z1 : (decide (x < -(2 ^ 63)) || decide (x ≥ 2 ^ 63)) = false := by simp; omega
    have z2 : (items.isEmpty || x == 1) = false := by simp [he, h1]
    have z3 : (decide (x ≤ 0) || items.isEmpty) = false := by simp [he]; omega
    have ex : (items.size : Int) * x = ((items.size * x.toNat : Nat) : Int) := by
      rw [Int.natCast_mul]; congr 1; omega
    have z4 : ¬ ((items.size : Int) * x > (2 ^ 63 - 1) / 8) := by
      rw [ex]
      have : (sizeLine : Nat) ≤ (2 ^ 63 - 1) / 8 := by decide
      omega
    have z5 : Tuple.tupleTooMany ((items.size : Int) * x) = false := by
      unfold Tuple.tupleTooMany
      rw [ex]
      exact decide_eq_false (by omega)
    have z6 : (List.foldl (fun (x1 x2 : Array Value) => x1 ++ x2) #[] (List.replicate x.toNat items)).size ≤ sizeLine := by
      have e := AutoListH.size_joined items x.toNat #[]
      rw [e, Nat.mul_comm]
      simpa using hsz
    wp_walk
    refine wpAny_ite_false (by rw [z1]; rfl) ?_
    wp_walk using AutoSeq1.wpAny_loadPart' hl
    refine wpAny_ite_false (decide_eq_false z4) ?_
    wp_walk
    refine wpAny_ite_false (by rw [z5]; rfl) ?_
    wp_walk
    exact ⟨_, rfl, h⟩
theorem tuple_mul_one (l : Addr) (items : Array Value) (n : Nat) (dd : Option Addr) (sl : Array (Option Value)) (u : Tok) :
    Meets (Builtin.«tuple.__mul__» ⟨[.ref l, .int 1 u], []⟩) (fun _ R s => s.heap.get? l = some { cls := .type "tuple", dict := dd, data := .seq items n, slots := sl } ∧ R (.ok (.ret (Value.ref l))) s) :=
  .of_wp fun prog w A R s h => by
    obtain ⟨hp, g, d, tk, os⟩ := s; obtain ⟨hl, h⟩ := h
    have z2 : (items.isEmpty || (1 : Int) == 1) = true := by simp
    wp_walk using AutoSeq1.wpAny_loadPart' hl
    first | exact ⟨_, rfl, h⟩ | trace_state
theorem tuple_mul_none (l : Addr) (items : Array Value) (n : Nat) (dd : Option Addr) (sl : Array (Option Value)) (u : Tok) (he : items.isEmpty = false) :
    Meets (Builtin.«tuple.__mul__» ⟨[.ref l, .int 0 u], []⟩) (fun _ R s => s.heap.get? l = some { cls := .type "tuple", dict := dd, data := .seq items n, slots := sl } ∧
      R (.ok (.ret (Value.ref s.heap.objs.size))) { s with heap := s.heap.push { cls := Value.type "tuple", data := Data.seq #[] }, toks := s.toks }) :=
  .of_wp fun prog w A R s h => by
    obtain ⟨hp, g, d, tk, os⟩ := s; obtain ⟨hl, h⟩ := h
    have z2 : (items.isEmpty || (0 : Int) == 1) = false := by simp [he]
    have z3 : (decide ((0 : Int) ≤ 0) || items.isEmpty) = true := by simp
    wp_walk using AutoSeq1.wpAny_loadPart' hl
    first | exact ⟨_, rfl, h⟩ | trace_state
end PySem
namespace L2
open PySem PySem.Spec PyProof.Rows
section
variable {X : Cx}
def rRepT (K : PySem.W.Frag) : R2 := fun x y H Q => ∃ (l : Addr) (k : Nat) (xs : List V), x = .ref l ∧ y = .int (k : Nat) ∧ SqT K H l xs ∧ xs ≠ [] ∧ xs.length * k ≤ sizeLine ∧ (k = 1 → Q (.ref l) H) ∧
  (k ≠ 1 → ∀ p, H p = none → Q (.ref p) (upd H p (.tup (List.replicate k xs).flatten)))
theorem op_repT : OpR X (binaryOp .Mult) (rRepT X.K) := by
  intro pins s σ H x y v u Q I rx ry h
  obtain ⟨l, k, xs, rfl, rfl, hq, hne, hz, q1, q2⟩ := h
  cases rx
  obtain ⟨t, rfl⟩ := ry
  obtain ⟨its, r, ⟨⟨cls, dd, data, sl⟩, e, hc, n, hd⟩, hl⟩ := I.tuple hq
  simp only at hc hd
  subst hc hd
  have hlen := r.length
  have he : its.toArray.isEmpty = false := by
    cases its with
    | nil => simp at hlen; exact absurd hlen hne
    | cons a r' => rfl
  have hs : its.toArray.size * k ≤ sizeLine := by rw [List.size_toArray, ← hlen]; exact hz
  have road : wpAny (model X.prog X.w) X.A (call (.builtin "tuple.__mul__") [.ref l, .int (k : Nat) t]) (EP X pins σ Q) X.xe s → wpAny (model X.prog X.w) X.A (binaryOp .Mult (.ref l) (.int (k : Nat) t)) (EP X pins σ Q) X.xe s := fun hcall =>
    wpAny_binaryOp_repeat_ref (T := "tuple") (U := "int") (by decide) ⟨_, e, rfl⟩ (fun s' => typeIs_int s' k t) noFill_tuple_mul F.fills_int_mul F.slot_int_rmul repeat_tuple F.slot_int_index.lookup
      (call_meets F.slot_int_rmul (typeIs_int s k t) F.entry_int_rmul (F.args_int_rmul_2 _ _) (int_rmul_tuple k t l its.toArray n dd sl) ⟨e, rfl, ⟨_, e, rfl⟩, hcall⟩)
  refine road ?_
  by_cases h1 : k = 1
  · subst h1
    exact call_meets F.slot_tuple_mul ⟨_, e, rfl⟩ F.entry_tuple_mul (F.args_tuple_mul_2 _ _) (tuple_mul_one l its.toArray n dd sl t) ⟨e, ⟨.ref l, H, I, rfl, q1 rfl⟩⟩
  · have hn : H s.heap.objs.size = none := I.hok.fresh (Nat.le_refl _)
    by_cases h0 : k = 0
    · subst h0
      refine call_meets F.slot_tuple_mul ⟨_, e, rfl⟩ F.entry_tuple_mul (F.args_tuple_mul_2 _ _) (tuple_mul_none l its.toArray n dd sl t he) ⟨e, ⟨.ref s.heap.objs.size, _, ?_, rfl, q2 h1 _ hn⟩⟩
      exact I.laid (t' := s.toks) (fun b o e => Heap.get?_push_of_some _ e) (Nat.le_refl _) ⟨Nat.zero_le _, [], .nil, ⟨_, Heap.get?_push_size _ rfl, ⟨rfl, rfl⟩, _, rfl⟩⟩
    · have hk64 : (k : Int) < 2 ^ 63 := by
        have h3 : 1 ≤ its.toArray.size := by
          cases its with
          | nil => simp at he
          | cons a r' => simp
        have h4 : k ≤ its.toArray.size * k := Nat.le_mul_of_pos_left k h3
        have h5 : (sizeLine : Nat) < 2 ^ 63 := by decide
        omega
      refine call_meets F.slot_tuple_mul ⟨_, e, rfl⟩ F.entry_tuple_mul (F.args_tuple_mul_2 _ _) (tuple_mul_many l its.toArray n dd sl k t (by omega) hk64 he (by omega) (by omega) (by simpa using hs)) ⟨e, ?_⟩
      have f0 := foldl_rep its k []
      rw [List.nil_append] at f0
      have ek : ((k : Nat) : Int).toNat = k := by simp
      rw [ek, f0]
      refine ⟨.ref s.heap.objs.size, _, ?_, rfl, q2 h1 _ hn⟩
      refine I.laid (t' := s.toks) (fun b o e => Heap.get?_push_of_some _ e) (Nat.le_refl _) ⟨?_, (List.replicate k its).flatten, r.rep k, ⟨_, Heap.get?_push_size _ rfl, ⟨rfl, rfl⟩, _, rfl⟩⟩
      rw [len_rep, Nat.mul_comm]; exact hz
theorem call_divmodW : CallR X (.builtin "divmod") (fun xs H Q => ∃ i j, xs = [.int i, .int j] ∧ (0 < j ∧ j < 2 ^ 64) ∧ ∀ p, H p = none → Q (.ref p) (upd H p (.tup [.int (i / j), .int (i % j)]))) := by
  intro pins s σ H xs us Q I r h
  obtain ⟨i, j, rfl, ⟨h1, h2⟩, q⟩ := h
  obtain ⟨u, w', rfl, ⟨t, rfl⟩, ⟨t', rfl⟩⟩ := vals2 r
  have hb : j.natAbs.log2 < 9000 := by
    have h3 : j.natAbs.log2 < 64 := (Nat.log2_lt (by omega)).mpr (by omega)
    omega
  refine divmod_int (by omega) ?_ (.inl (PyProof.noPylong_of_log2 hb))
  rw [Int.fdiv_eq_ediv_of_nonneg i (by omega), Int.fmod_eq_emod_of_nonneg i (by omega)]
  have hn : H s.heap.objs.size = none := I.hok.fresh (Nat.le_refl _)
  refine ⟨.ref s.heap.objs.size, _, ?_, rfl, q _ hn⟩
  refine I.laid (fun b o e => Heap.get?_push_of_some _ e) (Nat.le_refl _) ⟨by simp only [List.length_cons, List.length_nil]; rw [sizeLine_eq]; decide, [.int (i / j) s.toks, .int (i % j) (s.toks + 1)], .cons ⟨_, rfl⟩ (.cons ⟨_, rfl⟩ .nil), ?_⟩
  exact ⟨_, Heap.get?_push_size s.heap rfl, ⟨rfl, rfl⟩, 0, rfl⟩
theorem all_ix (bs : List Bool) : (List.range bs.length).all (fun i => (bs[i]?).getD false) = bs.all id := by
  rw [Bool.eq_iff_iff, List.all_eq_true, List.all_eq_true]
  constructor
  · intro h b hb
    obtain ⟨i, hi, e⟩ := List.mem_iff_getElem.mp hb
    have := h i (List.mem_range.mpr hi)
    rw [List.getElem?_eq_getElem hi, Option.getD_some, e] at this
    exact this
  · intro h i hi
    have hi := List.mem_range.mp hi
    rw [List.getElem?_eq_getElem hi, Option.getD_some]
    exact h _ (List.getElem_mem hi)
end
section
variable {X : Cx}
theorem strs_are : ∀ {ys : List Str} {us : List Value}, Vals (ys.map V.str) us → StrsAre us ys
  | [], _, r => by cases r; exact .nil
  | y :: ys, _, r => by
    cases r with
    | cons r rr =>
      obtain ⟨t, rfl⟩ := r
      exact .cons _ _ (strs_are rr)
def rJoin (K : PySem.W.Frag) : V → List V → Hp → VK → Prop := fun x vs H Q => ∃ (sep : Str) (p : Addr) (ys : List Str), x = .str sep ∧ vs = [.ref p] ∧ SqL K H p (ys.map V.str) ∧ (ys.map (·.length)).sum + ys.length * sep.length ≤ 16777216 ∧ Q (.str (Txt.join sep ys)) H
theorem mt_join : MtR X "str.join" (rJoin X.K) := by
  intro pins s σ H x vs v us Q I rx rv h
  obtain ⟨sep, p, ys, rfl, rfl, hq, hz, q⟩ := h
  obtain ⟨t, rfl⟩ := rx
  obtain ⟨u, rfl, ru⟩ := rv.one
  cases ru
  obtain ⟨its, r, pl, _⟩ := I.list hq
  exact join_list pl.isList (by simpa using strs_are r) hz fun t' k => ⟨.str _, H, I.tok k, ⟨t', rfl⟩, q⟩
end
section
variable {X : Cx}
def eqVs (xs ys : List V) : Bool := (List.range (min xs.length ys.length)).all (fun j => eqV ((xs[j]?).getD .non) ((ys[j]?).getD .non)) && xs.length == ys.length
def rEqT (K : PySem.W.Frag) (neg : Bool) : R2 := fun x y H Q => ∃ p q xs ys, x = .ref p ∧ y = .ref q ∧ SqT K H p xs ∧ SqT K H q ys ∧ xs.all flatV = true ∧ ys.all flatV = true ∧ Q (.bl (if neg then !eqVs xs ys else eqVs xs ys)) H
theorem at_eq {A : Around} {s : Shared} {xs ys : List V} {us vs : List Value} (r1 : Vals xs us) (r2 : Vals ys vs) (f1 : xs.all flatV = true) (f2 : ys.all flatV = true) :
    ∀ j (h1 : j < us.toArray.size) (h2 : j < vs.toArray.size), SeqAt.EqAt A s us.toArray[j] vs.toArray[j] (eqV ((xs[j]?).getD .non) ((ys[j]?).getD .non)) := by
  intro j h1 h2
  have l1 := r1.length
  have l2 := r2.length
  rw [List.size_toArray] at h1 h2
  have j1 : j < xs.length := by omega
  have j2 : j < ys.length := by omega
  obtain ⟨u, hu, ru⟩ := r1.get (List.getElem?_eq_getElem j1)
  obtain ⟨v, hv, rv⟩ := r2.get (List.getElem?_eq_getElem j2)
  have eu : us.toArray[j] = u := by
    have := List.getElem?_eq_getElem h1
    rw [hu] at this
    simpa using (Option.some.inj this).symm
  have ev : vs.toArray[j] = v := by
    have := List.getElem?_eq_getElem h2
    rw [hv] at this
    simpa using (Option.some.inj this).symm
  rw [eu, ev, List.getElem?_eq_getElem j1, List.getElem?_eq_getElem j2, Option.getD_some, Option.getD_some]
  exact eqAt_V ru rv (List.all_eq_true.mp f1 _ (List.getElem_mem j1)) (List.all_eq_true.mp f2 _ (List.getElem_mem j2))
theorem op_eqT (hu : X.A.units < cLine) : OpR X (compareOp .Eq) (rEqT X.K false) := by
  intro pins s σ H x y v u Q I rx ry h
  obtain ⟨p, q, xs, ys, rfl, rfl, h1, h2, f1, f2, qq⟩ := h
  cases rx
  cases ry
  obtain ⟨us, r1, t1, _⟩ := I.tuple h1
  obtain ⟨vs, r2, t2, _⟩ := I.tuple h2
  refine SeqAt.eq_tupleAt (show s.heap.IsTuple p us.toArray from t1) (show s.heap.IsTuple q vs.toArray from t2) hu (at_eq r1 r2 f1 f2) ⟨.bl (eqVs xs ys), H, I, ?_, qq⟩
  show Value.bool _ = Value.bool _
  unfold eqVs
  rw [List.size_toArray, List.size_toArray, r1.length, r2.length]
def rEqTS (K : PySem.W.Frag) : R2 := fun x y H Q => ∃ p xs z, x = .ref p ∧ y = .str z ∧ SqT K H p xs ∧ Q (.bl false) H
theorem op_eqTS (hu : X.A.units < cLine) : OpR X (compareOp .Eq) (rEqTS X.K) := by
  intro pins s σ H x y v u Q I rx ry h
  obtain ⟨p, xs, z, rfl, rfl, h1, qq⟩ := h
  cases rx
  obtain ⟨t, rfl⟩ := ry
  obtain ⟨us, r1, t1, _⟩ := I.tuple h1
  exact SeqAt.RcAt.tuple_str z t (show s.heap.IsTuple p us.toArray from t1) hu X.prog X.w X.xe _ ⟨.bl false, H, I, rfl, qq⟩
theorem op_neT (hu : X.A.units < cLine) : OpR X (compareOp .NotEq) (rEqT X.K true) := by
  intro pins s σ H x y v u Q I rx ry h
  obtain ⟨p, q, xs, ys, rfl, rfl, h1, h2, f1, f2, qq⟩ := h
  cases rx
  cases ry
  obtain ⟨us, r1, t1, _⟩ := I.tuple h1
  obtain ⟨vs, r2, t2, _⟩ := I.tuple h2
  refine SeqAt.RcNeAt.tuples (show s.heap.IsTuple p us.toArray from t1) (show s.heap.IsTuple q vs.toArray from t2) hu (at_eq r1 r2 f1 f2) X.prog X.w X.xe _ ⟨.bl (!eqVs xs ys), H, I, ?_, qq⟩
  show Value.bool _ = Value.bool _
  unfold eqVs
  rw [List.size_toArray, List.size_toArray, r1.length, r2.length]
end
section
variable {X : Cx}
def rEqL (K : PySem.W.Frag) (neg : Bool) : R2 := fun x y H Q => ∃ p q xs ys, x = .ref p ∧ y = .ref q ∧ SqL K H p xs ∧ SqL K H q ys ∧ xs.all flatV = true ∧ ys.all flatV = true ∧ Q (.bl (if neg then !eqVs xs ys else eqVs xs ys)) H
theorem eqVs_len {xs ys : List V} (h : xs.length = ys.length) : eqVs xs ys = (List.range xs.length).all (fun j => eqV ((xs[j]?).getD .non) ((ys[j]?).getD .non)) := by
  unfold eqVs; rw [← h, Nat.min_self]; simp
theorem eqVs_ne {xs ys : List V} (h : ¬ xs.length = ys.length) : eqVs xs ys = false := by
  unfold eqVs; rw [Bool.and_eq_false_iff]; right; simpa using h
theorem op_eqL (hu : X.A.units < cLine) : OpR X (compareOp .Eq) (rEqL X.K false) := by
  intro pins s σ H x y v u Q I rx ry h
  obtain ⟨p, q, xs, ys, rfl, rfl, h1, h2, f1, f2, qq⟩ := h
  cases rx
  cases ry
  obtain ⟨us, r1, t1, _⟩ := I.list h1
  obtain ⟨vs, r2, t2, _⟩ := I.list h2
  have l1 := r1.length
  have l2 := r2.length
  by_cases c : xs.length = ys.length
  · refine SeqAt.eq_listAt t1.isList t2.isList (by rw [List.size_toArray, List.size_toArray]; omega) hu (at_eq r1 r2 f1 f2) ⟨.bl (eqVs xs ys), H, I, ?_, qq⟩
    show Value.bool _ = Value.bool _
    rw [eqVs_len c, List.size_toArray, l1]
  · refine SeqAt.eq_list_lengthsAt t1.isList t2.isList (by rw [List.size_toArray, List.size_toArray]; simp; omega) hu ⟨.bl (eqVs xs ys), H, I, ?_, qq⟩
    show Value.bool _ = Value.bool _
    rw [eqVs_ne c]
theorem op_neL (hu : X.A.units < cLine) : OpR X (compareOp .NotEq) (rEqL X.K true) := by
  intro pins s σ H x y v u Q I rx ry h
  obtain ⟨p, q, xs, ys, rfl, rfl, h1, h2, f1, f2, qq⟩ := h
  cases rx
  cases ry
  obtain ⟨us, r1, t1, _⟩ := I.list h1
  obtain ⟨vs, r2, t2, _⟩ := I.list h2
  have l1 := r1.length
  have l2 := r2.length
  by_cases c : xs.length = ys.length
  · refine SeqAt.RcNeAt.lists t1.isList t2.isList (by rw [List.size_toArray, List.size_toArray]; omega) hu (at_eq r1 r2 f1 f2) X.prog X.w X.xe _ ⟨.bl (!eqVs xs ys), H, I, ?_, qq⟩
    show Value.bool _ = Value.bool _
    rw [eqVs_len c, List.size_toArray, l1]
  · refine SeqAt.RcNeAt.lists_lengths t1.isList t2.isList (by rw [List.size_toArray, List.size_toArray]; simp; omega) hu X.prog X.w X.xe _ ⟨.bl (!eqVs xs ys), H, I, ?_, qq⟩
    show Value.bool _ = Value.bool _
    rw [eqVs_ne c]; rfl
end
section
variable {prog : Program} {w : World} {A : Around} {E : Value → Shared → Prop}
theorem draw_listU {it t : Addr} {items : Array Value} (hne : t ≠ it) : ∀ (n i : Nat) (s : Shared) (Q : List Value → Shared → Prop), s.heap.IsListIter it t i → s.heap.IsList t items → i + n ≤ items.size →
    (∀ h' : Heap, h'.IsListIter it t (i + n) → Heap.SameBut it s.heap h' → Q ((items.toList.drop i).take n) { s with heap := h' }) → wpAny (model prog w) A (draw (.ref it) n) Q E s
  | 0, i, s, Q, hit, _, _, hQ => by
    show wpAny _ _ (pure []) Q E s
    exact wpAny_pure (by simpa using hQ s.heap hit (Heap.SameBut.refl ..))
  | n + 1, i, s, Q, hit, ht, hle, hQ => by
    have hlt : i < items.size := by omega
    show wpAny _ _ (pyNext (.ref it) >>= _) Q E s
    refine wpAny_bind (wpAny_pyNext_list_item hit ht (x := items[i]) (by simp [hlt]) fun h₁ hit₁ hs₁ => ?_)
    refine wpAny_bind (wpAny_holding (draw_listU hne n (i + 1) _ _ hit₁ (ht.extBut hs₁.extBut hne) (by omega) fun h₂ hit₂ hs₂ => wpAny_pure ?_))
    have hd : items.toList.drop i = items[i] :: items.toList.drop (i + 1) := by simp [List.drop_eq_getElem_cons, hlt]
    have := hQ h₂ (by rw [show i + (n + 1) = i + 1 + n by omega]; exact hit₂) (hs₁.trans hs₂)
    rw [hd, List.take_succ_cons] at this
    exact this
theorem unpackItems_listU {s : Shared} {t : Addr} {items : Array Value} {Q : List Value → Shared → Prop} (hh : A.handled = none) (ht : s.heap.IsList t items)
    (hQ : ∀ h' : Heap, Heap.ExtBut s.heap.objs.size s.heap h' → Q items.toList { s with heap := h' }) : wpAny (model prog w) A (unpackItems (.ref t) items.size none) Q E s := by
  have hlt : t ≠ s.heap.objs.size := by obtain ⟨o, ho, _⟩ := ht; exact Nat.ne_of_lt (Heap.lt_size ho)
  unfold unpackItems
  refine wpAny_bind ?_
  · unfold notIterableAtAll
    refine wpAny_bind (wpAny_specialOf ht.typeIs slot_list_iter.lookup ?_)
    refine wpAny_pure ?_
    simp only [Bool.false_eq_true, if_false]
    refine wpAny_bind (wpAny_holding (wpAny_pyIter_list ht ?_))
    refine wpAny_bind (wpAny_holding (draw_listU hlt items.size 0 _ _ ⟨_, Heap.get?_push_size _ rfl, rfl, rfl⟩ (ht.push _) (by omega) fun h₁ hit₁ hs₁ => ?_))
    have hall : List.take items.size (List.drop 0 items.toList) = items.toList := by
      rw [List.drop_zero]; exact List.take_of_length_le (by simp)
    rw [hall]
    rw [if_neg (by simp)]
    have ht₁ : h₁.IsList t items := (ht.push _).extBut hs₁.extBut hlt
    refine wpAny_bind (wpAny_holding (wpAny_pyNext_list_end hh hit₁ ht₁ (by simp) fun h₂ he₂ => ?_))
    simp only [Option.isSome_none, Bool.false_eq_true, if_false]
    refine wpAny_pure (hQ h₂ fun b o hb e => he₂ b o hb (hs₁.extBut b o hb (Heap.get?_push_of_some _ e)))
end
section
variable {X : Cx} {pos : Pos}
def gTupL (K : PySem.W.Frag) (n : Nat) (t : TGs) : TG := fun v σ H Q => ∃ a xs, v = .ref a ∧ SqL K H a xs ∧ xs.length = n ∧ t xs σ H Q
theorem pg_tupL {es : List Expr} {k : Nat} {t : TGs} {n : Nat} (hc : X.calm = true) (h : PGs X es t)
    (hn : (assignEach es X.env).length = n := by rfl) (hst : (assignEach es X.env).findIdx? (·.1) = none := by rfl) : PG X (.Tuple es k pos) (gTupL X.K n t) := by
  intro pins s σ H v u Q I r hw
  obtain ⟨a, xs, e1, hq, hl, hw⟩ := hw
  subst e1
  cases r
  obtain ⟨its, rv, ht, hz⟩ := I.list hq
  rw [assign_Tuple]
  refine wpAny_bind (wpAny_standAt ?_)
  unfold unpack
  have e : (assignEach es X.env).length = its.toArray.size := by simp [hn, ← hl, rv.length]
  rw [e, hst]
  refine wpAny_bind (wpAny_holding (unpackItems_listU (I.ok.hd hc) ht.isList fun h' hx => ?_))
  have I1 : Inv X pins σ H { s with heap := h' } := I.kept (t' := s.toks) fun b o e => hx b o (Nat.ne_of_lt (Heap.lt_size e)) e
  exact h pins _ σ H xs _ Q I1 (by simpa using rv) hw
end
end L2
end
section
set_option Elab.async false
set_option linter.all false
set_option maxRecDepth 100000
set_option maxHeartbeats 4000000
namespace L2
open PySem PySem.Spec PyProof.Rows
def rStr2 : R2 := fun x y H Q => ∃ i j, x = .str i ∧ y = .str j ∧ i.length + j.length ≤ sizeLine ∧ Q (.str (i ++ j)) H
def rPlus (K : PySem.W.Frag) : R2 := fun x y H Q => rI0 (fun i j => .int (i + j)) x y H Q ∨ (rStr2 x y H Q ∨ (rCat x y H Q ∨ rCatT K x y H Q))
def rSub2 : R2 := rI0 fun i j => .int (i - j)
def rTimes (K : PySem.W.Frag) : R2 := fun x y H Q => rI CMul (fun i j => .int (i * j)) x y H Q ∨ rRepT K x y H Q
def rMod2 : R2 := rI (fun _ j => 0 < j) fun i j => .int (i % j)
def rFdiv2 : R2 := rI CDiv fun i j => .int (i / j)
def rPow2 : R2 := rI CPow fun i j => .int (i ^ j.toNat)
def rEqG (K : PySem.W.Frag) : R2 := fun x y H Q => rEq x y H Q ∨ (rEqT K false x y H Q ∨ (rEqTS K x y H Q ∨ rEqL K false x y H Q))
def rNeG (K : PySem.W.Frag) : R2 := fun x y H Q => rNe x y H Q ∨ (rEqT K true x y H Q ∨ rEqL K true x y H Q)
def rLt2 : R2 := rI0 fun i j => .bl (decide (i < j))
def rGt2 : R2 := rI0 fun i j => .bl (decide (j < i))
def rGe2 : R2 := rI0 fun i j => .bl (decide (j ≤ i))
def rNeg : V → Hp → VK → Prop := rU fun i => .int (-i)
def rSl (K : PySem.W.Frag) : V → Option Int → Option Int → Hp → VK → Prop := fun x lo hi H Q => rSlL K x lo hi H Q ∨ rSlT K x lo hi H Q
def rLen (K : PySem.W.Frag) : List V → Hp → VK → Prop := fun xs H Q => ∃ x n, xs = [x] ∧ LenV K x H n ∧ Q (.int n) H
def rDivmod : List V → Hp → VK → Prop := fun xs H Q => ∃ i j, xs = [.int i, .int j] ∧ (0 < j ∧ j < 2 ^ 64) ∧ ∀ p, H p = none → Q (.ref p) (upd H p (.tup [.int (i / j), .int (i % j)]))
def rListOf (K : PySem.W.Frag) : List V → Hp → VK → Prop := fun xs H Q => ∃ p ys, xs = [.ref p] ∧ (SqL K H p ys ∨ SqT K H p ys) ∧ ∀ l, H l = none → Q (.ref l) (upd H l (.lst ys))
def rTupleOf (K : PySem.W.Frag) : List V → Hp → VK → Prop := fun xs H Q => ∃ p ys, xs = [.ref p] ∧ ((SqL K H p ys ∧ ∀ l, H l = none → Q (.ref l) (upd H l (.tup ys))) ∨ (SqT K H p ys ∧ Q (.ref p) H))
def iSeq (K : PySem.W.Frag) (tl : TE) : TI := fun σ H R => iList K tl σ H R ∨ iTup K tl σ H R
section
variable {X : Cx}
theorem op_plus : OpR X (binaryOp .Add) (rPlus X.K) := op_add.or (op_add_str.or (op_cat.or op_catT))
theorem op_times : OpR X (binaryOp .Mult) (rTimes X.K) := op_mul.or op_repT
theorem op_eqG (hu : X.A.units < cLine) : OpR X (compareOp .Eq) (rEqG X.K) := op_eq.or ((op_eqT hu).or ((op_eqTS hu).or (op_eqL hu)))
theorem op_neG (hu : X.A.units < cLine) : OpR X (compareOp .NotEq) (rNeG X.K) := op_ne.or ((op_neT hu).or (op_neL hu))
theorem sl_seq : SlR X (rSl X.K) := sl_list.or sl_tup
theorem pi_seq {tg l : Expr} {tl : TE} (hl : PE X l tl) : PI X tg l (iSeq X.K tl) := by
  intro pins s σ H R I h
  rcases h with h | h
  · exact pi_list hl pins s σ H R I h
  · exact pi_tup hl pins s σ H R I h
end
structure Callee (P : Program) (w : World) (K : PySem.W.Frag) (mg : Str → Option Value) (base : Heap) (x : Str) (ps : List Str) (k : Nat) (sp : Sp) : Prop where
  ex : ∃ (f : Addr) (fd : FuncData), mg x = some (.ref f) ∧ PySem.W.keepIn K (.ref f) = true ∧ Binds K fd ps [] ∧ FnOk P w K mg base CX0 k f fd ps sp
theorem pe_fn {X : Cx} {x : Str} {ps : List Str} {k : Nat} {sp : Sp} {e : Expr} {es : List Expr} {t : TA} {p pos : Pos} (c : Callee X.prog X.w X.K X.mg X.base x ps k sp) (hr : Room k X.A) (hg : Gl X x) (ha : PA X (e :: es) t)
    (hdb : (x == ("__debug__" : Str)) = false := by decide) (he : starEach (e :: es) X.env = (false, eval e X.env) :: starEach es X.env := by rfl) (hpl : (backTo pos (starEach es X.env)).any (·.1) = false := by rfl) :
    PE X (.Call (.Name x p) (e :: es) [] pos) (tCall sp [] E0 t) := by
  obtain ⟨f, fd, hm, hk, hb, F⟩ := c.ex
  exact pe_call F hr hg hm hk hb .nil pass0 ha hdb he hpl
structure Blt (mg : Str → Option Value) : Prop where
  len_ : mg "len" = none
  range_ : mg "range" = none
  divmod_ : mg "divmod" = none
  max_ : mg "max" = none
  min_ : mg "min" = none
  sum_ : mg "sum" = none
  all_ : mg "all" = none
  isinstance_ : mg "isinstance" = none
  int_ : mg "int" = none
  bool_ : mg "bool" = none
  list_ : mg "list" = none
  tuple_ : mg "tuple" = none
  enumerate_ : mg "enumerate" = none
  zip_ : mg "zip" = none
  sorted_ : mg "sorted" = none
  set_ : mg "set" = none
  dict_ : mg "dict" = none
  str_ : mg "str" = none
  any_ : mg "any" = none
  reversed_ : mg "reversed" = none
  abs_ : mg "abs" = none
def But (a : Addr) (H H' : Hp) : Prop := ∀ b o, b ≠ a → H b = some o → H' b = some o
theorem But.refl (a : Addr) (H : Hp) : But a H H := fun _ _ _ h => h
theorem But.trans {a : Addr} {H H1 H2 : Hp} (x : But a H H1) (y : But a H1 H2) : But a H H2 := fun c o n h => y c o n (x c o n h)
theorem But.upd_at {a : Addr} {H : Hp} {o : HO} : But a H (upd H a o) := fun b u n h => by rw [upd_ne n]; exact h
theorem But.new {a p : Addr} {H H1 : Hp} {o : HO} (x : But a H H1) (hp : H1 p = none) : But a H (upd H1 p o) := fun b u n h => by
  rw [upd_ne (ne_of_none (x b u n h) hp)]; exact x b u n h
theorem Same.new {p : Addr} {H H1 : Hp} {o : HO} (x : Same H H1) (hp : H1 p = none) : Same H (upd H1 p o) := fun b u h => by
  rw [upd_ne (ne_of_none (x b u h) hp)]; exact x b u h
theorem But.free {a p : Addr} {H H' : Hp} (x : But a H H') (n : p ≠ a) (h : H' p = none) : H p = none := by
  cases q : H p with
  | none => rfl
  | some o => rw [x p o n q] at h; cases h
theorem comp_range {js : List Nat} {k : Nat} {lo : Int} {n : Nat} {g : TG} {tc : TT} {te : TE} {R : Hp → Prop} {σ : St} {H : Hp} {D : Addr} (Pv : Nat → St → Hp → Prop) (h0 : Pv 0 (emS js k σ) (upd H D (.lst [])))
    (hs : ∀ i σ H, i < n → Pv i σ H → g (.int (lo + i)) σ H fun σ2 H2 => sApp D tc te { nx := Pv (i + 1), rt := fun _ _ => False, ct := Pv (i + 1), bk := fun _ H' => R H' } σ2 H2) (hd : ∀ σ H, Pv n σ H → R H) :
    ∃ W : Nat → Nat → St → Hp → Prop, (∃ m, W 0 m (emS js k σ) (upd H D (.lst []))) ∧ ∀ i m σ H, W i m σ H →
      ((Itr lo n).stop i H ∧ R H) ∨ ((Itr lo n).go i H ∧ ∃ N : St → Hp → Prop, (∀ σ' H', N σ' H' → ∃ m', m' < m ∧ W (i + 1) m' σ' H') ∧ ∀ x H', (Itr lo n).yld i H x H' → g x σ H' fun σ2 H2 => sApp D tc te { nx := N, rt := fun _ _ => False, ct := N, bk := fun _ H' => R H' } σ2 H2) :=
  for_range (D := { nx := fun _ H' => R H', rt := fun _ _ => False }) Pv h0 hs hd
theorem comp_tup {js : List Nat} {k : Nat} {K : PySem.W.Frag} {a : Addr} {xs : List V} {g : TG} {tc : TT} {te : TE} {R : Hp → Prop} {σ : St} {H : Hp} {D : Addr} (Pv : Nat → St → Hp → Prop) (h0 : Pv 0 (emS js k σ) (upd H D (.lst []))) (hl : ∀ i σ H, i ≤ xs.length → Pv i σ H → SqT K H a xs)
    (hs : ∀ i x σ H, xs[i]? = some x → Pv i σ H → g x σ H fun σ2 H2 => sApp D tc te { nx := Pv (i + 1), rt := fun _ _ => False, ct := Pv (i + 1), bk := fun _ H' => R H' } σ2 H2) (hd : ∀ σ H, Pv xs.length σ H → R H) :
    ∃ W : Nat → Nat → St → Hp → Prop, (∃ m, W 0 m (emS js k σ) (upd H D (.lst []))) ∧ ∀ i m σ H, W i m σ H →
      ((Itt K a).stop i H ∧ R H) ∨ ((Itt K a).go i H ∧ ∃ N : St → Hp → Prop, (∀ σ' H', N σ' H' → ∃ m', m' < m ∧ W (i + 1) m' σ' H') ∧ ∀ x H', (Itt K a).yld i H x H' → g x σ H' fun σ2 H2 => sApp D tc te { nx := N, rt := fun _ _ => False, ct := N, bk := fun _ H' => R H' } σ2 H2) :=
  for_tup (D := { nx := fun _ H' => R H', rt := fun _ _ => False }) Pv h0 hl hs hd
theorem But.through {a l : Addr} {H H1 H2 : Hp} {o : HO} (x : But a H H1) (hl : H1 l = none) (y : But l (upd H1 l o) H2) : But a H H2 := fun b u n h => by
  have h1 := x b u n h
  have nl : b ≠ l := ne_of_none h1 hl
  exact y b u nl (by rw [upd_ne nl]; exact h1)
end L2
end
section
set_option Elab.async false
set_option linter.all false
set_option maxRecDepth 100000
set_option maxHeartbeats 4000000
namespace Bg
open PySem L2
inductive BRow where
  | num (x : Str) (z : Int)
  | op (x s a b : Str)
  | call (x : Str) (k : Nat) (as : List Str)
  | say (a : Str)
  | jump (to : Nat)
  | test (a : Str) (to : Nat)
  | give (a : Str)
structure BPart where
  name : Str
  params : List Str
  rows : List BRow
def word : BRow → Str
  | .num _ _ => "num" | .op _ _ _ _ => "op" | .call _ _ _ => "call" | .say _ => "say" | .jump _ => "jump" | .test _ _ => "test" | .give _ => "give"
def RowAt (H : Hp) (v : V) : BRow → Prop
  | .num x z => ∃ p, v = .ref p ∧ H p = some (.tup [.str "num", .str x, .int z])
  | .op x s a b => ∃ p, v = .ref p ∧ H p = some (.tup [.str "op", .str x, .str s, .str a, .str b])
  | .call x k as => ∃ p q, v = .ref p ∧ H p = some (.tup [.str "call", .str x, .int (k : Nat), .ref q]) ∧ H q = some (.tup (as.map V.str))
  | .say a => ∃ p, v = .ref p ∧ H p = some (.tup [.str "say", .str a])
  | .jump to => ∃ p, v = .ref p ∧ H p = some (.tup [.str "jump", .int (to : Nat)])
  | .test a to => ∃ p, v = .ref p ∧ H p = some (.tup [.str "test", .str a, .int (to : Nat)])
  | .give a => ∃ p, v = .ref p ∧ H p = some (.tup [.str "give", .str a])
def Tp (H H' : Hp) : Prop := ∀ p xs, H p = some (.tup xs) → H' p = some (.tup xs)
theorem Tp.of_same {H H' : Hp} (x : Same H H') : Tp H H' := fun p xs h => x p _ h
theorem Tp.of_but {a : Addr} {ys : List V} {H H' : Hp} (x : But a H H') (ha : H a = some (.lst ys)) : Tp H H' := fun p xs h => x p _ (by rintro rfl; rw [h] at ha; cases ha) h
theorem RowAt.mono {H H' : Hp} {v : V} {r : BRow} (h : RowAt H v r) (t : Tp H H') : RowAt H' v r := by
  cases r with
  | num x z => obtain ⟨p, e, h⟩ := h; exact ⟨p, e, t _ _ h⟩
  | op x s a b => obtain ⟨p, e, h⟩ := h; exact ⟨p, e, t _ _ h⟩
  | call x k as => obtain ⟨p, q, e, h, h'⟩ := h; exact ⟨p, q, e, t _ _ h, t _ _ h'⟩
  | say a => obtain ⟨p, e, h⟩ := h; exact ⟨p, e, t _ _ h⟩
  | jump to => obtain ⟨p, e, h⟩ := h; exact ⟨p, e, t _ _ h⟩
  | test a to => obtain ⟨p, e, h⟩ := h; exact ⟨p, e, t _ _ h⟩
  | give a => obtain ⟨p, e, h⟩ := h; exact ⟨p, e, t _ _ h⟩
theorem RowAt.ref {H : Hp} {v : V} {r : BRow} (h : RowAt H v r) : ∃ p xs, v = .ref p ∧ H p = some (.tup (.str (word r) :: xs)) := by
  cases r with
  | num x z => obtain ⟨p, e, h⟩ := h; exact ⟨p, _, e, h⟩
  | op x s a b => obtain ⟨p, e, h⟩ := h; exact ⟨p, _, e, h⟩
  | call x k as => obtain ⟨p, q, e, h, h'⟩ := h; exact ⟨p, _, e, h⟩
  | say a => obtain ⟨p, e, h⟩ := h; exact ⟨p, _, e, h⟩
  | jump to => obtain ⟨p, e, h⟩ := h; exact ⟨p, _, e, h⟩
  | test a to => obtain ⟨p, e, h⟩ := h; exact ⟨p, _, e, h⟩
  | give a => obtain ⟨p, e, h⟩ := h; exact ⟨p, _, e, h⟩
structure AllAt {α : Type} (R : V → α → Prop) (vs : List V) (rs : List α) : Prop where
  len : vs.length = rs.length
  at_ : ∀ (i : Nat) v r, vs[i]? = some v → rs[i]? = some r → R v r
theorem AllAt.nil {α : Type} {R : V → α → Prop} : AllAt R [] [] := ⟨rfl, fun i v r h => by simp at h⟩
theorem AllAt.imp {α : Type} {R R' : V → α → Prop} {vs : List V} {rs : List α} (h : AllAt R vs rs) (f : ∀ v r, R v r → R' v r) : AllAt R' vs rs := ⟨h.len, fun i v r a b => f v r (h.at_ i v r a b)⟩
theorem AllAt.get {α : Type} {R : V → α → Prop} {vs : List V} {rs : List α} (h : AllAt R vs rs) {i : Nat} (hi : i < rs.length) : ∃ v r, vs[i]? = some v ∧ rs[i]? = some r ∧ R v r := by
  have h1 : i < vs.length := by rw [h.len]; exact hi
  exact ⟨vs[i], rs[i], List.getElem?_eq_getElem h1, List.getElem?_eq_getElem hi, h.at_ i _ _ (List.getElem?_eq_getElem h1) (List.getElem?_eq_getElem hi)⟩
def PartAt (H : Hp) (v : V) (b : BPart) : Prop := ∃ p q r rs, v = .ref p ∧ H p = some (.tup [.str b.name, .ref q, .ref r]) ∧ H q = some (.tup (b.params.map V.str)) ∧ H r = some (.tup rs) ∧ AllAt (RowAt H) rs b.rows
theorem PartAt.mono {H H' : Hp} {v : V} {b : BPart} (h : PartAt H v b) (t : Tp H H') : PartAt H' v b := by
  obtain ⟨p, q, r, rs, e, h1, h2, h3, h4⟩ := h
  exact ⟨p, q, r, rs, e, t _ _ h1, t _ _ h2, t _ _ h3, h4.imp fun _ _ z => z.mono t⟩
def ScrAt (K : PySem.W.Frag) (H : Hp) (a : Addr) (ns : List Int) : Prop :=
  (∃ o, H a = some (.frz o (.lst (ns.map V.int)))) ∨ ∃ (o : Obj) (its : Array Value) (n : Nat), K.lookup a = some o ∧ o.cls = .type "list" ∧ o.dict = none ∧ o.data = .seq its n ∧ its.size ≤ sizeLine ∧ Vals (ns.map V.int) its.toList
theorem ScrAt.sq {K : PySem.W.Frag} {H : Hp} {a : Addr} {ns : List Int} (h : ScrAt K H a ns) : SqL K H a (ns.map V.int) := by
  rcases h with ⟨o, h⟩ | h
  · exact .inl (.inr ⟨o, h⟩)
  · exact .inr h
def Fz (H H' : Hp) : Prop := ∀ p o u, H p = some (.frz o u) → H' p = some (.frz o u)
theorem Fz.of_but {a : Addr} {ys : List V} {H H' : Hp} (x : But a H H') (ha : H a = some (.lst ys)) : Fz H H' := fun p o u h => x p _ (by rintro rfl; rw [h] at ha; cases ha) h
theorem Fz.of_same {H H' : Hp} (x : Same H H') : Fz H H' := fun p o u h => x p _ h
theorem ScrAt.mono {K : PySem.W.Frag} {H H' : Hp} {a : Addr} {ns : List Int} (h : ScrAt K H a ns) (f : Fz H H') : ScrAt K H' a ns := by
  rcases h with ⟨o, h⟩ | h
  · exact .inl ⟨o, f _ _ _ h⟩
  · exact .inr h
def Stt (K : PySem.W.Frag) (H : Hp) (st : Addr) (k : Nat) : Prop := ∃ scr ns c, H st = some (.lst [.ref scr, .int (k : Nat), .int c]) ∧ ScrAt K H scr ns ∧ ns.length ≤ 63
theorem Stt.lst {K : PySem.W.Frag} {H : Hp} {st : Addr} {k : Nat} (h : Stt K H st k) : ∃ ys, H st = some (.lst ys) := by
  obtain ⟨scr, ns, c, e, _⟩ := h; exact ⟨_, e⟩
theorem Stt.mono {K : PySem.W.Frag} {H H' : Hp} {a st : Addr} {k : Nat} {ys : List V} (h : Stt K H st k) (x : But a H H') (ha : H a = some (.lst ys)) (n : st ≠ a) : Stt K H' st k := by
  obtain ⟨scr, ns, c, e, q, l⟩ := h
  exact ⟨scr, ns, c, x _ _ n e, q.mono (.of_but x ha), l⟩
theorem Stt.same {K : PySem.W.Frag} {H H' : Hp} {st : Addr} {k : Nat} (h : Stt K H st k) (x : Same H H') : Stt K H' st k := by
  obtain ⟨scr, ns, c, e, q, l⟩ := h
  exact ⟨scr, ns, c, x _ _ e, q.mono (.of_same x), l⟩
theorem Stt.new {K : PySem.W.Frag} {H : Hp} {st p : Addr} {o : HO} {k : Nat} (h : Stt K H st k) (hp : H p = none) : Stt K (upd H p o) st k := h.same ((Same.refl H).new hp)
def sp_draw (K : PySem.W.Frag) : Sp := fun vs H Q _ => ∃ (st : Addr) (m : Int) (k : Nat), vs = [.ref st, .int m] ∧ Stt K H st k ∧ k ≤ 1000000 ∧ 0 < m ∧ m < 2 ^ 64 ∧
  ∀ (d : Int) (H' : Hp), 0 ≤ d → d < m → Stt K H' st (k + 1) → But st H H' → Q (.int d) H'
def resv : List Str := ["part", "call", "say", "jump", "test", "give"]
structure Nm (y : Str) : Prop where
  l1 : 1 ≤ y.length
  l8 : y.length ≤ 8
  abc : ∀ c ∈ y.cps.toList, 97 ≤ c ∧ c ≤ 122
  no : y ∉ resv
def sp_names (K : PySem.W.Frag) : Sp := fun vs H Q _ => ∃ (st : Addr) (n k : Nat), vs = [.ref st, .int (n : Nat)] ∧ Stt K H st k ∧ k ≤ 900000 ∧ n ≤ 20 ∧
  ∀ (l : Addr) (ys : List Str) (k' : Nat) (H' : Hp), H l = none → ys.length = n → ys.Nodup → (∀ y ∈ ys, Nm y) → H' l = some (.lst (ys.map V.str)) → Stt K H' st k' → k' ≤ k + 11 → But st H H' → Q (.ref l) H'
def sp_worth (K : PySem.W.Frag) : Sp := fun vs H Q _ => ∃ (st : Addr) (k : Nat), vs = [.ref st] ∧ Stt K H st k ∧ k ≤ 900000 ∧
  ∀ (z : Int) (k' : Nat) (H' : Hp), 0 ≤ z → z < 2 ^ 64 → Stt K H' st k' → k' ≤ k + 4 → But st H H' → Q (.int z) H'
def leadsL (n : Nat) : BRow → List Nat
  | .jump to => [to]
  | .test _ to => [n + 1, to]
  | .give _ => []
  | _ => [n + 1]
def setsOf : BRow → V
  | .num x _ => .str x
  | .op x _ _ _ => .str x
  | .call x _ _ => .str x
  | _ => .non
def stp (rs : List BRow) (n : Nat) : Nat := match rs[n]? with
  | some (.jump t) => t
  | _ => n
def runJ (rs : List BRow) : Nat → Nat → Nat
  | 0, n => n
  | k + 1, n => runJ rs k (stp rs n)
def isJump : BRow → Bool
  | .jump _ => true
  | _ => false
def NoRing (rs : List BRow) : Prop := ∀ n, n < rs.length → ∀ r, rs[runJ rs rs.length n]? = some r → isJump r = false
def readsOf : BRow → List Str
  | .op _ _ a b => [a, b]
  | .call _ _ as => as
  | .say a => [a]
  | .test a _ => [a]
  | .give a => [a]
  | _ => []
def goalOf : BRow → V
  | .jump to => .int (to : Nat)
  | .test _ to => .int (to : Nat)
  | _ => .non
def spReads : Sp := fun vs H Q _ => ∃ v r, vs = [v] ∧ RowAt H v r ∧ ∀ (p : Addr) (H' : Hp), H' p = some (.tup ((readsOf r).map V.str)) → Same H H' → Q (.ref p) H'
abbrev sp_p_reads (_ : PySem.W.Frag) : Sp := spReads
def sp_p_sets (_ : PySem.W.Frag) : Sp := fun vs H Q _ => ∃ v r, vs = [v] ∧ RowAt H v r ∧ ∀ (H' : Hp), Same H H' → Q (setsOf r) H'
def sp_p_goal (_ : PySem.W.Frag) : Sp := fun vs H Q _ => ∃ v r, vs = [v] ∧ RowAt H v r ∧ Q (goalOf r) H
def sp_law (K : PySem.W.Frag) : Sp := fun vs H Q _ => ∃ (scr : Addr) (ns : List Int), vs = [.ref scr] ∧ ScrAt K H scr ns ∧ ns.length ≤ 63 ∧ ∀ H', Q (.bl true) H'
abbrev k_draw : Nat := 0
abbrev K_draw : Nat := 1
abbrev k_names : Nat := 1
abbrev K_names : Nat := 2
abbrev k_worth : Nat := 1
abbrev K_worth : Nat := 2
abbrev k_p_reads : Nat := 0
abbrev K_p_reads : Nat := 1
abbrev k_p_sets : Nat := 0
abbrev K_p_sets : Nat := 1
abbrev k_p_goal : Nat := 0
abbrev K_p_goal : Nat := 1
end Bg
end
section
set_option Elab.async false
set_option linter.all false
set_option maxRecDepth 100000
set_option maxHeartbeats 4000000
namespace Bg
open PySem L2
theorem if_dec {c : Prop} [Decidable c] {A B : Prop} (h1 : c → A) (h2 : ¬ c → B) : if decide c = true then A else B := by
  by_cases h : c
  · rw [decide_eq_true h]; exact iteT (h1 h)
  · rw [decide_eq_false h]; exact iteF (h2 h)
theorem if_not {c : Prop} [Decidable c] {A B : Prop} (h1 : ¬ c → A) (h2 : c → B) : if (!decide c) = true then A else B := by
  by_cases h : c
  · rw [decide_eq_true h]; exact iteF (h2 h)
  · rw [decide_eq_false h]; exact iteT (h1 h)
theorem if_bl {b : Bool} {A B : Prop} (h1 : b = true → A) (h2 : b = false → B) : if b = true then A else B := by
  cases b with
  | true => exact iteT (h1 rfl)
  | false => exact iteF (h2 rfl)
theorem atI_of {α : Type} {xs : List α} {i : Int} {v : α} (h0 : 0 ≤ i) (e : xs[i.toNat]? = some v) : atI xs i = some v := by
  have h1 := (List.getElem?_eq_some_iff.mp e).1
  unfold atI ixN
  rw [if_pos h0, if_pos (by omega)]
  exact e
theorem ixL {K : PySem.W.Frag} {p : Addr} {xs : List V} {i : Int} {v : V} {H : Hp} {Q : VK} (h : SqL K H p xs) (h0 : 0 ≤ i) (e : xs[i.toNat]? = some v) (q : Q v H) : rIx K (.ref p) (.int i) H Q :=
  .inl ⟨p, xs, i, v, rfl, rfl, h, atI_of h0 e, q⟩
theorem ixT {K : PySem.W.Frag} {p : Addr} {xs : List V} {i : Int} {v : V} {H : Hp} {Q : VK} (h : H p = some (.tup xs)) (h0 : 0 ≤ i) (e : xs[i.toNat]? = some v) (q : Q v H) : rIx K (.ref p) (.int i) H Q :=
  .inr (.inl ⟨p, xs, i, v, rfl, rfl, SqT.of h, atI_of h0 e, q⟩)
theorem ixS {K : PySem.W.Frag} {z : Str} {i : Int} {c : Nat} {H : Hp} {Q : VK} (hz : z.length ≤ sizeLine) (h0 : 0 ≤ i) (e : z.cps.toList[i.toNat]? = some c) (q : Q (.str ⟨#[c]⟩) H) : rIx K (.str z) (.int i) H Q :=
  .inr (.inr ⟨z, i, c, rfl, rfl, hz, atI_of h0 e, q⟩)
theorem setL {p : Addr} {xs : List V} {i : Int} {v : V} {H : Hp} {Q : Hp → Prop} (h : H p = some (.lst xs)) (h0 : 0 ≤ i) (h1 : i.toNat < xs.length) (q : Q (upd H p (.lst (xs.set i.toNat v)))) : rSetL (.ref p) (.int i) v H Q := by
  refine ⟨p, xs, i, i.toNat, rfl, rfl, h, ?_, q⟩
  unfold ixN
  rw [if_pos h0, if_pos (by omega)]
theorem smallL {n : Nat} (h : n ≤ 100000) : n < sizeLine := Nat.lt_of_le_of_lt h (by decide)
theorem app_yes {D : Addr} {te : TE} {E : Ends} {σ : St} {H : Hp} (h : te σ H fun y H2 => ∃ ys, H2 D = some (.lst ys) ∧ ys.length < sizeLine ∧ E.nx σ (upd H2 D (.lst (ys ++ [y])))) : sApp D tYes te E σ H := by
  unfold sApp tYes
  dsimp only
  rw [if_pos rfl]
  exact h
theorem no {x y : V} {A B : Prop} (h : ¬ x = y) (q : B) : if decide (x = y) = true then A else B := if_dec (fun z => absurd z h) fun _ => q
theorem yes {x : V} {A B : Prop} (q : A) : if decide (x = x) = true then A else B := if_dec (fun _ => q) fun z => absurd rfl z
theorem if_t {b : Bool} {A B : Prop} (e : b = true) (q : A) : if b = true then A else B := by rw [e]; exact iteT q
theorem if_f {b : Bool} {A B : Prop} (e : b = false) (q : B) : if b = true then A else B := by rw [e]; exact iteF q
theorem cut_take (xs : List V) (c : Nat) : cutV xs none (some (c : Int)) = xs.take c := by
  unfold cutV
  rw [HT.sIx_none, HT.sIx_nat, List.drop_zero, Nat.sub_zero, ← List.take_eq_take_min]
theorem cut_drop (xs : List V) (c : Nat) : cutV xs (some (c : Int)) none = xs.drop c := by
  unfold cutV
  rw [HT.sIx_none, HT.sIx_nat]
  by_cases h : c ≤ xs.length
  · rw [Nat.min_eq_left h]; exact List.take_of_length_le (by rw [List.length_drop]; omega)
  · rw [Nat.min_eq_right (by omega), List.drop_length, List.drop_of_length_le (by omega), List.take_nil]
theorem inV_strs (y : Str) (ls : List Str) : inV (.str y) (ls.map V.str) = decide (y ∈ ls) := by
  unfold inV
  rw [List.any_map, Bool.eq_iff_iff, List.any_eq_true, decide_eq_true_eq]
  constructor
  · rintro ⟨z, hz, e⟩
    have e' : (z == y) = true := e
    have : z = y := by simpa using e'
    rw [← this]; exact hz
  · intro h
    exact ⟨y, h, by show (y == y) = true; simp⟩
end Bg
end
section
set_option Elab.async false
set_option linter.all false
set_option maxRecDepth 100000
set_option maxHeartbeats 4000000
namespace Bg
open PySem PySem.Spec PyProof.Rows L2
abbrev PS_draw : List Str := ["_law_state", "_law_many"]
abbrev N_draw : List Str := ["_law_state", "_law_many", "_law_script", "_law_k", "_law_digit", "_law_cell"]
def t_draw_1 (K : PySem.W.Frag) : TS := (tRet (tOp (rMod2) (tOp (rMod2) (tOp (rTimes K) (tVar 5) (tVar 5)) (tC (.int 1999999973))) (tVar 1)))
def t_draw_2 (K : PySem.W.Frag) : TS := (tSeq (tAsg (tOp (rMod2) (tOp (rTimes K) (tVar 5) (tVar 5)) (tC (.int 2147483587))) (gName 5)) (t_draw_1 K))
def t_draw_3 (K : PySem.W.Frag) : TS := (tSeq (tAsg (tOp (rMod2) (tOp (rTimes K) (tOp (rMod2) (tVar 5) (tC (.int 2147483629))) (tOp (rPlus K) (tVar 3) (tC (.int 3)))) (tC (.int 2147483629))) (gName 5)) (t_draw_2 K))
def t_draw_4 (K : PySem.W.Frag) : TS := (tSeq (tIfS (tTest (tOp (rGt2) (tCB (rLen K) (tCons (tVar 2) tNil)) (tC (.int 0)))) (tAsg (tOp (rPlus K) (tVar 5) (tOp (rTimes K) (tOp (rIx K) (tVar 2) (tOp (rMod2) (tOp (rTimes K) (tVar 3) (tC (.int 7))) (tCB (rLen K) (tCons (tVar 2) tNil)))) (tOp (rPlus K) (tC (.int 48271)) (tVar 3)))) (gName 5)) tNext) (t_draw_3 K))
def t_draw_5 (K : PySem.W.Frag) : TS := (tSeq (tAsg (tOp (rPlus K) (tOp (rTimes K) (tVar 3) (tC (.int 7919))) (tC (.int 5))) (gName 5)) (t_draw_4 K))
def t_draw_6 (K : PySem.W.Frag) : TS := (tRet (tVar 4))
def t_draw_7 (K : PySem.W.Frag) : TS := (tIfS (tTest (tOp ((rIn K true)) (tOp (rIx K) (tVar 0) (tC (.int 2))) (tTup (tCons (tC (.int 0)) (tCons (tUn rNeg (tC (.int 1))) tNil))))) (tSeq (tAsg (tCB (rDivmod) (tCons (tOp (rIx K) (tVar 0) (tC (.int 2))) (tCons (tVar 1) tNil))) (gTup K 2 (gCons (gSub (tVar 0) (tC (.int 2)) rSetL) (gCons (gName 4) gNil)))) (t_draw_6 K)) tNext)
def t_draw_8 (K : PySem.W.Frag) : TS := (tSeq (tIfS (tAnd (tTest (tOp (rLt2) (tOp (rPlus K) (tOp (rFdiv2) (tVar 3) (tC (.int 12))) (tC (.int 1))) (tCB (rLen K) (tCons (tVar 2) tNil)))) (tTest (tOp (rEqG K) (tOp (rMod2) (tOp (rIx K) (tVar 2) (tC (.int 0))) (tC (.int 2))) (tC (.int 1))))) (tSeq (tIfS (tTest (tOp (rEqG K) (tOp (rMod2) (tVar 3) (tC (.int 12))) (tC (.int 0)))) (tAsg (tOp (rIx K) (tVar 2) (tOp (rPlus K) (tOp (rFdiv2) (tVar 3) (tC (.int 12))) (tC (.int 1)))) (gSub (tVar 0) (tC (.int 2)) rSetL)) tNext) (t_draw_7 K)) (tIfS (tTest (tOp (rLt2) (tVar 3) (tCB (rLen K) (tCons (tVar 2) tNil)))) (tRet (tOp (rMod2) (tOp (rIx K) (tVar 2) (tVar 3)) (tVar 1))) tNext)) (t_draw_5 K))
def t_draw_9 (K : PySem.W.Frag) : TS := (tSeq (tAsg (tOp (rPlus K) (tVar 3) (tC (.int 1))) (gSub (tVar 0) (tC (.int 1)) rSetL)) (t_draw_8 K))
def t_draw (K : PySem.W.Frag) : TS := (tSeq (tAsg (tSl (rSl K) (tVar 0) tNoPart (tPart (tC (.int 2)))) (gTupL K 2 (gCons (gName 2) (gCons (gName 3) gNil)))) (t_draw_9 K))
abbrev PS_names : List Str := ["_law_state", "_law_many"]
abbrev N_names : List Str := ["_law_state", "_law_many", "_law_letters", "_law_size", "_law_at", "_law_first", "_law_base", "_law_found", "_law_k", "_law_some", "_law_name"]
def t_names_1 (K : PySem.W.Frag) : TS := (tRet (tVar 7))
def t_names_2 (K : PySem.W.Frag) : TS := (tDrop (tBM K "list" rAppend (tVar 7) (tCons (tVar 10) tNil)))
def t_names_3 (K : PySem.W.Frag) : TS := (tSeq (tIfS (tOr (tTest (tOp ((rIn K false)) (tVar 10) (tTup (tCons (tC (.str "part")) (tCons (tC (.str "call")) (tCons (tC (.str "say")) (tCons (tC (.str "jump")) (tCons (tC (.str "test")) (tCons (tC (.str "give")) tNil))))))))) (tAnd (tTest (tOp (rLt2) (tVar 3) (tC (.int 8)))) (tTest (tOp (rEqG K) (tOp (rMod2) (tOp (rPlus K) (tVar 3) (tVar 8)) (tC (.int 3))) (tC (.int 1)))))) (tAsg (tOp (rPlus K) (tVar 10) (tC (.str "x"))) (gName 10)) tNext) (t_names_2 K))
def t_names_4 (K : PySem.W.Frag) : TS := (tSeq (tAsg (tBM K "str" (rJoin K) (tC (.str "")) (tCons (tVar 9) tNil)) (gName 10)) (t_names_3 K))
def t_names_5 (K : PySem.W.Frag) : TS := (tSeq (tAsg (tOp (rPlus K) (tOp (rPlus K) (tSl (rSl K) (tVar 6) tNoPart (tPart (tVar 4))) (tLst (tCons (tOp (rIx K) (tVar 2) (tOp (rMod2) (tOp (rPlus K) (tVar 5) (tOp (rTimes K) (tC (.int 5)) (tVar 8))) (tC (.int 26)))) tNil))) (tSl (rSl K) (tVar 6) (tPart (tOp (rPlus K) (tVar 4) (tC (.int 1)))) tNoPart)) (gName 9)) (t_names_4 K))
def t_names_6 (K : PySem.W.Frag) : TS := (tSeq (tFor (iRng1 (tCons (tVar 1) tNil)) (gName 8) (t_names_5 K)) (t_names_1 K))
def t_names_7 (K : PySem.W.Frag) : TS := (tSeq (tAsg (tLst tNil) (gName 7)) (t_names_6 K))
def t_names_8 (K : PySem.W.Frag) : TS := (tSeq (tAsg (tComp [] 1 (iRng1 (tCons (tVar 3) tNil)) (gName 11) tYes (tOp (rIx K) (tVar 2) (tOp (rMod2) (tOp (rPlus K) (tVar 5) (tOp (rTimes K) (tOp (rTimes K) (tC (.int 7)) (tVar 11)) (tCall (sp_draw K) [] E0 (tCons (tVar 0) (tCons (tC (.int 4)) tNil))))) (tC (.int 26))))) (gName 6)) (t_names_7 K))
def t_names_9 (K : PySem.W.Frag) : TS := (tSeq (tAsg (tCall (sp_draw K) [] E0 (tCons (tVar 0) (tCons (tC (.int 26)) tNil))) (gName 5)) (t_names_8 K))
def t_names_10 (K : PySem.W.Frag) : TS := (tSeq (tAsg (tCall (sp_draw K) [] E0 (tCons (tVar 0) (tCons (tVar 3) tNil))) (gName 4)) (t_names_9 K))
def t_names_11 (K : PySem.W.Frag) : TS := (tSeq (tAsg (tOp (rPlus K) (tC (.int 1)) (tCall (sp_draw K) [] E0 (tCons (tVar 0) (tCons (tC (.int 8)) tNil)))) (gName 3)) (t_names_10 K))
def t_names (K : PySem.W.Frag) : TS := (tSeq (tAsg (tC (.str "abcdefghijklmnopqrstuvwxyz")) (gName 2)) (t_names_11 K))
abbrev PS_worth : List Str := ["_law_state"]
abbrev N_worth : List Str := ["_law_state"]
def t_worth_1 (K : PySem.W.Frag) : TS := (tRet (tOp (rIx K) (tLst (tCons (tC (.int 0)) (tCons (tC (.int 1)) (tCons (tOp (rSub2) (tOp (rSub2) (tOp (rPow2) (tC (.int 2)) (tC (.int 64))) (tC (.int 1))) (tCall (sp_draw K) [] E0 (tCons (tVar 0) (tCons (tC (.int 3)) tNil)))) (tCons (tCall (sp_draw K) [] E0 (tCons (tVar 0) (tCons (tC (.int 12)) tNil))) tNil))))) (tCall (sp_draw K) [] E0 (tCons (tVar 0) (tCons (tC (.int 4)) tNil)))))
def t_worth (K : PySem.W.Frag) : TS := (tSeq (tIfS (tTest (tOp (rEqG K) (tCall (sp_draw K) [] E0 (tCons (tVar 0) (tCons (tC (.int 2)) tNil))) (tC (.int 0)))) (tRet (tOp (rPlus K) (tOp (rTimes K) (tCall (sp_draw K) [] E0 (tCons (tVar 0) (tCons (tOp (rPow2) (tC (.int 2)) (tC (.int 31))) tNil))) (tOp (rPow2) (tC (.int 2)) (tC (.int 33)))) (tCall (sp_draw K) [] E0 (tCons (tVar 0) (tCons (tOp (rPow2) (tC (.int 2)) (tC (.int 31))) tNil))))) tNext) (t_worth_1 K))
end Bg
end
section
set_option Elab.async false
set_option linter.all false
set_option maxRecDepth 100000
set_option maxHeartbeats 4000000
namespace Bg
open PySem L2
abbrev abc : Str := "abcdefghijklmnopqrstuvwxyz"
theorem abc_len : abc.length ≤ sizeLine := by decide +kernel
def one (c : Nat) : Str := ⟨#[c]⟩
theorem codes_join0 : ∀ cs : List Nat, (Txt.join "" (cs.map one)).cps.toList = cs
  | [] => by decide +kernel
  | c :: r => by
    unfold Txt.join
    rw [StrLaws.glued_eq_join]
    induction r generalizing c with
    | nil => rfl
    | cons d r ih =>
      show (one c ++ ("" : Str) ++ Str.join "" ((d :: r).map one)).cps.toList = _
      have e : (one c ++ ("" : Str) ++ Str.join "" ((d :: r).map one)).cps.toList = (one c).cps.toList ++ ("" : Str).cps.toList ++ (Str.join "" ((d :: r).map one)).cps.toList := by
        show ((one c).cps ++ ("" : Str).cps ++ (Str.join "" ((d :: r).map one)).cps).toList = _
        rw [Array.toList_append, Array.toList_append]
      rw [e, ih d]
      rfl
theorem len_codes (y : Str) : y.length = y.cps.toList.length := by
  show y.cps.size = _
  rw [Array.length_toList]
theorem abc_code : ∀ j : Nat, j < 26 → abc.cps.toList[j]? = some (97 + j) := by decide +kernel
theorem resv_len : ∀ y ∈ resv, y.length ≤ 4 := by decide +kernel
theorem resv_last : ∀ y ∈ resv, y.cps.toList.getLast? ≠ some 120 := by decide +kernel
theorem codes_x (y : Str) : (y ++ "x").cps.toList = y.cps.toList ++ [120] := by
  show (y.cps ++ ("x" : Str).cps).toList = _
  rw [Array.toList_append]
  rfl
theorem nm_plain {y : Str} {cs : List Nat} (h : y.cps.toList = cs) (l1 : 1 ≤ cs.length) (l8 : cs.length ≤ 8) (a : ∀ c ∈ cs, 97 ≤ c ∧ c ≤ 122) (n : y ∉ resv) : Nm y :=
  ⟨by rw [len_codes, h]; exact l1, by rw [len_codes, h]; exact l8, by rw [h]; exact a, n⟩
theorem nm_x {y : Str} {cs : List Nat} (h : y.cps.toList = cs) (l8 : cs.length ≤ 7) (a : ∀ c ∈ cs, 97 ≤ c ∧ c ≤ 122) : Nm (y ++ "x") := by
  have e := codes_x y
  rw [h] at e
  refine ⟨by rw [len_codes, e, List.length_append]; simp, by rw [len_codes, e, List.length_append]; simp; omega, fun c hc => ?_, fun hm => ?_⟩
  · rw [e] at hc
    rcases List.mem_append.mp hc with z | z
    · exact a c z
    · rw [List.mem_singleton.mp z]; decide
  · have := resv_last _ hm
    rw [e, List.getLast?_append] at this
    exact this rfl
def NmP (st b l : Addr) (n sz at' : Nat) (f : Int) (H4 : Hp) (i : Nat) : St → Hp → Prop := fun σ' H' => ∃ (ys : List Str) (o1 o2 o3 : Option V), σ' = [some (.ref st), some (.int (n : Nat)), some (.str abc), some (.int (sz : Nat)), some (.int (at' : Nat)), some (.int f), some (.ref b), some (.ref l), o1, o2, o3] ∧ H' l = some (.lst (ys.map V.str)) ∧ ys.length = i ∧ (∀ y ∈ ys, Nm y) ∧ (∀ (j : Nat) y, ys[j]? = some y → y.cps.toList[at']? = some (97 + ((f + 5 * (j : Int)) % 26).toNat)) ∧ But l (upd H4 l (.lst [])) H'
theorem r_names {K : PySem.W.Frag} {vs : List V} {H : Hp} {Q : VK} {E : XK} (h : sp_names K vs H Q E) : t_names K { nx := fun _ H' => Q .non H', rt := Q } (start N_names vs) H := by
  obtain ⟨st, n, k, rfl, S, hk, hn, q⟩ := h
  refine ⟨_, rfl, st, 8, k, rfl, S, by omega, by decide, by decide, fun d H1 d0 d1 S1 B1 => .inl ⟨_, _, rfl, rfl, ?_⟩⟩
  obtain ⟨sz, hsz, z1, z8⟩ : ∃ sz : Nat, (1 : Int) + d = (sz : Int) ∧ 1 ≤ sz ∧ sz ≤ 8 := ⟨(1 + d).toNat, by omega, by omega, by omega⟩
  show t_names_10 K _ [some (.ref st), some (.int (n : Nat)), some (.str abc), some (.int ((1 : Int) + d)), none, none, none, none, none, none, none] H1
  rw [hsz]
  refine ⟨_, rfl, _, rfl, st, _, k + 1, rfl, S1, by omega, by omega, by omega, fun a H2 a0 a1 S2 B2' => ?_⟩
  obtain ⟨at', rfl⟩ : ∃ j : Nat, a = (j : Int) := ⟨a.toNat, by omega⟩
  have B2 := B1.trans B2'
  refine ⟨_, rfl, st, 26, k + 2, rfl, S2, by omega, by decide, by decide, fun f H3 f0 f1 S3 B3' => ?_⟩
  have B3 := B2.trans B3'
  refine ⟨_, rfl, _, rfl, by omega, by omega, fun b hb => ?_⟩
  obtain ⟨ys3, hs3⟩ := S3.lst
  have nb : b ≠ st := fun z => by rw [z, hs3] at hb; cases hb
  refine comp_range (fun i σ' H' => ∃ (bc : List Nat) (kk : Nat) (o : Option V), σ' = [some (.ref st), some (.int (n : Nat)), some (.str abc), some (.int (sz : Nat)), some (.int (at' : Nat)), some (.int f), none, none, none, none, none, o] ∧
    H' b = some (.lst ((bc.map one).map V.str)) ∧ bc.length = i ∧ (∀ c ∈ bc, 97 ≤ c ∧ c ≤ 122) ∧ Stt K H' st kk ∧ kk ≤ k + 3 + i ∧ But st H H') ?_ ?_ ?_
  · exact ⟨[], k + 3, none, rfl, upd_same, rfl, by simp, S3.new hb, by omega, B3.new hb⟩
  · rintro i σ' H' hi ⟨bs, kk, o, rfl, hbl, hlen, hone, S4, hkk, B4⟩
    have hi : i < sz := by simpa using hi
    refine app_yes ?_
    refine ⟨_, rfl, _, rfl, _, rfl, .inl ⟨_, _, rfl, rfl, .inl ⟨by decide, by decide⟩, _, rfl, st, 4, kk, rfl, S4, by omega, by decide, by decide, fun e H5 e0 e1 S5 B5 => .inl ⟨_, _, rfl, rfl, .inr ⟨by omega, by omega⟩, .inl ⟨_, _, rfl, rfl, _, _, rfl, rfl, (by show (0 : Int) < 26; decide), ?_⟩⟩⟩⟩
    have x0 : 0 ≤ (f + 7 * (0 + (i : Int)) * e) % 26 := Int.emod_nonneg _ (by decide)
    have x1 : (f + 7 * (0 + (i : Int)) * e) % 26 < 26 := Int.emod_lt_of_pos _ (by decide)
    refine ixS abc_len x0 (abc_code _ (by omega)) ?_
    have x2 : ((f + 7 * (0 + (i : Int)) * e) % 26).toNat < 26 := by omega
    generalize ((f + 7 * (0 + (i : Int)) * e) % 26).toNat = x at x2
    have h5 := B5 b _ nb hbl
    refine ⟨_, h5, smallL (by rw [List.length_map, List.length_map]; omega), bs ++ [97 + x], kk + 1, _, rfl, ?_, by simp [hlen], ?_, ?_, by omega, ?_⟩
    · rw [upd_same, List.map_append, List.map_append]; rfl
    · intro y hy
      rcases List.mem_append.mp hy with z | z
      · exact hone y z
      · rw [List.mem_singleton.mp z]; omega
    · exact S5.mono .upd_at h5 (Ne.symm nb)
    · exact fun c' u n' h' => by
        have w := (B4.trans B5) c' u n' h'
        have ncb : c' ≠ b := fun z => by
          have : H c' = none := (B3.free (fun z' => n' z') (by rw [z]; exact hb))
          rw [this] at h'; cases h'
        rw [upd_ne ncb]; exact w
  · rintro σ' H4 ⟨bs, kk, o, rfl, hbl, hlen, hone, S4, hkk, B4⟩
    have hlen : bs.length = sz := by simpa using hlen
    have hkk : kk ≤ k + 3 + sz := by simpa using hkk
    refine ⟨(by show 0 ≤ sizeLine; decide), fun l hl => ?_⟩
    have nlb : b ≠ l := ne_of_none hbl hl
    obtain ⟨ys4, hs4⟩ := S4.lst
    have nls : st ≠ l := ne_of_none hs4 hl
    have Hl : H l = none := B4.free (Ne.symm nls) hl
    show t_names_6 K _ [some (.ref st), some (.int (n : Nat)), some (.str abc), some (.int (sz : Nat)), some (.int (at' : Nat)), some (.int f), some (.ref b), some (.ref l), none, none, none] (upd H4 l (.lst []))
    refine ⟨_, rfl, _, rfl, by omega, by omega, for_range (NmP st b l n sz at' f H4) ⟨[], none, none, none, rfl, upd_same, rfl, by simp, by simp, .refl _ _⟩ ?_ ?_⟩
    · rintro i σ' H5 hi ⟨ys, o1, o2, o3, rfl, hyl, ylen, yok, ycd, B5⟩
      have hi : i < n := by simpa using hi
      have hb5 : H5 b = some (.lst ((bs.map one).map V.str)) := B5 b _ nlb (by rw [upd_ne nlb]; exact hbl)
      refine ⟨_, rfl, _, rfl, _, rfl, .inl ⟨b, _, rfl, SqL.of hb5, fun p1 hp1 => ?_⟩⟩
      rw [cut_take, ← List.map_take, ← List.map_take]
      have np1b : b ≠ p1 := ne_of_none hb5 hp1
      have np1l : l ≠ p1 := ne_of_none hyl hp1
      refine ⟨_, rfl, _, rfl, _, rfl, .inl ⟨_, _, rfl, rfl, .inl ⟨by decide, by decide⟩, .inl ⟨_, _, rfl, rfl, _, _, rfl, rfl, (by show (0 : Int) < 26; decide), ?_⟩⟩⟩
      have e00 : (0 : Int) + (i : Int) = (i : Int) := by omega
      rw [e00]
      have x0 : 0 ≤ (f + 5 * (i : Int)) % 26 := Int.emod_nonneg _ (by decide)
      have x1 : (f + 5 * (i : Int)) % 26 < 26 := Int.emod_lt_of_pos _ (by decide)
      obtain ⟨c, hc⟩ : ∃ c, c = 97 + ((f + 5 * (i : Int)) % 26).toNat := ⟨_, rfl⟩
      refine ixS abc_len x0 (by rw [abc_code _ (by omega), ← hc]) ⟨(by show 1 ≤ sizeLine; decide), fun p2 hp2 => ?_⟩
      have np12 : p1 ≠ p2 := ne_of_none upd_same hp2
      have np2b : b ≠ p2 := ne_of_none (by rw [upd_ne np1b]; exact hb5) hp2
      have np2l : l ≠ p2 := ne_of_none (by rw [upd_ne np1l]; exact hyl) hp2
      refine .inr (.inr (.inl ⟨p1, p2, _, _, rfl, rfl, by rw [upd_ne np12, upd_same], upd_same, ?_, fun p3 hp3 => ?_⟩))
      · have := smallL (n := 9) (by decide)
        rw [List.length_map, List.length_map, List.length_take]
        show min at' bs.length + 1 ≤ sizeLine
        omega
      have np13 : p1 ≠ p3 := ne_of_none (by rw [upd_ne np12]; exact upd_same) hp3
      have np3b : b ≠ p3 := ne_of_none (by rw [upd_ne np2b, upd_ne np1b]; exact hb5) hp3
      have np3l : l ≠ p3 := ne_of_none (by rw [upd_ne np2l, upd_ne np1l]; exact hyl) hp3
      refine ⟨_, rfl, _, rfl, .inl ⟨_, _, rfl, rfl, _, rfl, .inl ⟨b, _, rfl, SqL.of (by rw [upd_ne np3b, upd_ne np2b, upd_ne np1b]; exact hb5), fun p4 hp4 => ?_⟩⟩⟩
      rw [show ((at' : Int) + 1) = ((at' + 1 : Nat) : Int) by omega, cut_drop, ← List.map_drop, ← List.map_drop]
      have np34 : p3 ≠ p4 := ne_of_none upd_same hp4
      have np4l : l ≠ p4 := ne_of_none (by rw [upd_ne np3l, upd_ne np2l, upd_ne np1l]; exact hyl) hp4
      refine .inr (.inr (.inl ⟨p3, p4, _, _, rfl, rfl, by rw [upd_ne np34, upd_same], upd_same, ?_, fun p5 hp5 => ?_⟩))
      · have := smallL (n := 100) (by decide)
        rw [List.length_append, List.length_map, List.length_map, List.length_map, List.length_map, List.length_take, List.length_drop]
        show min at' bs.length + 1 + (bs.length - (at' + 1)) ≤ sizeLine
        omega
      have np5l : l ≠ p5 := ne_of_none (by rw [upd_ne np4l, upd_ne np3l, upd_ne np2l, upd_ne np1l]; exact hyl) hp5
      have ew : ((bs.take at').map one).map V.str ++ [V.str ⟨#[c]⟩] ++ ((bs.drop (at' + 1)).map one).map V.str = ((bs.take at' ++ [c] ++ bs.drop (at' + 1)).map one).map V.str := by rw [List.map_append, List.map_append, List.map_append, List.map_append]; rfl
      rw [ew]
      have wl : (bs.take at' ++ [c] ++ bs.drop (at' + 1)).length = sz := by rw [List.length_append, List.length_append, List.length_take, List.length_drop, List.length_singleton]; omega
      have wone : ∀ y ∈ bs.take at' ++ [c] ++ bs.drop (at' + 1), 97 ≤ y ∧ y ≤ 122 := fun y hy => by
        rcases List.mem_append.mp hy with z | z
        · rcases List.mem_append.mp z with z | z
          · exact hone y (List.mem_of_mem_take z)
          · rw [List.mem_singleton.mp z]; omega
        · exact hone y (List.mem_of_mem_drop z)
      have wat : (bs.take at' ++ [c] ++ bs.drop (at' + 1))[at']? = some c := by
        have tl : (bs.take at').length = at' := by rw [List.length_take]; omega
        rw [List.append_assoc, List.getElem?_append_right (by omega), tl, Nat.sub_self]
        rfl
      generalize bs.take at' ++ [c] ++ bs.drop (at' + 1) = w at wl wone wat ⊢
      have B6 := ((((B5.new (o := .lst (((bs.take at').map one).map V.str)) hp1).new (o := .lst [V.str ⟨#[c]⟩]) hp2).new (o := .lst (((bs.take at').map one).map V.str ++ [V.str ⟨#[c]⟩])) hp3).new (o := .lst (((bs.drop (at' + 1)).map one).map V.str)) hp4).new (o := .lst ((w.map one).map V.str)) hp5
      have h6 : (upd (upd (upd (upd (upd H5 p1 (.lst (((bs.take at').map one).map V.str))) p2 (.lst [V.str ⟨#[c]⟩])) p3 (.lst (((bs.take at').map one).map V.str ++ [V.str ⟨#[c]⟩]))) p4 (.lst (((bs.drop (at' + 1)).map one).map V.str))) p5 (.lst ((w.map one).map V.str))) l = some (.lst (ys.map V.str)) := by
        rw [upd_ne np5l, upd_ne np4l, upd_ne np3l, upd_ne np2l, upd_ne np1l]; exact hyl
      have g6 : (upd (upd (upd (upd (upd H5 p1 (.lst (((bs.take at').map one).map V.str))) p2 (.lst [V.str ⟨#[c]⟩])) p3 (.lst (((bs.take at').map one).map V.str ++ [V.str ⟨#[c]⟩]))) p4 (.lst (((bs.drop (at' + 1)).map one).map V.str))) p5 (.lst ((w.map one).map V.str))) p5 = some (.lst ((w.map one).map V.str)) := upd_same
      generalize (upd (upd (upd (upd (upd H5 p1 (.lst (((bs.take at').map one).map V.str))) p2 (.lst [V.str ⟨#[c]⟩])) p3 (.lst (((bs.take at').map one).map V.str ++ [V.str ⟨#[c]⟩]))) p4 (.lst (((bs.drop (at' + 1)).map one).map V.str))) p5 (.lst ((w.map one).map V.str))) = H6 at B6 h6 g6 ⊢
      have wsum : ((w.map one).map (·.length)).sum = w.length := by
        rw [List.map_map, show ((fun x : Str => x.length) ∘ one) = fun _ => 1 from rfl, List.map_const', List.sum_replicate_nat, Nat.mul_one]
      refine ⟨rfl, _, rfl, "", p5, w.map one, rfl, rfl, SqL.of g6, ?_, ?_⟩
      · have e : ("" : Str).length = 0 := by decide +kernel
        rw [wsum, e, Nat.mul_zero]; omega
      have jl := codes_join0 w
      generalize Txt.join "" (w.map one) = nmw at jl ⊢
      show t_names_3 K _ [some (.ref st), some (.int (n : Nat)), some (.str abc), some (.int (sz : Nat)), some (.int (at' : Nat)), some (.int f), some (.ref b), some (.ref l), some (.int (i : Int)), some (.ref p5), some (.str nmw)] H6
      have nl : nmw.length = sz := by rw [len_codes, jl, wl]
      have app : ∀ (nw : Str) (H7 : Hp), Nm nw → nw.cps.toList[at']? = some c → But l (upd H4 l (.lst [])) H7 → H7 l = some (.lst (ys.map V.str)) → t_names_2 K { nx := NmP st b l n sz at' f H4 (i + 1), rt := Q, ct := NmP st b l n sz at' f H4 (i + 1), bk := t_names_1 K { nx := fun _ H' => Q .non H', rt := Q } } [some (.ref st), some (.int (n : Nat)), some (.str abc), some (.int (sz : Nat)), some (.int (at' : Nat)), some (.int f), some (.ref b), some (.ref l), some (.int (i : Int)), some (.ref p5), some (.str nw)] H7 := fun nw H7 w1 w2 B7 h7 => by
        refine ⟨_, rfl, .inl ⟨rfl, _, SqL.of h7⟩, _, rfl, l, _, _, rfl, rfl, h7, smallL (by rw [List.length_map]; omega), ?_⟩
        refine ⟨ys ++ [nw], _, _, _, rfl, ?_, by simp [ylen], ?_, ?_, B7.trans .upd_at⟩
        · rw [upd_same, List.map_append]; rfl
        · intro y hy
          rcases List.mem_append.mp hy with z | z
          · exact yok y z
          · rw [List.mem_singleton.mp z]; exact w1
        · intro j y hy
          by_cases cj : j < ys.length
          · rw [List.getElem?_append_left cj] at hy; exact ycd j y hy
          · have cj2 : j = i := by
              have := (List.getElem?_eq_some_iff.mp hy).1
              rw [List.length_append, List.length_singleton] at this
              omega
            subst cj2
            rw [List.getElem?_append_right (by omega), ylen, Nat.sub_self] at hy
            cases hy
            rw [← hc]; exact w2
      refine ⟨_, rfl, (by show 6 ≤ sizeLine; decide), fun t ht => ⟨t, _, rfl, .inr (SqT.of upd_same), rfl, rfl, _, rfl, ?_⟩⟩
      have ntl : l ≠ t := ne_of_none h6 ht
      have B7 := B6.new (o := .tup [V.str "part", V.str "call", V.str "say", V.str "jump", V.str "test", V.str "give"]) ht
      have h7 : (upd H6 t (.tup [V.str "part", V.str "call", V.str "say", V.str "jump", V.str "test", V.str "give"])) l = some (.lst (ys.map V.str)) := by rw [upd_ne ntl]; exact h6
      have xl : ("x" : Str).length = 1 := by decide +kernel
      have xat : (nmw ++ "x").cps.toList[at']? = some c := by
        rw [codes_x, jl, List.getElem?_append_left (by rw [wl]; omega)]; exact wat
      show if inV (.str nmw) (resv.map V.str) = true then _ else _
      rw [inV_strs]
      refine if_dec (fun hin => ?_) (fun hin => ?_)
      · refine ⟨_, rfl, .inr (.inl ⟨_, _, rfl, rfl, by rw [xl]; have := smallL (n := 100) (by decide); omega, ?_⟩)⟩
        have z4 := resv_len _ hin
        exact app _ _ (nm_x jl (by rw [wl]; omega) wone) xat B7 h7
      · refine ⟨_, rfl, _, _, rfl, rfl, _, rfl, if_dec (fun h8 => ?_) (fun _ => ?_)⟩
        · refine ⟨_, rfl, _, rfl, .inl ⟨_, _, rfl, rfl, _, _, rfl, rfl, (by show (0 : Int) < 3; decide), .inl ⟨rfl, _, rfl, if_dec (fun _ => ?_) (fun _ => ?_)⟩⟩⟩
          · refine ⟨_, rfl, .inr (.inl ⟨_, _, rfl, rfl, by rw [xl]; have := smallL (n := 100) (by decide); omega, ?_⟩)⟩
            exact app _ _ (nm_x jl (by rw [wl]; omega) wone) xat B7 h7
          · exact app _ _ (nm_plain jl (by omega) (by omega) wone hin) (by rw [jl]; exact wat) B7 h7
        · exact iteF (app _ _ (nm_plain jl (by omega) (by omega) wone hin) (by rw [jl]; exact wat) B7 h7)
    · rintro σ' H5 ⟨ys, o1, o2, o3, rfl, hyl, ylen, yok, ycd, B5⟩
      have ylen : ys.length = n := by simpa using ylen
      have nd : ys.Nodup := by
        rw [List.Nodup, List.pairwise_iff_getElem]
        intro i j hi hj lt e
        have e1 := ycd i _ (List.getElem?_eq_getElem hi)
        have e2 := ycd j _ (List.getElem?_eq_getElem hj)
        rw [e, e2] at e1
        have e3 := Option.some.inj e1
        have a1 : 0 ≤ (f + 5 * (i : Int)) % 26 := Int.emod_nonneg _ (by decide)
        have a2 : 0 ≤ (f + 5 * (j : Int)) % 26 := Int.emod_nonneg _ (by decide)
        omega
      refine ⟨_, rfl, q l ys kk H5 Hl ylen nd yok hyl ((S4.new hl).mono B5 upd_same nls) (by omega) (B4.through hl B5)⟩
end Bg
end
section
set_option Elab.async false
set_option linter.all false
set_option maxRecDepth 100000
set_option maxHeartbeats 4000000
namespace Bg
open PySem L2
theorem word_jump {r : BRow} (h : word r = "jump") : ∃ to, r = .jump to := by
  cases r with
  | jump to => exact ⟨to, rfl⟩
  | num x z => exact absurd h (by show ¬ ("num" : Str) = "jump"; decide +kernel)
  | op x s a b => exact absurd h (by show ¬ ("op" : Str) = "jump"; decide +kernel)
  | call x k as => exact absurd h (by show ¬ ("call" : Str) = "jump"; decide +kernel)
  | say a => exact absurd h (by show ¬ ("say" : Str) = "jump"; decide +kernel)
  | test a to => exact absurd h (by show ¬ ("test" : Str) = "jump"; decide +kernel)
  | give a => exact absurd h (by show ¬ ("give" : Str) = "jump"; decide +kernel)
theorem str_inj {a b : Str} (h : V.str a = V.str b) : a = b := by cases h; rfl
theorem stp_stop {rs : List BRow} {n : Nat} (h : ∀ r, rs[n]? = some r → isJump r = false) : stp rs n = n := by
  unfold stp
  cases e : rs[n]? with
  | none => rfl
  | some r => cases r with
    | jump t => exact absurd (h _ e) (by show ¬ true = false; decide)
    | _ => rfl
theorem runJ_stop {rs : List BRow} {n : Nat} (h : ∀ r, rs[n]? = some r → isJump r = false) : ∀ k, runJ rs k n = n
  | 0 => rfl
  | k + 1 => by
    show runJ rs k (stp rs n) = n
    rw [stp_stop h]; exact runJ_stop h k
theorem runJ_succ (rs : List BRow) : ∀ (k n : Nat), runJ rs (k + 1) n = stp rs (runJ rs k n)
  | 0, n => rfl
  | k + 1, n => by
    show runJ rs (k + 1) (stp rs n) = stp rs (runJ rs k (stp rs n))
    exact runJ_succ rs k (stp rs n)
theorem not_jump {r : BRow} (h : ¬ word r = "jump") : isJump r = false := by
  cases r <;> first | rfl | exact absurd rfl h
end Bg
end
section
set_option Elab.async false
set_option linter.all false
set_option maxRecDepth 100000
set_option maxHeartbeats 4000000
namespace Bg
open PySem L2
end Bg
end
section
set_option Elab.async false
set_option linter.all false
set_option maxRecDepth 100000
set_option maxHeartbeats 4000000
namespace Bg
open PySem L2
end Bg
end
section
set_option Elab.async false
set_option linter.all false
set_option maxRecDepth 100000
set_option maxHeartbeats 4000000
namespace Bg
open PySem L2
end Bg
end
section
set_option Elab.async false
set_option linter.all false
set_option maxRecDepth 100000
set_option maxHeartbeats 4000000
namespace Bg
open PySem L2
end Bg
end
section
set_option Elab.async false
set_option linter.all false
set_option maxRecDepth 100000
set_option maxHeartbeats 4000000
namespace Bg
open PySem L2
end Bg
end
section
set_option Elab.async false
set_option linter.all false
set_option maxRecDepth 100000
set_option maxHeartbeats 4000000
namespace Bg
open PySem L2
structure RowsGood (rs : List BRow) : Prop where
  pos : 0 < rs.length
  few : rs.length < 64
  inr : ∀ (n m : Nat) r, rs[n]? = some r → m ∈ leadsL n r → m < rs.length
  ring : NoRing rs
theorem runJ_add (rs : List BRow) : ∀ (j k n : Nat), runJ rs (j + k) n = runJ rs j (runJ rs k n)
  | j, 0, n => rfl
  | j, k + 1, n => by
    show runJ rs (j + k) (stp rs n) = runJ rs j (runJ rs k (stp rs n))
    exact runJ_add rs j k (stp rs n)
theorem stp_lt {rs : List BRow} (g : RowsGood rs) {n : Nat} (h : n < rs.length) : stp rs n < rs.length := by
  unfold stp
  rw [List.getElem?_eq_getElem h]
  cases e : rs[n] with
  | jump t => exact g.inr n t (.jump t) (by rw [List.getElem?_eq_getElem h, e]) (List.mem_singleton.mpr rfl)
  | _ => exact h
theorem runJ_lt {rs : List BRow} (g : RowsGood rs) : ∀ (k : Nat) {n : Nat}, n < rs.length → runJ rs k n < rs.length
  | 0, _, h => h
  | k + 1, _, h => runJ_lt g k (stp_lt g h)
theorem runJ_end {rs : List BRow} {k n : Nat} (hk : k ≤ rs.length) (h : ∀ r, rs[runJ rs k n]? = some r → isJump r = false) : runJ rs rs.length n = runJ rs k n := by
  have e : rs.length = (rs.length - k) + k := by omega
  rw [e, runJ_add]
  exact runJ_stop h _
end Bg
end
section
set_option Elab.async false
set_option linter.all false
set_option maxRecDepth 100000
set_option maxHeartbeats 4000000
namespace Bg
open PySem L2
def sp_p_stands (_ : PySem.W.Frag) : Sp := fun vs H Q _ => ∃ (rt : Addr) (n : Nat) (rvs : List V) (rs : List BRow), vs = [.ref rt, .int (n : Nat)] ∧ H rt = some (.tup rvs) ∧ AllAt (RowAt H) rvs rs ∧ RowsGood rs ∧ n < rs.length ∧ Q (.int (runJ rs rs.length n : Nat)) H
abbrev k_p_stands : Nat := 1
abbrev K_p_stands : Nat := 2
end Bg
end
section
set_option Elab.async false
set_option linter.all false
set_option maxRecDepth 100000
set_option maxHeartbeats 4000000
namespace Bg
open PySem L2
def unb (s : Str) (a b : Int) : Int := if s = "+" then a + b else if s = "-" then a - b else a * b
def wth (s : Str) (a b : Int) : Int := if s = "<" then (if a < b then 1 else 0) else if s = "=" then (if a = b then 1 else 0) else unb s a b % 18446744073709551616
def Wth (a : Int) : Prop := 0 ≤ a ∧ a < 2 ^ 64
def sp_p_unbounded (_ : PySem.W.Frag) : Sp := fun vs H Q _ => ∃ (s : Str) (a b : Int), vs = [.str s, .int a, .int b] ∧ Wth a ∧ Wth b ∧ Q (.int (unb s a b)) H
def sp_p_worth (_ : PySem.W.Frag) : Sp := fun vs H Q _ => ∃ (s : Str) (a b : Int), vs = [.str s, .int a, .int b] ∧ Wth a ∧ Wth b ∧ Q (.int (wth s a b)) H
abbrev k_p_unbounded : Nat := 0
abbrev K_p_unbounded : Nat := 1
abbrev k_p_worth : Nat := 1
abbrev K_p_worth : Nat := 2
end Bg
end
section
set_option Elab.async false
set_option linter.all false
set_option maxRecDepth 100000
set_option maxHeartbeats 4000000
set_option autoImplicit true
set_option relaxedAutoImplicit true
namespace L2
open PySem PySem.Spec PyProof.Rows
structure QE (X : Cx) (e : Expr) (t : TE) : Prop where
  up : PE X e t
structure QT (X : Cx) (e : Expr) (t : TT) : Prop where
  up : PT X e t
structure QW (X : Cx) (e : Expr) (t : TT) : Prop where
  up : PW X e t
structure QA (X : Cx) (e : List Expr) (t : TA) : Prop where
  up : PA X e t
structure QS (X : Cx) (e : Stmt) (t : TS) : Prop where
  up : PS X e t
structure QSs (X : Cx) (e : List Stmt) (t : TS) : Prop where
  up : PSs X e t
structure QG (X : Cx) (e : Expr) (t : TG) : Prop where
  up : PG X e t
structure QGs (X : Cx) (e : List Expr) (t : TGs) : Prop where
  up : PGs X e t
structure QI (X : Cx) (a b : Expr) (t : TI) : Prop where
  up : PI X a b t
structure QO (X : Cx) (e : Option Expr) (t : TO) : Prop where
  up : PO X e t
structure QIfs (X : Cx) (e : List Expr) (t : TT) : Prop where
  up : PIfs X e t
theorem qv (i : Nat) {x : Str} {pos : Pos} (hN : X.N[i]? = some x := by rfl) (hv : Vis X.env.scope x := by first | exact Or.inl rfl | exact Or.inr (Or.inl rfl) | exact Or.inr (Or.inr rfl)) (hd : (x == ("__debug__" : Str)) = false := by decide) (hcd : (x == ("__classdict__" : Str)) = false := by decide) : QE X (.Name x pos) (tVar i) :=
  ⟨pv i hN hv hd hcd⟩
theorem qe_int {i j pos} : QE X (.Constant (.int i) j pos) (tC (.int i)) :=
  ⟨pe_int ⟩
theorem qe_bl {b j pos} : QE X (.Constant (.bool b) j pos) (tC (.bl b)) :=
  ⟨pe_bl ⟩
theorem qe_non {j pos} : QE X (.Constant .none j pos) (tC .non) :=
  ⟨pe_non ⟩
theorem qe_str {x j pos} : QE X (.Constant (.str x) j pos) (tC (.str x)) :=
  ⟨pe_str ⟩
theorem qe_op {op : Operator} {r : R2} (ho : OpR X (binaryOp op) r) (ha : QE X a ta) (hb : QE X b tb) : QE X (.BinOp a op b pos) (tOp r ta tb) :=
  ⟨pe_op ho ha.up hb.up⟩
theorem qe_un {op : UnaryOp} {r : V → Hp → VK → Prop} (ho : UnR X (unaryOp op) r) (ha : QE X a ta) : QE X (.UnaryOp op a pos) (tUn r ta) :=
  ⟨pe_un ho ha.up⟩
theorem qe_cmpR {op : CmpOp} {r : R2} (ho : OpR X (compareOp op) r) (ha : QE X a ta) (hb : QE X b tb) (hm : behindInMarks op b = false) : QE X (.Compare a [op] [b] pos) (tOp r ta tb) :=
  ⟨pe_cmpR ho ha.up hb.up hm⟩
theorem qe_ifExp {c : Expr} (hc : QT X c tA) (ha : QE X a ta) (hb : QE X b tb) : QE X (.IfExp c a b pos) (tIf tA ta tb) :=
  ⟨pe_ifExp hc.up ha.up hb.up⟩
theorem qe_slice {lo hi : Option Expr} {r : V → Option Int → Option Int → Hp → VK → Prop} (hr : SlR X r) (he : QE X e te) (hl : QO X lo tl) (hu : QO X hi th) : QE X (.Subscript e (.Slice lo hi none p2) pos) (tSl r te tl th) :=
  ⟨pe_slice hr he.up hl.up hu.up⟩
theorem qe_ix {r : R2} (hr : IxR X r) (ha : QE X a ta) (hb : QE X b tb) (hs : PlainIx b) : QE X (.Subscript a b pos) (tOp r ta tb) :=
  ⟨pe_ix hr ha.up hb.up hs⟩
theorem qe_tup {x1} (h : QA X es t) : QE X (.Tuple es x1 pos) (tTup t) :=
  ⟨pe_tup h.up⟩
theorem qe_lst (h : QA X es t) : QE X (.List es pos) (tLst t) :=
  ⟨pe_lst h.up⟩
theorem qe_bm {id : String} (pa : PlainAttrs T) (slot : Slot T name id) (hty : typeOf (.builtin id) = pure (.type "method_descriptor")) (hm : MtR X id r) (ho : QE X o to) (ha : QA X (e :: es) t) (hbase : attributeBase o name X.env (eval o X.env) = eval o X.env := by rfl) (hfew : ((backTo cpos (starEach (e :: es) X.env)).all (fun x => !x.1) && (backToKw cpos (keywordEach [] X.env)).all (fun x => x.1.isSome)
      && decide ((e :: es).length + ([] : List Keyword).length + (if ([] : List Keyword).isEmpty then 0 else 1) < 30)) = true := by rfl) (hline : (apos.endLine == cpos.line) = true := by rfl) (hs : starEach (e :: es) X.env = (false, eval e X.env) :: starEach es X.env := by rfl) (hplain : (backTo cpos (starEach es X.env)).any (·.1) = false := by rfl) : QE X (.Call (.Attribute o name apos) (e :: es) [] cpos) (tBM X.K T r to t) :=
  ⟨pe_bm pa slot hty hm ho.up ha.up hbase hfew hline hs hplain⟩
theorem qe_bm0 {id : String} (pa : PlainAttrs T) (slot : Slot T name id) (hty : typeOf (.builtin id) = pure (.type "method_descriptor")) (hm : MtR X id r) (ho : QE X o to) (hbase : attributeBase o name X.env (eval o X.env) = eval o X.env := by rfl) (hline : (apos.endLine == cpos.line) = true := by rfl) : QE X (.Call (.Attribute o name apos) [] [] cpos) (tBM0 X.K T r to) :=
  ⟨pe_bm0 pa slot hty hm ho.up hbase hline⟩
theorem qe_callB {id : String} (hc : CallR X (.builtin id) r) (hg : Gl X x) (hm : X.mg x = none) (hv : bootBuiltins x = some (.builtin id)) (ha : QA X (e :: es) t) (hn : x ≠ "__name__" := by decide) (hdb : (x == ("__debug__" : Str)) = false := by decide) (he : starEach (e :: es) X.env = (false, eval e X.env) :: starEach es X.env := by rfl) (hpl : (backTo pos (starEach es X.env)).any (·.1) = false := by rfl) : QE X (.Call (.Name x p) (e :: es) [] pos) (tCB r t) :=
  ⟨pe_callB hc hg hm hv ha.up hn hdb he hpl⟩
theorem qe_callTy (hc : CallR X (.type T) r) (hg : Gl X x) (hm : X.mg x = none) (hv : bootBuiltins x = some (.type T)) (ha : QA X (e :: es) t) (hn : x ≠ "__name__" := by decide) (hdb : (x == ("__debug__" : Str)) = false := by decide) (he : starEach (e :: es) X.env = (false, eval e X.env) :: starEach es X.env := by rfl) (hpl : (backTo pos (starEach es X.env)).any (·.1) = false := by rfl) : QE X (.Call (.Name x p) (e :: es) [] pos) (tCB r t) :=
  ⟨pe_callTy hc hg hm hv ha.up hn hdb he hpl⟩
theorem qe_fn {X : Cx} {x : Str} {ps : List Str} {k : Nat} {sp : Sp} {e : Expr} {es : List Expr} {t : TA} {p pos : Pos} (c : Callee X.prog X.w X.K X.mg X.base x ps k sp) (hr : Room k X.A) (hg : Gl X x) (ha : QA X (e :: es) t) (hdb : (x == ("__debug__" : Str)) = false := by decide) (he : starEach (e :: es) X.env = (false, eval e X.env) :: starEach es X.env := by rfl) (hpl : (backTo pos (starEach es X.env)).any (·.1) = false := by rfl) : QE X (.Call (.Name x p) (e :: es) [] pos) (tCall sp [] E0 t) :=
  ⟨pe_fn c hr hg ha.up hdb he hpl⟩
theorem qs_comp {wi : TI} {i : Nat} {y : Str} {py spos : Pos} (ok : CompOk sc N scope NY js) (hsc : X.env.scope = sc) (hN : X.N = N) (hk : NY.length = N.length + k) (hc : X.calm = true) (hit : QI X target iter wi) (hg : ∀ cl C s₀ H₀ fp, QG (cxComp X NY scope cl C s₀ H₀ fp) target g) (hi : ∀ cl C s₀ H₀ fp, QIfs (cxComp X NY scope cl C s₀ H₀ fp) ifs tc) (he : ∀ cl C s₀ H₀ fp, QE (cxComp X NY scope cl C s₀ H₀ fp) elt te) (nd : X.N.Nodup) (hy : X.N[i]? = some y) (hl : Loc X.env.scope y) (hsw : swapsWith (.ListComp elt [⟨target, iter, ifs, 0⟩] scope pos) (some (.Name y py)) spos.line X.env = pure true) (hs : ∀ x, foldedSetIterable iter X.env x = pure x := by intro _; rfl) (hf : X.fn y = true ∨ X.env.scope.names.lookup y = some .local := by first | exact .inl rfl | exact .inr rfl | assumption) : QS X (.Assign [.Name y py] (.ListComp elt [⟨target, iter, ifs, 0⟩] scope pos) spos) (tAsg (tComp js k wi g tc te) (gName i)) :=
  ⟨ps_comp ok hsc hN hk hc hit.up (fun cl C s₀ H₀ fp => (hg cl C s₀ H₀ fp).up) (fun cl C s₀ H₀ fp => (hi cl C s₀ H₀ fp).up) (fun cl C s₀ H₀ fp => (he cl C s₀ H₀ fp).up) nd hy hl hsw hs hf⟩
theorem qo_none  : QO X none tNoPart :=
  ⟨po_none ⟩
theorem qo_some (h : QE X e te) : QO X (some e) (tPart te) :=
  ⟨po_some h.up⟩
theorem qa_nil  : QA X [] tNil :=
  ⟨pa_nil ⟩
theorem qa_cons (ha : QE X e te) (hr : QA X es t) (hs : starEach (e :: es) X.env = (false, eval e X.env) :: starEach es X.env := by rfl) : QA X (e :: es) (tCons te t) :=
  ⟨pa_cons ha.up hr.up hs⟩
theorem qt_cmpR {op : CmpOp} {r : R2} (ho : OpR X (compareOp op) r) (ha : QE X a ta) (hb : QE X b tb) (hm : behindInMarks op b = false) : QT X (.Compare a [op] [b] pos) (tTest (tOp r ta tb)) :=
  ⟨pt_cmpR ho ha.up hb.up hm⟩
theorem qt_not (ha : QT X a tA) : QT X (.UnaryOp .Not a pos) (tNot tA) :=
  ⟨pt_not ha.up⟩
theorem qw_and {rest : List Expr} (ha : QT X a tA) (hb : QW X (.BoolOp .And (b :: rest) pos) tB') : QW X (.BoolOp .And (a :: b :: rest) pos) (tAnd tA tB') :=
  ⟨pw_and ha.up hb.up⟩
theorem qw_and1 (ha : QT X a tA) : QW X (.BoolOp .And [a] pos) tA :=
  ⟨pw_and1 ha.up⟩
theorem qw_or {rest : List Expr} (ha : QT X a tA) (hb : QW X (.BoolOp .Or (b :: rest) pos) tB') : QW X (.BoolOp .Or (a :: b :: rest) pos) (tOr tA tB') :=
  ⟨pw_or ha.up hb.up⟩
theorem qw_or1 (ha : QT X a tA) : QW X (.BoolOp .Or [a] pos) tA :=
  ⟨pw_or1 ha.up⟩
theorem QW.pt {X : Cx} {e : Expr} {t : TT} (h : QW X e t) : QT X e t :=
  ⟨PW.pt h.up⟩
theorem qt_val {e : Expr} {t : TE} (h : QE X e t) (he : ∀ whole, isTrue e X.env whole = (do let v ← whole; standAt e.pos; holding [v] (truthy v)) := by intro _; rfl) : QT X e (tB t) :=
  ⟨pt_val h.up he⟩
theorem qi_range1 {a : Expr} {ta : TA} {p pos : Pos} (hg : Gl X "range") (hm : X.mg "range" = none) (ha : QA X [a] ta) (hs : starEach [a] X.env = [(false, eval a X.env)] := by rfl) : QI X tg (.Call (.Name "range" p) [a] [] pos) (iRng1 ta) :=
  ⟨pi_range1 hg hm ha.up hs⟩
theorem qi_seq {tg l : Expr} {tl : TE} (hl : QE X l tl) : QI X tg l (iSeq X.K tl) :=
  ⟨pi_seq hl.up⟩
theorem qg_name {i : Nat} {x : Str} (hN : X.N.Nodup) (hi : X.N[i]? = some x) (hx : Loc X.env.scope x) (hf : X.fn x = true ∨ X.env.scope.names.lookup x = some .local := by first | exact .inl rfl | exact .inr rfl | assumption) : QG X (.Name x pos) (gName i) :=
  ⟨pg_name hN hi hx hf⟩
theorem qg_tup {es : List Expr} {k : Nat} {t : TGs} {n : Nat} (hc : X.calm = true) (h : QGs X es t) (hn : (assignEach es X.env).length = n := by rfl) (hst : (assignEach es X.env).findIdx? (·.1) = none := by rfl) : QG X (.Tuple es k pos) (gTup X.K n t) :=
  ⟨pg_tup hc h.up hn hst⟩
theorem qg_tupL {es : List Expr} {k : Nat} {t : TGs} {n : Nat} (hc : X.calm = true) (h : QGs X es t) (hn : (assignEach es X.env).length = n := by rfl) (hst : (assignEach es X.env).findIdx? (·.1) = none := by rfl) : QG X (.Tuple es k pos) (gTupL X.K n t) :=
  ⟨pg_tupL hc h.up hn hst⟩
theorem qgs_nil  : QGs X [] gNil :=
  ⟨pgs_nil ⟩
theorem qgs_cons {e : Expr} {es : List Expr} {t : TG} {u : TGs} (h1 : QG X e t) (h2 : QGs X es u) (hs : (assignEach (e :: es) X.env).map (·.2) = assign e X.env :: (assignEach es X.env).map (·.2) := by rfl) : QGs X (e :: es) (gCons t u) :=
  ⟨pgs_cons h1.up h2.up hs⟩
theorem qg_sub {o i : Expr} {to ti : TE} {t : TSet} (ho : QE X o to) (hi : QE X i ti) (hs : PSet X t) (ha : ∀ v, assign (.Subscript o i pos) X.env v = (do
      let ov ← holding [v] (eval o X.env)
      let iv ← holding [v, ov] (eval i X.env)
      standAt pos
      holding [v, ov, iv] (setItem ov iv v)
      release [v, ov, iv] []) := by intro _; rfl) : QG X (.Subscript o i pos) (gSub to ti t) :=
  ⟨pg_sub ho.up hi.up hs ha⟩
theorem qs_set {i : Nat} {x : Str} {e : Expr} {te : TE} {pos' : Pos} (hN : X.N.Nodup) (hi : X.N[i]? = some x) (hx : Loc X.env.scope x) (he : QE X e te) (hs : swapsWith e (some (.Name x pos')) pos.line X.env = pure false := by rfl) (hf : X.fn x = true ∨ X.env.scope.names.lookup x = some .local := by first | exact .inl rfl | exact .inr rfl | assumption) : QS X (.Assign [.Name x pos'] e pos) (tAsg te (gName i)) :=
  ⟨ps_set hN hi hx he.up hs hf⟩
theorem qs_asg {tg e : Expr} {te : TE} {g : TG} (he : QE X e te) (hg : QG X tg g) (hs : swapsWithSole [tg] e pos.line X.env = pure false := by rfl) (hw : swappedStores [tg] e X.env = pure none := by rfl) (h1 : (assignEach [tg] X.env).map (·.2) = [assign tg X.env] := by rfl) : QS X (.Assign [tg] e pos) (tAsg te g) :=
  ⟨ps_asg he.up hg.up hs hw h1⟩
theorem qs_expr (he : QE X e te) (hs : swapsWith e none pos.line X.env = pure false := by rfl) : QS X (.Expr e pos) (tDrop te) :=
  ⟨ps_expr he.up hs⟩
theorem qs_ret (he : QE X e te) : QS X (.Return (some e) pos) (tRet te) :=
  ⟨ps_ret he.up⟩
theorem qs_retN  : QS X (.Return none pos) tRetN :=
  ⟨ps_retN ⟩
theorem qs_if {c : Expr} {a b : List Stmt} {tc : TT} (hc : QT X c tc) (ha : QSs X a t) (hb : QSs X b u) : QS X (.If c a b pos) (tIfS tc t u) :=
  ⟨ps_if hc.up ha.up hb.up⟩
theorem qs_while {c : Expr} {body : List Stmt} {tc : TT} {tb : TS} (hp : PassesOwn (model X.prog X.w) X.A X.env X.xe) (hc : QT X c tc) (hb : QSs X body tb) : QS X (.While c body [] pos) (tWhile tc tb) :=
  ⟨ps_while hp hc.up hb.up⟩
theorem qs_for {iter : Expr} {body : List Stmt} {wi : TI} {g : TG} {tb : TS} {pos : Pos} (hp : PassesOwn (model X.prog X.w) X.A X.env X.xe) (hc : X.calm = true) (hi : QI X tg iter wi) (hg : QG X tg g) (hb : QSs X body tb) (hs : ∀ x, foldedSetIterable iter X.env x = pure x := by intro _; rfl) : QS X (.For tg iter body [] pos) (tFor wi g tb) :=
  ⟨ps_for hp hc hi.up hg.up hb.up hs⟩
theorem qss_cons {st : Stmt} {rest : List Stmt} (h1 : QS X st t) (h2 : QSs X rest u) : QSs X (st :: rest) (tSeq t u) :=
  ⟨pss_cons h1.up h2.up⟩
theorem qss_one {st : Stmt} (h1 : QS X st t) : QSs X [st] t :=
  ⟨pss_one h1.up⟩
theorem qss_nil  : QSs X [] tNext :=
  ⟨pss_nil ⟩
theorem qif_nil {X : Cx} : QIfs X [] tYes :=
  ⟨pif_nil ⟩
end L2
end
section
set_option Elab.async false
set_option linter.all false
set_option maxRecDepth 100000
namespace L2
open PySem PySem.Spec PyProof.Rows
section
variable {κ : Type} [DecidableEq κ]
def valV (kvs : List (κ × V)) (k : κ) : Option V := (kvs.find? fun kv => decide (kv.1 = k)).map (·.2)
def putK (kvs : List (κ × V)) (k : κ) (v : V) : List (κ × V) :=
  if (kvs.any fun kv => decide (kv.1 = k)) = true then kvs.map (fun kv => if kv.1 = k then (kv.1, v) else kv) else kvs ++ [(k, v)]
theorem valV_pos {p : κ × V} {r : List (κ × V)} {k : κ} (e : p.1 = k) : valV (p :: r) k = some p.2 := by simp [valV, List.find?_cons, e]
theorem valV_neg {p : κ × V} {r : List (κ × V)} {k : κ} (e : ¬ p.1 = k) : valV (p :: r) k = valV r k := by simp [valV, List.find?_cons, e]
theorem valV_any (k : κ) : ∀ kvs : List (κ × V), (kvs.any fun kv => decide (kv.1 = k)) = (valV kvs k).isSome
  | [] => rfl
  | p :: r => by
    rw [List.any_cons]
    by_cases e : p.1 = k
    · simp only [valV_pos e, decide_eq_true e, Bool.true_or, Option.isSome_some]
    · rw [valV_neg e, decide_eq_false e, Bool.false_or]; exact valV_any k r
theorem valV_map (k j : κ) (y : V) : ∀ kvs : List (κ × V), valV (kvs.map fun kv => if kv.1 = k then (kv.1, y) else kv) j = (valV kvs j).map fun x => if j = k then y else x
  | [] => rfl
  | p :: r => by
    have ih := valV_map k j y r
    rw [List.map_cons]
    by_cases h : p.1 = k
    · rw [if_pos h]
      by_cases e : p.1 = j
      · rw [valV_pos (p := (p.1, y)) e, valV_pos e, Option.map_some, if_pos (e.symm.trans h)]
      · rw [valV_neg (p := (p.1, y)) e, valV_neg e, ih]
    · rw [if_neg h]
      by_cases e : p.1 = j
      · rw [valV_pos (p := p) e, valV_pos e, Option.map_some, if_neg (fun z => h (e.trans z))]
      · rw [valV_neg (p := p) e, valV_neg e, ih]
theorem valV_snoc (k j : κ) (y : V) : ∀ kvs : List (κ × V), valV kvs k = none → valV (kvs ++ [(k, y)]) j = if j = k then some y else valV kvs j
  | [], _ => by
    by_cases e : k = j
    · rw [if_pos e.symm]; exact valV_pos (p := (k, y)) e
    · rw [if_neg (fun z => e z.symm)]; exact valV_neg (p := (k, y)) e
  | p :: r, hn => by
    rw [List.cons_append]
    have hk : ¬ p.1 = k := fun z => by rw [valV_pos z] at hn; cases hn
    rw [valV_neg hk] at hn
    have ih := valV_snoc k j y r hn
    by_cases e : p.1 = j
    · rw [valV_pos e, valV_pos e, if_neg (fun z => hk (e.trans z))]
    · rw [valV_neg e, valV_neg e, ih]
theorem valV_put (kvs : List (κ × V)) (k j : κ) (y : V) : valV (putK kvs k y) j = if j = k then some y else valV kvs j := by
  unfold putK
  by_cases a : (kvs.any fun kv => decide (kv.1 = k)) = true
  · rw [if_pos a, valV_map]
    rw [valV_any] at a
    by_cases e : j = k
    · obtain ⟨x, hx⟩ := Option.isSome_iff_exists.mp a
      rw [if_pos e, e, hx, Option.map_some, if_pos rfl]
    · rw [if_neg e]
      cases valV kvs j with
      | none => rfl
      | some x => rw [Option.map_some, if_neg e]
  · rw [if_neg a]
    refine valV_snoc k j y kvs ?_
    rw [valV_any] at a
    cases q : valV kvs k with
    | none => rfl
    | some x => rw [q] at a; exact (a rfl).elim
theorem length_putK (kvs : List (κ × V)) (k : κ) (v : V) : (putK kvs k v).length ≤ kvs.length + 1 := by
  unfold putK
  split
  · rw [List.length_map]; omega
  · rw [List.length_append, List.length_cons, List.length_nil]; omega
theorem RelO.isSome_eq {o : Option V} {u : Option Value} (r : RelO o u) : o.isSome = u.isSome := by
  cases o with
  | none => cases u with
    | none => rfl
    | some _ => exact (show False from r).elim
  | some _ => cases u with
    | none => exact (show False from r).elim
    | some _ => rfl
theorem KV.val {kvs : List (κ × V)} {vs : List (κ × Value)} (r : KV kvs vs) (k : κ) : RelO (valV kvs k) (valueAt vs k) := by
  unfold KV at r
  induction r with
  | nil => exact True.intro
  | @cons p q ps qs h t ih =>
    obtain ⟨h1, h2⟩ := h
    by_cases e : p.1 = k
    · have e' : q.1 = k := h1.symm.trans e
      have b : valueAt (q :: qs) k = some q.2 := by simp [valueAt, List.find?_cons, e']
      rw [valV_pos e, b]; exact h2
    · have e' : ¬ q.1 = k := fun z => e (h1.trans z)
      have b : valueAt (q :: qs) k = valueAt qs k := by simp [valueAt, List.find?_cons, e']
      rw [valV_neg e, b]; exact ih
theorem KV.any {kvs : List (κ × V)} {vs : List (κ × Value)} (r : KV kvs vs) (k : κ) : (kvs.any fun kv => decide (kv.1 = k)) = vs.any fun kv => decide (kv.1 = k) := by
  unfold KV at r
  induction r with
  | nil => rfl
  | cons h t ih => rw [List.any_cons, List.any_cons, ih, h.1]
theorem KV.repl {kvs : List (κ × V)} {vs : List (κ × Value)} (r : KV kvs vs) (k : κ) {y : V} {u : Value} (ry : RelV y u) :
    KV (kvs.map fun kv => if kv.1 = k then (kv.1, y) else kv) (vs.map fun kv => if kv.1 = k then (kv.1, u) else kv) := by
  unfold KV at r ⊢
  induction r with
  | nil => exact .nil
  | @cons p q ps qs h t ih =>
    rw [List.map_cons, List.map_cons]
    refine .cons ?_ ih
    obtain ⟨h1, h2⟩ := h
    by_cases e : p.1 = k
    · rw [if_pos e, if_pos (h1.symm.trans e)]; exact ⟨h1, ry⟩
    · rw [if_neg e, if_neg (fun z => e (h1.trans z))]; exact ⟨h1, h2⟩
theorem KV.put {kvs : List (κ × V)} {vs : List (κ × Value)} (r : KV kvs vs) (k : κ) {y : V} {u : Value} (ry : RelV y u) : KV (putK kvs k y) (stored vs k u) := by
  unfold putK stored
  rw [r.any k]
  by_cases e : (vs.any fun kv => decide (kv.1 = k)) = true
  · rw [if_pos e, if_pos e]; exact r.repl k ry
  · rw [if_neg e, if_neg e]; exact Paired.snoc r ⟨rfl, ry⟩
theorem KV.length {kvs : List (κ × V)} {vs : List (κ × Value)} (r : KV kvs vs) : kvs.length = vs.length := Paired.length r
end
theorem kV_is {P : Program} {w : World} {k : Key} {u : Value} (r : RelV (kV k) u) : (mixKind P w).is k u = true := by
  cases k with
  | inl i => obtain ⟨t, e⟩ := (show ∃ t, u = Value.int i t from r); subst e; exact mixKind_int P w i t
  | inr x => obtain ⟨t, e⟩ := (show ∃ t, u = Value.str x t from r); subst e; exact mixKind_str P w x t
theorem items_are {P : Program} {w : World} : ∀ {ks : List Key} {us : List Value}, Vals (ks.map kV) us → ItemsAre (mixKind P w) ks us
  | [], _, r => by rw [List.map_nil] at r; cases r; exact .nil
  | k :: ks, _, r => by
    rw [List.map_cons] at r
    cases r with
    | cons h t => exact .cons (kV_is h) (items_are t)
abbrev KT (H : Hp) : List (List Key × V) → List (List Key × Addr × Value) → Prop := Paired fun p q => p.1 = q.1 ∧ H q.2.1 = some (.tup (p.1.map kV)) ∧ RelV p.2 q.2.2
theorem KT.val {H : Hp} {kvs : List (List Key × V)} {xs : List (List Key × Addr × Value)} (r : KT H kvs xs) (k : List Key) : RelO (valV kvs k) ((atKey xs k).map (·.2)) := by
  induction r with
  | nil => exact True.intro
  | @cons p q ps qs h t ih =>
    obtain ⟨h1, _, h2⟩ := h
    by_cases e : p.1 = k
    · have e' : q.1 = k := h1.symm.trans e
      have b : atKey (q :: qs) k = some q.2 := by simp [atKey, List.find?_cons, e']
      rw [valV_pos e, b]; exact h2
    · have e' : ¬ q.1 = k := fun z => e (h1.trans z)
      have b : atKey (q :: qs) k = atKey qs k := by simp [atKey, List.find?_cons, e']
      rw [valV_neg e, b]; exact ih
theorem KT.repl {H : Hp} {kvs : List (List Key × V)} {xs : List (List Key × Addr × Value)} (r : KT H kvs xs) (k : List Key) {y : V} {u : Value} (ry : RelV y u) :
    KT H (kvs.map fun kv => if kv.1 = k then (kv.1, y) else kv) (xs.map (putAt k u)) := by
  induction r with
  | nil => exact .nil
  | @cons p q ps qs h t ih =>
    rw [List.map_cons, List.map_cons]
    refine .cons ?_ ih
    obtain ⟨h1, h2, h3⟩ := h
    unfold putAt
    by_cases e : p.1 = k
    · rw [if_pos e, if_pos (h1.symm.trans e)]; exact ⟨h1, h2, ry⟩
    · rw [if_neg e, if_neg (fun z => e (h1.trans z))]; exact ⟨h1, h2, h3⟩
theorem KT.put {H : Hp} {kvs : List (List Key × V)} {xs : List (List Key × Addr × Value)} (r : KT H kvs xs) (k : List Key) {b : Addr} {y : V} {u : Value} (hb : H b = some (.tup (k.map kV))) (ry : RelV y u) :
    KT H (putK kvs k y) (storedH xs k b u) := by
  have e : (kvs.any fun kv => decide (kv.1 = k)) = (atKey xs k).isSome := by
    rw [valV_any, (r.val k).isSome_eq, Option.isSome_map]
  unfold putK storedH
  rw [e]
  by_cases q : (atKey xs k).isSome = true
  · rw [if_pos q, if_pos q]; exact r.repl k ry
  · rw [if_neg q, if_neg q]; exact Paired.snoc r ⟨rfl, hb, ry⟩
theorem KT.keeps {H H' : Hp} {kvs : List (List Key × V)} {xs : List (List Key × Addr × Value)} (r : KT H kvs xs) (ht : ∀ b ys, H b = some (.tup ys) → H' b = some (.tup ys)) : KT H' kvs xs :=
  Paired.mapP r fun _ _ z => ⟨z.1, ht _ _ z.2.1, z.2.2⟩
section
variable {P : Program} {w : World} {H : Hp} {h : Heap} {a : Addr}
theorem rd_of {u : HO} (ok : HOk P w H h) (e : Rd H a u) : ObjOk P w H h a u := e.ok ok
theorem dk_rd {kvs : List (Key × V)} (ok : HOk P w H h) (e : Rd H a (.dK kvs)) : kvs.length ≤ sizeLine ∧ (a == sysModules) = false ∧ ∃ vs, KV kvs vs ∧ h.DictOf (mixKind P w) a vs :=
  show ObjOk P w H h a (.dK kvs) from rd_of ok e
theorem dk_of {kvs : List (Key × V)} (ok : HOk P w H h) (e : H a = some (.dK kvs)) : kvs.length ≤ sizeLine ∧ (a == sysModules) = false ∧ ∃ vs, KV kvs vs ∧ h.DictOf (mixKind P w) a vs := dk_rd ok (.inl e)
theorem key_of {ks : List Key} (ok : HOk P w H h) (e : H a = some (.tup (ks.map kV))) : (tupleKind (mixKind P w)).is h ks a := by
  obtain ⟨_, its, r, o, h1, h2, n, h3⟩ := (show ObjOk P w H h a (.tup (ks.map kV)) from ok a _ e)
  exact ⟨o, its.toArray, n, h1, h2.1, h3, by simpa using items_are r⟩
theorem dt_rd {kvs : List (List Key × V)} (ok : HOk P w H h) (e : Rd H a (.dT kvs)) : kvs.length ≤ sizeLine ∧ (a == sysModules) = false ∧
    ∃ xs, KT H kvs xs ∧ h.DictOfH (tupleKind (mixKind P w)) a xs := by
  obtain ⟨z, y, xs, r, o, es, ep, h1, h2, h3, h4, h5⟩ := (show ObjOk P w H h a (.dT kvs) from rd_of ok e)
  refine ⟨z, y, xs, r, o, es, ep, h1, h2, h3, h4, fun x hx => ?_, h5⟩
  have all : ∀ {l : List (List Key × V)} {m : List (List Key × Addr × Value)}, KT H l m → ∀ x ∈ m, (tupleKind (mixKind P w)).is h x.1 x.2.1 := by
    intro l m q
    induction q with
    | nil => intro x hx; exact nomatch hx
    | @cons p q ps qs hq t ih =>
      intro x hx
      rcases List.mem_cons.mp hx with e | hx
      · subst e
        exact key_of ok (by rw [← hq.1]; exact hq.2.1)
      · exact ih x hx
  exact all r x hx
theorem dt_of {kvs : List (List Key × V)} (ok : HOk P w H h) (e : H a = some (.dT kvs)) : kvs.length ≤ sizeLine ∧ (a == sysModules) = false ∧
    ∃ xs, KT H kvs xs ∧ h.DictOfH (tupleKind (mixKind P w)) a xs := dt_rd ok (.inl e)
end
def DGet (H : Hp) (a : Addr) (y : V) (r : Option V) : Prop :=
  (∃ kvs k, Rd H a (.dK kvs) ∧ y = kV k ∧ r = valV kvs k) ∨ ∃ kvs k b, Rd H a (.dT kvs) ∧ y = .ref b ∧ H b = some (.tup (k.map kV)) ∧ r = valV kvs k
def DPut (H : Hp) (a : Addr) (y v : V) (H' : Hp) : Prop :=
  (∃ kvs k, H a = some (.dK kvs) ∧ y = kV k ∧ kvs.length < sizeLine ∧ H' = upd H a (.dK (putK kvs k v))) ∨
  ∃ kvs k b, H a = some (.dT kvs) ∧ y = .ref b ∧ H b = some (.tup (k.map kV)) ∧ kvs.length < sizeLine ∧ H' = upd H a (.dT (putK kvs k v))
theorem DGet.k {H : Hp} {a : Addr} {kvs : List (Key × V)} {k : Key} (e : H a = some (.dK kvs)) : DGet H a (kV k) (valV kvs k) := .inl ⟨kvs, k, .inl e, rfl, rfl⟩
theorem DPut.k {H : Hp} {a : Addr} {kvs : List (Key × V)} {k : Key} {v : V} (e : H a = some (.dK kvs)) (hl : kvs.length < sizeLine) : DPut H a (kV k) v (upd H a (.dK (putK kvs k v))) := .inl ⟨kvs, k, e, rfl, hl, rfl⟩
section
variable {X : Cx} {pins : List (Addr × Obj)} {σ : St} {H : Hp} {s : Shared} {a : Addr} {y v : V} {u r : Value} {o : Option V} {A : Around} {E : Value → Shared → Prop}
theorem Inv.big (I : Inv X pins σ H s) : sysModules < s.heap.objs.size := by
  have h : mainGlobals < s.heap.objs.size := (I.mod.glob.keeps I.bk).lt
  exact Nat.lt_trans (by decide) h
theorem d_getItem {Q : Value → Shared → Prop} (hu : A.units + 1 < cLine) (I : Inv X pins σ H s) (g : DGet H a y (some v)) (ry : RelV y u) (h : ∀ w' s', Inv X pins σ H s' → RelV v w' → Q w' s') :
    wpAny (model X.prog X.w) A (getItem (.ref a) u) Q E s := by
  rcases g with ⟨kvs, k, e, ey, l⟩ | ⟨kvs, k, b, e, ey, eb, l⟩
  · subst ey
    obtain ⟨z, hd, vs, rel, dd⟩ := dk_rd I.hok e
    obtain ⟨w', hw, rw'⟩ := RelO.some_of (v := v) (o := valueAt vs k) (by rw [l]; exact rel.val k)
    exact wpAny_getItem_of (kV_is ry) dd.mapOf hw (h w' _ (I.tok _) rw')
  · subst ey
    cases (show u = Value.ref b from ry)
    obtain ⟨z, hd, xs, rel, dd⟩ := dt_rd I.hok e
    obtain ⟨w', hw, rw'⟩ := RelO.some_of (v := v) (o := (atKey xs k).map (·.2)) (by rw [l]; exact rel.val k)
    obtain ⟨p, hp, hp2⟩ := Option.map_eq_some_iff.mp hw
    refine wpAny_getItem_heap (tupleKind_room_in1 hu) (key_of I.hok eb) dd hp ?_
    rw [hp2]
    exact h w' _ (I.tok _) rw'
theorem d_write {h' : Heap} {t' : Nat} {ob : HO} (I : Inv X pins σ H s) (mu : Mut (H a)) (hs : Heap.SameBut a s.heap h') (he : ∃ q, h'.get? a = some q) (new : ObjOk X.prog X.w (upd H a ob) h' a ob) :
    Inv X pins σ (upd H a ob) { s with heap := h', toks := t' } :=
  I.write (x := a) (e := a) mu (.inl rfl) (fun b q hb z => (hs.2 b hb).trans z) he new
theorem dk_new {P : Program} {w : World} {H' : Hp} {h' : Heap} {kvs : List (Key × V)} {vs : List (Key × Value)} (z : kvs.length ≤ sizeLine) (hd : (a == sysModules) = false) (rel : KV kvs vs) (dd : h'.DictOf (mixKind P w) a vs) :
    ObjOk P w H' h' a (.dK kvs) := ⟨z, hd, vs, rel, dd⟩
theorem d_setItem {H' : Hp} {Q : Unit → Shared → Prop} (hu : A.units + 1 < cLine) (I : Inv X pins σ H s) (g : DPut H a y v H') (ry : RelV y u) (rv : RelV v r) (h : ∀ s', Inv X pins σ H' s' → Q () s') :
    wpAny (model X.prog X.w) A (setItem (.ref a) u r) Q E s := by
  rcases g with ⟨kvs, k, e, ey, l, eH⟩ | ⟨kvs, k, b, e, ey, eb, l, eH⟩
  · subst ey eH
    obtain ⟨z, hd, vs, rel, dd⟩ := dk_of I.hok e
    have hz : vs.length ≤ sizeLine := by rw [← rel.length]; exact z
    have hl : (putK kvs k v).length ≤ sizeLine := by have := length_putK kvs k v; omega
    refine wpAny_setItem_pairs (hsz := hz) (kV_is ry) dd fun h' dd' hs => h _ ?_
    have he : ∃ q, h'.get? a = some q := let ⟨q, _, _, hq, _⟩ := dd'; ⟨q, hq⟩
    exact d_write I (by rw [e]; exact True.intro) hs he (dk_new hl hd (rel.put k rv) dd')
  · subst ey eH
    cases (show u = Value.ref b from ry)
    obtain ⟨z, hd, xs, rel, dd⟩ := dt_of I.hok e
    have hz : xs.length ≤ sizeLine := by rw [← Paired.length rel]; exact z
    have hl : (putK kvs k v).length ≤ sizeLine := by have := length_putK kvs k v; omega
    refine wpAny_setItem_heap (hsz := hz) (tupleKind_room_in1 hu) (key_of I.hok eb) dd fun h' dd' hs => h _ ?_
    obtain ⟨q, es, ep, hq, h2, h3, h4, _, h5⟩ := dd'
    refine d_write I (by rw [e]; exact True.intro) hs ⟨q, hq⟩ ⟨hl, hd, _, (rel.put k eb rv).keeps fun c ys ec => ?_, q, es, ep, hq, h2, h3, h4, h5⟩
    rw [upd_ne (ne_of ec e (fun z => nomatch z))]
    exact ec
end
section
variable {X : Cx} {pins : List (Addr × Obj)} {σ : St} {H : Hp} {s : Shared} {a : Addr} {kvs : List (Key × V)} {k : Key} {u : Value} {A : Around} {E : Value → Shared → Prop}
end
def NoSl (i : Expr) : Prop := ∀ ov iv, subscripted i false ov iv = operate [ov, iv] (getItem ov iv)
theorem subD_of {prog : Program} {w : World} {A : Around} {E : Value → Shared → Prop} {s : Shared} {env : Env} {value slice : Expr} {pos : Pos} {T id : String} {Q : Value → Shared → Prop}
    (hl : typeLookup (.type T) "__getitem__" = pure (some (.builtin id))) (hs : NoSl slice)
    (h : wpAny (model prog w) A (eval value env) (fun o s₁ => wpAny (model prog w) A (eval slice env) (fun i s₂ => s₂.TypeIs o T ∧ wpAny (model prog w) A (getItem o i) Q E s₂) E s₁) E s) :
    wpAny (model prog w) A (eval (.Subscript value slice pos) env) Q E s := by
  refine Subscript_ (wpAny_mono h (fun o s₁ h₁ => wpAny_mono h₁ (fun i s₂ h₂ => ?_) fun _ _ x => x) fun _ _ x => x)
  obtain ⟨hT, h₂⟩ := h₂
  unfold subscriptTail
  refine wpAny_bind ?_
  rw [getitemInPython_of_ne hT.not_modules]
  refine wpAny_bind (wpAny_specialOf hT hl ?_)
  have fin : wpAny (model prog w) A (subscripted slice false o i) (fun r s₃ => wpAny (model prog w) A (letTemporaryGo value o r >>= fun _ => pure r) Q E s₃) E s₂ := by
    rw [hs o i]
    exact wpAny_operating (wpAny_mono h₂ (fun r s₃ h₃ => wpAny_bind (wpAny_letTemporaryGo (wpAny_pure h₃))) fun _ _ x => x)
  first
    | exact wpAny_pure (wpAny_bind fin)
    | exact wpAny_bind (wpAny_pure (wpAny_bind fin))
    | exact wpAny_bind fin
theorem dict_typeIs {X : Cx} {pins : List (Addr × Obj)} {σ : St} {H : Hp} {s : Shared} {a : Addr} {y : V} {o : Option V} (I : Inv X pins σ H s) (g : DGet H a y o) : s.TypeIs (.ref a) "dict" := by
  rcases g with ⟨kvs, k, e, _, _⟩ | ⟨kvs, k, b, e, _, _, _⟩
  · obtain ⟨_, _, vs, _, dd⟩ := dk_rd I.hok e
    exact dd.typeIs
  · obtain ⟨_, _, xs, _, dd⟩ := dt_rd I.hok e
    exact dd.typeIs
def tDGet (td ty : TE) : TE := fun σ H Q => td σ H fun x H1 => ty σ H1 fun y H2 => ∃ a v, x = .ref a ∧ DGet H2 a y (some v) ∧ Q v H2
section
variable {X : Cx} {o i e value : Expr} {pos pos' tpos : Pos} {td ty tv : TE}
theorem pe_dget (hu : X.A.units + 1 < cLine) (ho : PE X o td) (hi : PE X i ty) (hs : NoSl i) : PE X (.Subscript o i pos) (tDGet td ty) := by
  intro pins s σ H Q I h
  refine subD_of PySem.F.slot_dict_getitem.lookup hs (thn (ho pins s σ H _ I h) fun u s1 ⟨x, H1, I1, rx, q1⟩ => thn (hi pins s1 σ H1 _ I1 q1) fun iv s2 ⟨y, H2, I2, ry, a, v, ex, g, q2⟩ => ?_)
  subst ex
  obtain rfl : u = Value.ref a := rx
  exact ⟨dict_typeIs I2 g, d_getItem hu I2 g ry fun w' s3 I3 rw' => ⟨v, H2, I3, rw', q2⟩⟩
end
section
variable {X : Cx} {pos : Pos}
end
def mergeK (kvs more : List (Key × V)) : List (Key × V) := more.foldl (fun acc kv => putK acc kv.1 kv.2) kvs
theorem KV.merge : ∀ {more : List (Key × V)} {rs : List (Key × Value)} {kvs : List (Key × V)} {vs : List (Key × Value)}, KV more rs → KV kvs vs → KV (mergeK kvs more) (merged vs rs) := by
  intro more rs kvs vs r
  unfold KV at r
  induction r generalizing kvs vs with
  | nil => intro q; exact q
  | @cons p q ps qs h t ih =>
    intro r0
    have e : KV (putK kvs p.1 p.2) (stored vs q.1 q.2) := by
      have := r0.put p.1 h.2
      rw [← h.1]; exact this
    exact ih e
theorem length_mergeK : ∀ (more kvs : List (Key × V)), (mergeK kvs more).length ≤ kvs.length + more.length
  | [], kvs => by show kvs.length ≤ kvs.length + 0; omega
  | p :: r, kvs => by
    have h1 := length_mergeK r (putK kvs p.1 p.2)
    have h2 := length_putK kvs p.1 p.2
    show (mergeK (putK kvs p.1 p.2) r).length ≤ _
    rw [List.length_cons]; omega
section
variable {X : Cx} {pins : List (Addr × Obj)} {σ : St} {H : Hp} {s : Shared} {a : Addr} {y d : V} {u r : Value} {o : Option V} {A : Around} {E : Value → Shared → Prop}
end
section
variable {X : Cx} {o e f : Expr} {apos cpos : Pos} {td ty tx : TE}
end
section
variable {X : Cx} {pins : List (Addr × Obj)} {σ : St} {H : Hp} {s : Shared} {a : Addr} {kvs : List (Key × V)} {A : Around} {E : Value → Shared → Prop}
end
section
variable {X : Cx} {pins : List (Addr × Obj)} {σ : St} {H : Hp} {s : Shared} {a : Addr} {y : V} {u : Value} {A : Around} {E : Value → Shared → Prop}
end
end L2
namespace L2
open PySem PySem.Spec PyProof.Rows
section
variable {X : Cx}
end
section
variable {κ : Type} [DecidableEq κ]
end
end L2
end
section
set_option Elab.async false
set_option linter.all false
set_option maxRecDepth 100000
set_option maxHeartbeats 4000000
namespace L2
open PySem PySem.Spec PyProof.Rows
def rSetD : V → V → V → Hp → (Hp → Prop) → Prop := fun o i v H Q => ∃ a H', o = .ref a ∧ DPut H a i v H' ∧ Q H'
section
variable {X : Cx}
theorem set_dict (hu : X.A.units + 1 < cLine) : PSet X rSetD := by
  intro pins s σ H o i v ov iv u Q I ro ri rv h
  obtain ⟨a, H', rfl, g, q⟩ := h
  cases ro
  exact d_setItem hu I g ri rv fun s' I' => ⟨H', I', q⟩
end
structure FunD (K : PySem.W.Frag) (x qual : Str) (st : Stmt) (dV : Value) (f : Addr) (fd : FuncData) : Prop where
  ex : ∃ (oc : Value) (od : Option Addr) (kV doc pm : Value) (an : Option Addr) (cdv ct : Value) (osl : Array (Option Value)),
    fd = PySem.W.fnOf x qual (defArgs st) (defBody st) (defScope st) dV kV doc pm an cdv ct ∧ K.lookup f = some ⟨oc, od, .func fd, osl⟩ ∧ PySem.W.codeIn K cdv qual = true
  kp : PySem.W.keepIn K (.ref f) = true
section
variable {P : Program} {w : World} {K : PySem.W.Frag} {mg : Str → Option Value} {base : Heap}
theorem FunD.ok {x qual : Str} {st : Stmt} {dV : Value} {f : Addr} {fd : FuncData} {N ps : List Str} {k : Nat} {sp : Sp} (F : FunD K x qual st dV f fd) (S : FnScope N ps (defScope st)) (len : ∀ vs H Q E, sp vs H Q E → vs.length = ps.length)
    (hbody : ∀ (cdv : Value) (A : Around) (outer : List Env) (s : Shared) (H : Hp) (vs : List V) (Q : VK) (E : XK), Room k (A.deeper (envOfC qual (defScope st) s.heap.objs.size f cdv)) → sp vs H Q E →
      ∃ t, PSs (cxOf CX0 P w K mg base N qual (defScope st) f cdv A outer s H E).nox (defBody st) t ∧ t { nx := fun _ H' => Q .non H', rt := Q } (start N vs) H) : FnOk P w K mg base CX0 (k + 1) f fd ps sp := by
  obtain ⟨oc, od, kV, doc, pm, an, cdv, ct, osl, rfl, lk, hcd⟩ := F.ex
  refine fn_of lk hcd S len fun A outer s H vs Q E hr hsp => ?_
  obtain ⟨t, h, q⟩ := hbody cdv A outer s H vs Q E hr hsp
  exact ⟨t, h.nox, q⟩
theorem funD_mk {x qual : Str} {st : Stmt} {dV : Value} {f : Addr} {oc : Value} {od an : Option Addr} {osl : Array (Option Value)} {kV doc pm cdv ct : Value} (l : K.lookup f = some ⟨oc, od, .func (PySem.W.fnOf x qual (defArgs st) (defBody st) (defScope st) dV kV doc pm an cdv ct), osl⟩)
    (c : PySem.W.codeIn K cdv qual = true) (k : PySem.W.keepIn K (.ref f) = true) : FunD K x qual st dV f (PySem.W.fnOf x qual (defArgs st) (defBody st) (defScope st) dV kV doc pm an cdv ct) := ⟨⟨oc, od, kV, doc, pm, an, cdv, ct, osl, rfl, l, c⟩, k⟩
end
end L2
end
section
set_option Elab.async false
set_option linter.all false
set_option maxRecDepth 100000
set_option maxHeartbeats 4000000
namespace L2
open PySem PySem.Spec PyProof.Rows
end L2
end
section
set_option Elab.async false
set_option linter.all false
set_option maxRecDepth 100000
set_option maxHeartbeats 4000000
namespace PySem.W
open PySem PySem.Calls PyProof.Rows PyProof.V PySem.Spec
section
variable {prog : Program} {w : World} {A : Around} {E : Value → Shared → Prop} {s : Shared} {r l : Addr}
end
end PySem.W
namespace L2
open PySem PySem.Spec PyProof.Rows
section
variable {X : Cx}
end
end L2
end
section
set_option Elab.async false
set_option linter.all false
set_option maxRecDepth 100000
set_option maxHeartbeats 4000000
namespace HT
open PySem PyProof.Rows
section
variable {prog : Program} {w : World} {A : Around} {E : Value → Shared → Prop} {s : Shared}
theorem cat_tup0 {t b : Addr} {vs ws : List Value} {Q : Value → Shared → Prop} (ht : IsTup s.heap t vs.toArray) (hb : IsTup s.heap b ws.toArray) (hv : vs = []) (h : Q (.ref b) s) : wpAny (model prog w) A (binaryOp .Add (.ref t) (.ref b)) Q E s := by
  obtain ⟨⟨cls, dd, data, sl⟩, ho, hc, n, hd⟩ := id ht
  obtain ⟨⟨cls2, dd2, data2, sl2⟩, ho2, hc2, n2, hd2⟩ := id hb
  simp only at hc hd hc2 hd2
  subst hc hd hc2 hd2
  exact concat_meets ⟨_, ho, rfl⟩ ⟨_, ho2, rfl⟩ noFill_tuple_add seq_tuple_add PySem.F.slot_tuple_add PySem.F.entry_tuple_add (PySem.F.args_tuple_add_2 _ _)
      (tuple_addW0 t b vs.toArray ws.toArray n n2 dd dd2 sl sl2 (by simp [hv])) ⟨ho, ho2, h⟩
theorem getItem_tuple_all {t sl : Addr} {items : Array Value} {vl vu : Value} {lo hi : Option Int} {Q : Value → Shared → Prop} (ht : IsTup s.heap t items) (hs : s.heap.IsSliceOf sl vl vu .none) (pl : IsPart vl lo) (pu : IsPart vu hi)
    (hw : sIx items.size 0 lo = 0 ∧ sIx items.size items.size hi = items.size) (h : Q (.ref t) s) : wpAny (model prog w) A (getItem (.ref t) (.ref sl)) Q E s := by
  obtain ⟨os, hos, hcs, hds⟩ := id hs
  have hTs : s.TypeIs (.ref sl) "slice" := ⟨os, hos, hcs⟩
  unfold getItem
  try with_reducible refine wpAny_holding ?_
  first | refine wpAny_bind (wpAny_pure ?_) | skip
  refine wpAny_bind (wpAny_sequenceKey ht.typeIs (by decide) ?_)
  refine wpAny_bind (wpAny_callSpecial?_slot (name := Str.ofString "__getitem__") ht.typeIs PyProof.Rows.slot_tuple_getitem
    (wpAny_call_entry PyProof.Rows.slot_tuple_getitem ht.typeIs entry_tuple_getitem ?_ (args_tuple_getitem _ _)))
  show wpAny _ _ (Builtin.Tuple.tupleItemsOf (.ref t) >>= _) _ _ s
  refine wpAny_bind (tupleItemsOf_ ht ?_)
  refine wpAny_bind (wpAny_typeOf hTs ?_)
  rw [if_pos (by decide)]
  refine wpAny_bind (sliceApplied_gen hs pl pu ?_)
  have hyes : (((sIx items.size 0 lo : Nat) : Int) == 0 && (1 : Int) == 1 && (sIx items.size items.size hi - sIx items.size 0 lo) == items.size) = true := by
    rw [hw.1, hw.2]; simp
  show wpAny _ _ (if (((sIx items.size 0 lo : Nat) : Int) == 0 && (1 : Int) == 1 && (sIx items.size items.size hi - sIx items.size 0 lo) == items.size) = true then _ else _) _ _ s
  rw [if_pos hyes]
  refine wpAny_bind (m := Builtin.Tuple.tupleIsExact (.ref t)) ?_
  unfold Builtin.Tuple.tupleIsExact
  refine wpAny_bind (wpAny_typeOf ht.typeIs (wpAny_pure ?_))
  rw [if_pos (by decide)]
  exact wpAny_bind (wpAny_rule (wpAny_pure ⟨_, rfl, wpAny_pure h⟩))
end
end HT
namespace L2
open PySem PySem.Spec PyProof.Rows
section
variable {X : Cx}
def rCatT0 (K : PySem.W.Frag) : R2 := fun x y H Q => ∃ a b ys, x = .ref a ∧ y = .ref b ∧ SqT K H a [] ∧ SqT K H b ys ∧ Q (.ref b) H
theorem op_catT0 : OpR X (binaryOp .Add) (rCatT0 X.K) := by
  intro pins s σ H x y v u Q I rx ry h
  obtain ⟨a, b, ys, rfl, rfl, ha, hb, q⟩ := h
  cases rx
  cases ry
  obtain ⟨its, r1, p1, _⟩ := I.tuple ha
  obtain ⟨its2, r2, p2, _⟩ := I.tuple hb
  exact HT.cat_tup0 p1 p2 (r1.nil_iff.mpr rfl) ⟨.ref b, H, I, rfl, q⟩
def rPlusW (K : PySem.W.Frag) : R2 := fun x y H Q => rCatT0 K x y H Q ∨ rPlus K x y H Q
theorem op_plusW : OpR X (binaryOp .Add) (rPlusW X.K) := op_catT0.or op_plus
def rSlTA (K : PySem.W.Frag) : V → Option Int → Option Int → Hp → VK → Prop := fun x lo hi H Q => ∃ a xs, x = .ref a ∧ SqT K H a xs ∧ (HT.sIx xs.length 0 lo = 0 ∧ HT.sIx xs.length xs.length hi = xs.length) ∧ Q (.ref a) H
theorem sl_tupA : SlR X (rSlTA X.K) := by
  intro pins s σ H x v vl vu lo hi sl Q I rx hs pl pu h
  obtain ⟨a, xs, rfl, hx, hw, q⟩ := h
  cases rx
  obtain ⟨its, r, ht, hz⟩ := I.tuple hx
  have hlen : its.toArray.size = xs.length := by rw [List.size_toArray]; exact r.length.symm
  refine ⟨"tuple", _, PyProof.Rows.slot_tuple_getitem.lookup, ht.typeIs, ?_⟩
  exact HT.getItem_tuple_all ht hs pl pu (by rw [hlen]; exact hw) ⟨.ref a, H, I, rfl, q⟩
def rSlW (K : PySem.W.Frag) : V → Option Int → Option Int → Hp → VK → Prop := fun x lo hi H Q => rSlTA K x lo hi H Q ∨ rSl K x lo hi H Q
theorem sl_seqW : SlR X (rSlW X.K) := sl_tupA.or sl_seq
end
end L2
end
section
set_option Elab.async false
set_option linter.all false
set_option maxRecDepth 100000
set_option maxHeartbeats 4000000
namespace PySem
open Sem (wp)
theorem lk_zip_keys : typeLookup (.type "zip") "keys" = pure none := by rw [typeLookup_type, builtinLookup_eq_fast]; kernel_rfl
theorem zip_getattr_none : typeLookup (.type "zip") "__getattr__" = pure none := by rw [typeLookup_type, builtinLookup_eq_fast]; kernel_rfl
theorem entry_zip_getattribute : entryFor table "zip.__getattribute__" = some Builtin.«object.__getattribute__» :=
  entryFor_alias (id' := "object.__getattribute__") (by kernel_rfl) (by decide +kernel) (by decide +kernel) (by kernel_rfl)
theorem meets_getattribute_miss_zip (a : Addr) (fs : Array Value) (sl : Array (Option Value)) (name : Str) (u : Tok) (hmiss : typeLookup (.type "zip") name = pure none) (hname : (["__module__", "__name__", "__qualname__", "__doc__", "__annotations__"] : List Str).contains name = false) (hsz : name.length + 100 ≤ sizeLine := by size_fits) :
    Meets (Builtin.«object.__getattribute__» ⟨[.ref a, .str name u], []⟩) (fun A R s => s.heap.get? a = some { cls := .type "zip", dict := none, data := .fields fs, slots := sl } ∧ raisesAttr (.ref a) name A R s) :=
  Meets.of_wp fun prog w A R s hs => by
    obtain ⟨hp, g, d, tk, os⟩ := s
    obtain ⟨hx, hs⟩ := hs
    have hT : (⟨hp, g, d, tk, os⟩ : Shared).TypeIs (.ref a) "zip" := ⟨_, hx, rfl⟩
    unfold Builtin.«object.__getattribute__»
    repeat (any_goals (first | assumption | wp_step))
    simp only [hname, Bool.false_eq_true, if_false]
    repeat (any_goals (first | assumption | wp_step))
    exact wpAny_raiseAttrError hs.1 hs.2 (attrMsg_fits (by decide +kernel) hsz)
theorem keys_zip {prog : Program} {w : World} {A : Around} {E : Value → Shared → Prop} {s : Shared} {a : Addr} {fs : Array Value} {Q : Option Value → Shared → Prop} {sl : Array (Option Value)}
    (hx : s.heap.get? a = some { cls := .type "zip", dict := none, data := .fields fs, slots := sl }) (hA : A.handled = none)
    (h : ∀ h' tk, (∀ b u, s.heap.get? b = some u → h'.get? b = some u) → Q none { s with heap := h', toks := tk }) : wpAny (model prog w) A (getAttr? (.ref a) "keys") Q E s := by
  obtain ⟨hp, g, d, tk, os⟩ := s
  have hT : ∀ tk', (⟨hp, g, d, tk', os⟩ : Shared).TypeIs (.ref a) "zip" := fun _ => ⟨_, hx, rfl⟩
  have f1 := sub_AttributeError
  have f3 := F.slot_zip_getattribute.lookup
  have f4 := F.slot_zip_getattribute.bind (.ref a)
  have f5 := zip_getattr_none
  unfold getAttr? getAttrBy? getAttrBy
  repeat (any_goals (first | assumption | exact hT _ | ((with_reducible show wpAny _ _ (call (Value.builtin "zip.__getattribute__") _ _) _ _ _); refine call_meets F.slot_zip_getattribute (hT _) entry_zip_getattribute (F.args_zip_getattribute_2 _ _) (meets_getattribute_miss_zip a fs sl "keys" _ lk_zip_keys (by decide +kernel) (by decide +kernel)) ⟨hx, hA, fun h' tk' e hx' => ?_⟩) | wp_step))
  obtain ⟨t', u', he⟩ := hx'.there
  show wpAny _ _ (getattributeRaised _ _ _ _ _ _ _) _ _ _
  unfold getattributeRaised
  repeat (any_goals (first | assumption | wp_step))
  exact h _ _ hx'.keeps
namespace F
theorem entry_dict_update_loop : entryFor table "dict.update.loop" = some Builtin.«dict.update.loop» := entryFor_of_tree (by kernel_rfl)
theorem plain_dict_update_loop : plainId "dict.update.loop" = true := by decide +kernel
end F
def ItAt (tp : Bool) (h : Heap) (i l : Addr) (k : Nat) : Prop := match tp with
  | true => h.IsTupleIter i l k
  | false => h.IsListIter i l k
def SqAtH (tp : Bool) (h : Heap) (l : Addr) (xs : Array Value) : Prop := match tp with
  | true => h.IsTuple l xs
  | false => h.IsList l xs
theorem ItAt.at {tp : Bool} {h h' : Heap} {i l : Addr} {k : Nat} (x : ItAt tp h i l k) (e : ∀ o, h.get? i = some o → h'.get? i = some o) : ItAt tp h' i l k := by
  cases tp with
  | true => exact Heap.IsTupleIter.at (show h.IsTupleIter i l k from x) e
  | false => exact Heap.IsListIter.at (show h.IsListIter i l k from x) e
theorem SqAtH.at {tp : Bool} {h h' : Heap} {l : Addr} {xs : Array Value} (x : SqAtH tp h l xs) (e : ∀ o, h.get? l = some o → h'.get? l = some o) : SqAtH tp h' l xs := by
  cases tp with
  | true => obtain ⟨o, ho, r⟩ := (show h.IsTuple l xs from x); exact ⟨o, e o ho, r⟩
  | false => exact Heap.IsList.at (show h.IsList l xs from x) e
theorem ItAt.extBut {tp : Bool} {h h' : Heap} {i l b : Addr} {k : Nat} (x : ItAt tp h i l k) (hs : Heap.ExtBut b h h') (n : i ≠ b) : ItAt tp h' i l k := x.at fun o e => hs i o n e
theorem SqAtH.extBut {tp : Bool} {h h' : Heap} {l b : Addr} {xs : Array Value} (x : SqAtH tp h l xs) (hs : Heap.ExtBut b h h') (n : l ≠ b) : SqAtH tp h' l xs := x.at fun o e => hs l o n e
theorem ItAt.lt {tp : Bool} {h : Heap} {i l : Addr} {k : Nat} (x : ItAt tp h i l k) : i < h.objs.size := by
  cases tp with
  | true => obtain ⟨o, ho, _⟩ := (show h.IsTupleIter i l k from x); exact Heap.lt_size ho
  | false => obtain ⟨o, ho, _⟩ := (show h.IsListIter i l k from x); exact Heap.lt_size ho
theorem SqAtH.lt {tp : Bool} {h : Heap} {l : Addr} {xs : Array Value} (x : SqAtH tp h l xs) : l < h.objs.size := by
  cases tp with
  | true => obtain ⟨o, ho, _⟩ := (show h.IsTuple l xs from x); exact Heap.lt_size ho
  | false => obtain ⟨o, ho, _⟩ := (show h.IsList l xs from x); exact Heap.lt_size ho
def itObj (tp : Bool) (l : Addr) : Obj := { cls := .type (if tp then "tuple_iterator" else "list_iterator"), data := .fields #[.ref l, .int 0 0] }
section
variable {prog : Program} {w : World} {A : Around} {E : Value → Shared → Prop} {s : Shared}
theorem pyIter_seq {tp : Bool} {l : Addr} {xs : Array Value} {Q : Value → Shared → Prop} (hl : SqAtH tp s.heap l xs) (hQ : Q (.ref s.heap.objs.size) { s with heap := s.heap.push (itObj tp l) }) : wpAny (model prog w) A (pyIter (.ref l)) Q E s := by
  cases tp with
  | true => exact wpAny_pyIter_tuple (show s.heap.IsTuple l xs from hl) hQ
  | false => exact wpAny_pyIter_list (show s.heap.IsList l xs from hl) hQ
theorem itAt_new {tp : Bool} {l : Addr} (h : Heap) : ItAt tp (h.push (itObj tp l)) h.objs.size l 0 := by
  cases tp with
  | true => exact ⟨_, Heap.get?_push_size _ rfl, rfl, rfl⟩
  | false => exact ⟨_, Heap.get?_push_size _ rfl, rfl, rfl⟩
theorem nextOf_tuple_item {it t : Addr} {i : Nat} {items} {x : Value} {Q : Value → Shared → Prop} (hit : s.heap.IsTupleIter it t i)
    (ht : s.heap.IsTuple t items) (hx : items[i]? = some x)
    (hQ : ∀ h', h'.IsTupleIter it t (i + 1) → Heap.SameBut it s.heap h' → Q x { s with heap := h' }) :
    wpAny (model prog w) A (Builtin.SmallTypes.nextOf (.ref it)) Q E s := by
  obtain ⟨o, ho, hc, hd⟩ := id hit
  obtain ⟨ol, hol, _, nl, hdl⟩ := ht
  unfold Builtin.SmallTypes.nextOf
  refine wpAny_bind (wpAny_callSpecial?_slot (name := Str.ofString "__next__") hit.typeIs F.slot_tuple_iterator_next
    (wpAny_call_entry F.slot_tuple_iterator_next hit.typeIs F.entry_tuple_iterator_next ?_ (F.args_tuple_iterator_next_1 _)))
  show wpAny _ _ (field (.ref it) 0 >>= _) _ _ s
  refine wpAny_bind (wpAny_field ho hd (x := .ref t) rfl ?_)
  show wpAny _ _ (if (Value.ref t == Value.none) = true then _ else _) _ _ s
  rw [if_neg (show ¬ ((Value.ref t == Value.none) = true) from Bool.false_ne_true)]
  show wpAny _ _ (field (.ref it) 1 >>= _) _ _ s
  refine wpAny_bind (wpAny_field ho hd (x := .int i 0) rfl ?_)
  show wpAny _ _ (seqItems? (.ref t) >>= _) _ _ s
  refine wpAny_bind (wpAny_seqItems hol hdl ?_)
  simp only [Int.toNat_natCast, hx]
  refine wpAny_bind (wpAny_setField ho hd (by simp) (wpAny_pure ⟨x, rfl, wpAny_pure (hQ _ ?_ (Heap.SameBut.update ..))⟩))
  exact ⟨_, Heap.get?_update_self _ ho (Obj.isFreed_of_fields (Obj.data_mapFields hd _)), (Obj.cls_mapFields ..).trans hc, by
    rw [Obj.data_mapFields hd]; simp [rawInt]⟩
theorem nextOf_tuple_end {it t : Addr} {i : Nat} {items} {Q : Value → Shared → Prop} (hh : A.handled = none)
    (hit : s.heap.IsTupleIter it t i) (ht : s.heap.IsTuple t items) (hx : items[i]? = none)
    (hE : ∀ h' e, Heap.ExtBut it s.heap h' → (∃ o, h'.get? e = some o ∧ o.cls = .type "StopIteration") → E (.ref e) { s with heap := h' }) : wpAny (model prog w) A (Builtin.SmallTypes.nextOf (.ref it)) Q E s := by
  obtain ⟨o, ho, hc, hd⟩ := id hit
  obtain ⟨ol, hol, _, nl, hdl⟩ := ht
  unfold Builtin.SmallTypes.nextOf
  refine wpAny_bind (wpAny_callSpecial?_slot (name := Str.ofString "__next__") hit.typeIs F.slot_tuple_iterator_next
    (wpAny_call_entry F.slot_tuple_iterator_next hit.typeIs F.entry_tuple_iterator_next ?_ (F.args_tuple_iterator_next_1 _)))
  show wpAny _ _ (field (.ref it) 0 >>= _) _ _ s
  refine wpAny_bind (wpAny_field ho hd (x := .ref t) rfl ?_)
  show wpAny _ _ (if (Value.ref t == Value.none) = true then _ else _) _ _ s
  rw [if_neg (show ¬ ((Value.ref t == Value.none) = true) from Bool.false_ne_true)]
  show wpAny _ _ (field (.ref it) 1 >>= _) _ _ s
  refine wpAny_bind (wpAny_field ho hd (x := .int i 0) rfl ?_)
  show wpAny _ _ (seqItems? (.ref t) >>= _) _ _ s
  refine wpAny_bind (wpAny_seqItems hol hdl ?_)
  simp only [Int.toNat_natCast, hx]
  refine wpAny_bind (wpAny_rule (wpAny_bind (wpAny_setField ho hd (by simp) ?_)))
  show wpAny _ _ (newExc (.type "StopIteration") [] >>= _) _ _ _
  refine wpAny_bind ?_
  simp only [newExc, newTuple]
  refine wpAny_bind (wpAny_newObj_type ?_ (by size_fits))
  refine wpAny_bind (m := firstArgMember _ _) (wpAny_of_eq (a := Value.none) (by first | rfl | (simp only [firstArgMember]; rfl)) ?_)
  refine wpAny_newObj_type ?_ (by size_fits)
  simp only [raiseNew]
  refine wpAny_bind (wpAny_handled ?_)
  first | rw [show A.in1.handled = none from hh] | rw [hh]
  refine wpAny_bind (wpAny_pure (wpAny_throw ?_))
  exact hE _ _ (((Heap.SameBut.update ..).extBut.push _).push _) ⟨_, Heap.get?_push_size _ rfl, rfl⟩
theorem nextOf_item {tp : Bool} {it l : Addr} {i : Nat} {xs : Array Value} {x : Value} {Q : Value → Shared → Prop} (hit : ItAt tp s.heap it l i) (hl : SqAtH tp s.heap l xs) (hx : xs[i]? = some x)
    (hQ : ∀ h', ItAt tp h' it l (i + 1) → Heap.SameBut it s.heap h' → Q x { s with heap := h' }) : wpAny (model prog w) A (Builtin.SmallTypes.nextOf (.ref it)) Q E s := by
  cases tp with
  | true => exact nextOf_tuple_item hit hl hx hQ
  | false => exact wpAny_nextOf_list_item hit hl hx hQ
theorem nextOf_end {tp : Bool} {it l : Addr} {i : Nat} {xs : Array Value} {Q : Value → Shared → Prop} (hh : A.handled = none) (hit : ItAt tp s.heap it l i) (hl : SqAtH tp s.heap l xs) (hx : xs[i]? = none)
    (hE : ∀ h' e, Heap.ExtBut it s.heap h' → (∃ o, h'.get? e = some o ∧ o.cls = .type "StopIteration") → E (.ref e) { s with heap := h' }) : wpAny (model prog w) A (Builtin.SmallTypes.nextOf (.ref it)) Q E s := by
  cases tp with
  | true => exact nextOf_tuple_end hh hit hl hx hE
  | false => exact wpAny_nextOf_list_end hh hit hl hx hE
end
abbrev IsZipB (h : Heap) (z TI TO T0 : Addr) (b : Bool) : Prop :=
  h.get? z = some { cls := .type "zip", dict := none, data := .fields #[rawInt T0, .bool b, .bool false, .ref TI, .ref TO], slots := #[] }
section
variable {prog : Program} {w : World} {A : Around} {E : Value → Shared → Prop} {s : Shared} {t1 t2 : Bool}
theorem wpAny_lia {a : Addr} {Q : Option Obj → Shared → Prop} (h : Q (s.heap.get? a) s) : wpAny (model prog w) A (loadIfAlive a) Q E s := fun Γ p hin => by
  show wp _ Γ (Sem.loadIfAlive a Sem.pure) _ _ p s
  rw [Sem.wp_loadIfAlive]
  exact wpAny_pure (M := model prog w) (A := A) (E := E) h Γ p hin
theorem zipB_item {z TI TO T0 i1 i2 l1 l2 : Addr} {k1 k2 : Nat} {xs ys : Array Value} {x y : Value} {b : Bool} {oT : Obj} {Q : Value → Shared → Prop} (D : ZipApart z TI TO i1 i2 l1 l2)
    (hz : IsZipB s.heap z TI TO T0 b) (hTI : IsPair s.heap TI (.ref i1) (.ref i2)) (hT0 : s.heap.get? T0 = some oT)
    (h1 : ItAt t1 s.heap i1 l1 k1) (h2 : ItAt t2 s.heap i2 l2 k2) (hl1 : SqAtH t1 s.heap l1 xs) (hl2 : SqAtH t2 s.heap l2 ys) (hx : xs[k1]? = some x) (hy : ys[k2]? = some y)
    (hQ : ∀ h', IsZipB h' z TI TO T0 true → ItAt t1 h' i1 l1 (k1 + 1) → ItAt t2 h' i2 l2 (k2 + 1) → IsPair h' s.heap.objs.size x y → h'.objs.size = s.heap.objs.size + 1 →
      (∀ c o, c ≠ z → c ≠ i1 → c ≠ i2 → s.heap.get? c = some o → h'.get? c = some o) → Q (.ref s.heap.objs.size) { s with heap := h' }) :
    wpAny (model prog w) A (Builtin.«zip.__next__» ⟨[.ref z], []⟩) (fun fin s' => ∃ v, fin = .done (.ret v) ∧ Q v s') E s := by
  show wpAny _ _ (field (.ref z) 2 >>= _) _ _ _
  refine wpAny_bind (wpAny_field hz rfl (x := .bool false) rfl ?_)
  show wpAny _ _ (field (.ref z) 3 >>= _) _ _ _
  refine wpAny_bind (wpAny_field hz rfl (x := .ref TI) rfl ?_)
  refine wpAny_bind (wpAny_seqItems hTI rfl ?_)
  show wpAny _ _ (Builtin.SmallTypes.ownedTupleIsFree (.ref z) >>= _) _ _ _
  refine wpAny_bind ?_
  unfold Builtin.SmallTypes.ownedTupleIsFree
  refine wpAny_bind (wpAny_field hz rfl (x := rawInt T0) rfl ?_)
  show wpAny _ _ (loadIfAlive (T0 : Int).toNat >>= _) _ _ _
  have hn : (T0 : Int).toNat = T0 := by omega
  rw [hn]
  refine wpAny_bind (wpAny_lia ?_)
  rw [hT0]
  show wpAny _ _ (field (.ref z) 1 >>= _) _ _ _
  refine wpAny_bind (wpAny_field hz rfl (x := .bool b) rfl ?_)
  have key : ∀ h₁, IsZipB h₁ z TI TO T0 true → Heap.SameBut z s.heap h₁ → wpAny (model prog w) A (Builtin.SmallTypes.nextOf (.ref i1)) (fun v1 s1 => v1 = x ∧ wpAny (model prog w) A (Builtin.SmallTypes.nextOf (.ref i2)) (fun v2 s2 => v2 = y ∧ Q (.ref s2.heap.objs.size) { s2 with heap := s2.heap.push { cls := .type "tuple", data := .seq #[x, y] } }) E s1) E { s with heap := h₁ } := by
    intro h₁ hz₁ hs₁
    refine nextOf_item (h1.extBut hs₁.extBut D.i1z) (hl1.extBut hs₁.extBut D.l1z) hx fun h₂ h1₂ hs₂ => ⟨rfl, ?_⟩
    refine nextOf_item ((h2.extBut hs₁.extBut D.i2z).extBut hs₂.extBut D.i12.symm) ((hl2.extBut hs₁.extBut D.l2z).extBut hs₂.extBut D.l2i1) hy fun h₃ h2₃ hs₃ => ⟨rfl, ?_⟩
    have hsz : h₃.objs.size = s.heap.objs.size := by rw [hs₃.1, hs₂.1, hs₁.1]
    have hz₃ : IsZipB h₃ z TI TO T0 true := hs₃.extBut _ _ D.i2z.symm (hs₂.extBut _ _ D.i1z.symm hz₁)
    show Q (.ref h₃.objs.size) _
    rw [hsz]
    refine hQ _ (Heap.get?_push_of_some _ hz₃) ((h1₂.extBut hs₃.extBut D.i12).at fun o e => Heap.get?_push_of_some _ e) (h2₃.at fun o e => Heap.get?_push_of_some _ e) ?_ (by rw [Heap.size_push, hsz]) fun c o c1 c2 c3 e => Heap.get?_push_of_some _ (hs₃.extBut _ _ c3 (hs₂.extBut _ _ c2 (hs₁.extBut _ _ c1 e)))
    rw [← hsz]; exact Heap.get?_push_size _ rfl
  cases b with
  | true =>
    rw [if_neg (by decide)]
    refine wpAny_pure ?_
    rw [if_neg (by decide)]
    simp only [List.forIn_toArray, List.forIn_cons, List.forIn_nil]
    refine wpAny_bind (wpAny_bind (wpAny_bind (wpAny_holding ?_)))
    show wpAny _ _ (Builtin.SmallTypes.nextOf (.ref i1) >>= _) _ _ _
    refine wpAny_bind (wpAny_mono (key s.heap hz (Heap.SameBut.refl ..)) (fun v1 s1 k1 => ?_) fun _ _ h => h)
    obtain ⟨rfl, k1⟩ := k1
    refine wpAny_pure (wpAny_pure ?_)
    refine wpAny_bind (wpAny_bind (wpAny_holding ?_))
    show wpAny _ _ (Builtin.SmallTypes.nextOf (.ref i2) >>= _) _ _ _
    refine wpAny_bind (wpAny_mono k1 (fun v2 s2 k2 => ?_) fun _ _ h => h)
    obtain ⟨rfl, k2⟩ := k2
    refine wpAny_pure (wpAny_pure (wpAny_pure ?_))
    refine wpAny_bind (wpAny_newTuple ?_ (hsz := by show 2 ≤ sizeLine; decide))
    exact wpAny_pure ⟨_, rfl, k2⟩
  | false =>
    rw [if_pos (by decide)]
    refine wpAny_bind (wpAny_setField_rec hz (by simp) fun h₁ hz₁ hs₁ => ?_)
    replace hz₁ : IsZipB h₁ z TI TO T0 true := hz₁
    refine wpAny_pure ?_
    rw [if_neg (by decide)]
    simp only [List.forIn_toArray, List.forIn_cons, List.forIn_nil]
    refine wpAny_bind (wpAny_bind (wpAny_bind (wpAny_holding ?_)))
    show wpAny _ _ (Builtin.SmallTypes.nextOf (.ref i1) >>= _) _ _ _
    refine wpAny_bind (wpAny_mono (key h₁ hz₁ hs₁) (fun v1 s1 k1 => ?_) fun _ _ h => h)
    obtain ⟨rfl, k1⟩ := k1
    refine wpAny_pure (wpAny_pure ?_)
    refine wpAny_bind (wpAny_bind (wpAny_holding ?_))
    show wpAny _ _ (Builtin.SmallTypes.nextOf (.ref i2) >>= _) _ _ _
    refine wpAny_bind (wpAny_mono k1 (fun v2 s2 k2 => ?_) fun _ _ h => h)
    obtain ⟨rfl, k2⟩ := k2
    refine wpAny_pure (wpAny_pure (wpAny_pure ?_))
    refine wpAny_bind (wpAny_newTuple ?_ (hsz := by show 2 ≤ sizeLine; decide))
    exact wpAny_pure ⟨_, rfl, k2⟩
theorem zipB_end {z TI TO T0 i1 i2 l1 l2 : Addr} {k1 k2 : Nat} {xs ys : Array Value} {b : Bool} {oT : Obj} {Q : Fin → Shared → Prop} (hh : A.handled = none) (D : ZipApart z TI TO i1 i2 l1 l2)
    (hz : IsZipB s.heap z TI TO T0 b) (hTI : IsPair s.heap TI (.ref i1) (.ref i2)) (hT0 : s.heap.get? T0 = some oT)
    (h1 : ItAt t1 s.heap i1 l1 k1) (h2 : ItAt t2 s.heap i2 l2 k2) (hl1 : SqAtH t1 s.heap l1 xs) (hl2 : SqAtH t2 s.heap l2 ys) (hend : xs[k1]? = none)
    (hE : ∀ h' e, (∀ c o, c ≠ z → c ≠ i1 → c ≠ i2 → s.heap.get? c = some o → h'.get? c = some o) → (∃ o, h'.get? e = some o ∧ o.cls = .type "StopIteration") → E (.ref e) { s with heap := h' }) :
    wpAny (model prog w) A (Builtin.«zip.__next__» ⟨[.ref z], []⟩) Q E s := by
  show wpAny _ _ (field (.ref z) 2 >>= _) _ _ _
  refine wpAny_bind (wpAny_field hz rfl (x := .bool false) rfl ?_)
  show wpAny _ _ (field (.ref z) 3 >>= _) _ _ _
  refine wpAny_bind (wpAny_field hz rfl (x := .ref TI) rfl ?_)
  refine wpAny_bind (wpAny_seqItems hTI rfl ?_)
  show wpAny _ _ (Builtin.SmallTypes.ownedTupleIsFree (.ref z) >>= _) _ _ _
  refine wpAny_bind ?_
  unfold Builtin.SmallTypes.ownedTupleIsFree
  refine wpAny_bind (wpAny_field hz rfl (x := rawInt T0) rfl ?_)
  show wpAny _ _ (loadIfAlive (T0 : Int).toNat >>= _) _ _ _
  have hn : (T0 : Int).toNat = T0 := by omega
  rw [hn]
  refine wpAny_bind (wpAny_lia ?_)
  rw [hT0]
  show wpAny _ _ (field (.ref z) 1 >>= _) _ _ _
  refine wpAny_bind (wpAny_field hz rfl (x := .bool b) rfl ?_)
  have key : ∀ (h₁ : Heap) (Q' : Value → Shared → Prop), Heap.SameBut z s.heap h₁ → wpAny (model prog w) A (Builtin.SmallTypes.nextOf (.ref i1)) Q' E { s with heap := h₁ } := by
    intro h₁ Q' hs₁
    refine nextOf_end hh (h1.extBut hs₁.extBut D.i1z) (hl1.extBut hs₁.extBut D.l1z) hend fun h₂ e hs₂ he => ?_
    exact hE h₂ e (fun c o c1 c2 _ x => hs₂ _ _ c2 (hs₁.extBut _ _ c1 x)) he
  cases b with
  | true =>
    rw [if_neg (by decide)]
    refine wpAny_pure ?_
    rw [if_neg (by decide)]
    simp only [List.forIn_toArray, List.forIn_cons, List.forIn_nil]
    refine wpAny_bind (wpAny_bind (wpAny_bind (wpAny_holding ?_)))
    show wpAny _ _ (Builtin.SmallTypes.nextOf (.ref i1) >>= _) _ _ _
    exact wpAny_bind (key s.heap _ (Heap.SameBut.refl ..))
  | false =>
    rw [if_pos (by decide)]
    refine wpAny_bind (wpAny_setField_rec hz (by simp) fun h₁ hz₁ hs₁ => ?_)
    refine wpAny_pure ?_
    rw [if_neg (by decide)]
    simp only [List.forIn_toArray, List.forIn_cons, List.forIn_nil]
    refine wpAny_bind (wpAny_bind (wpAny_bind (wpAny_holding ?_)))
    show wpAny _ _ (Builtin.SmallTypes.nextOf (.ref i1) >>= _) _ _ _
    exact wpAny_bind (key h₁ _ hs₁)
end
structure Marked (z TI TO : Addr) (f : Value) (b : Bool) (h h' : Heap) : Prop where
  at_ : h'.get? z = some { cls := .type "zip", dict := none, data := .fields #[f, .bool b, .bool false, .ref TI, .ref TO], slots := #[] }
  sm : Heap.SameBut z h h'
section
variable {prog : Program} {w : World} {A : Around} {E : Value → Shared → Prop} {s : Shared} {t1 t2 : Bool}
theorem mark0 {z TI TO : Addr} {f f' : Value} {b : Bool} {Q : Unit → Shared → Prop} (hz : s.heap.get? z = some { cls := .type "zip", dict := none, data := .fields #[f, .bool b, .bool false, .ref TI, .ref TO], slots := #[] })
    (k : ∀ h', Marked z TI TO f' b s.heap h' → Q () { s with heap := h' }) : wpAny (model prog w) A (setField (.ref z) 0 f') Q E s :=
  wpAny_setField_rec hz (by simp) fun h' a e => k h' ⟨a, e⟩
theorem zipA_item {z TI TO i1 i2 l1 l2 : Addr} {k1 k2 : Nat} {xs ys : Array Value} {x y a b : Value} {Q : Value → Shared → Prop} (D : ZipApart z TI TO i1 i2 l1 l2)
    (hz : IsZip s.heap z TI TO .none) (hTI : IsPair s.heap TI (.ref i1) (.ref i2)) (hTO : IsPair s.heap TO a b)
    (h1 : ItAt t1 s.heap i1 l1 k1) (h2 : ItAt t2 s.heap i2 l2 k2) (hl1 : SqAtH t1 s.heap l1 xs) (hl2 : SqAtH t2 s.heap l2 ys) (hx : xs[k1]? = some x) (hy : ys[k2]? = some y)
    (k : ∀ h', IsZipB h' z TI TO s.heap.objs.size false → ItAt t1 h' i1 l1 (k1 + 1) → ItAt t2 h' i2 l2 (k2 + 1) → IsPair h' s.heap.objs.size x y → IsPair h' TO x y →
      (∀ c o, c ≠ z → c ≠ TO → c ≠ i1 → c ≠ i2 → s.heap.get? c = some o → h'.get? c = some o) → Q (.ref s.heap.objs.size) { s with heap := h' }) :
    wpAny (model prog w) A (Builtin.«zip.__next__» ⟨[.ref z], []⟩) (fun fin s' => ∃ v, fin = .done (.ret v) ∧ Q v s') E s := by
  refine wpAny_bind (m := field (.ref z) 2) (wpAny_field hz rfl (x := .bool false) rfl ?_)
  refine wpAny_bind (m := field (.ref z) 3) (wpAny_field hz rfl (x := .ref TI) rfl (wpAny_bind (wpAny_seqItems hTI rfl ?_)))
  refine wpAny_bind (m := Builtin.SmallTypes.ownedTupleIsFree (.ref z)) (wpAny_bind (wpAny_field hz rfl (x := .none) rfl (wpAny_pure ?_)))
  refine wpAny_bind (wpAny_rule (wpAny_bind (wpAny_field hz rfl (x := .ref TO) rfl (wpAny_bind (mark0 hz fun g1 m1 => ?_)))))
  simp only [List.zipIdx_cons, List.zipIdx_nil, List.forIn_cons, List.forIn_nil]
  have e1 := m1.sm.extBut
  refine wpAny_bind (wpAny_bind (wpAny_bind (wpAny_onRaise (wpAny_bind (m := Builtin.SmallTypes.nextOf (.ref i1)) (nextOf_item (h1.extBut e1 D.i1z) (hl1.extBut e1 D.l1z) hx fun g2 i1' s2 => wpAny_pure ?_)))))
  have e2 := s2.extBut
  have o2 : IsPair g2 TO a b := e2 _ _ D.TOi1 (e1 _ _ D.TOz hTO)
  refine wpAny_bind (wpAny_seqItems o2 rfl (wpAny_bind (wpAny_updateSeq_pair o2 fun g3 o3 s3 => wpAny_bind (wpAny_letGo (wpAny_pure ?_)))))
  have e3 := s3.extBut
  replace o3 : IsPair g3 TO x b := o3
  refine wpAny_bind (wpAny_bind (wpAny_onRaise (wpAny_bind (m := Builtin.SmallTypes.nextOf (.ref i2)) (nextOf_item (((h2.extBut e1 D.i2z).extBut e2 D.i12.symm).extBut e3 D.TOi2.symm) (((hl2.extBut e1 D.l2z).extBut e2 D.l2i1).extBut e3 D.l2TO) hy fun g4 i2' s4 => wpAny_pure ?_))))
  have e4 := s4.extBut
  have o4 : IsPair g4 TO x b := e4 _ _ D.TOi2 o3
  refine wpAny_bind (wpAny_seqItems o4 rfl (wpAny_bind (wpAny_updateSeq_pair o4 fun g5 o5 s5 => wpAny_bind (wpAny_letGo (wpAny_pure (wpAny_pure ?_))))))
  have e5 := s5.extBut
  replace o5 : IsPair g5 TO x y := o5
  refine wpAny_bind (wpAny_seqItems o5 rfl (wpAny_bind (wpAny_newTuple ?_)))
  have size : g5.objs.size = s.heap.objs.size := (s5.1.trans (s4.1.trans (s3.1.trans (s2.1.trans m1.sm.1))))
  have z5 := Heap.get?_push_of_some { cls := .type "tuple", data := .seq #[x, y] } (e5 _ _ D.TOz.symm (e4 _ _ D.i2z.symm (e3 _ _ D.TOz.symm (e2 _ _ D.i1z.symm m1.at_))))
  have zl : z ≠ g5.objs.size := by rw [size]; exact Nat.ne_of_lt (Heap.lt_size hz)
  refine wpAny_bind (m := Builtin.SmallTypes.ownedTupleHandOut (.ref z) (.ref g5.objs.size)) (wpAny_bind (mark0 z5 fun g6 m6 => wpAny_setField_rec m6.at_ (by simp) fun g7 z7 s7 => wpAny_pure ⟨_, rfl, ?_⟩))
  have up : ∀ c o, c ≠ z → g5.get? c = some o → g7.get? c = some o := fun c o n e => s7.extBut _ _ n (m6.sm.extBut _ _ n (Heap.get?_push_of_some _ e))
  have pr : IsPair g7 g5.objs.size x y := s7.extBut _ _ (Ne.symm zl) (m6.sm.extBut _ _ (Ne.symm zl) (Heap.get?_push_size _ rfl))
  rw [size] at pr
  show Q (.ref g5.objs.size) _
  have z7' : IsZipB g7 z TI TO g5.objs.size false := z7
  rw [size] at z7' ⊢
  refine k g7 z7' ?_ ?_ pr (up _ _ D.TOz o5) fun c o c1 c2 c3 c4 e => up c o c1 (e5 _ _ c2 (e4 _ _ c4 (e3 _ _ c2 (e2 _ _ c3 (e1 _ _ c1 e)))))
  · exact (((i1'.extBut e3 D.TOi1.symm).extBut e4 D.i12).extBut e5 D.TOi1.symm).at fun o e => up _ o D.i1z e
  · exact (i2'.extBut e5 D.TOi2.symm).at fun o e => up _ o D.i2z e
theorem zipA_end {z TI TO i1 i2 l1 l2 : Addr} {k1 k2 : Nat} {xs ys : Array Value} {Q : Fin → Shared → Prop} (hh : A.handled = none) (D : ZipApart z TI TO i1 i2 l1 l2)
    (hz : IsZip s.heap z TI TO .none) (hTI : IsPair s.heap TI (.ref i1) (.ref i2)) (h1 : ItAt t1 s.heap i1 l1 k1) (hl1 : SqAtH t1 s.heap l1 xs) (hx : xs[k1]? = none)
    (k : ∀ h' e, (∀ c o, c ≠ z → c ≠ i1 → c ≠ i2 → s.heap.get? c = some o → h'.get? c = some o) → (∃ o, h'.get? e = some o ∧ o.cls = .type "StopIteration") → E (.ref e) { s with heap := h' }) :
    wpAny (model prog w) A (Builtin.«zip.__next__» ⟨[.ref z], []⟩) Q E s := by
  refine wpAny_bind (m := field (.ref z) 2) (wpAny_field hz rfl (x := .bool false) rfl ?_)
  refine wpAny_bind (m := field (.ref z) 3) (wpAny_field hz rfl (x := .ref TI) rfl (wpAny_bind (wpAny_seqItems hTI rfl ?_)))
  refine wpAny_bind (m := Builtin.SmallTypes.ownedTupleIsFree (.ref z)) (wpAny_bind (wpAny_field hz rfl (x := .none) rfl (wpAny_pure ?_)))
  refine wpAny_bind (wpAny_rule (wpAny_bind (wpAny_field hz rfl (x := .ref TO) rfl (wpAny_bind (mark0 hz fun g1 m1 => ?_)))))
  simp only [List.zipIdx_cons, List.zipIdx_nil, List.forIn_cons, List.forIn_nil]
  have e1 := m1.sm.extBut
  refine wpAny_bind (wpAny_bind (wpAny_bind (wpAny_onRaise (wpAny_bind (m := Builtin.SmallTypes.nextOf (.ref i1)) (nextOf_end hh (h1.extBut e1 D.i1z) (hl1.extBut e1 D.l1z) hx fun g2 e x2 ⟨oe, he, ce⟩ => ?_)))))
  have z2 := x2 _ _ D.i1z.symm m1.at_
  have ne : e ≠ z := fun q => by subst q; rw [z2] at he; cases he; simp at ce
  exact mark0 z2 fun g3 m3 => k g3 e (fun c o c1 c2 _ q => m3.sm.extBut _ _ c1 (x2 _ _ c2 (e1 _ _ c1 q))) ⟨oe, m3.sm.extBut _ _ ne he, ce⟩
end
end PySem
namespace PySem
open Sem (wp)
abbrev zhA (t1 : Bool) (h : Heap) (l1 : Addr) : Heap := h.push (itObj t1 l1)
abbrev zhB (t1 t2 : Bool) (h : Heap) (l1 l2 : Addr) : Heap := (zhA t1 h l1).push (itObj t2 l2)
abbrev zhC (t1 t2 : Bool) (h : Heap) (l1 l2 : Addr) : Heap := (zhB t1 t2 h l1 l2).push { cls := .type "tuple", data := .seq #[.ref h.objs.size, .ref (zhA t1 h l1).objs.size] }
abbrev zhD (t1 t2 : Bool) (h : Heap) (l1 l2 : Addr) : Heap := (zhC t1 t2 h l1 l2).push { cls := .type "tuple", data := .seq #[.none, .none] }
abbrev zhE (t1 t2 : Bool) (h : Heap) (l1 l2 : Addr) : Heap := (zhD t1 t2 h l1 l2).push { cls := .type "zip", data := .fields #[.none, .bool false, .bool false, .ref (zhB t1 t2 h l1 l2).objs.size, .ref (zhC t1 t2 h l1 l2).objs.size] }
theorem meets_zip_any {t1 t2 : Bool} (l1 l2 : Addr) (xs ys : Array Value) :
    Meets (Builtin.«zip.__new__» ⟨[.type "zip", .ref l1, .ref l2], []⟩) (fun _ R s => SqAtH t1 s.heap l1 xs ∧ SqAtH t2 s.heap l2 ys ∧
      R (.ok (.ret (.ref (zhD t1 t2 s.heap l1 l2).objs.size))) { s with heap := zhE t1 t2 s.heap l1 l2 }) :=
  .of_wp fun prog w A R s h => by
    obtain ⟨hp, g, d, tk, os⟩ := s
    obtain ⟨a1, a2, h⟩ := h
    have hsub := sub_zip
    have b1 : SqAtH t1 (Shared.heap ⟨hp, g, d, tk, os⟩) l1 xs := a1
    have b2 : SqAtH t2 (Shared.heap ⟨hp.push (itObj t1 l1), g, d, tk, os⟩) l2 ys := a2.at fun o e => Heap.get?_push_of_some _ e
    wp_walk using pyIter_seq b1, pyIter_seq b2
    exact ⟨_, rfl, h⟩
section
variable {prog : Program} {w : World} {A : Around} {R : Result → Shared → Prop} {t1 t2 : Bool} {K : Type} [DecidableEq K] {knd : KeyKind prog w K}
structure ZipSt (t1 t2 : Bool) (z TI TO i1 i2 l1 l2 : Addr) (xs ys : Array Value) (i : Nat) (h : Heap) : Prop where
  ti : IsPair h TI (.ref i1) (.ref i2)
  a1 : ItAt t1 h i1 l1 i
  a2 : ItAt t2 h i2 l2 i
  s1 : SqAtH t1 h l1 xs
  s2 : SqAtH t2 h l2 ys
  st : (IsZip h z TI TO .none ∧ ∃ a b, IsPair h TO a b) ∨ ∃ T0 b o, IsZipB h z TI TO T0 b ∧ h.get? T0 = some o ∧ o.cls = .type "tuple"
theorem ZipSt.typeIs {z TI TO i1 i2 l1 l2 : Addr} {xs ys : Array Value} {i : Nat} {s : Shared} (st : ZipSt t1 t2 z TI TO i1 i2 l1 l2 xs ys i s.heap) : s.TypeIs (.ref z) "zip" := by
  rcases st.st with ⟨h, _⟩ | ⟨_, _, _, h, _⟩ <;> exact ⟨_, h, rfl⟩
theorem zip_draw {E : Value → Shared → Prop} {z TI TO i1 i2 l1 l2 : Addr} {xs ys : Array Value} {i : Nat} {s : Shared} {x y : Value} {Q : Option Value → Shared → Prop} (D : ZipApart z TI TO i1 i2 l1 l2) (st : ZipSt t1 t2 z TI TO i1 i2 l1 l2 xs ys i s.heap) (hx : xs[i]? = some x) (hy : ys[i]? = some y)
    (k : ∀ h', ZipSt t1 t2 z TI TO i1 i2 l1 l2 xs ys (i + 1) h' → IsPair h' s.heap.objs.size x y → (∀ c o, c ≠ z → c ≠ TO → c ≠ i1 → c ≠ i2 → s.heap.get? c = some o → h'.get? c = some o) → Q (some (.ref s.heap.objs.size)) { s with heap := h' }) :
    wpAny (model prog w) A (pyNext (.ref z)) Q E s := by
  have go : ∀ {h' : Heap} {T0 : Addr} {b : Bool} {o : Obj}, IsZipB h' z TI TO T0 b → h'.get? T0 = some o → o.cls = .type "tuple" → ItAt t1 h' i1 l1 (i + 1) → ItAt t2 h' i2 l2 (i + 1) → (∀ c o, c ≠ z → c ≠ TO → c ≠ i1 → c ≠ i2 → s.heap.get? c = some o → h'.get? c = some o) → ZipSt t1 t2 z TI TO i1 i2 l1 l2 xs ys (i + 1) h' := fun hz h0 hc b1 b2 kp =>
    ⟨kp _ _ D.TIz D.TITO D.TIi1 D.TIi2 st.ti, b1, b2, st.s1.at fun o e => kp _ o D.l1z D.l1TO D.l1i1 D.l1i2 e, st.s2.at fun o e => kp _ o D.l2z D.l2TO D.l2i1 D.l2i2 e, .inr ⟨_, _, _, hz, h0, hc⟩⟩
  have hT := st.typeIs
  unfold pyNext
  refine wpAny_bind (wpAny_attempt (wpAny_callSpecial?_slot (name := Str.ofString "__next__") hT F.slot_zip_next (wpAny_call_entry F.slot_zip_next hT F.entry_zip_next ?_ (F.args_zip_next_1 _))))
  rcases st.st with ⟨hz, a, b, ho⟩ | ⟨T0, b, o, hz, h0, hc⟩
  · exact zipA_item D hz st.ti ho st.a1 st.a2 st.s1 st.s2 hx hy fun h' z' b1 b2 pr _ kp => wpAny_pure (k h' (go z' pr rfl b1 b2 kp) pr kp)
  · refine zipB_item D hz st.ti h0 st.a1 st.a2 st.s1 st.s2 hx hy fun h' z' b1 b2 pr _ kp => wpAny_pure (k h' ?_ pr fun c o c1 _ c3 c4 e => kp c o c1 c3 c4 e)
    have n0 : ∀ {c : Addr} {oc : Obj}, s.heap.get? c = some oc → oc.cls ≠ .type "tuple" → T0 ≠ c := fun e nc q => by subst q; rw [h0] at e; cases e; exact nc hc
    have nz : T0 ≠ z := n0 hz (show Value.type "zip" ≠ Value.type "tuple" by decide)
    have n1 : T0 ≠ i1 := by
      cases t1 with
      | true => obtain ⟨oi, e, ci, _⟩ := (show s.heap.IsTupleIter i1 l1 i from st.a1); exact n0 e (by rw [ci]; decide)
      | false => obtain ⟨oi, e, ci, _⟩ := (show s.heap.IsListIter i1 l1 i from st.a1); exact n0 e (by rw [ci]; decide)
    have n2 : T0 ≠ i2 := by
      cases t2 with
      | true => obtain ⟨oi, e, ci, _⟩ := (show s.heap.IsTupleIter i2 l2 i from st.a2); exact n0 e (by rw [ci]; decide)
      | false => obtain ⟨oi, e, ci, _⟩ := (show s.heap.IsListIter i2 l2 i from st.a2); exact n0 e (by rw [ci]; decide)
    exact go z' (kp _ _ nz n1 n2 h0) hc b1 b2 fun c o c1 _ c3 c4 e => kp c o c1 c3 c4 e
theorem zip_over {E : Value → Shared → Prop} {z TI TO i1 i2 l1 l2 : Addr} {xs ys : Array Value} {i : Nat} {s : Shared} {Q : Option Value → Shared → Prop} (hh : A.handled = none) (D : ZipApart z TI TO i1 i2 l1 l2) (st : ZipSt t1 t2 z TI TO i1 i2 l1 l2 xs ys i s.heap) (hx : xs[i]? = none)
    (k : ∀ h', (∀ c o, c ≠ z → c ≠ i1 → c ≠ i2 → s.heap.get? c = some o → h'.get? c = some o) → Q none { s with heap := h' }) : wpAny (model prog w) A (pyNext (.ref z)) Q E s := by
  have hT := st.typeIs
  have fin : ∀ (h' : Heap) (e : Addr), (∀ c o, c ≠ z → c ≠ i1 → c ≠ i2 → s.heap.get? c = some o → h'.get? c = some o) → (∃ o, h'.get? e = some o ∧ o.cls = .type "StopIteration") →
      wpAny (model prog w) A (isInstance (.ref e) (.type "StopIteration")) (fun a s' => a = true ∧ Q none s') E { s with heap := h' } := fun h' e kp ⟨o, ho, hc⟩ => wpAny_isInstance (T := "StopIteration") (b := true) ⟨o, ho, hc⟩ isSubtype_stop ⟨rfl, k h' kp⟩
  unfold pyNext
  refine wpAny_bind (wpAny_attempt (wpAny_callSpecial?_slot (name := Str.ofString "__next__") hT F.slot_zip_next (wpAny_call_entry F.slot_zip_next hT F.entry_zip_next ?_ (F.args_zip_next_1 _))))
  rcases st.st with ⟨hz, a, b, ho⟩ | ⟨T0, b, o, hz, h0, hc⟩
  · refine zipA_end (ys := ys) (k2 := 0) hh D hz st.ti st.a1 st.s1 hx fun h' e kp he => wpAny_bind (wpAny_mono (fin h' e kp he) (fun a s' q => ?_) fun _ _ z => z)
    obtain ⟨rfl, q⟩ := q
    exact wpAny_pure q
  · refine zipB_end hh D hz st.ti h0 st.a1 st.a2 st.s1 st.s2 hx fun h' e kp he => wpAny_bind (wpAny_mono (fin h' e kp he) (fun a s' q => ?_) fun _ _ z => z)
    obtain ⟨rfl, q⟩ := q
    exact wpAny_pure q
theorem ZipSt.keep {z TI TO i1 i2 l1 l2 d : Addr} {xs ys : Array Value} {i : Nat} {h h' : Heap} (st : ZipSt t1 t2 z TI TO i1 i2 l1 l2 xs ys i h) (hd : d ≠ z ∧ d ≠ TI ∧ d ≠ TO ∧ d ≠ i1 ∧ d ≠ i2 ∧ d ≠ l1 ∧ d ≠ l2) (nd : ∀ o, h.get? d = some o → o.cls ≠ .type "tuple") (kp : ∀ c o, c ≠ d → h.get? c = some o → h'.get? c = some o) : ZipSt t1 t2 z TI TO i1 i2 l1 l2 xs ys i h' := by
  obtain ⟨d1, d2, d3, d4, d5, d6, d7⟩ := hd
  refine ⟨kp _ _ d2.symm st.ti, st.a1.at fun o e => kp _ o d4.symm e, st.a2.at fun o e => kp _ o d5.symm e, st.s1.at fun o e => kp _ o d6.symm e, st.s2.at fun o e => kp _ o d7.symm e, ?_⟩
  rcases st.st with ⟨hz, a, b, ho⟩ | ⟨T0, b, o, hz, h0, hc⟩
  · exact .inl ⟨kp _ _ d1.symm hz, a, b, kp _ _ d3.symm ho⟩
  · exact .inr ⟨T0, b, o, kp _ _ d1.symm hz, kp _ _ (fun q => nd o (by rw [← q]; exact h0) hc) h0, hc⟩
theorem upd_zip {d z TI TO i1 i2 l1 l2 : Addr} {xs ys : Array Value} {ks : List K} {res : Value} (hh : A.handled = none) (D : ZipApart z TI TO i1 i2 l1 l2) (hd : d ≠ z ∧ d ≠ TI ∧ d ≠ TO ∧ d ≠ i1 ∧ d ≠ i2 ∧ d ≠ l1 ∧ d ≠ l2) (hl : xs.size = ys.size) (hk : ks.length = xs.size)
    (his : ∀ (j : Nat) k x, ks[j]? = some k → xs[j]? = some x → knd.is k x = true) (hz : xs.size ≤ 1000) :
    ∀ (m i : Nat) (s : Shared) (kvs : List (K × Value)), xs.size - i = m → i ≤ xs.size → ZipSt t1 t2 z TI TO i1 i2 l1 l2 xs ys i s.heap → s.heap.DictOf knd d kvs → kvs.length ≤ i →
      (∀ h' tk, h'.DictOf knd d (merged kvs ((ks.zip ys.toList).drop i)) → (∀ c o, c ≠ d → c ≠ z → c ≠ TO → c ≠ i1 → c ≠ i2 → s.heap.get? c = some o → h'.get? c = some o) → R (.ok (.ret res)) { s with heap := h', toks := tk }) →
      codeAny (model prog w) A (.builtin "dict.update.loop" ⟨[.ref d, .ref z, rawInt i, res], []⟩) R s := by
  intro m
  induction m with
  | zero =>
    intro i s kvs hm hi st dd hlen hR
    have ei : i = xs.size := by omega
    refine codeAny_builtin F.entry_dict_update_loop ?_
    rw [Around.under_plainId F.plain_dict_update_loop _]
    show wpAny _ A.in1 (pyNext (.ref z) >>= _) _ _ s
    have hx : xs[i]? = none := by rw [ei]; exact Array.getElem?_eq_none (Nat.le_refl _)
    refine wpAny_bind (zip_over (A := A.in1) hh D st hx fun h' kp => ?_)
    have e0 : (ks.zip ys.toList).drop i = [] := List.drop_of_length_le (by rw [List.length_zip]; omega)
    rw [e0] at hR
    refine wpAny_bind (wpAny_pure (wpAny_pure (hR h' s.toks ?_ fun c o _ c2 _ c4 c5 e => kp c o c2 c4 c5 e)))
    obtain ⟨o, es, ep, ho, r⟩ := dd
    exact ⟨o, es, ep, kp d o hd.1 hd.2.2.2.1 hd.2.2.2.2.1 ho, r⟩
  | succ m ih =>
    intro i s kvs hm hi st dd hlen hR
    refine codeAny_builtin F.entry_dict_update_loop ?_
    rw [Around.under_plainId F.plain_dict_update_loop _]
    show wpAny _ A.in1 (pyNext (.ref z) >>= _) _ _ s
    have il : i < xs.size := by omega
    have hx : xs[i]? = some xs[i] := Array.getElem?_eq_getElem il
    have hy : ys[i]? = some (ys[i]'(by omega)) := Array.getElem?_eq_getElem (by omega)
    refine wpAny_bind (zip_draw D st hx hy fun h' st' pr kp => ?_)
    refine wpAny_bind (wpAny_holding (wpAny_bind (wpAny_tryCatch ?_)))
    unfold Builtin.Dict.pairItems
    refine wpAny_bind (wpAny_typeOf (T := "tuple") ⟨_, pr, rfl⟩ ?_)
    rw [if_pos (by decide)]
    refine wpAny_bind (wpAny_seqItems pr rfl (wpAny_pure ?_))
    obtain ⟨o, es, ep, ho, r⟩ := dd
    have dd' : h'.DictOf knd d kvs := ⟨o, es, ep, kp d o hd.1 hd.2.2.1 hd.2.2.2.1 hd.2.2.2.2.1 ho, r⟩
    have kl : i < ks.length := by omega
    have hki : ks[i]? = some ks[i] := List.getElem?_eq_getElem kl
    refine wpAny_holding (wpAny_dictSet_pairs (knd := knd) (his i _ _ hki hx) dd' (fun h2 d2 s2 => ?_) (hsz := Nat.le_trans hlen (Nat.le_trans hi (Nat.le_trans hz (by decide)))))
    have e1 : (i : Int) + 1 = ((i + 1 : Nat) : Int) := by omega
    refine wpAny_pure ⟨plainId_quiet F.plain_dict_update_loop _, ?_⟩
    rw [e1]
    have el : (ks.zip ys.toList).drop i = (ks[i], ys[i]'(by omega)) :: (ks.zip ys.toList).drop (i + 1) := by
      have hz2 : i < (ks.zip ys.toList).length := by
        have e : ys.toList.length = ys.size := Array.length_toList
        rw [List.length_zip]; omega
      rw [List.drop_eq_getElem_cons hz2, List.getElem_zip]
      rfl
    rw [el] at hR
    have nd : ∀ o, h'.get? d = some o → o.cls ≠ .type "tuple" := fun o e => by
      obtain ⟨o', _, _, e', x, _⟩ := dd'
      rw [e] at e'; cases e'
      rw [x.1]; decide
    refine ih (i + 1) _ (stored kvs ks[i] (ys[i]'(by omega))) (by omega) (by omega) (st'.keep hd nd fun c o n e => s2.extBut c o n e) d2 ?_ fun h3 tk3 d3 kp3 => ?_
    · have := merged_length_le kvs [(ks[i], ys[i]'(by omega))]
      exact Nat.le_trans this (Nat.add_le_add_right hlen 1)
    · exact hR h3 tk3 d3 fun c o c1 c2 c3 c4 c5 e => kp3 c o c1 c2 c3 c4 c5 (s2.extBut c o c1 (kp c o c2 c3 c4 c5 e))
end
section
variable {prog : Program} {w : World} {A : Around} {E : Value → Shared → Prop} {s : Shared} {t1 t2 : Bool} {K : Type} [DecidableEq K] {knd : KeyKind prog w K}
theorem dict_zip {z TI TO i1 i2 l1 l2 : Addr} {xs ys : Array Value} {ks : List K} {Q : Value → Shared → Prop} {a b : Value} (hh : A.handled = none) (D : ZipApart z TI TO i1 i2 l1 l2) (hz : IsZip s.heap z TI TO .none) (hTO : IsPair s.heap TO a b) (ti : IsPair s.heap TI (.ref i1) (.ref i2))
    (a1 : ItAt t1 s.heap i1 l1 0) (a2 : ItAt t2 s.heap i2 l2 0) (s1 : SqAtH t1 s.heap l1 xs) (s2 : SqAtH t2 s.heap l2 ys) (hl : xs.size = ys.size) (hk : ks.length = xs.size)
    (his : ∀ (j : Nat) k x, ks[j]? = some k → xs[j]? = some x → knd.is k x = true) (h1000 : xs.size ≤ 1000)
    (hQ : ∀ h' tk, h'.DictOf knd s.heap.objs.size (merged [] (ks.zip ys.toList)) → (∀ c o, c ≠ z → c ≠ TO → c ≠ i1 → c ≠ i2 → s.heap.get? c = some o → h'.get? c = some o) → Q (.ref s.heap.objs.size) { s with heap := h', toks := tk }) :
    wpAny (model prog w) A (call (.type "dict") [.ref z]) Q E s := by
  refine callType_codes (Q₁ := fun obj s₁ => obj = .ref s.heap.objs.size ∧ s₁ = { s with heap := s.heap.push { cls := .type "dict", data := .dict #[] } }) F.kt_called_dict (F.kt_typeCall_dict_1 _) F.entry_dict_init (kt_code_dict_new _ ⟨rfl, rfl⟩) ?_
  rintro obj s₁ ⟨rfl, rfl⟩
  have dn : (s.heap.push { cls := .type "dict", data := .dict #[] }).DictOf knd s.heap.objs.size [] := Heap.DictOf.new s.heap
  have up : ∀ c o, s.heap.get? c = some o → (s.heap.push { cls := .type "dict", data := .dict #[] }).get? c = some o := fun c o e => Heap.get?_push_of_some _ e
  refine ⟨dn.typeIs, F.args_dict_init_2 _ _, ?_⟩
  refine wpAny_bind (m := Builtin.Dict.selfAndRest _ _) (wpAny_bind (wpAny_notOrdered_dict dn.typeIs (wpAny_pure ?_)))
  show wpAny _ _ (Builtin.Dict.updateFrom "dict.__init__" s.heap.objs.size (.ref z) [] .none) _ _ _
  refine wpAny_bind (wpAny_typeOf (T := "zip") ⟨_, up _ _ hz, rfl⟩ ?_)
  rw [if_pos (by decide)]
  refine wpAny_bind (keys_zip (up _ _ hz) hh fun h1 tk1 k1 => ?_)
  have k2 : ∀ c o, s.heap.get? c = some o → h1.get? c = some o := fun c o e => k1 c o (up c o e)
  rw [if_pos (show (none : Option Value).isNone = true from rfl)]
  refine wpAny_bind (wpAny_rule (wpAny_bind (wpAny_pyIter_zip (k2 _ _ hz) (wpAny_pure ⟨plainId_quiet F.plain_dict_update_loop _, ?_⟩))))
  have st : ZipSt t1 t2 z TI TO i1 i2 l1 l2 xs ys 0 h1 := ⟨k2 _ _ ti, a1.at fun o e => k2 _ o e, a2.at fun o e => k2 _ o e, s1.at fun o e => k2 _ o e, s2.at fun o e => k2 _ o e, .inl ⟨k2 _ _ hz, a, b, k2 _ _ hTO⟩⟩
  have lt : ∀ {c o}, s.heap.get? c = some o → s.heap.objs.size ≠ c := fun e => Nat.ne_of_gt (Heap.lt_size e)
  have dn1 : h1.DictOf knd s.heap.objs.size [] := by
    obtain ⟨o, es, ep, ho, r⟩ := dn
    exact ⟨o, es, ep, k1 _ _ ho, r⟩
  refine upd_zip (A := A.in1) (knd := knd) hh D ⟨lt hz, lt ti, lt hTO, Nat.ne_of_gt a1.lt, Nat.ne_of_gt a2.lt, Nat.ne_of_gt s1.lt, Nat.ne_of_gt s2.lt⟩ hl hk his h1000 xs.size 0 _ [] rfl (Nat.zero_le _) st dn1 (Nat.zero_le _) fun h' tk d' kp => ⟨rfl, ?_⟩
  exact hQ h' tk d' fun c o c2 c3 c4 c5 e => kp c o (Ne.symm (lt e)) c2 c3 c4 c5 (k2 _ _ e)
theorem call_zip_any {l1 l2 : Addr} {xs ys : Array Value} {Q : Value → Shared → Prop} (a1 : SqAtH t1 s.heap l1 xs) (a2 : SqAtH t2 s.heap l2 ys)
    (h : ∀ h' z TI TO i1 i2, s.heap.objs.size ≤ TI → ZipApart z TI TO i1 i2 l1 l2 → s.heap.objs.size ≤ z → s.heap.objs.size ≤ TO → s.heap.objs.size ≤ i1 → s.heap.objs.size ≤ i2 → IsZip h' z TI TO .none → IsPair h' TO .none .none → IsPair h' TI (.ref i1) (.ref i2) → ItAt t1 h' i1 l1 0 → ItAt t2 h' i2 l2 0 →
      (∀ c o, s.heap.get? c = some o → h'.get? c = some o) → Q (.ref z) { s with heap := h' }) :
    wpAny (model prog w) A (call (.type "zip") [.ref l1, .ref l2]) Q E s := by
  refine callType_new F.called_zip (by decide) (F.typeCall_zip_2 _ _) (F.newCall_zip_2 _ _) (fun obj => F.args_object_init_3 obj _ _) F.entry_zip_new (meets_zip_any (t1 := t1) (t2 := t2) l1 l2 xs ys) ⟨a1, a2, ?_⟩
  have zA : (zhA t1 s.heap l1).objs.size = s.heap.objs.size + 1 := Heap.size_push ..
  have zB : (zhB t1 t2 s.heap l1 l2).objs.size = s.heap.objs.size + 2 := (Heap.size_push ..).trans (by rw [zA])
  have zC : (zhC t1 t2 s.heap l1 l2).objs.size = s.heap.objs.size + 3 := (Heap.size_push ..).trans (by rw [zB])
  have zD : (zhD t1 t2 s.heap l1 l2).objs.size = s.heap.objs.size + 4 := (Heap.size_push ..).trans (by rw [zC])
  have q1 := a1.lt
  have q2 := a2.lt
  have pz : (zhE t1 t2 s.heap l1 l2).get? (zhD t1 t2 s.heap l1 l2).objs.size = some _ := Heap.get?_push_size _ rfl
  have po : (zhE t1 t2 s.heap l1 l2).get? (zhC t1 t2 s.heap l1 l2).objs.size = some _ := Heap.get?_push_of_some _ (Heap.get?_push_size _ rfl)
  have pi : (zhE t1 t2 s.heap l1 l2).get? (zhB t1 t2 s.heap l1 l2).objs.size = some _ := Heap.get?_push_of_some _ (Heap.get?_push_of_some _ (Heap.get?_push_size _ rfl))
  have b2 : ItAt t2 (zhE t1 t2 s.heap l1 l2) (zhA t1 s.heap l1).objs.size l2 0 := (itAt_new (zhA t1 s.heap l1)).at fun o e => Heap.get?_push_of_some _ (Heap.get?_push_of_some _ (Heap.get?_push_of_some _ e))
  have b1 : ItAt t1 (zhE t1 t2 s.heap l1 l2) s.heap.objs.size l1 0 := (itAt_new s.heap).at fun o e => Heap.get?_push_of_some _ (Heap.get?_push_of_some _ (Heap.get?_push_of_some _ (Heap.get?_push_of_some _ e)))
  refine ⟨⟨_, pz, rfl⟩, h _ (zhD t1 t2 s.heap l1 l2).objs.size (zhB t1 t2 s.heap l1 l2).objs.size (zhC t1 t2 s.heap l1 l2).objs.size s.heap.objs.size (zhA t1 s.heap l1).objs.size (by omega) ?_ (by omega) (by omega) (by omega) (by omega) pz po pi b1 b2 fun c o e =>
    Heap.get?_push_of_some _ (Heap.get?_push_of_some _ (Heap.get?_push_of_some _ (Heap.get?_push_of_some _ (Heap.get?_push_of_some _ e))))⟩
  rw [zD, zB, zC, zA]
  exact PyProof.Rows.zipApart_new q1 q2
end
end PySem
namespace L2
open PySem PySem.Spec PyProof.Rows
def tDictZip (K : PySem.W.Frag) (t : TA) : TE := fun σ H Q => t σ H fun vs H1 => ∃ (p q : Addr) (ys : List Str) (zs : List V), vs = [.ref p, .ref q] ∧ SqT K H1 p (ys.map V.str) ∧ (SqL K H1 q zs ∨ SqT K H1 q zs) ∧ ys.length = zs.length ∧ ys.length ≤ 1000 ∧
  ∀ d, H1 d = none → Q (.ref d) (upd H1 d (.dK (mergeK [] ((ys.map Sum.inr).zip zs))))
section
variable {X : Cx}
theorem kv_zip : ∀ {ks : List Key} {zs : List V} {us : List Value}, Vals zs us → KV (ks.zip zs) (ks.zip us)
  | [], _, _, _ => by simp only [List.zip_nil_left]; exact .nil
  | k :: r, [], _, h => by cases h; simp only [List.zip_nil_right]; exact .nil
  | k :: r, z :: zs, _, h => by
    cases h with
    | cons a b => exact .cons ⟨rfl, a⟩ (kv_zip b)
theorem pe_dictZip {a b : Expr} {ta : TA} {p1 p2 pos pos2 : Pos} (hg : Gl X "dict") (hg2 : Gl X "zip") (hm : X.mg "dict" = none) (hm2 : X.mg "zip" = none) (hc : X.calm = true) (ha : PA X [a, b] ta)
    (hs2 : starEach [a, b] X.env = [(false, eval a X.env), (false, eval b X.env)] := by rfl) (hs3 : starEach [b] X.env = [(false, eval b X.env)] := by rfl) (hs : starEach [.Call (.Name "zip" p2) [a, b] [] pos2] X.env = [(false, eval (.Call (.Name "zip" p2) [a, b] [] pos2) X.env)] := by rfl) :
    PE X (.Call (.Name "dict" p1) [.Call (.Name "zip" p2) [a, b] [] pos2] [] pos) (tDictZip X.K ta) := by
  intro pins s σ H Q I h
  refine wpAny_Call_Name_kw (ld_blt I hg hm boot_dict ?_)
  refine PyProof.Rows.callWith_type1 ?_ hs rfl
  rw [hs]
  show wpAny _ _ (spliced ((false, eval (.Call (.Name "zip" p2) [a, b] [] pos2) X.env) :: backTo pos [])) _ _ s
  refine Calls.spliced_cons ?_
  refine wpAny_Call_Name_kw (ld_blt I hg2 hm2 boot_zip ?_)
  refine PyProof.Rows.callWith_type1 (thn (ha pos2 pins s σ H _ I h) fun us s1 ⟨vs, H1, I1, r1, q1⟩ => ?_) (by rw [hs2, hs3]) (by rw [hs3]; rfl)
  obtain ⟨p, q, ys, zs, rfl, hp, hq, hl, h1000, k⟩ := q1
  obtain ⟨u, u', rfl, rp, rq⟩ := vals2 r1
  cases rp
  cases rq
  obtain ⟨its1, rv1, pl1, z1⟩ := I1.tuple hp
  have l1 := rv1.length
  rw [List.length_map] at l1
  have fin : ∀ (t2 : Bool) (its2 : List Value), SqAtH t2 s1.heap q its2.toArray → Vals zs its2 → wpAny (model X.prog X.w) X.A (call (.type "zip") [.ref p, .ref q]) (fun v s' => wpAny (model X.prog X.w) X.A (spliced (backTo pos [])) (fun vs s2 => wpAny (model X.prog X.w) X.A (call (.type "dict") (v :: vs)) (EP X pins σ Q) X.xe s2) X.xe s') X.xe s1 := fun t2 its2 a2 rv2 => by
    have l2 := rv2.length
    refine call_zip_any (t1 := true) (t2 := t2) (xs := its1.toArray) (ys := its2.toArray) (show s1.heap.IsTuple p its1.toArray from pl1) a2 fun h' z TI TO i1 i2 _ D gz gO g1 g2 hz hO hI b1 b2 kp => Calls.spliced_nil ?_
    have a1' : SqAtH true h' p its1.toArray := (show SqAtH true s1.heap p its1.toArray from pl1).at fun o e => kp _ o e
    refine dict_zip (t1 := true) (t2 := t2) (K := Key) (knd := mixKind X.prog X.w) (ks := ys.map Sum.inr) (I1.ok.hd hc) D hz hO hI b1 b2 a1' (a2.at fun o e => kp _ o e) (by simp; omega) (by simp; omega) (fun j k x hk hx => ?_) (by simp; omega) fun h2 tk d2 kp2 => ?_
    · rw [List.getElem?_map] at hk
      cases ey : ys[j]? with
      | none => rw [ey] at hk; cases hk
      | some y =>
        rw [ey] at hk
        have hk' : Sum.inr y = k := Option.some.inj hk
        subst hk'
        obtain ⟨u, hu, ru⟩ := rv1.get (i := j) (x := .str y) (by rw [List.getElem?_map, ey]; rfl)
        have hx' : its1[j]? = some x := by simpa using hx
        rw [hu] at hx'; cases hx'
        exact kV_is (k := Sum.inr y) ru
    · have k0 : ∀ c o, s1.heap.get? c = some o → h2.get? c = some o := fun c o e => by
        have lt := Heap.lt_size e
        exact kp2 c o (Nat.ne_of_lt (Nat.lt_of_lt_of_le lt gz)) (Nat.ne_of_lt (Nat.lt_of_lt_of_le lt gO)) (Nat.ne_of_lt (Nat.lt_of_lt_of_le lt g1)) (Nat.ne_of_lt (Nat.lt_of_lt_of_le lt g2)) (kp c o e)
      have big := I1.big
      have lt2 : s1.heap.objs.size ≤ h'.objs.size := Nat.le_trans gz (Nat.le_of_lt (Heap.lt_size hz))
      have kvz : KV (mergeK [] ((ys.map Sum.inr).zip zs)) (merged [] ((ys.map Sum.inr).zip its2)) := KV.merge (kv_zip rv2) .nil
      have hlen : (mergeK [] ((ys.map Sum.inr).zip zs)).length ≤ sizeLine := Nat.le_trans (length_mergeK _ _) (by simp only [List.length_nil, List.length_zip, List.length_map]; exact Nat.le_trans (by omega) (show 1000 ≤ sizeLine by decide))
      have hn : H1 h'.objs.size = none := I1.hok.fresh lt2
      refine ⟨.ref h'.objs.size, _, I1.laid (t' := tk) (o := .dK (mergeK [] ((ys.map Sum.inr).zip zs))) k0 lt2 (dk_new hlen (beq_eq_false_iff_ne.mpr (Nat.ne_of_gt (Nat.lt_of_lt_of_le big lt2))) kvz (by simpa using d2)), rfl, k _ hn⟩
  rcases hq with hq | hq
  · obtain ⟨its2, rv2, pl2, z2⟩ := I1.list hq
    exact fin false its2 pl2.isList rv2
  · obtain ⟨its2, rv2, pl2, z2⟩ := I1.tuple hq
    exact fin true its2 pl2 rv2
theorem qe_dictZip {a b : Expr} {ta : TA} {p1 p2 pos pos2 : Pos} (hg : Gl X "dict") (hg2 : Gl X "zip") (hm : X.mg "dict" = none) (hm2 : X.mg "zip" = none) (hc : X.calm = true) (ha : QA X [a, b] ta)
    (hs2 : starEach [a, b] X.env = [(false, eval a X.env), (false, eval b X.env)] := by rfl) (hs3 : starEach [b] X.env = [(false, eval b X.env)] := by rfl) (hs : starEach [.Call (.Name "zip" p2) [a, b] [] pos2] X.env = [(false, eval (.Call (.Name "zip" p2) [a, b] [] pos2) X.env)] := by rfl) :
    QE X (.Call (.Name "dict" p1) [.Call (.Name "zip" p2) [a, b] [] pos2] [] pos) (tDictZip X.K ta) := ⟨pe_dictZip hg hg2 hm hm2 hc ha.up hs2 hs3 hs⟩
end
end L2
end
section
set_option Elab.async false
set_option linter.all false
set_option maxRecDepth 100000
set_option maxHeartbeats 4000000
namespace L2
open PySem PySem.Spec PyProof.Rows
def clsAt (K : PySem.W.Frag) (x : Str) : Addr := match PySem.W.nsIn K mainGlobals x with
  | some (some (.ref C)) => C
  | _ => 0
theorem clsAt_of {K : PySem.W.Frag} {x : Str} {C : Addr} (h : PySem.W.nsIn K mainGlobals x = some (some (.ref C))) : clsAt K x = C := by unfold clsAt; rw [h]
def inCls (s : Stmt) (i : Nat) : Stmt := match s with
  | .ClassDef _ _ _ b _ _ _ _ _ _ _ => b.getD i (.Pass ⟨0, 0, 0, 0⟩)
  | _ => .Pass ⟨0, 0, 0, 0⟩
structure MethOk (P : Program) (w : World) (K : PySem.W.Frag) (mg : Str → Option Value) (base : Heap) (C : Addr) (m : Str) (ps : List Str) (k : Nat) (sp : Sp) : Prop where
  ex : ∃ (f : Addr) (fd : FuncData), Meth K C m f ∧ Binds K fd ps [] ∧ FnOk P w K mg base CX0 k f fd ps sp
structure MakeOk (P : Program) (w : World) (K : PySem.W.Frag) (mg : Str → Option Value) (base : Heap) (x : Str) (C : Addr) (ps : List Str) (k : Nat) (sp : Sp) : Prop where
  ex : ∃ (f : Addr) (fd : FuncData), mg x = some (.ref C) ∧ Mk K C f ∧ Binds K fd ps [] ∧ FnOk P w K mg base CX0 k f fd ps sp
section
variable {X : Cx} {C : Addr} {m x : Str} {ps : List Str} {k : Nat} {sp : Sp} {e o : Expr} {es : List Expr} {ta : TE} {t : TA} {p pos apos : Pos}
theorem qe_meth {pl : Sem Bool} (c : Cls X.K C) (M : MethOk X.prog X.w X.K X.mg X.base C m ps k sp) (hr : Room k X.A) (he : QE X o ta) (ha : QA X (e :: es) t)
    (hst : starEach (e :: es) X.env = (false, eval e X.env) :: starEach es X.env := by rfl) (hpl : (backTo pos (starEach es X.env)).any (·.1) = false := by rfl)
    (ht : eval (.Call (.Attribute o m apos) (e :: es) [] pos) X.env = (do
      let ov ← eval o X.env
      standAt apos.atName
      let (f, first) ← holding [ov] (getMethod ov m pl)
      callWith pos f first (backTo pos (starEach (e :: es) X.env)) (backToKw pos (keywordEach [] X.env))) := by rfl) :
    QE X (.Call (.Attribute o m apos) (e :: es) [] pos) (tMeth C m sp [] E0 ta t) := by
  obtain ⟨f, fd, hm, hb, F⟩ := M.ex
  exact ⟨pe_meth (pl := pl) he.up c hm F hr hb .nil pass0 ha.up hst hpl ht⟩
theorem qe_meth0 {pl : Sem Bool} (c : Cls X.K C) (M : MethOk X.prog X.w X.K X.mg X.base C m ps k sp) (hr : Room k X.A) (he : QE X o ta)
    (ht : eval (.Call (.Attribute o m apos) [] [] pos) X.env = (do
      let ov ← eval o X.env
      standAt apos.atName
      let (f, first) ← holding [ov] (getMethod ov m pl)
      callWith pos f first (backTo pos (starEach [] X.env)) (backToKw pos (keywordEach [] X.env))) := by rfl) :
    QE X (.Call (.Attribute o m apos) [] [] pos) (tMeth C m sp [] E0 ta tNil) := by
  obtain ⟨f, fd, hm, hb, F⟩ := M.ex
  exact ⟨pe_meth0 (pl := pl) he.up c hm F hr hb .nil pass0 ht⟩
theorem qe_make (M : MakeOk X.prog X.w X.K X.mg X.base x C ps k sp) (hr : Room (k + 1) X.A) (hg : Gl X x) (ha : QA X (e :: es) t)
    (hdb : (x == ("__debug__" : Str)) = false := by decide) (he : starEach (e :: es) X.env = (false, eval e X.env) :: starEach es X.env := by rfl) (hpl : (backTo pos (starEach es X.env)).any (·.1) = false := by rfl) :
    QE X (.Call (.Name x p) (e :: es) [] pos) (tMake C sp [] E0 t) := by
  obtain ⟨f, fd, hm, hM, hb, F⟩ := M.ex
  exact ⟨pe_make hM F hr hg hm hb .nil pass0 ha.up hdb he hpl⟩
theorem qe_fld {f : Str} (he : QE X e ta) (hb : attributeBase e f X.env (eval e X.env) = eval e X.env) : QE X (.Attribute e f pos) (tFld X.K ta f) := ⟨pe_fld he.up hb⟩
theorem qs_fld {f : Str} {value : Expr} {tv : TE} {pos' : Pos} (ha : QE X o ta) (hv : QE X value tv) (hs : swapsWith value (some (.Attribute o f pos')) pos.line X.env = pure false) : QS X (.Assign [.Attribute o f pos'] value pos) (sFld X.K ta tv f) := ⟨ps_fld ha.up hv.up hs⟩
theorem qs_aug {i : Nat} {y : Str} {te : TE} {op : Operator} {ti : TIp} {pos' : Pos} (hN : X.N.Nodup) (hi : X.N[i]? = some y) (hx : Loc X.env.scope y) (he : QE X e te) (ho : PIp X op ti) (hf : X.fn y = true ∨ X.env.scope.names.lookup y = some .local := by first | exact .inl rfl | exact .inr rfl | assumption) :
    QS X (.AugAssign (.Name y pos') op e pos) (tAug i te ti) := ⟨ps_aug hN hi hx he.up ho hf⟩
theorem qe_dget {d i : Expr} {td ty : TE} (hu : X.A.units + 1 < cLine) (ho : QE X d td) (hi : QE X i ty) (hs : NoSl i) : QE X (.Subscript d i pos) (tDGet td ty) := ⟨pe_dget hu ho.up hi.up hs⟩
end
inductive EqI (K : PySem.W.Frag) (H : Hp) : V → V → Bool → Prop where
  | flat {x y : V} (hx : flatV x = true) (hy : flatV y = true) : EqI K H x y (eqV x y)
  | lists {a b : Addr} {us vs : List V} (n : a ≠ b) (ha : SqL K H a us) (hb : SqL K H b vs) (fa : us.all flatV = true) (fb : vs.all flatV = true) : EqI K H (.ref a) (.ref b) (eqVs us vs)
section
variable {X : Cx}
theorem eqI_at {pins : List (Addr × Obj)} {σ : St} {H : Hp} {s : Shared} {A : Around} (hu : A.units < cLine) (I : Inv X pins σ H s) {x y : V} {u v : Value} {b : Bool} (rx : RelV x u) (ry : RelV y v) (h : EqI X.K H x y b) : SeqAt.EqAt A s u v b := by
  cases h with
  | flat hx hy => exact eqAt_V rx ry hx hy
  | @lists a b us vs n ha hb fa fb =>
    cases rx
    cases ry
    obtain ⟨us', r1, t1, _⟩ := I.list ha
    obtain ⟨vs', r2, t2, _⟩ := I.list hb
    have l1 := r1.length
    have l2 := r2.length
    by_cases c : us.length = vs.length
    · have := SeqAt.EqAt.of_refs n (SeqAt.RcAt.lists (A := A) t1.isList t2.isList (by rw [List.size_toArray, List.size_toArray]; omega) hu (at_eq r1 r2 fa fb))
      rw [eqVs_len c, l1]
      simpa using this
    · have := SeqAt.EqAt.of_refs n (SeqAt.RcAt.lists_lengths (A := A) t1.isList t2.isList (by rw [List.size_toArray, List.size_toArray]; simp; omega) hu)
      rw [eqVs_ne c]
      exact this
def rEqD (K : PySem.W.Frag) (neg : Bool) : R2 := fun x y H Q => ∃ (p q : Addr) (xs ys : List V) (es : List Bool), x = .ref p ∧ y = .ref q ∧ SqT K H p xs ∧ SqT K H q ys ∧ xs.length = ys.length ∧ es.length = xs.length ∧ (∀ (j : Nat) a b e, xs[j]? = some a → ys[j]? = some b → es[j]? = some e → EqI K H a b e) ∧ Q (.bl (if neg then !es.all id else es.all id)) H
theorem deep_at {pins : List (Addr × Obj)} {σ : St} {H : Hp} {s : Shared} {A : Around} (hu : A.units < cLine) (I : Inv X pins σ H s) {xs ys : List V} {us vs : List Value} {es : List Bool} (r1 : Vals xs us) (r2 : Vals ys vs) (hl : xs.length = ys.length) (he : es.length = xs.length) (h : ∀ (j : Nat) a b e, xs[j]? = some a → ys[j]? = some b → es[j]? = some e → EqI X.K H a b e) :
    ∀ j (h1 : j < us.toArray.size) (h2 : j < vs.toArray.size), SeqAt.EqAt A s us.toArray[j] vs.toArray[j] ((es[j]?).getD false) := by
  intro j h1 h2
  have l1 := r1.length
  have l2 := r2.length
  rw [List.size_toArray] at h1 h2
  have j1 : j < xs.length := by omega
  have j2 : j < ys.length := by omega
  have j3 : j < es.length := by omega
  obtain ⟨u, hu', ru⟩ := r1.get (List.getElem?_eq_getElem j1)
  obtain ⟨v, hv, rv⟩ := r2.get (List.getElem?_eq_getElem j2)
  have eu : us.toArray[j] = u := by
    have := List.getElem?_eq_getElem h1
    rw [hu'] at this
    simpa using (Option.some.inj this).symm
  have ev : vs.toArray[j] = v := by
    have := List.getElem?_eq_getElem h2
    rw [hv] at this
    simpa using (Option.some.inj this).symm
  rw [eu, ev, List.getElem?_eq_getElem j3, Option.getD_some]
  exact eqI_at hu I ru rv (h j _ _ _ (List.getElem?_eq_getElem j1) (List.getElem?_eq_getElem j2) (List.getElem?_eq_getElem j3))
theorem deep_all {es : List Bool} {us vs : List Value} (h1 : us.length = es.length) (h2 : vs.length = es.length) : ((List.range (min us.toArray.size vs.toArray.size)).all (fun j => (es[j]?).getD false) && us.toArray.size == vs.toArray.size) = es.all id := by
  rw [List.size_toArray, List.size_toArray, h1, h2, Nat.min_self, all_ix]
  simp
theorem op_eqD (hu : X.A.units + 1 < cLine) : OpR X (compareOp .Eq) (rEqD X.K false) := by
  intro pins s σ H x y v u Q I rx ry h
  obtain ⟨p, q, xs, ys, es, rfl, rfl, h1, h2, hl, he, hE, qq⟩ := h
  cases rx
  cases ry
  obtain ⟨us, r1, t1, _⟩ := I.tuple h1
  obtain ⟨vs, r2, t2, _⟩ := I.tuple h2
  have l1 := r1.length
  have l2 := r2.length
  refine SeqAt.eq_tupleAt (show s.heap.IsTuple p us.toArray from t1) (show s.heap.IsTuple q vs.toArray from t2) (Nat.lt_of_succ_lt hu) (deep_at hu I r1 r2 hl he hE) ⟨.bl (es.all id), H, I, ?_, qq⟩
  show Value.bool _ = Value.bool _
  rw [deep_all (by omega) (by omega)]
theorem op_neD (hu : X.A.units + 1 < cLine) : OpR X (compareOp .NotEq) (rEqD X.K true) := by
  intro pins s σ H x y v u Q I rx ry h
  obtain ⟨p, q, xs, ys, es, rfl, rfl, h1, h2, hl, he, hE, qq⟩ := h
  cases rx
  cases ry
  obtain ⟨us, r1, t1, _⟩ := I.tuple h1
  obtain ⟨vs, r2, t2, _⟩ := I.tuple h2
  have l1 := r1.length
  have l2 := r2.length
  refine SeqAt.RcNeAt.tuples (show s.heap.IsTuple p us.toArray from t1) (show s.heap.IsTuple q vs.toArray from t2) (Nat.lt_of_succ_lt hu) (deep_at hu I r1 r2 hl he hE) X.prog X.w X.xe _ ⟨.bl (!es.all id), H, I, ?_, qq⟩
  show Value.bool _ = Value.bool _
  rw [deep_all (by omega) (by omega)]
end
end L2
end
section
set_option Elab.async false
set_option linter.all false
set_option maxRecDepth 100000
set_option maxHeartbeats 4000000
namespace Bg
open PySem L2
theorem nil_open {σ : St} {H : Hp} {R : List V → Hp → Prop} (h : R [] H) : tNil σ H R := h
structure RunCls (K : PySem.W.Frag) (C : Addr) : Prop where
  cl : Cls K C
  no : NoAttr K C "opened"
  ns : NoAttr K C "spoken"
  nu : NoAttr K C "outcome"
def rFs (ol sl : Addr) : List (Str × V) := [("opened", .ref ol), ("spoken", .ref sl), ("outcome", .non)]
def sp_Run_init (K : PySem.W.Frag) : Sp := fun vs H Q _ => ∃ (x dx C : Addr), vs = [.ref x] ∧ H x = some (.ins C dx []) ∧ RunCls K C ∧
  ∀ (ol sl : Addr) (H' : Hp), H ol = none → H sl = none → ol ≠ sl → H' x = some (.ins C dx (rFs ol sl)) → H' ol = some (.lst []) → H' sl = some (.lst []) → But x H H' → Q .non H'
def sp_Run_ended (K : PySem.W.Frag) : Sp := fun vs H Q _ => ∃ (w C dx ol : Addr) (fs : List (Str × V)) (fvs : List V), vs = [.ref w] ∧ H w = some (.ins C dx fs) ∧ RunCls K C ∧ fs.lookup ("opened" : Str) = some (.ref ol) ∧ H ol = some (.lst fvs) ∧ ∀ b : Bool, (b = true ↔ fvs = []) → Q (.bl b) H
def sp_Run_said (K : PySem.W.Frag) : Sp := fun vs H Q _ => ∃ (w C dx sl : Addr) (fs : List (Str × V)) (xs : List V), vs = [.ref w] ∧ H w = some (.ins C dx fs) ∧ RunCls K C ∧ fs.lookup ("spoken" : Str) = some (.ref sl) ∧ H sl = some (.lst xs) ∧ ∀ l, H l = none → Q (.ref l) (upd H l (.lst xs))
def sp_Run_answer (K : PySem.W.Frag) : Sp := fun vs H Q _ => ∃ (w C dx : Addr) (fs : List (Str × V)) (v : V), vs = [.ref w] ∧ H w = some (.ins C dx fs) ∧ RunCls K C ∧ fs.lookup ("outcome" : Str) = some v ∧ Q v H
abbrev k_Run_init : Nat := 0
abbrev K_Run_init : Nat := 1
abbrev k_Run_ended : Nat := 0
abbrev K_Run_ended : Nat := 1
abbrev k_Run_said : Nat := 0
abbrev K_Run_said : Nat := 1
abbrev k_Run_answer : Nat := 0
abbrev K_Run_answer : Nat := 1
end Bg
end
section
set_option Elab.async false
set_option linter.all false
set_option maxRecDepth 100000
set_option maxHeartbeats 4000000
namespace Bg
open PySem L2
structure TxtW (K : PySem.W.Frag) : Prop where
  clW : Cls K (clsAt K "Walk")
  clF : Cls K (clsAt K "Frame")
  nWp : NoAttr K (clsAt K "Walk") "program"
  nWo : NoAttr K (clsAt K "Walk") "opened"
  nWs : NoAttr K (clsAt K "Walk") "spoken"
  nWu : NoAttr K (clsAt K "Walk") "outcome"
  nFp : NoAttr K (clsAt K "Frame") "part"
  nFr : NoAttr K (clsAt K "Frame") "row"
  nFn : NoAttr K (clsAt K "Frame") "names"
structure Fr where
  part : Nat
  row : Nat
  nm : List (Key × V)
structure WSt where
  fs : List Fr
  said : List Int
  out : V
def fFs (p r n : V) : List (Str × V) := [("part", p), ("row", r), ("names", n)]
def wFs (pp ol sl : Addr) (out : V) : List (Str × V) := [("opened", .ref ol), ("spoken", .ref sl), ("outcome", out), ("program", .ref pp)]
inductive FsAt (K : PySem.W.Frag) (H : Hp) : List V → List Addr → List Fr → Prop where
  | nil : FsAt K H [] [] []
  | snoc {fvs : List V} {ds : List Addr} {fs : List Fr} {a dx d : Addr} {f : Fr} (h : FsAt K H fvs ds fs) (na : V.ref a ∉ fvs) (nd : d ∉ ds) (ha : H a = some (.ins (clsAt K "Frame") dx (fFs (.int (f.part : Nat)) (.int (f.row : Nat)) (.ref d)))) (hd : H d = some (.dK f.nm)) :
      FsAt K H (fvs ++ [.ref a]) (ds ++ [d]) (fs ++ [f])
theorem FsAt.keep {K : PySem.W.Frag} {H H' : Hp} {fvs : List V} {ds : List Addr} {fs : List Fr} (h : FsAt K H fvs ds fs) (kf : ∀ a, V.ref a ∈ fvs → ∀ o, H a = some o → H' a = some o) (kd : ∀ d ∈ ds, ∀ o, H d = some o → H' d = some o) : FsAt K H' fvs ds fs := by
  induction h with
  | nil => exact .nil
  | snoc h na nd ha hd ih =>
    exact .snoc (ih (fun a m => kf a (List.mem_append_left _ m)) fun d m => kd d (List.mem_append_left _ m)) na nd (kf _ (List.mem_append_right _ List.mem_cons_self) _ ha) (kd _ (List.mem_append_right _ List.mem_cons_self) _ hd)
theorem snoc_inj {α : Type} {a b : List α} {x y : α} (h : a ++ [x] = b ++ [y]) : a = b ∧ x = y := by
  have := List.append_inj' h rfl
  exact ⟨this.1, by injection this.2⟩
theorem FsAt.last {K : PySem.W.Frag} {H : Hp} {fvs : List V} {ds : List Addr} {fs : List Fr} {f : Fr} (h : FsAt K H fvs ds (fs ++ [f])) : ∃ fvs' ds' a dx d, fvs = fvs' ++ [.ref a] ∧ ds = ds' ++ [d] ∧ FsAt K H fvs' ds' fs ∧ V.ref a ∉ fvs' ∧ d ∉ ds' ∧ H a = some (.ins (clsAt K "Frame") dx (fFs (.int (f.part : Nat)) (.int (f.row : Nat)) (.ref d))) ∧ H d = some (.dK f.nm) := by
  generalize e : fs ++ [f] = gs at h
  cases h with
  | nil => simp at e
  | snoc h na nd ha hd =>
    obtain ⟨rfl, rfl⟩ := snoc_inj e
    exact ⟨_, _, _, _, _, rfl, rfl, h, na, nd, ha, hd⟩
theorem FsAt.len {K : PySem.W.Frag} {H : Hp} {fvs : List V} {ds : List Addr} {fs : List Fr} (h : FsAt K H fvs ds fs) : fvs.length = fs.length := by
  induction h with
  | nil => rfl
  | snoc _ _ _ _ _ ih => simp [ih]
theorem FsAt.ins {K : PySem.W.Frag} {H : Hp} {fvs : List V} {ds : List Addr} {fs : List Fr} (h : FsAt K H fvs ds fs) {a : Addr} (m : V.ref a ∈ fvs) : ∃ dx l, H a = some (.ins (clsAt K "Frame") dx l) ∧ ∃ p r d, l = fFs p r d := by
  induction h with
  | nil => cases m
  | snoc _ _ _ ha _ ih =>
    rcases List.mem_append.mp m with z | z
    · exact ih z
    · have := List.mem_singleton.mp z
      injection this with this
      subst this
      exact ⟨_, _, ha, _, _, _, rfl⟩
theorem FsAt.dct {K : PySem.W.Frag} {H : Hp} {fvs : List V} {ds : List Addr} {fs : List Fr} (h : FsAt K H fvs ds fs) {d : Addr} (m : d ∈ ds) : ∃ l, H d = some (.dK l) := by
  induction h with
  | nil => cases m
  | snoc _ _ _ _ hd ih =>
    rcases List.mem_append.mp m with z | z
    · exact ih z
    · rw [List.mem_singleton.mp z]; exact ⟨_, hd⟩
structure WalkX (K : PySem.W.Frag) (H0 H : Hp) (w pp dx ol sl : Addr) (fvs : List V) (ds : List Addr) (n : Nat) (st : WSt) : Prop where
  at_ : H w = some (.ins (clsAt K "Walk") dx (wFs pp ol sl st.out))
  op : H ol = some (.lst fvs)
  sp : H sl = some (.lst (st.said.map V.int))
  ne : ol ≠ sl
  fr : FsAt K H fvs ds st.fs
  sm : Same H0 H
  nw : H0 w = none
  no : H0 ol = none
  ns : H0 sl = none
  nf : ∀ a, V.ref a ∈ fvs → H0 a = none
  nd : ∀ d ∈ ds, H0 d = none
  few : fvs.length ≤ n
  saw : st.said.length ≤ n
  nms : ∀ f ∈ st.fs, f.nm.length ≤ n + 100
def WalkAt (K : PySem.W.Frag) (H0 H : Hp) (w pp : Addr) (n : Nat) (st : WSt) : Prop := ∃ dx ol sl fvs ds, WalkX K H0 H w pp dx ol sl fvs ds n st
structure ProgAt (H : Hp) (pp : Addr) (bs : List BPart) : Prop where
  ex : ∃ pvs, H pp = some (.tup pvs) ∧ AllAt (PartAt H) pvs bs
  good : ∀ b ∈ bs, RowsGood b.rows
  few : ∀ b ∈ bs, b.params.length ≤ 100
theorem ProgAt.same {H H' : Hp} {pp : Addr} {bs : List BPart} (h : ProgAt H pp bs) (s : Same H H') : ProgAt H' pp bs := by
  obtain ⟨pvs, e, a⟩ := h.ex
  exact ⟨⟨pvs, s _ _ e, a.imp fun _ _ z => z.mono (.of_same s)⟩, h.good, h.few⟩
def go (b : BPart) (n : Nat) : Nat := runJ b.rows b.rows.length n
def got (nm : List (Key × V)) (y : Str) (i : Int) : Prop := valV nm (Sum.inr y) = some (.int i) ∧ Wth i
def put (nm : List (Key × V)) (x : Str) (i : Int) : List (Key × V) := putK nm (Sum.inr x) (.int i)
def opens (b : BPart) (k : Nat) (zs : List Int) : Fr := ⟨k, go b 0, mergeK [] ((b.params.map Sum.inr).zip (zs.map V.int))⟩
inductive Stp (bs : List BPart) : WSt → WSt → Prop where
  | num {fs : List Fr} {f : Fr} {b : BPart} {x : Str} {z : Int} {said : List Int} (hb : bs[f.part]? = some b) (hr : b.rows[f.row]? = some (.num x z)) : Stp bs ⟨fs ++ [f], said, .non⟩ ⟨fs ++ [⟨f.part, go b (f.row + 1), put f.nm x z⟩], said, .non⟩
  | op {fs : List Fr} {f : Fr} {b : BPart} {x s p q : Str} {i j : Int} {said : List Int} (hb : bs[f.part]? = some b) (hr : b.rows[f.row]? = some (.op x s p q)) (hi : got f.nm p i) (hj : got f.nm q j) : Stp bs ⟨fs ++ [f], said, .non⟩ ⟨fs ++ [⟨f.part, go b (f.row + 1), put f.nm x (wth s i j)⟩], said, .non⟩
  | say {fs : List Fr} {f : Fr} {b : BPart} {p : Str} {i : Int} {said : List Int} (hb : bs[f.part]? = some b) (hr : b.rows[f.row]? = some (.say p)) (hi : got f.nm p i) : Stp bs ⟨fs ++ [f], said, .non⟩ ⟨fs ++ [⟨f.part, go b (f.row + 1), f.nm⟩], said ++ [i], .non⟩
  | yes {fs : List Fr} {f : Fr} {b : BPart} {p : Str} {i : Int} {to : Nat} {said : List Int} (hb : bs[f.part]? = some b) (hr : b.rows[f.row]? = some (.test p to)) (hi : got f.nm p i) (h0 : i ≠ 0) : Stp bs ⟨fs ++ [f], said, .non⟩ ⟨fs ++ [⟨f.part, go b to, f.nm⟩], said, .non⟩
  | no {fs : List Fr} {f : Fr} {b : BPart} {p : Str} {to : Nat} {said : List Int} (hb : bs[f.part]? = some b) (hr : b.rows[f.row]? = some (.test p to)) (hi : got f.nm p 0) : Stp bs ⟨fs ++ [f], said, .non⟩ ⟨fs ++ [⟨f.part, go b (f.row + 1), f.nm⟩], said, .non⟩
  | call {fs : List Fr} {f : Fr} {b c : BPart} {x : Str} {k : Nat} {as : List Str} {zs : List Int} {said : List Int} (hb : bs[f.part]? = some b) (hr : b.rows[f.row]? = some (.call x k as)) (hc : bs[k]? = some c) (hl : c.params.length = as.length) (hz : zs.length = as.length) (hi : ∀ (j : Nat) y z, as[j]? = some y → zs[j]? = some z → got f.nm y z) :
      Stp bs ⟨fs ++ [f], said, .non⟩ ⟨fs ++ [f] ++ [opens c k zs], said, .non⟩
  | last {f : Fr} {b : BPart} {p : Str} {i : Int} {said : List Int} (hb : bs[f.part]? = some b) (hr : b.rows[f.row]? = some (.give p)) (hi : got f.nm p i) : Stp bs ⟨[f], said, .non⟩ ⟨[], said, .int i⟩
  | give {fs : List Fr} {g f : Fr} {b c : BPart} {p x : Str} {k : Nat} {as : List Str} {i : Int} {said : List Int} (hb : bs[f.part]? = some b) (hr : b.rows[f.row]? = some (.give p)) (hi : got f.nm p i) (hc : bs[g.part]? = some c) (hg : c.rows[g.row]? = some (.call x k as)) :
      Stp bs ⟨fs ++ [g] ++ [f], said, .non⟩ ⟨fs ++ [⟨g.part, go c (g.row + 1), put g.nm x i⟩], said, .non⟩
theorem TxtW.run {K : PySem.W.Frag} (T : TxtW K) : RunCls K (clsAt K "Walk") := ⟨T.clW, T.nWo, T.nWs, T.nWu⟩
def sp_Frame_init (K : PySem.W.Frag) : Sp := fun vs H Q _ => ∃ (x dx : Addr) (p r n : V), vs = [.ref x, p, r, n] ∧ H x = some (.ins (clsAt K "Frame") dx []) ∧ Q .non (upd H x (.ins (clsAt K "Frame") dx (fFs p r n)))
def sp_Walk_ended (K : PySem.W.Frag) : Sp := fun vs H Q _ => ∃ (w pp : Addr) (H0 : Hp) (n : Nat) (st : WSt), vs = [.ref w] ∧ WalkAt K H0 H w pp n st ∧ ∀ b : Bool, (b = true ↔ st.fs = []) → Q (.bl b) H
def sp_Walk_said (K : PySem.W.Frag) : Sp := fun vs H Q _ => ∃ (w pp : Addr) (H0 : Hp) (n : Nat) (st : WSt), vs = [.ref w] ∧ WalkAt K H0 H w pp n st ∧ ∀ l, H l = none → Q (.ref l) (upd H l (.lst (st.said.map V.int)))
def sp_Walk_answer (K : PySem.W.Frag) : Sp := fun vs H Q _ => ∃ (w pp : Addr) (H0 : Hp) (n : Nat) (st : WSt), vs = [.ref w] ∧ WalkAt K H0 H w pp n st ∧ Q st.out H
theorem walk_ended {K : PySem.W.Frag} (T : TxtW K) {vs : List V} {H : Hp} {Q : VK} {E : XK} (h : sp_Walk_ended K vs H Q E) : sp_Run_ended K vs H Q E := by
  obtain ⟨w, pp, H0, n, st, rfl, ⟨dx, ol, sl, fvs, ds, X⟩, q⟩ := h
  refine ⟨w, _, dx, ol, _, fvs, rfl, X.at_, T.run, rfl, X.op, fun b hb => q b (hb.trans ?_)⟩
  have l := X.fr.len
  exact ⟨fun z => List.length_eq_zero_iff.mp (by rw [← l, z]; rfl), fun z => List.length_eq_zero_iff.mp (by rw [l, z]; rfl)⟩
theorem walk_said {K : PySem.W.Frag} (T : TxtW K) {vs : List V} {H : Hp} {Q : VK} {E : XK} (h : sp_Walk_said K vs H Q E) : sp_Run_said K vs H Q E := by
  obtain ⟨w, pp, H0, n, st, rfl, ⟨dx, ol, sl, fvs, ds, X⟩, q⟩ := h
  exact ⟨w, _, dx, sl, _, _, rfl, X.at_, T.run, rfl, X.sp, q⟩
theorem walk_answer {K : PySem.W.Frag} (T : TxtW K) {vs : List V} {H : Hp} {Q : VK} {E : XK} (h : sp_Walk_answer K vs H Q E) : sp_Run_answer K vs H Q E := by
  obtain ⟨w, pp, H0, n, st, rfl, ⟨dx, ol, sl, fvs, ds, X⟩, q⟩ := h
  exact ⟨w, _, dx, _, _, rfl, X.at_, T.run, rfl, q⟩
def sp_Walk_go_on (K : PySem.W.Frag) : Sp := fun vs H Q _ => ∃ (w pp a dx ol sl : Addr) (to n : Nat) (H0 : Hp) (fvs : List V) (ds : List Addr) (fs : List Fr) (f : Fr) (said : List Int) (out : V) (bs : List BPart) (b : BPart), vs = [.ref w, .ref a, .int (to : Nat)] ∧ WalkX K H0 H w pp dx ol sl (fvs ++ [.ref a]) ds n ⟨fs ++ [f], said, out⟩ ∧ ProgAt H0 pp bs ∧ bs[f.part]? = some b ∧ to < b.rows.length ∧
  ∀ H', WalkX K H0 H' w pp dx ol sl (fvs ++ [.ref a]) ds n ⟨fs ++ [⟨f.part, go b to, f.nm⟩], said, out⟩ → Q .non H'
def sp_Walk_enter (K : PySem.W.Frag) : Sp := fun vs H Q _ => ∃ (w pp q : Addr) (k n : Nat) (H0 : Hp) (st : WSt) (zs : List Int) (bs : List BPart) (b : BPart), vs = [.ref w, .int (k : Nat), .ref q] ∧ WalkAt K H0 H w pp n st ∧ ProgAt H0 pp bs ∧ bs[k]? = some b ∧ b.params.length = zs.length ∧ (H q = some (.lst (zs.map V.int)) ∨ H q = some (.tup (zs.map V.int))) ∧ n ≤ 10000 ∧
  ∀ H', WalkAt K H0 H' w pp (n + 1) ⟨st.fs ++ [opens b k zs], st.said, st.out⟩ → Q .non H'
def sp_Walk_init (K : PySem.W.Frag) : Sp := fun vs H Q _ => ∃ (w dx pp q : Addr) (k : Nat) (H0 : Hp) (zs : List Int) (bs : List BPart) (b : BPart), vs = [.ref w, .ref pp, .int (k : Nat), .ref q] ∧ H w = some (.ins (clsAt K "Walk") dx []) ∧ Same H0 H ∧ H0 w = none ∧ ProgAt H0 pp bs ∧ bs[k]? = some b ∧ b.params.length = zs.length ∧ (H q = some (.lst (zs.map V.int)) ∨ H q = some (.tup (zs.map V.int))) ∧
  ∀ H', WalkAt K H0 H' w pp 1 ⟨[opens b k zs], [], .non⟩ → Q .non H'
def sp_Walk_leave (K : PySem.W.Frag) : Sp := fun vs H Q _ => ∃ (w pp : Addr) (i : Int) (n : Nat) (H0 : Hp) (st st' : WSt) (bs : List BPart) (f : Fr) (b : BPart) (p : Str), vs = [.ref w, .int i] ∧ WalkAt K H0 H w pp n st ∧ ProgAt H0 pp bs ∧ n ≤ 10000 ∧ Wth i ∧
  ((st = ⟨[f], st.said, .non⟩ ∧ st' = ⟨[], st.said, .int i⟩) ∨ ∃ (fs : List Fr) (g : Fr) (c : BPart) (x : Str) (k : Nat) (as : List Str), st = ⟨fs ++ [g] ++ [f], st.said, .non⟩ ∧ bs[g.part]? = some c ∧ c.rows[g.row]? = some (.call x k as) ∧ st' = ⟨fs ++ [⟨g.part, go c (g.row + 1), put g.nm x i⟩], st.said, .non⟩) ∧
  ∀ H', WalkAt K H0 H' w pp (n + 1) st' → Q .non H'
def isWork : BRow → Bool
  | .call _ _ _ => false
  | .give _ => false
  | .jump _ => false
  | _ => true
def sp_Walk_work (K : PySem.W.Frag) : Sp := fun vs H Q _ => ∃ (w pp a dx ol sl tk : Addr) (rv : V) (r : BRow) (n : Nat) (H0 : Hp) (fvs : List V) (ds : List Addr) (fs : List Fr) (f : Fr) (said zs : List Int) (bs : List BPart) (b : BPart) (st' : WSt), vs = [.ref w, .ref a, rv, .ref tk] ∧ WalkX K H0 H w pp dx ol sl (fvs ++ [.ref a]) ds n ⟨fs ++ [f], said, .non⟩ ∧ ProgAt H0 pp bs ∧ n ≤ 10000 ∧
  bs[f.part]? = some b ∧ b.rows[f.row]? = some r ∧ RowAt H0 rv r ∧ isWork r = true ∧ H tk = some (.lst (zs.map V.int)) ∧ zs.length = (readsOf r).length ∧ (∀ (j : Nat) y z, (readsOf r)[j]? = some y → zs[j]? = some z → got f.nm y z) ∧ Stp bs ⟨fs ++ [f], said, .non⟩ st' ∧
  ∀ H', WalkAt K H0 H' w pp (n + 1) st' → Q .non H'
def sp_Walk_step (K : PySem.W.Frag) : Sp := fun vs H Q _ => ∃ (w pp : Addr) (n : Nat) (H0 : Hp) (st st' : WSt) (bs : List BPart), vs = [.ref w] ∧ WalkAt K H0 H w pp n st ∧ ProgAt H0 pp bs ∧ n ≤ 10000 ∧ Stp bs st st' ∧ ∀ H', WalkAt K H0 H' w pp (n + 1) st' → Q .non H'
inductive Ch (bs : List BPart) : Nat → WSt → WSt → Prop where
  | nil {st : WSt} : Ch bs 0 st st
  | snoc {n : Nat} {st st1 st2 : WSt} (h : Ch bs n st st1) (ne : st1.fs ≠ []) (s : Stp bs st1 st2) : Ch bs (n + 1) st st2
def wordOf (st : WSt) : Str := if st.fs.isEmpty then "given" else "spent"
def sp_p_stepped (K : PySem.W.Frag) : Sp := fun vs H Q _ => ∃ (w pp : Addr) (most m : Nat) (H0 : Hp) (bs : List BPart) (st0 st : WSt), vs = [.ref w, .int (most : Nat)] ∧ WalkAt K H0 H w pp 1 st0 ∧ ProgAt H0 pp bs ∧ most ≤ 5000 ∧
  Ch bs m st0 st ∧ m ≤ most ∧ (st.fs = [] ∨ m = most) ∧
  ∀ (p l : Addr) (H' : Hp), H' p = some (.tup [.str (wordOf st), .ref l, st.out, .int (m : Nat)]) → H' l = some (.lst (st.said.map V.int)) → H0 l = none → Same H0 H' → Q (.ref p) H'
def sp_p_run (K : PySem.W.Frag) : Sp := fun vs H Q _ => ∃ (pp q : Addr) (k most m : Nat) (zs : List Int) (bs : List BPart) (b : BPart) (st : WSt), vs = [.ref pp, .int (k : Nat), .ref q, .int (most : Nat)] ∧ ProgAt H pp bs ∧ bs[k]? = some b ∧ b.params.length = zs.length ∧ (H q = some (.lst (zs.map V.int)) ∨ H q = some (.tup (zs.map V.int))) ∧ most ≤ 5000 ∧
  Ch bs m ⟨[opens b k zs], [], .non⟩ st ∧ m ≤ most ∧ (st.fs = [] ∨ m = most) ∧
  ∀ (p l : Addr) (H' : Hp), H' p = some (.tup [.str (wordOf st), .ref l, st.out, .int (m : Nat)]) → H' l = some (.lst (st.said.map V.int)) → H l = none → Same H H' → Q (.ref p) H'
abbrev k_Frame_init : Nat := 0
abbrev K_Frame_init : Nat := 1
abbrev k_Walk_go_on : Nat := 2
abbrev K_Walk_go_on : Nat := 3
abbrev k_Walk_enter : Nat := 2
abbrev K_Walk_enter : Nat := 3
abbrev k_Walk_init : Nat := 3
abbrev K_Walk_init : Nat := 4
abbrev k_Walk_leave : Nat := 3
abbrev K_Walk_leave : Nat := 4
abbrev k_Walk_work : Nat := 3
abbrev K_Walk_work : Nat := 4
abbrev k_Walk_step : Nat := 4
abbrev K_Walk_step : Nat := 5
abbrev k_p_stepped : Nat := 5
abbrev K_p_stepped : Nat := 6
abbrev k_p_run : Nat := 6
abbrev K_p_run : Nat := 7
end Bg
end
section
set_option Elab.async false
set_option linter.all false
set_option maxRecDepth 100000
set_option maxHeartbeats 4000000
namespace Bg
open PySem L2
def loopP (s c o n : Str) (b m : Int) : BPart := ⟨"loop", [n], [.num s b, .num c m, .num o 1, .jump 7, .op s "+" s c, .op n "-" n o, .jump 7, .test n 4, .say c, .give s]⟩
def selfP (s o n : Str) : BPart := ⟨"self", [n], [.test n 2, .give n, .num o 1, .op o "-" n o, .call s 1 [o], .op n "+" s n, .give n]⟩
def everP (x y : Str) : BPart := ⟨"ever", [x], [.call y 2 [x], .give y]⟩
def sp_loop (K : PySem.W.Frag) : Sp := fun vs H Q _ => ∃ (nt : Addr) (b m : Int) (s c o n : Str), vs = [.ref nt, .int b, .int m] ∧ H nt = some (.tup [.str s, .str c, .str o, .str n]) ∧
  ∀ (p : Addr) (H' : Hp), PartAt H' (.ref p) (loopP s c o n b m) → Same H H' → Q (.ref p) H'
def sp_self (K : PySem.W.Frag) : Sp := fun vs H Q _ => ∃ (nt : Addr) (s o n z : Str), vs = [.ref nt] ∧ H nt = some (.tup [.str s, .str o, .str n, .str z]) ∧
  ∀ (p : Addr) (H' : Hp), PartAt H' (.ref p) (selfP s o n) → Same H H' → Q (.ref p) H'
def sp_right (K : PySem.W.Frag) : Sp := fun vs H Q _ => ∃ (pp wl : Addr) (k steps budget : Nat) (many ans : Int) (words : List Int) (bs : List BPart) (b : BPart) (st : WSt), vs = [.ref pp, .int (k : Nat), .int many, .int ans, .ref wl, .int (steps : Nat), .int (budget : Nat)] ∧
  ProgAt H pp bs ∧ bs[k]? = some b ∧ b.params.length = 1 ∧ H wl = some (.lst (words.map V.int)) ∧ words.length ≤ 10 ∧ steps ≤ 1000 ∧ budget ≤ 1000 ∧ Ch bs steps ⟨[opens b k [many]], [], .non⟩ st ∧ st.fs = [] ∧ st.said = words ∧ st.out = .int ans ∧ ∀ H', Same H H' → Q (.bl true) H'
abbrev k_loop : Nat := 0
abbrev K_loop : Nat := 1
abbrev k_self : Nat := 0
abbrev K_self : Nat := 1
abbrev k_right : Nat := 7
abbrev K_right : Nat := 8
abbrev k_law : Nat := 8
abbrev K_law : Nat := 9
end Bg
end
section
set_option Elab.async false
set_option linter.all false
set_option maxRecDepth 100000
set_option maxHeartbeats 4000000
namespace Bg
open PySem PySem.Spec PyProof.Rows L2
abbrev PS_p_reads : List Str := ["row"]
abbrev N_p_reads : List Str := ["row", "word"]
def t_p_reads_1 (K : PySem.W.Frag) : TS := (tRet (tTup tNil))
def t_p_reads_2 (K : PySem.W.Frag) : TS := (tSeq (tIfS (tTest (tOp ((rIn K false)) (tVar 1) (tTup (tCons (tC (.str "say")) (tCons (tC (.str "test")) (tCons (tC (.str "give")) tNil)))))) (tRet (tTup (tCons (tOp (rIx K) (tVar 0) (tC (.int 1))) tNil))) tNext) (t_p_reads_1 K))
def t_p_reads_3 (K : PySem.W.Frag) : TS := (tSeq (tIfS (tTest (tOp (rEqG K) (tVar 1) (tC (.str "call")))) (tRet (tCB (rTupleOf K) (tCons (tOp (rIx K) (tVar 0) (tC (.int 3))) tNil))) tNext) (t_p_reads_2 K))
def t_p_reads_4 (K : PySem.W.Frag) : TS := (tSeq (tIfS (tTest (tOp (rEqG K) (tVar 1) (tC (.str "op")))) (tRet (tTup (tCons (tOp (rIx K) (tVar 0) (tC (.int 3))) (tCons (tOp (rIx K) (tVar 0) (tC (.int 4))) tNil)))) tNext) (t_p_reads_3 K))
def t_p_reads (K : PySem.W.Frag) : TS := (tSeq (tAsg (tOp (rIx K) (tVar 0) (tC (.int 0))) (gName 1)) (t_p_reads_4 K))
abbrev PS_p_sets : List Str := ["row"]
abbrev N_p_sets : List Str := ["row"]
def t_p_sets_1 (K : PySem.W.Frag) : TS := (tRet (tC .non))
def t_p_sets (K : PySem.W.Frag) : TS := (tSeq (tIfS (tTest (tOp ((rIn K false)) (tOp (rIx K) (tVar 0) (tC (.int 0))) (tTup (tCons (tC (.str "num")) (tCons (tC (.str "op")) (tCons (tC (.str "call")) tNil)))))) (tRet (tOp (rIx K) (tVar 0) (tC (.int 1)))) tNext) (t_p_sets_1 K))
abbrev PS_p_goal : List Str := ["row"]
abbrev N_p_goal : List Str := ["row"]
def t_p_goal_1 (K : PySem.W.Frag) : TS := (tRet (tC .non))
def t_p_goal_2 (K : PySem.W.Frag) : TS := (tSeq (tIfS (tTest (tOp (rEqG K) (tOp (rIx K) (tVar 0) (tC (.int 0))) (tC (.str "test")))) (tRet (tOp (rIx K) (tVar 0) (tC (.int 2)))) tNext) (t_p_goal_1 K))
def t_p_goal (K : PySem.W.Frag) : TS := (tSeq (tIfS (tTest (tOp (rEqG K) (tOp (rIx K) (tVar 0) (tC (.int 0))) (tC (.str "jump")))) (tRet (tOp (rIx K) (tVar 0) (tC (.int 1)))) tNext) (t_p_goal_2 K))
end Bg
end
section
set_option Elab.async false
set_option linter.all false
set_option maxRecDepth 100000
set_option maxHeartbeats 4000000
namespace Bg
open PySem PySem.Spec PyProof.Rows L2
abbrev PS_p_stands : List Str := ["rows", "n"]
abbrev N_p_stands : List Str := ["rows", "n", "at"]
def t_p_stands_1 (K : PySem.W.Frag) : TS := (tRet (tVar 2))
def t_p_stands_2 (K : PySem.W.Frag) : TS := (tAsg (tCall (sp_p_goal K) [] E0 (tCons (tOp (rIx K) (tVar 0) (tVar 2)) tNil)) (gName 2))
def t_p_stands_3 (K : PySem.W.Frag) : TS := (tSeq (tWhile (tTest (tOp (rEqG K) (tOp (rIx K) (tOp (rIx K) (tVar 0) (tVar 2)) (tC (.int 0))) (tC (.str "jump")))) (t_p_stands_2 K)) (t_p_stands_1 K))
def t_p_stands (K : PySem.W.Frag) : TS := (tSeq (tAsg (tVar 1) (gName 2)) (t_p_stands_3 K))
end Bg
end
section
set_option Elab.async false
set_option linter.all false
set_option maxRecDepth 100000
set_option maxHeartbeats 4000000
namespace Bg
open PySem PySem.Spec PyProof.Rows L2
abbrev PS_p_worth : List Str := ["s", "one", "other"]
abbrev N_p_worth : List Str := ["s", "one", "other"]
def t_p_worth_1 (K : PySem.W.Frag) : TS := (tRet (tOp (rMod2) (tCall (sp_p_unbounded K) [] E0 (tCons (tVar 0) (tCons (tVar 1) (tCons (tVar 2) tNil)))) (tOp (rPow2) (tC (.int 2)) (tC (.int 64)))))
def t_p_worth_2 (K : PySem.W.Frag) : TS := (tSeq (tIfS (tTest (tOp (rEqG K) (tVar 0) (tC (.str "=")))) (tRet (tIf (tTest (tOp (rEqG K) (tVar 1) (tVar 2))) (tC (.int 1)) (tC (.int 0)))) tNext) (t_p_worth_1 K))
def t_p_worth (K : PySem.W.Frag) : TS := (tSeq (tIfS (tTest (tOp (rEqG K) (tVar 0) (tC (.str "<")))) (tRet (tIf (tTest (tOp (rLt2) (tVar 1) (tVar 2))) (tC (.int 1)) (tC (.int 0)))) tNext) (t_p_worth_2 K))
abbrev PS_p_unbounded : List Str := ["s", "one", "other"]
abbrev N_p_unbounded : List Str := ["s", "one", "other"]
def t_p_unbounded_1 (K : PySem.W.Frag) : TS := (tRet (tOp (rTimes K) (tVar 1) (tVar 2)))
def t_p_unbounded_2 (K : PySem.W.Frag) : TS := (tSeq (tIfS (tTest (tOp (rEqG K) (tVar 0) (tC (.str "-")))) (tRet (tOp (rSub2) (tVar 1) (tVar 2))) tNext) (t_p_unbounded_1 K))
def t_p_unbounded (K : PySem.W.Frag) : TS := (tSeq (tIfS (tTest (tOp (rEqG K) (tVar 0) (tC (.str "+")))) (tRet (tOp (rPlus K) (tVar 1) (tVar 2))) tNext) (t_p_unbounded_2 K))
end Bg
end
section
set_option Elab.async false
set_option linter.all false
set_option maxRecDepth 100000
set_option maxHeartbeats 4000000
namespace Bg
open PySem PySem.Spec PyProof.Rows L2
abbrev PS_Run_init : List Str := ["self"]
abbrev N_Run_init : List Str := ["self"]
def t_Run_init_1 (K : PySem.W.Frag) : TS := (sFld K (tVar 0) (tC .non) "outcome")
def t_Run_init_2 (K : PySem.W.Frag) : TS := (tSeq (sFld K (tVar 0) (tLst tNil) "spoken") (t_Run_init_1 K))
def t_Run_init (K : PySem.W.Frag) : TS := (tSeq (sFld K (tVar 0) (tLst tNil) "opened") (t_Run_init_2 K))
abbrev PS_Run_said : List Str := ["self"]
abbrev N_Run_said : List Str := ["self"]
def t_Run_said (K : PySem.W.Frag) : TS := (tRet (tCB (rListOf K) (tCons (tFld K (tVar 0) "spoken") tNil)))
abbrev PS_Run_answer : List Str := ["self"]
abbrev N_Run_answer : List Str := ["self"]
def t_Run_answer (K : PySem.W.Frag) : TS := (tRet (tFld K (tVar 0) "outcome"))
abbrev PS_Run_ended : List Str := ["self"]
abbrev N_Run_ended : List Str := ["self"]
def t_Run_ended (K : PySem.W.Frag) : TS := (tRet (tOp (rEqG K) (tCB (rLen K) (tCons (tFld K (tVar 0) "opened") tNil)) (tC (.int 0))))
end Bg
end
section
set_option Elab.async false
set_option linter.all false
set_option maxRecDepth 100000
set_option maxHeartbeats 4000000
namespace Bg
open PySem PySem.Spec PyProof.Rows L2
abbrev PS_p_stepped : List Str := ["walk", "most"]
abbrev N_p_stepped : List Str := ["walk", "most", "steps", "word"]
def t_p_stepped_1 (K : PySem.W.Frag) : TS := (tRet (tTup (tCons (tVar 3) (tCons (tMeth (clsAt K "Walk") "said" (sp_Run_said K) [] E0 (tVar 0) tNil) (tCons (tMeth (clsAt K "Walk") "answer" (sp_Run_answer K) [] E0 (tVar 0) tNil) (tCons (tVar 2) tNil))))))
def t_p_stepped_2 (K : PySem.W.Frag) : TS := (tSeq (tAsg (tIf (tB (tMeth (clsAt K "Walk") "ended" (sp_Run_ended K) [] E0 (tVar 0) tNil)) (tC (.str "given")) (tC (.str "spent"))) (gName 3)) (t_p_stepped_1 K))
def t_p_stepped_3 (K : PySem.W.Frag) : TS := (tAug 2 (tC (.int 1)) (ipI fun i j => i + j))
def t_p_stepped_4 (K : PySem.W.Frag) : TS := (tSeq (tDrop (tMeth (clsAt K "Walk") "step" (sp_Walk_step K) [] E0 (tVar 0) tNil)) (t_p_stepped_3 K))
def t_p_stepped_5 (K : PySem.W.Frag) : TS := (tSeq (tWhile (tAnd (tTest (tOp (rLt2) (tVar 2) (tVar 1))) (tNot (tB (tMeth (clsAt K "Walk") "ended" (sp_Run_ended K) [] E0 (tVar 0) tNil)))) (t_p_stepped_4 K)) (t_p_stepped_2 K))
def t_p_stepped (K : PySem.W.Frag) : TS := (tSeq (tAsg (tC (.int 0)) (gName 2)) (t_p_stepped_5 K))
abbrev PS_Frame_init : List Str := ["self", "part", "row", "names"]
abbrev N_Frame_init : List Str := ["self", "part", "row", "names"]
def t_Frame_init_1 (K : PySem.W.Frag) : TS := (sFld K (tVar 0) (tVar 3) "names")
def t_Frame_init_2 (K : PySem.W.Frag) : TS := (tSeq (sFld K (tVar 0) (tVar 2) "row") (t_Frame_init_1 K))
def t_Frame_init (K : PySem.W.Frag) : TS := (tSeq (sFld K (tVar 0) (tVar 1) "part") (t_Frame_init_2 K))
abbrev PS_Walk_init : List Str := ["self", "program", "part", "args"]
abbrev N_Walk_init : List Str := ["self", "program", "part", "args"]
def t_Walk_init_1 (K : PySem.W.Frag) : TS := (tDrop (tMeth (clsAt K "Walk") "enter" (sp_Walk_enter K) [] E0 (tVar 0) (tCons (tVar 2) (tCons (tVar 3) tNil))))
def t_Walk_init_2 (K : PySem.W.Frag) : TS := (tSeq (sFld K (tVar 0) (tVar 1) "program") (t_Walk_init_1 K))
def t_Walk_init (K : PySem.W.Frag) : TS := (tSeq (tDrop (tCall (sp_Run_init K) [] E0 (tCons (tVar 0) tNil))) (t_Walk_init_2 K))
abbrev PS_Walk_step : List Str := ["self"]
abbrev N_Walk_step : List Str := ["self", "frame", "row", "taken"]
def t_Walk_step_1 (K : PySem.W.Frag) : TS := (tIfS (tTest (tOp (rEqG K) (tOp (rIx K) (tVar 2) (tC (.int 0))) (tC (.str "call")))) (tDrop (tMeth (clsAt K "Walk") "enter" (sp_Walk_enter K) [] E0 (tVar 0) (tCons (tOp (rIx K) (tVar 2) (tC (.int 2))) (tCons (tVar 3) tNil)))) (tIfS (tTest (tOp (rEqG K) (tOp (rIx K) (tVar 2) (tC (.int 0))) (tC (.str "give")))) (tDrop (tMeth (clsAt K "Walk") "leave" (sp_Walk_leave K) [] E0 (tVar 0) (tCons (tOp (rIx K) (tVar 3) (tC (.int 0))) tNil))) (tDrop (tMeth (clsAt K "Walk") "work" (sp_Walk_work K) [] E0 (tVar 0) (tCons (tVar 1) (tCons (tVar 2) (tCons (tVar 3) tNil)))))))
def t_Walk_step_2 (K : PySem.W.Frag) : TS := (tSeq (tAsg (tComp [] 1 (iSeq K (tCall (sp_p_reads K) [] E0 (tCons (tVar 2) tNil))) (gName 4) tYes (tDGet (tFld K (tVar 1) "names") (tVar 4))) (gName 3)) (t_Walk_step_1 K))
def t_Walk_step_3 (K : PySem.W.Frag) : TS := (tSeq (tAsg (tOp (rIx K) (tOp (rIx K) (tOp (rIx K) (tFld K (tVar 0) "program") (tFld K (tVar 1) "part")) (tC (.int 2))) (tFld K (tVar 1) "row")) (gName 2)) (t_Walk_step_2 K))
def t_Walk_step_4 (K : PySem.W.Frag) : TS := (tSeq (tAsg (tOp (rIx K) (tFld K (tVar 0) "opened") (tUn rNeg (tC (.int 1)))) (gName 1)) (t_Walk_step_3 K))
def t_Walk_step (K : PySem.W.Frag) : TS := (tSeq (tIfS (tB (tMeth (clsAt K "Walk") "ended" (sp_Run_ended K) [] E0 (tVar 0) tNil)) tRetN tNext) (t_Walk_step_4 K))
abbrev PS_Walk_enter : List Str := ["self", "part", "args"]
abbrev N_Walk_enter : List Str := ["self", "part", "args", "params", "row"]
def t_Walk_enter_1 (K : PySem.W.Frag) : TS := (tDrop (tBM K "list" rAppend (tFld K (tVar 0) "opened") (tCons (tMake (clsAt K "Frame") (sp_Frame_init K) [] E0 (tCons (tVar 1) (tCons (tVar 4) (tCons (tDictZip K (tCons (tVar 3) (tCons (tVar 2) tNil))) tNil)))) tNil)))
def t_Walk_enter_2 (K : PySem.W.Frag) : TS := (tSeq (tAsg (tCall (sp_p_stands K) [] E0 (tCons (tOp (rIx K) (tOp (rIx K) (tFld K (tVar 0) "program") (tVar 1)) (tC (.int 2))) (tCons (tC (.int 0)) tNil))) (gName 4)) (t_Walk_enter_1 K))
def t_Walk_enter (K : PySem.W.Frag) : TS := (tSeq (tAsg (tOp (rIx K) (tOp (rIx K) (tFld K (tVar 0) "program") (tVar 1)) (tC (.int 1))) (gName 3)) (t_Walk_enter_2 K))
abbrev PS_Walk_leave : List Str := ["self", "given"]
abbrev N_Walk_leave : List Str := ["self", "given", "frame"]
def t_Walk_leave_1 (K : PySem.W.Frag) : TS := (tDrop (tMeth (clsAt K "Walk") "go_on" (sp_Walk_go_on K) [] E0 (tVar 0) (tCons (tVar 2) (tCons (tOp (rPlus K) (tFld K (tVar 2) "row") (tC (.int 1))) tNil))))
def t_Walk_leave_2 (K : PySem.W.Frag) : TS := (tSeq (tAsg (tVar 1) (gSub (tFld K (tVar 2) "names") (tCall (sp_p_sets K) [] E0 (tCons (tOp (rIx K) (tOp (rIx K) (tOp (rIx K) (tFld K (tVar 0) "program") (tFld K (tVar 2) "part")) (tC (.int 2))) (tFld K (tVar 2) "row")) tNil)) rSetD)) (t_Walk_leave_1 K))
def t_Walk_leave_3 (K : PySem.W.Frag) : TS := (tIfS (tB (tMeth (clsAt K "Walk") "ended" (sp_Run_ended K) [] E0 (tVar 0) tNil)) (sFld K (tVar 0) (tVar 1) "outcome") (tSeq (tAsg (tOp (rIx K) (tFld K (tVar 0) "opened") (tUn rNeg (tC (.int 1)))) (gName 2)) (t_Walk_leave_2 K)))
def t_Walk_leave (K : PySem.W.Frag) : TS := (tSeq (tDrop (tBM0 K "list" rPop (tFld K (tVar 0) "opened"))) (t_Walk_leave_3 K))
abbrev PS_Walk_work : List Str := ["self", "frame", "row", "taken"]
abbrev N_Walk_work : List Str := ["self", "frame", "row", "taken", "to"]
def t_Walk_work_1 (K : PySem.W.Frag) : TS := (tDrop (tMeth (clsAt K "Walk") "go_on" (sp_Walk_go_on K) [] E0 (tVar 0) (tCons (tVar 1) (tCons (tVar 4) tNil))))
def t_Walk_work_2 (K : PySem.W.Frag) : TS := (tSeq (tIfS (tTest (tOp (rEqG K) (tOp (rIx K) (tVar 2) (tC (.int 0))) (tC (.str "num")))) (tAsg (tOp (rIx K) (tVar 2) (tC (.int 2))) (gSub (tFld K (tVar 1) "names") (tOp (rIx K) (tVar 2) (tC (.int 1))) rSetD)) (tIfS (tTest (tOp (rEqG K) (tOp (rIx K) (tVar 2) (tC (.int 0))) (tC (.str "op")))) (tAsg (tCall (sp_p_worth K) [] E0 (tCons (tOp (rIx K) (tVar 2) (tC (.int 2))) (tCons (tOp (rIx K) (tVar 3) (tC (.int 0))) (tCons (tOp (rIx K) (tVar 3) (tC (.int 1))) tNil)))) (gSub (tFld K (tVar 1) "names") (tOp (rIx K) (tVar 2) (tC (.int 1))) rSetD)) (tIfS (tTest (tOp (rEqG K) (tOp (rIx K) (tVar 2) (tC (.int 0))) (tC (.str "say")))) (tDrop (tBM K "list" rAppend (tFld K (tVar 0) "spoken") (tCons (tOp (rIx K) (tVar 3) (tC (.int 0))) tNil))) (tIfS (tAnd (tTest (tOp (rEqG K) (tOp (rIx K) (tVar 2) (tC (.int 0))) (tC (.str "test")))) (tTest (tOp (rNeG K) (tOp (rIx K) (tVar 3) (tC (.int 0))) (tC (.int 0))))) (tAsg (tCall (sp_p_goal K) [] E0 (tCons (tVar 2) tNil)) (gName 4)) tNext)))) (t_Walk_work_1 K))
def t_Walk_work (K : PySem.W.Frag) : TS := (tSeq (tAsg (tOp (rPlus K) (tFld K (tVar 1) "row") (tC (.int 1))) (gName 4)) (t_Walk_work_2 K))
abbrev PS_Walk_go_on : List Str := ["self", "frame", "to"]
abbrev N_Walk_go_on : List Str := ["self", "frame", "to"]
def t_Walk_go_on (K : PySem.W.Frag) : TS := (sFld K (tVar 1) (tCall (sp_p_stands K) [] E0 (tCons (tOp (rIx K) (tOp (rIx K) (tFld K (tVar 0) "program") (tFld K (tVar 1) "part")) (tC (.int 2))) (tCons (tVar 2) tNil))) "row")
abbrev PS_p_run : List Str := ["program", "part", "args", "most"]
abbrev N_p_run : List Str := ["program", "part", "args", "most"]
def t_p_run (K : PySem.W.Frag) : TS := (tRet (tCall (sp_p_stepped K) [] E0 (tCons (tMake (clsAt K "Walk") (sp_Walk_init K) [] E0 (tCons (tVar 0) (tCons (tVar 1) (tCons (tVar 2) tNil)))) (tCons (tVar 3) tNil))))
end Bg
end
section
set_option Elab.async false
set_option linter.all false
set_option maxRecDepth 100000
set_option maxHeartbeats 4000000
namespace L2
open PySem PySem.Spec PyProof.Rows
section
variable {X : Cx}
end
end L2
end
section
set_option Elab.async false
set_option linter.all false
set_option maxRecDepth 100000
set_option maxHeartbeats 4000000
namespace L2
open PySem PySem.Spec PyProof.Rows
section
variable {X : Cx} {pins : List (Addr × Obj)} {σ : St} {H : Hp} {s : Shared} {d : Addr} {kvs : List (Key × V)} {u u' : HO}
end
section
variable {X : Cx} {tg : Expr}
end
end L2
end
section
set_option Elab.async false
set_option linter.all false
set_option maxRecDepth 100000
set_option maxHeartbeats 4000000
namespace PySem
open Sem (wp)
section
variable {prog : Program} {w : World} {A : Around} {R : Result → Shared → Prop} {K : Type} [DecidableEq K] {knd : KeyKind prog w K}
end
section
variable {prog : Program} {w : World} {A : Around} {E : Value → Shared → Prop} {s : Shared} {K : Type} [DecidableEq K] {knd : KeyKind prog w K}
end
end PySem
end
section
set_option Elab.async false
set_option linter.all false
set_option maxRecDepth 100000
set_option maxHeartbeats 4000000
namespace L2
open PySem PySem.Spec PyProof.Rows
section
variable {X : Cx}
end
end L2
end
section
set_option Elab.async false
set_option linter.all false
set_option maxRecDepth 100000
set_option maxHeartbeats 4000000
namespace L2
open PySem PySem.Spec PyProof.Rows
section
variable {X : Cx}
end
end L2
end
section
set_option Elab.async false
set_option linter.all false
set_option maxRecDepth 100000
set_option maxHeartbeats 4000000
namespace L2
open PySem PySem.Spec PyProof.Rows
section
variable {X : Cx} {tg : Expr}
end
end L2
end
section
set_option Elab.async false
set_option linter.all false
set_option maxRecDepth 100000
set_option maxHeartbeats 4000000
namespace L2
open PySem PySem.Spec PyProof.Rows
section
variable {X : Cx} {tg l o e f : Expr} {tl td ty tx : TE} {apos cpos : Pos}
end
end L2
end
section
set_option Elab.async false
set_option linter.all false
set_option maxRecDepth 100000
set_option maxHeartbeats 4000000
namespace L2
open PySem PySem.Spec PyProof.Rows
section
variable {X : Cx} {elts : List Expr} {k : Nat} {tpos : Pos}
end
end L2
end
section
set_option Elab.async false
set_option linter.all false
set_option maxRecDepth 100000
set_option maxHeartbeats 4000000
namespace PySem.SeqAt
open AutoSeq1 (wpAny_loadPart')
open MeetsSeq MeetsSeq2 MeetsSeq3 SeqRoads2
end PySem.SeqAt
namespace L2
open PySem PySem.Spec PyProof.Rows
section
variable {X : Cx} {o e : Expr} {es : List Expr} {to ta tb : TE} {t : TA} {apos cpos : Pos}
end
structure BaseOk (P : Program) (w : World) (K : PySem.W.Frag) (mg : Str → Option Value) (base : Heap) (x : Str) (C : Addr) (m : Str) (ps : List Str) (k : Nat) (sp : Sp) : Prop where
  ex : ∃ (f : Addr) (fd : FuncData), mg x = some (.ref C) ∧ PySem.W.specialIn K (.ref C) "__getattribute__" = some (some (.builtin "type.__getattribute__")) ∧ PySem.W.readsIn K C (.type "type") = true ∧ PySem.W.findCls K (.ref C) (.type "type") m = some (.val (.ref f)) ∧
    PySem.W.keepIn K (.ref f) = true ∧ Binds K fd ps [] ∧ FnOk P w K mg base CX0 k f fd ps sp
section
variable {X : Cx} {C : Addr} {m x : Str} {ps : List Str} {k : Nat} {sp : Sp} {e : Expr} {es : List Expr} {t : TA} {p pos apos : Pos}
theorem pe_base {pl : Sem Bool} (M : BaseOk X.prog X.w X.K X.mg X.base x C m ps k sp) (hr : Room k X.A) (hg : Gl X x) (ha : PA X (e :: es) t) (hdb : (x == ("__debug__" : Str)) = false := by decide)
    (hst : starEach (e :: es) X.env = (false, eval e X.env) :: starEach es X.env := by rfl) (hpl : (backTo pos (starEach es X.env)).any (·.1) = false := by rfl)
    (ht : eval (.Call (.Attribute (.Name x p) m apos) (e :: es) [] pos) X.env = (do
      let ov ← eval (.Name x p) X.env
      standAt apos.atName
      let (f, first) ← holding [ov] (getMethod ov m pl)
      callWith pos f first (backTo pos (starEach (e :: es) X.env)) (backToKw pos (keywordEach [] X.env))) := by rfl) :
    PE X (.Call (.Attribute (.Name x p) m apos) (e :: es) [] pos) (tCall sp [] E0 t) := by
  obtain ⟨f, fd, hm, hga, hrd, hf, hk, hb, F⟩ := M.ex
  intro pins s σ H Q I h
  refine PySem.W.methodCall_KW (pl := pl) (ld_glob I hg hm ?_ hdb) ht
  refine PySem.W.method_cls I.kIn hga (PySem.W.cls_value I.kIn hrd hf rfl ?_)
  have I1 := I.tok (s.toks + 1)
  refine PySem.W.callWith_K (first := []) (h₀ := X.base) I.ok.mod.kin hk (thn (ha pos pins _ σ H _ I1 h) fun us s2 ⟨vs, H2, I2, r, q2⟩ => ⟨I2.kIn, ?_⟩) hst hpl
  exact run_fn F hr hb .nil pass0 I2 r q2
theorem qe_base {pl : Sem Bool} (M : BaseOk X.prog X.w X.K X.mg X.base x C m ps k sp) (hr : Room k X.A) (hg : Gl X x) (ha : QA X (e :: es) t) (hdb : (x == ("__debug__" : Str)) = false := by decide)
    (hst : starEach (e :: es) X.env = (false, eval e X.env) :: starEach es X.env := by rfl) (hpl : (backTo pos (starEach es X.env)).any (·.1) = false := by rfl)
    (ht : eval (.Call (.Attribute (.Name x p) m apos) (e :: es) [] pos) X.env = (do
      let ov ← eval (.Name x p) X.env
      standAt apos.atName
      let (f, first) ← holding [ov] (getMethod ov m pl)
      callWith pos f first (backTo pos (starEach (e :: es) X.env)) (backToKw pos (keywordEach [] X.env))) := by rfl) :
    QE X (.Call (.Attribute (.Name x p) m apos) (e :: es) [] pos) (tCall sp [] E0 t) := ⟨pe_base (pl := pl) M hr hg ha.up hdb hst hpl ht⟩
end
end L2
end
section
set_option Elab.async false
set_option linter.all false
set_option maxRecDepth 100000
set_option maxHeartbeats 4000000
namespace Bg
open PySem PySem.Spec PyProof.Rows L2
def top (i : Nat) : Stmt := PySem.Challenge.pw_beltgarth_k33_loops_and_calls_of_themsel.main.body.getD i (.Pass ⟨0, 0, 0, 0⟩)
abbrev s_p_reads : Stmt := top 1
theorem sc_p_reads : FnScope N_p_reads PS_p_reads (defScope s_p_reads) := ⟨rfl, rfl, rfl, by decide +kernel, rfl, by decide +kernel, by decide +kernel⟩
abbrev s_p_sets : Stmt := top 2
theorem sc_p_sets : FnScope N_p_sets PS_p_sets (defScope s_p_sets) := ⟨rfl, rfl, rfl, by decide +kernel, rfl, by decide +kernel, by decide +kernel⟩
abbrev s_p_goal : Stmt := top 3
theorem sc_p_goal : FnScope N_p_goal PS_p_goal (defScope s_p_goal) := ⟨rfl, rfl, rfl, by decide +kernel, rfl, by decide +kernel, by decide +kernel⟩
abbrev s_p_stands : Stmt := top 4
theorem sc_p_stands : FnScope N_p_stands PS_p_stands (defScope s_p_stands) := ⟨rfl, rfl, rfl, by decide +kernel, rfl, by decide +kernel, by decide +kernel⟩
abbrev s_Run_init : Stmt := inCls (top 6) 0
theorem sc_Run_init : FnScope N_Run_init PS_Run_init (defScope s_Run_init) := ⟨rfl, rfl, rfl, by decide +kernel, rfl, by decide +kernel, by decide +kernel⟩
abbrev s_Run_said : Stmt := inCls (top 6) 1
theorem sc_Run_said : FnScope N_Run_said PS_Run_said (defScope s_Run_said) := ⟨rfl, rfl, rfl, by decide +kernel, rfl, by decide +kernel, by decide +kernel⟩
abbrev s_Run_answer : Stmt := inCls (top 6) 2
theorem sc_Run_answer : FnScope N_Run_answer PS_Run_answer (defScope s_Run_answer) := ⟨rfl, rfl, rfl, by decide +kernel, rfl, by decide +kernel, by decide +kernel⟩
abbrev s_Run_ended : Stmt := inCls (top 6) 3
theorem sc_Run_ended : FnScope N_Run_ended PS_Run_ended (defScope s_Run_ended) := ⟨rfl, rfl, rfl, by decide +kernel, rfl, by decide +kernel, by decide +kernel⟩
abbrev s_p_stepped : Stmt := top 7
theorem sc_p_stepped : FnScope N_p_stepped PS_p_stepped (defScope s_p_stepped) := ⟨rfl, rfl, rfl, by decide +kernel, rfl, by decide +kernel, by decide +kernel⟩
abbrev s_p_worth : Stmt := top 9
theorem sc_p_worth : FnScope N_p_worth PS_p_worth (defScope s_p_worth) := ⟨rfl, rfl, rfl, by decide +kernel, rfl, by decide +kernel, by decide +kernel⟩
abbrev s_p_unbounded : Stmt := top 10
theorem sc_p_unbounded : FnScope N_p_unbounded PS_p_unbounded (defScope s_p_unbounded) := ⟨rfl, rfl, rfl, by decide +kernel, rfl, by decide +kernel, by decide +kernel⟩
abbrev s_Frame_init : Stmt := inCls (top 12) 0
theorem sc_Frame_init : FnScope N_Frame_init PS_Frame_init (defScope s_Frame_init) := ⟨rfl, rfl, rfl, by decide +kernel, rfl, by decide +kernel, by decide +kernel⟩
abbrev s_Walk_init : Stmt := inCls (top 13) 0
theorem sc_Walk_init : FnScope N_Walk_init PS_Walk_init (defScope s_Walk_init) := ⟨rfl, rfl, rfl, by decide +kernel, rfl, by decide +kernel, by decide +kernel⟩
abbrev s_Walk_step : Stmt := inCls (top 13) 1
theorem sc_Walk_step : FnScope N_Walk_step PS_Walk_step (defScope s_Walk_step) := ⟨rfl, rfl, rfl, by decide +kernel, rfl, by decide +kernel, by decide +kernel⟩
abbrev s_Walk_enter : Stmt := inCls (top 13) 3
theorem sc_Walk_enter : FnScope N_Walk_enter PS_Walk_enter (defScope s_Walk_enter) := ⟨rfl, rfl, rfl, by decide +kernel, rfl, by decide +kernel, by decide +kernel⟩
abbrev s_Walk_leave : Stmt := inCls (top 13) 4
theorem sc_Walk_leave : FnScope N_Walk_leave PS_Walk_leave (defScope s_Walk_leave) := ⟨rfl, rfl, rfl, by decide +kernel, rfl, by decide +kernel, by decide +kernel⟩
abbrev s_Walk_work : Stmt := inCls (top 13) 5
theorem sc_Walk_work : FnScope N_Walk_work PS_Walk_work (defScope s_Walk_work) := ⟨rfl, rfl, rfl, by decide +kernel, rfl, by decide +kernel, by decide +kernel⟩
abbrev s_Walk_go_on : Stmt := inCls (top 13) 6
theorem sc_Walk_go_on : FnScope N_Walk_go_on PS_Walk_go_on (defScope s_Walk_go_on) := ⟨rfl, rfl, rfl, by decide +kernel, rfl, by decide +kernel, by decide +kernel⟩
abbrev s_p_run : Stmt := top 14
theorem sc_p_run : FnScope N_p_run PS_p_run (defScope s_p_run) := ⟨rfl, rfl, rfl, by decide +kernel, rfl, by decide +kernel, by decide +kernel⟩
abbrev s_draw : Stmt := top 16
theorem sc_draw : FnScope N_draw PS_draw (defScope s_draw) := ⟨rfl, rfl, rfl, by decide +kernel, rfl, by decide +kernel, by decide +kernel⟩
abbrev s_names : Stmt := top 17
theorem sc_names : FnScope N_names PS_names (defScope s_names) := ⟨rfl, rfl, rfl, by decide +kernel, rfl, by decide +kernel, by decide +kernel⟩
abbrev s_worth : Stmt := top 18
theorem sc_worth : FnScope N_worth PS_worth (defScope s_worth) := ⟨rfl, rfl, rfl, by decide +kernel, rfl, by decide +kernel, by decide +kernel⟩
abbrev s_loop : Stmt := top 19
abbrev PS_loop : List Str := ["_law_names_here", "_law_begin", "_law_more"]
abbrev N_loop : List Str := ["_law_names_here", "_law_begin", "_law_more", "_law_s", "_law_c", "_law_one", "_law_n", "_law_rows"]
def t_loop_1 (K : PySem.W.Frag) : TS := (tRet (tTup (tCons (tC (.str "loop")) (tCons (tTup (tCons (tVar 6) tNil)) (tCons (tVar 7) tNil)))))
def t_loop_2 (K : PySem.W.Frag) : TS := (tSeq (tAsg (tOp (rPlusW K) (tVar 7) (tTup (tCons (tTup (tCons (tC (.str "test")) (tCons (tVar 6) (tCons (tC (.int 4)) tNil)))) (tCons (tTup (tCons (tC (.str "say")) (tCons (tVar 4) tNil))) (tCons (tTup (tCons (tC (.str "give")) (tCons (tVar 3) tNil))) tNil))))) (gName 7)) (t_loop_1 K))
def t_loop_3 (K : PySem.W.Frag) : TS := (tSeq (tAsg (tOp (rPlusW K) (tVar 7) (tTup (tCons (tTup (tCons (tC (.str "op")) (tCons (tVar 3) (tCons (tC (.str "+")) (tCons (tVar 3) (tCons (tVar 4) tNil)))))) (tCons (tTup (tCons (tC (.str "op")) (tCons (tVar 6) (tCons (tC (.str "-")) (tCons (tVar 6) (tCons (tVar 5) tNil)))))) (tCons (tTup (tCons (tC (.str "jump")) (tCons (tC (.int 7)) tNil))) tNil))))) (gName 7)) (t_loop_2 K))
def t_loop_4 (K : PySem.W.Frag) : TS := (tSeq (tAsg (tTup (tCons (tTup (tCons (tC (.str "num")) (tCons (tVar 3) (tCons (tVar 1) tNil)))) (tCons (tTup (tCons (tC (.str "num")) (tCons (tVar 4) (tCons (tVar 2) tNil)))) (tCons (tTup (tCons (tC (.str "num")) (tCons (tVar 5) (tCons (tC (.int 1)) tNil)))) (tCons (tTup (tCons (tC (.str "jump")) (tCons (tC (.int 7)) tNil))) tNil))))) (gName 7)) (t_loop_3 K))
def t_loop (K : PySem.W.Frag) : TS := (tSeq (tAsg (tSl (rSlW K) (tVar 0) tNoPart (tPart (tC (.int 4)))) (gTup K 4 (gCons (gName 3) (gCons (gName 4) (gCons (gName 5) (gCons (gName 6) gNil)))))) (t_loop_4 K))
theorem sc_loop : FnScope N_loop PS_loop (defScope s_loop) := ⟨rfl, rfl, rfl, by decide +kernel, rfl, by decide +kernel, by decide +kernel⟩
abbrev s_self : Stmt := top 20
abbrev PS_self : List Str := ["_law_names_here"]
abbrev N_self : List Str := ["_law_names_here", "_law_s", "_law_one", "_law_n", "_law_rows"]
def t_self_1 (K : PySem.W.Frag) : TS := (tRet (tTup (tCons (tC (.str "self")) (tCons (tTup (tCons (tVar 3) tNil)) (tCons (tOp (rPlus K) (tVar 4) (tTup (tCons (tTup (tCons (tC (.str "op")) (tCons (tVar 3) (tCons (tC (.str "+")) (tCons (tVar 1) (tCons (tVar 3) tNil)))))) (tCons (tTup (tCons (tC (.str "give")) (tCons (tVar 3) tNil))) tNil)))) tNil)))))
def t_self_2 (K : PySem.W.Frag) : TS := (tSeq (tAsg (tOp (rPlus K) (tVar 4) (tTup (tCons (tTup (tCons (tC (.str "op")) (tCons (tVar 2) (tCons (tC (.str "-")) (tCons (tVar 3) (tCons (tVar 2) tNil)))))) (tCons (tTup (tCons (tC (.str "call")) (tCons (tVar 1) (tCons (tC (.int 1)) (tCons (tTup (tCons (tVar 2) tNil)) tNil))))) tNil)))) (gName 4)) (t_self_1 K))
def t_self_3 (K : PySem.W.Frag) : TS := (tSeq (tAsg (tTup (tCons (tTup (tCons (tC (.str "test")) (tCons (tVar 3) (tCons (tC (.int 2)) tNil)))) (tCons (tTup (tCons (tC (.str "give")) (tCons (tVar 3) tNil))) (tCons (tTup (tCons (tC (.str "num")) (tCons (tVar 2) (tCons (tC (.int 1)) tNil)))) tNil)))) (gName 4)) (t_self_2 K))
def t_self (K : PySem.W.Frag) : TS := (tSeq (tAsg (tSl (rSl K) (tVar 0) tNoPart (tPart (tC (.int 3)))) (gTup K 3 (gCons (gName 1) (gCons (gName 2) (gCons (gName 3) gNil))))) (t_self_3 K))
theorem sc_self : FnScope N_self PS_self (defScope s_self) := ⟨rfl, rfl, rfl, by decide +kernel, rfl, by decide +kernel, by decide +kernel⟩
abbrev s_right : Stmt := top 21
abbrev PS_right : List Str := ["_law_program", "_law_k", "_law_many", "_law_answer", "_law_words", "_law_steps", "_law_budget"]
abbrev N_right : List Str := ["_law_program", "_law_k", "_law_many", "_law_answer", "_law_words", "_law_steps", "_law_budget", "_law_due", "_law_most", "_law_found"]
def t_right_1 (K : PySem.W.Frag) : TS := (tRet (tOp (rEqG K) (tOp (rIx K) (tVar 9) (tC (.int 1))) (tSl (rSl K) (tVar 4) tNoPart (tPart (tCB (rLen K) (tCons (tOp (rIx K) (tVar 9) (tC (.int 1))) tNil))))))
def t_right_2 (K : PySem.W.Frag) : TS := (tSeq (tIfS (tOr (tTest (tOp (rNeG K) (tOp (rIx K) (tVar 9) (tC (.int 0))) (tC (.str "spent")))) (tTest (tOp (rNeG K) (tSl (rSl K) (tVar 9) (tPart (tC (.int 2))) tNoPart) (tTup (tCons (tC .non) (tCons (tVar 6) tNil)))))) (tRet (tC (.bl false))) tNext) (t_right_1 K))
def t_right_3 (K : PySem.W.Frag) : TS := (tSeq (tIfS (tTest (tOp (rGe2) (tVar 6) (tVar 5))) (tRet (tOp (rEqD K false) (tVar 9) (tVar 7))) tNext) (t_right_2 K))
def t_right_4 (K : PySem.W.Frag) : TS := (tSeq (tAsg (tCall (sp_p_run K) [] E0 (tCons (tVar 0) (tCons (tVar 1) (tCons (tLst (tCons (tVar 2) tNil)) (tCons (tVar 6) tNil))))) (gName 9)) (t_right_3 K))
def t_right_5 (K : PySem.W.Frag) : TS := (tIfS (tTest (tOp (rEqD K true) (tCall (sp_p_run K) [] E0 (tCons (tVar 0) (tCons (tVar 1) (tCons (tLst (tCons (tVar 2) tNil)) (tCons (tVar 8) tNil))))) (tVar 7))) (tRet (tC (.bl false))) tNext)
def t_right_6 (K : PySem.W.Frag) : TS := (tSeq (tFor (iSeq K (tTup (tCons (tVar 5) (tCons (tC (.int 1000)) tNil)))) (gName 8) (t_right_5 K)) (t_right_4 K))
def t_right (K : PySem.W.Frag) : TS := (tSeq (tAsg (tTup (tCons (tC (.str "given")) (tCons (tVar 4) (tCons (tVar 3) (tCons (tVar 5) tNil))))) (gName 7)) (t_right_6 K))
theorem sc_right : FnScope N_right PS_right (defScope s_right) := ⟨rfl, rfl, rfl, by decide +kernel, rfl, by decide +kernel, by decide +kernel⟩
abbrev s_law : Stmt := top 22
abbrev PS_law : List Str := ["_law_script"]
abbrev N_law : List Str := ["_law_script", "_law_state", "_law_names_here", "_law_begin", "_law_more", "_law_ever", "_law_program", "_law_many", "_law_answer", "_law_budget"]
def t_law_1 (K : PySem.W.Frag) : TS := (tRet (tCall (sp_right K) [] E0 (tCons (tVar 6) (tCons (tC (.int 1)) (tCons (tVar 7) (tCons (tVar 8) (tCons (tLst tNil) (tCons (tOp (rPlus K) (tOp (rTimes K) (tC (.int 6)) (tVar 7)) (tC (.int 2))) (tCons (tVar 9) tNil)))))))))
def t_law_2 (K : PySem.W.Frag) : TS := (tSeq (tAsg (tCall (sp_draw K) [] E0 (tCons (tVar 1) (tCons (tOp (rPlus K) (tOp (rTimes K) (tC (.int 6)) (tVar 7)) (tC (.int 4))) tNil))) (gName 9)) (t_law_1 K))
def t_law_3 (K : PySem.W.Frag) : TS := (tSeq (tAsg (tOp (rFdiv2) (tOp (rTimes K) (tVar 7) (tOp (rPlus K) (tVar 7) (tC (.int 1)))) (tC (.int 2))) (gName 8)) (t_law_2 K))
def t_law_4 (K : PySem.W.Frag) : TS := (tSeq (tAsg (tCall (sp_draw K) [] E0 (tCons (tVar 1) (tCons (tC (.int 91)) tNil))) (gName 7)) (t_law_3 K))
def t_law_5 (K : PySem.W.Frag) : TS := (tSeq (tIfS (tNot (tB (tCall (sp_right K) [] E0 (tCons (tVar 6) (tCons (tC (.int 0)) (tCons (tVar 7) (tCons (tVar 8) (tCons (tLst (tCons (tVar 4) tNil)) (tCons (tOp (rPlus K) (tC (.int 6)) (tOp (rTimes K) (tC (.int 3)) (tVar 7))) (tCons (tVar 9) tNil)))))))))) (tRet (tC (.bl false))) tNext) (t_law_4 K))
def t_law_6 (K : PySem.W.Frag) : TS := (tSeq (tAsg (tCall (sp_draw K) [] E0 (tCons (tVar 1) (tCons (tC (.int 1001)) tNil))) (gName 9)) (t_law_5 K))
def t_law_7 (K : PySem.W.Frag) : TS := (tSeq (tAsg (tOp (rMod2) (tOp (rPlus K) (tVar 3) (tOp (rTimes K) (tVar 7) (tVar 4))) (tOp (rPow2) (tC (.int 2)) (tC (.int 64)))) (gName 8)) (t_law_6 K))
def t_law_8 (K : PySem.W.Frag) : TS := (tSeq (tAsg (tCall (sp_draw K) [] E0 (tCons (tVar 1) (tCons (tC (.int 201)) tNil))) (gName 7)) (t_law_7 K))
def t_law_9 (K : PySem.W.Frag) : TS := (tSeq (tIfS (tTest (tOp (rEqD K true) (tCall (sp_p_run K) [] E0 (tCons (tVar 6) (tCons (tC (.int 2)) (tCons (tLst (tCons (tVar 3) tNil)) (tCons (tC (.int 1000)) tNil))))) (tTup (tCons (tC (.str "spent")) (tCons (tLst tNil) (tCons (tC .non) (tCons (tC (.int 1000)) tNil))))))) (tRet (tC (.bl false))) tNext) (t_law_8 K))
def t_law_10 (K : PySem.W.Frag) : TS := (tSeq (tAsg (tTup (tCons (tCall (sp_loop K) [] E0 (tCons (tVar 2) (tCons (tVar 3) (tCons (tVar 4) tNil)))) (tCons (tCall (sp_self K) [] E0 (tCons (tVar 2) tNil)) (tCons (tVar 5) tNil)))) (gName 6)) (t_law_9 K))
def t_law_11 (K : PySem.W.Frag) : TS := (tSeq (tAsg (tTup (tCons (tC (.str "ever")) (tCons (tSl (rSl K) (tVar 2) tNoPart (tPart (tC (.int 1)))) (tCons (tTup (tCons (tTup (tCons (tC (.str "call")) (tCons (tOp (rIx K) (tVar 2) (tC (.int 1))) (tCons (tC (.int 2)) (tCons (tSl (rSl K) (tVar 2) tNoPart (tPart (tC (.int 1)))) tNil))))) (tCons (tTup (tCons (tC (.str "give")) (tCons (tOp (rIx K) (tVar 2) (tC (.int 1))) tNil))) tNil))) tNil)))) (gName 5)) (t_law_10 K))
def t_law_12 (K : PySem.W.Frag) : TS := (tSeq (tAsg (tCall (sp_worth K) [] E0 (tCons (tVar 1) tNil)) (gName 4)) (t_law_11 K))
def t_law_13 (K : PySem.W.Frag) : TS := (tSeq (tAsg (tCall (sp_worth K) [] E0 (tCons (tVar 1) tNil)) (gName 3)) (t_law_12 K))
def t_law_14 (K : PySem.W.Frag) : TS := (tSeq (tAsg (tCB (rTupleOf K) (tCons (tCall (sp_names K) [] E0 (tCons (tVar 1) (tCons (tC (.int 4)) tNil))) tNil)) (gName 2)) (t_law_13 K))
def t_law (K : PySem.W.Frag) : TS := (tSeq (tAsg (tLst (tCons (tVar 0) (tCons (tC (.int 0)) (tCons (tC (.int 0)) tNil)))) (gName 1)) (t_law_14 K))
theorem sc_law : FnScope N_law PS_law (defScope s_law) := ⟨rfl, rfl, rfl, by decide +kernel, rfl, by decide +kernel, by decide +kernel⟩
end Bg
end
section
set_option Elab.async false
set_option linter.all false
set_option maxRecDepth 100000
set_option maxHeartbeats 4000000
namespace Bg
open PySem PySem.Spec PyProof.Rows L2
theorem d_Frame_init {P : Program} {w : World} {K : PySem.W.Frag} {mg : Str → Option Value} {base : Heap} {f : Addr} {cdv : Value} {A : Around} {outer : List Env} {s : Shared} {H : Hp} {E : XK} (B : Blt mg)  
    (hr : Room k_Frame_init (A.deeper (envOfC "Frame.__init__" (defScope s_Frame_init) s.heap.objs.size f cdv))) : PSs (cxOf CX0 P w K mg base N_Frame_init "Frame.__init__" (defScope s_Frame_init) f cdv A outer s H E).nox (defBody s_Frame_init) (t_Frame_init K) := by
  have nd := sc_Frame_init.nd
  have hu := hr.units0
  have hu1 := hu_of hr
  exact (show QSs (cxOf CX0 P w K mg base N_Frame_init "Frame.__init__" (defScope s_Frame_init) f cdv A outer s H E).nox (defBody s_Frame_init) (t_Frame_init K) from (qss_cons (qs_fld (qv 0) (qv 1) rfl) (qss_cons (qs_fld (qv 0) (qv 2) rfl) (qss_one (qs_fld (qv 0) (qv 3) rfl))))).up
end Bg
end
section
set_option Elab.async false
set_option linter.all false
set_option maxRecDepth 100000
set_option maxHeartbeats 4000000
namespace Bg
open PySem PySem.Spec PyProof.Rows L2
theorem d_p_goal {P : Program} {w : World} {K : PySem.W.Frag} {mg : Str → Option Value} {base : Heap} {f : Addr} {cdv : Value} {A : Around} {outer : List Env} {s : Shared} {H : Hp} {E : XK} (B : Blt mg)  
    (hr : Room k_p_goal (A.deeper (envOfC "goal" (defScope s_p_goal) s.heap.objs.size f cdv))) : PSs (cxOf CX0 P w K mg base N_p_goal "goal" (defScope s_p_goal) f cdv A outer s H E).nox (defBody s_p_goal) (t_p_goal K) := by
  have nd := sc_p_goal.nd
  have hu := hr.units0
  have hu1 := hu_of hr
  exact (show QSs (cxOf CX0 P w K mg base N_p_goal "goal" (defScope s_p_goal) f cdv A outer s H E).nox (defBody s_p_goal) (t_p_goal K) from (qss_cons (qs_if (qt_cmpR (op_eqG hu) (qe_ix ix_seq (qv 0) qe_int (fun _ _ => rfl)) qe_str rfl) (qss_one (qs_ret (qe_ix ix_seq (qv 0) qe_int (fun _ _ => rfl)))) qss_nil) (qss_cons (qs_if (qt_cmpR (op_eqG hu) (qe_ix ix_seq (qv 0) qe_int (fun _ _ => rfl)) qe_str rfl) (qss_one (qs_ret (qe_ix ix_seq (qv 0) qe_int (fun _ _ => rfl)))) qss_nil) (qss_one (qs_ret qe_non))))).up
end Bg
end
section
set_option Elab.async false
set_option linter.all false
set_option maxRecDepth 100000
set_option maxHeartbeats 4000000
namespace Bg
open PySem PySem.Spec PyProof.Rows L2
theorem d_p_stands {P : Program} {w : World} {K : PySem.W.Frag} {mg : Str → Option Value} {base : Heap} {f : Addr} {cdv : Value} {A : Around} {outer : List Env} {s : Shared} {H : Hp} {E : XK} (B : Blt mg)  (c_p_goal : Callee P w K mg base "goal" PS_p_goal K_p_goal (sp_p_goal K))
    (hr : Room k_p_stands (A.deeper (envOfC "stands" (defScope s_p_stands) s.heap.objs.size f cdv))) : PSs (cxOf CX0 P w K mg base N_p_stands "stands" (defScope s_p_stands) f cdv A outer s H E).nox (defBody s_p_stands) (t_p_stands K) := by
  have nd := sc_p_stands.nd
  have hu := hr.units0
  have hu1 := hu_of hr
  exact (show QSs (cxOf CX0 P w K mg base N_p_stands "stands" (defScope s_p_stands) f cdv A outer s H E).nox (defBody s_p_stands) (t_p_stands K) from (qss_cons (qs_set (i := 2) nd rfl (Or.inl rfl) (qv 1)) (qss_cons (qs_while PassesOwn.never (qt_cmpR (op_eqG hu) (qe_ix ix_seq (qe_ix ix_seq (qv 0) (qv 2) (fun _ _ => rfl)) qe_int (fun _ _ => rfl)) qe_str rfl) (qss_one (qs_set (i := 2) nd rfl (Or.inl rfl) (qe_fn c_p_goal (hr.mono (by decide)) rfl (qa_cons (qe_ix ix_seq (qv 0) (qv 2) (fun _ _ => rfl)) qa_nil))))) (qss_one (qs_ret (qv 2)))))).up
end Bg
end
section
set_option Elab.async false
set_option linter.all false
set_option maxRecDepth 100000
set_option maxHeartbeats 4000000
namespace Bg
open PySem PySem.Spec PyProof.Rows L2
theorem d_Walk_enter {P : Program} {w : World} {K : PySem.W.Frag} {mg : Str → Option Value} {base : Heap} {f : Addr} {cdv : Value} {A : Around} {outer : List Env} {s : Shared} {H : Hp} {E : XK} (B : Blt mg) (mk_Frame : MakeOk P w K mg base "Frame" (clsAt K "Frame") PS_Frame_init K_Frame_init (sp_Frame_init K)) (c_p_stands : Callee P w K mg base "stands" PS_p_stands K_p_stands (sp_p_stands K))
    (hr : Room k_Walk_enter (A.deeper (envOfC "Walk.enter" (defScope s_Walk_enter) s.heap.objs.size f cdv))) : PSs (cxOf CX0 P w K mg base N_Walk_enter "Walk.enter" (defScope s_Walk_enter) f cdv A outer s H E).nox (defBody s_Walk_enter) (t_Walk_enter K) := by
  have nd := sc_Walk_enter.nd
  have hu := hr.units0
  have hu1 := hu_of hr
  exact (show QSs (cxOf CX0 P w K mg base N_Walk_enter "Walk.enter" (defScope s_Walk_enter) f cdv A outer s H E).nox (defBody s_Walk_enter) (t_Walk_enter K) from (qss_cons (qs_set (i := 3) nd rfl (Or.inl rfl) (qe_ix ix_seq (qe_ix ix_seq (qe_fld (qv 0) rfl) (qv 1) (fun _ _ => rfl)) qe_int (fun _ _ => rfl))) (qss_cons (qs_set (i := 4) nd rfl (Or.inl rfl) (qe_fn c_p_stands (hr.mono (by decide)) rfl (qa_cons (qe_ix ix_seq (qe_ix ix_seq (qe_fld (qv 0) rfl) (qv 1) (fun _ _ => rfl)) qe_int (fun _ _ => rfl)) (qa_cons qe_int qa_nil)))) (qss_one (qs_expr (qe_bm PySem.F.plainAttrs_list PySem.F.slot_list_append PySem.F.type_list_append mt_append (qe_fld (qv 0) rfl) (qa_cons (qe_make mk_Frame (hr.mono (by decide)) rfl (qa_cons (qv 1) (qa_cons (qv 4) (qa_cons (qe_dictZip rfl rfl B.dict_ B.zip_ rfl (qa_cons (qv 3) (qa_cons (qv 2) qa_nil))) qa_nil)))) qa_nil))))))).up
end Bg
end
section
set_option Elab.async false
set_option linter.all false
set_option maxRecDepth 100000
set_option maxHeartbeats 4000000
namespace Bg
open PySem PySem.Spec PyProof.Rows L2
theorem d_Run_init {P : Program} {w : World} {K : PySem.W.Frag} {mg : Str → Option Value} {base : Heap} {f : Addr} {cdv : Value} {A : Around} {outer : List Env} {s : Shared} {H : Hp} {E : XK} (B : Blt mg)  
    (hr : Room k_Run_init (A.deeper (envOfC "Run.__init__" (defScope s_Run_init) s.heap.objs.size f cdv))) : PSs (cxOf CX0 P w K mg base N_Run_init "Run.__init__" (defScope s_Run_init) f cdv A outer s H E).nox (defBody s_Run_init) (t_Run_init K) := by
  have nd := sc_Run_init.nd
  have hu := hr.units0
  have hu1 := hu_of hr
  exact (show QSs (cxOf CX0 P w K mg base N_Run_init "Run.__init__" (defScope s_Run_init) f cdv A outer s H E).nox (defBody s_Run_init) (t_Run_init K) from (qss_cons (qs_fld (qv 0) (qe_lst qa_nil) rfl) (qss_cons (qs_fld (qv 0) (qe_lst qa_nil) rfl) (qss_one (qs_fld (qv 0) qe_non rfl))))).up
end Bg
end
section
set_option Elab.async false
set_option linter.all false
set_option maxRecDepth 100000
set_option maxHeartbeats 4000000
namespace Bg
open PySem PySem.Spec PyProof.Rows L2
theorem d_Walk_init {P : Program} {w : World} {K : PySem.W.Frag} {mg : Str → Option Value} {base : Heap} {f : Addr} {cdv : Value} {A : Around} {outer : List Env} {s : Shared} {H : Hp} {E : XK} (B : Blt mg) (cl_Walk : Cls K (clsAt K "Walk")) (m_Walk_enter : MethOk P w K mg base (clsAt K "Walk") "enter" PS_Walk_enter K_Walk_enter (sp_Walk_enter K)) (b_Run_init : BaseOk P w K mg base "Run" (clsAt K "Run") "__init__" PS_Run_init K_Run_init (sp_Run_init K)) 
    (hr : Room k_Walk_init (A.deeper (envOfC "Walk.__init__" (defScope s_Walk_init) s.heap.objs.size f cdv))) : PSs (cxOf CX0 P w K mg base N_Walk_init "Walk.__init__" (defScope s_Walk_init) f cdv A outer s H E).nox (defBody s_Walk_init) (t_Walk_init K) := by
  have nd := sc_Walk_init.nd
  have hu := hr.units0
  have hu1 := hu_of hr
  exact (show QSs (cxOf CX0 P w K mg base N_Walk_init "Walk.__init__" (defScope s_Walk_init) f cdv A outer s H E).nox (defBody s_Walk_init) (t_Walk_init K) from (qss_cons (qs_expr (qe_base b_Run_init (hr.mono (by decide)) rfl (qa_cons (qv 0) qa_nil))) (qss_cons (qs_fld (qv 0) (qv 1) rfl) (qss_one (qs_expr (qe_meth cl_Walk m_Walk_enter (hr.mono (by decide)) (qv 0) (qa_cons (qv 2) (qa_cons (qv 3) qa_nil)))))))).up
end Bg
end
section
set_option Elab.async false
set_option linter.all false
set_option maxRecDepth 100000
set_option maxHeartbeats 4000000
namespace Bg
open PySem PySem.Spec PyProof.Rows L2
theorem d_Run_said {P : Program} {w : World} {K : PySem.W.Frag} {mg : Str → Option Value} {base : Heap} {f : Addr} {cdv : Value} {A : Around} {outer : List Env} {s : Shared} {H : Hp} {E : XK} (B : Blt mg)  
    (hr : Room k_Run_said (A.deeper (envOfC "Run.said" (defScope s_Run_said) s.heap.objs.size f cdv))) : PSs (cxOf CX0 P w K mg base N_Run_said "Run.said" (defScope s_Run_said) f cdv A outer s H E).nox (defBody s_Run_said) (t_Run_said K) := by
  have nd := sc_Run_said.nd
  have hu := hr.units0
  have hu1 := hu_of hr
  exact (show QSs (cxOf CX0 P w K mg base N_Run_said "Run.said" (defScope s_Run_said) f cdv A outer s H E).nox (defBody s_Run_said) (t_Run_said K) from (qss_one (qs_ret (qe_callTy call_list_of rfl B.list_ boot_list (qa_cons (qe_fld (qv 0) rfl) qa_nil))))).up
end Bg
end
section
set_option Elab.async false
set_option linter.all false
set_option maxRecDepth 100000
set_option maxHeartbeats 4000000
namespace Bg
open PySem PySem.Spec PyProof.Rows L2
theorem d_Run_answer {P : Program} {w : World} {K : PySem.W.Frag} {mg : Str → Option Value} {base : Heap} {f : Addr} {cdv : Value} {A : Around} {outer : List Env} {s : Shared} {H : Hp} {E : XK} (B : Blt mg)  
    (hr : Room k_Run_answer (A.deeper (envOfC "Run.answer" (defScope s_Run_answer) s.heap.objs.size f cdv))) : PSs (cxOf CX0 P w K mg base N_Run_answer "Run.answer" (defScope s_Run_answer) f cdv A outer s H E).nox (defBody s_Run_answer) (t_Run_answer K) := by
  have nd := sc_Run_answer.nd
  have hu := hr.units0
  have hu1 := hu_of hr
  exact (show QSs (cxOf CX0 P w K mg base N_Run_answer "Run.answer" (defScope s_Run_answer) f cdv A outer s H E).nox (defBody s_Run_answer) (t_Run_answer K) from (qss_one (qs_ret (qe_fld (qv 0) rfl)))).up
end Bg
end
section
set_option Elab.async false
set_option linter.all false
set_option maxRecDepth 100000
set_option maxHeartbeats 4000000
namespace Bg
open PySem PySem.Spec PyProof.Rows L2
theorem d_Run_ended {P : Program} {w : World} {K : PySem.W.Frag} {mg : Str → Option Value} {base : Heap} {f : Addr} {cdv : Value} {A : Around} {outer : List Env} {s : Shared} {H : Hp} {E : XK} (B : Blt mg)  
    (hr : Room k_Run_ended (A.deeper (envOfC "Run.ended" (defScope s_Run_ended) s.heap.objs.size f cdv))) : PSs (cxOf CX0 P w K mg base N_Run_ended "Run.ended" (defScope s_Run_ended) f cdv A outer s H E).nox (defBody s_Run_ended) (t_Run_ended K) := by
  have nd := sc_Run_ended.nd
  have hu := hr.units0
  have hu1 := hu_of hr
  exact (show QSs (cxOf CX0 P w K mg base N_Run_ended "Run.ended" (defScope s_Run_ended) f cdv A outer s H E).nox (defBody s_Run_ended) (t_Run_ended K) from (qss_one (qs_ret (qe_cmpR (op_eqG hu) (qe_callB call_len rfl B.len_ boot_len (qa_cons (qe_fld (qv 0) rfl) qa_nil)) qe_int rfl)))).up
end Bg
end
section
set_option Elab.async false
set_option linter.all false
set_option maxRecDepth 100000
set_option maxHeartbeats 4000000
namespace Bg
open PySem PySem.Spec PyProof.Rows L2
theorem d_Walk_go_on {P : Program} {w : World} {K : PySem.W.Frag} {mg : Str → Option Value} {base : Heap} {f : Addr} {cdv : Value} {A : Around} {outer : List Env} {s : Shared} {H : Hp} {E : XK} (B : Blt mg)  (c_p_stands : Callee P w K mg base "stands" PS_p_stands K_p_stands (sp_p_stands K))
    (hr : Room k_Walk_go_on (A.deeper (envOfC "Walk.go_on" (defScope s_Walk_go_on) s.heap.objs.size f cdv))) : PSs (cxOf CX0 P w K mg base N_Walk_go_on "Walk.go_on" (defScope s_Walk_go_on) f cdv A outer s H E).nox (defBody s_Walk_go_on) (t_Walk_go_on K) := by
  have nd := sc_Walk_go_on.nd
  have hu := hr.units0
  have hu1 := hu_of hr
  exact (show QSs (cxOf CX0 P w K mg base N_Walk_go_on "Walk.go_on" (defScope s_Walk_go_on) f cdv A outer s H E).nox (defBody s_Walk_go_on) (t_Walk_go_on K) from (qss_one (qs_fld (qv 1) (qe_fn c_p_stands (hr.mono (by decide)) rfl (qa_cons (qe_ix ix_seq (qe_ix ix_seq (qe_fld (qv 0) rfl) (qe_fld (qv 1) rfl) (fun _ _ => rfl)) qe_int (fun _ _ => rfl)) (qa_cons (qv 2) qa_nil))) rfl))).up
end Bg
end
section
set_option Elab.async false
set_option linter.all false
set_option maxRecDepth 100000
set_option maxHeartbeats 4000000
namespace Bg
open PySem PySem.Spec PyProof.Rows L2
theorem d_p_sets {P : Program} {w : World} {K : PySem.W.Frag} {mg : Str → Option Value} {base : Heap} {f : Addr} {cdv : Value} {A : Around} {outer : List Env} {s : Shared} {H : Hp} {E : XK} (B : Blt mg)  
    (hr : Room k_p_sets (A.deeper (envOfC "sets" (defScope s_p_sets) s.heap.objs.size f cdv))) : PSs (cxOf CX0 P w K mg base N_p_sets "sets" (defScope s_p_sets) f cdv A outer s H E).nox (defBody s_p_sets) (t_p_sets K) := by
  have nd := sc_p_sets.nd
  have hu := hr.units0
  have hu1 := hu_of hr
  exact (show QSs (cxOf CX0 P w K mg base N_p_sets "sets" (defScope s_p_sets) f cdv A outer s H E).nox (defBody s_p_sets) (t_p_sets K) from (qss_cons (qs_if (qt_cmpR op_in_seq (qe_ix ix_seq (qv 0) qe_int (fun _ _ => rfl)) (qe_tup (qa_cons qe_str (qa_cons qe_str (qa_cons qe_str qa_nil)))) rfl) (qss_one (qs_ret (qe_ix ix_seq (qv 0) qe_int (fun _ _ => rfl)))) qss_nil) (qss_one (qs_ret qe_non)))).up
end Bg
end
section
set_option Elab.async false
set_option linter.all false
set_option maxRecDepth 100000
set_option maxHeartbeats 4000000
namespace Bg
open PySem PySem.Spec PyProof.Rows L2
theorem d_Walk_leave {P : Program} {w : World} {K : PySem.W.Frag} {mg : Str → Option Value} {base : Heap} {f : Addr} {cdv : Value} {A : Around} {outer : List Env} {s : Shared} {H : Hp} {E : XK} (B : Blt mg) (cl_Walk : Cls K (clsAt K "Walk")) (m_Walk_ended : MethOk P w K mg base (clsAt K "Walk") "ended" PS_Run_ended K_Run_ended (sp_Run_ended K)) (m_Walk_go_on : MethOk P w K mg base (clsAt K "Walk") "go_on" PS_Walk_go_on K_Walk_go_on (sp_Walk_go_on K)) (c_p_sets : Callee P w K mg base "sets" PS_p_sets K_p_sets (sp_p_sets K))
    (hr : Room k_Walk_leave (A.deeper (envOfC "Walk.leave" (defScope s_Walk_leave) s.heap.objs.size f cdv))) : PSs (cxOf CX0 P w K mg base N_Walk_leave "Walk.leave" (defScope s_Walk_leave) f cdv A outer s H E).nox (defBody s_Walk_leave) (t_Walk_leave K) := by
  have nd := sc_Walk_leave.nd
  have hu := hr.units0
  have hu1 := hu_of hr
  exact (show QSs (cxOf CX0 P w K mg base N_Walk_leave "Walk.leave" (defScope s_Walk_leave) f cdv A outer s H E).nox (defBody s_Walk_leave) (t_Walk_leave K) from (qss_cons (qs_expr (qe_bm0 PySem.F.plainAttrs_list PySem.F.slot_list_pop PySem.F.type_list_pop mt_pop (qe_fld (qv 0) rfl))) (qss_one (qs_if (qt_val (qe_meth0 cl_Walk m_Walk_ended (hr.mono (by decide)) (qv 0))) (qss_one (qs_fld (qv 0) (qv 1) rfl)) (qss_cons (qs_set (i := 2) nd rfl (Or.inl rfl) (qe_ix ix_seq (qe_fld (qv 0) rfl) (qe_un un_neg qe_int) (fun _ _ => rfl))) (qss_cons (qs_asg (qv 1) (qg_sub (qe_fld (qv 2) rfl) (qe_fn c_p_sets (hr.mono (by decide)) rfl (qa_cons (qe_ix ix_seq (qe_ix ix_seq (qe_ix ix_seq (qe_fld (qv 0) rfl) (qe_fld (qv 2) rfl) (fun _ _ => rfl)) qe_int (fun _ _ => rfl)) (qe_fld (qv 2) rfl) (fun _ _ => rfl)) qa_nil)) (set_dict hu1))) (qss_one (qs_expr (qe_meth cl_Walk m_Walk_go_on (hr.mono (by decide)) (qv 0) (qa_cons (qv 2) (qa_cons (qe_op op_plus (qe_fld (qv 2) rfl) qe_int) qa_nil))))))))))).up
end Bg
end
section
set_option Elab.async false
set_option linter.all false
set_option maxRecDepth 100000
set_option maxHeartbeats 4000000
namespace Bg
open PySem PySem.Spec PyProof.Rows L2
theorem d_p_unbounded {P : Program} {w : World} {K : PySem.W.Frag} {mg : Str → Option Value} {base : Heap} {f : Addr} {cdv : Value} {A : Around} {outer : List Env} {s : Shared} {H : Hp} {E : XK} (B : Blt mg)  
    (hr : Room k_p_unbounded (A.deeper (envOfC "unbounded" (defScope s_p_unbounded) s.heap.objs.size f cdv))) : PSs (cxOf CX0 P w K mg base N_p_unbounded "unbounded" (defScope s_p_unbounded) f cdv A outer s H E).nox (defBody s_p_unbounded) (t_p_unbounded K) := by
  have nd := sc_p_unbounded.nd
  have hu := hr.units0
  have hu1 := hu_of hr
  exact (show QSs (cxOf CX0 P w K mg base N_p_unbounded "unbounded" (defScope s_p_unbounded) f cdv A outer s H E).nox (defBody s_p_unbounded) (t_p_unbounded K) from (qss_cons (qs_if (qt_cmpR (op_eqG hu) (qv 0) qe_str rfl) (qss_one (qs_ret (qe_op op_plus (qv 1) (qv 2)))) qss_nil) (qss_cons (qs_if (qt_cmpR (op_eqG hu) (qv 0) qe_str rfl) (qss_one (qs_ret (qe_op op_sub (qv 1) (qv 2)))) qss_nil) (qss_one (qs_ret (qe_op op_times (qv 1) (qv 2))))))).up
end Bg
end
section
set_option Elab.async false
set_option linter.all false
set_option maxRecDepth 100000
set_option maxHeartbeats 4000000
namespace Bg
open PySem PySem.Spec PyProof.Rows L2
theorem d_p_worth {P : Program} {w : World} {K : PySem.W.Frag} {mg : Str → Option Value} {base : Heap} {f : Addr} {cdv : Value} {A : Around} {outer : List Env} {s : Shared} {H : Hp} {E : XK} (B : Blt mg)  (c_p_unbounded : Callee P w K mg base "unbounded" PS_p_unbounded K_p_unbounded (sp_p_unbounded K))
    (hr : Room k_p_worth (A.deeper (envOfC "worth" (defScope s_p_worth) s.heap.objs.size f cdv))) : PSs (cxOf CX0 P w K mg base N_p_worth "worth" (defScope s_p_worth) f cdv A outer s H E).nox (defBody s_p_worth) (t_p_worth K) := by
  have nd := sc_p_worth.nd
  have hu := hr.units0
  have hu1 := hu_of hr
  exact (show QSs (cxOf CX0 P w K mg base N_p_worth "worth" (defScope s_p_worth) f cdv A outer s H E).nox (defBody s_p_worth) (t_p_worth K) from (qss_cons (qs_if (qt_cmpR (op_eqG hu) (qv 0) qe_str rfl) (qss_one (qs_ret (qe_ifExp (qt_cmpR op_lt (qv 1) (qv 2) rfl) qe_int qe_int))) qss_nil) (qss_cons (qs_if (qt_cmpR (op_eqG hu) (qv 0) qe_str rfl) (qss_one (qs_ret (qe_ifExp (qt_cmpR (op_eqG hu) (qv 1) (qv 2) rfl) qe_int qe_int))) qss_nil) (qss_one (qs_ret (qe_op op_mod (qe_fn c_p_unbounded (hr.mono (by decide)) rfl (qa_cons (qv 0) (qa_cons (qv 1) (qa_cons (qv 2) qa_nil)))) (qe_op op_pow qe_int qe_int))))))).up
end Bg
end
section
set_option Elab.async false
set_option linter.all false
set_option maxRecDepth 100000
set_option maxHeartbeats 4000000
namespace Bg
open PySem PySem.Spec PyProof.Rows L2
theorem d_Walk_work {P : Program} {w : World} {K : PySem.W.Frag} {mg : Str → Option Value} {base : Heap} {f : Addr} {cdv : Value} {A : Around} {outer : List Env} {s : Shared} {H : Hp} {E : XK} (B : Blt mg) (cl_Walk : Cls K (clsAt K "Walk")) (m_Walk_go_on : MethOk P w K mg base (clsAt K "Walk") "go_on" PS_Walk_go_on K_Walk_go_on (sp_Walk_go_on K)) (c_p_worth : Callee P w K mg base "worth" PS_p_worth K_p_worth (sp_p_worth K)) (c_p_goal : Callee P w K mg base "goal" PS_p_goal K_p_goal (sp_p_goal K))
    (hr : Room k_Walk_work (A.deeper (envOfC "Walk.work" (defScope s_Walk_work) s.heap.objs.size f cdv))) : PSs (cxOf CX0 P w K mg base N_Walk_work "Walk.work" (defScope s_Walk_work) f cdv A outer s H E).nox (defBody s_Walk_work) (t_Walk_work K) := by
  have nd := sc_Walk_work.nd
  have hu := hr.units0
  have hu1 := hu_of hr
  exact (show QSs (cxOf CX0 P w K mg base N_Walk_work "Walk.work" (defScope s_Walk_work) f cdv A outer s H E).nox (defBody s_Walk_work) (t_Walk_work K) from (qss_cons (qs_set (i := 4) nd rfl (Or.inl rfl) (qe_op op_plus (qe_fld (qv 1) rfl) qe_int)) (qss_cons (qs_if (qt_cmpR (op_eqG hu) (qe_ix ix_seq (qv 2) qe_int (fun _ _ => rfl)) qe_str rfl) (qss_one (qs_asg (qe_ix ix_seq (qv 2) qe_int (fun _ _ => rfl)) (qg_sub (qe_fld (qv 1) rfl) (qe_ix ix_seq (qv 2) qe_int (fun _ _ => rfl)) (set_dict hu1)))) (qss_one (qs_if (qt_cmpR (op_eqG hu) (qe_ix ix_seq (qv 2) qe_int (fun _ _ => rfl)) qe_str rfl) (qss_one (qs_asg (qe_fn c_p_worth (hr.mono (by decide)) rfl (qa_cons (qe_ix ix_seq (qv 2) qe_int (fun _ _ => rfl)) (qa_cons (qe_ix ix_seq (qv 3) qe_int (fun _ _ => rfl)) (qa_cons (qe_ix ix_seq (qv 3) qe_int (fun _ _ => rfl)) qa_nil)))) (qg_sub (qe_fld (qv 1) rfl) (qe_ix ix_seq (qv 2) qe_int (fun _ _ => rfl)) (set_dict hu1)))) (qss_one (qs_if (qt_cmpR (op_eqG hu) (qe_ix ix_seq (qv 2) qe_int (fun _ _ => rfl)) qe_str rfl) (qss_one (qs_expr (qe_bm PySem.F.plainAttrs_list PySem.F.slot_list_append PySem.F.type_list_append mt_append (qe_fld (qv 0) rfl) (qa_cons (qe_ix ix_seq (qv 3) qe_int (fun _ _ => rfl)) qa_nil)))) (qss_one (qs_if (QW.pt (qw_and (qt_cmpR (op_eqG hu) (qe_ix ix_seq (qv 2) qe_int (fun _ _ => rfl)) qe_str rfl) (qw_and1 (qt_cmpR (op_neG hu) (qe_ix ix_seq (qv 3) qe_int (fun _ _ => rfl)) qe_int rfl)))) (qss_one (qs_set (i := 4) nd rfl (Or.inl rfl) (qe_fn c_p_goal (hr.mono (by decide)) rfl (qa_cons (qv 2) qa_nil)))) qss_nil))))))) (qss_one (qs_expr (qe_meth cl_Walk m_Walk_go_on (hr.mono (by decide)) (qv 0) (qa_cons (qv 1) (qa_cons (qv 4) qa_nil)))))))).up
end Bg
end
section
set_option Elab.async false
set_option linter.all false
set_option maxRecDepth 100000
set_option maxHeartbeats 4000000
namespace Bg
open PySem PySem.Spec PyProof.Rows L2
theorem d_p_reads {P : Program} {w : World} {K : PySem.W.Frag} {mg : Str → Option Value} {base : Heap} {f : Addr} {cdv : Value} {A : Around} {outer : List Env} {s : Shared} {H : Hp} {E : XK} (B : Blt mg)  
    (hr : Room k_p_reads (A.deeper (envOfC "reads" (defScope s_p_reads) s.heap.objs.size f cdv))) : PSs (cxOf CX0 P w K mg base N_p_reads "reads" (defScope s_p_reads) f cdv A outer s H E).nox (defBody s_p_reads) (t_p_reads K) := by
  have nd := sc_p_reads.nd
  have hu := hr.units0
  have hu1 := hu_of hr
  exact (show QSs (cxOf CX0 P w K mg base N_p_reads "reads" (defScope s_p_reads) f cdv A outer s H E).nox (defBody s_p_reads) (t_p_reads K) from (qss_cons (qs_set (i := 1) nd rfl (Or.inl rfl) (qe_ix ix_seq (qv 0) qe_int (fun _ _ => rfl))) (qss_cons (qs_if (qt_cmpR (op_eqG hu) (qv 1) qe_str rfl) (qss_one (qs_ret (qe_tup (qa_cons (qe_ix ix_seq (qv 0) qe_int (fun _ _ => rfl)) (qa_cons (qe_ix ix_seq (qv 0) qe_int (fun _ _ => rfl)) qa_nil))))) qss_nil) (qss_cons (qs_if (qt_cmpR (op_eqG hu) (qv 1) qe_str rfl) (qss_one (qs_ret (qe_callTy call_tuple_of rfl B.tuple_ boot_tuple (qa_cons (qe_ix ix_seq (qv 0) qe_int (fun _ _ => rfl)) qa_nil)))) qss_nil) (qss_cons (qs_if (qt_cmpR op_in_seq (qv 1) (qe_tup (qa_cons qe_str (qa_cons qe_str (qa_cons qe_str qa_nil)))) rfl) (qss_one (qs_ret (qe_tup (qa_cons (qe_ix ix_seq (qv 0) qe_int (fun _ _ => rfl)) qa_nil)))) qss_nil) (qss_one (qs_ret (qe_tup qa_nil)))))))).up
end Bg
end
section
set_option Elab.async false
set_option linter.all false
set_option maxRecDepth 100000
set_option maxHeartbeats 4000000
namespace Bg
open PySem PySem.Spec PyProof.Rows L2
theorem d_Walk_step {P : Program} {w : World} {K : PySem.W.Frag} {mg : Str → Option Value} {base : Heap} {f : Addr} {cdv : Value} {A : Around} {outer : List Env} {s : Shared} {H : Hp} {E : XK} (B : Blt mg) (cl_Walk : Cls K (clsAt K "Walk")) (m_Walk_enter : MethOk P w K mg base (clsAt K "Walk") "enter" PS_Walk_enter K_Walk_enter (sp_Walk_enter K)) (m_Walk_leave : MethOk P w K mg base (clsAt K "Walk") "leave" PS_Walk_leave K_Walk_leave (sp_Walk_leave K)) (m_Walk_work : MethOk P w K mg base (clsAt K "Walk") "work" PS_Walk_work K_Walk_work (sp_Walk_work K)) (m_Walk_ended : MethOk P w K mg base (clsAt K "Walk") "ended" PS_Run_ended K_Run_ended (sp_Run_ended K)) (c_p_reads : Callee P w K mg base "reads" PS_p_reads K_p_reads (sp_p_reads K))
    (hr : Room k_Walk_step (A.deeper (envOfC "Walk.step" (defScope s_Walk_step) s.heap.objs.size f cdv))) : PSs (cxOf CX0 P w K mg base N_Walk_step "Walk.step" (defScope s_Walk_step) f cdv A outer s H E).nox (defBody s_Walk_step) (t_Walk_step K) := by
  have nd := sc_Walk_step.nd
  have hu := hr.units0
  have hu1 := hu_of hr
  exact (show QSs (cxOf CX0 P w K mg base N_Walk_step "Walk.step" (defScope s_Walk_step) f cdv A outer s H E).nox (defBody s_Walk_step) (t_Walk_step K) from (qss_cons (qs_if (qt_val (qe_meth0 cl_Walk m_Walk_ended (hr.mono (by decide)) (qv 0))) (qss_one qs_retN) qss_nil) (qss_cons (qs_set (i := 1) nd rfl (Or.inr rfl) (qe_ix ix_seq (qe_fld (qv 0) rfl) (qe_un un_neg qe_int) (fun _ _ => rfl))) (qss_cons (qs_set (i := 2) nd rfl (Or.inl rfl) (qe_ix ix_seq (qe_ix ix_seq (qe_ix ix_seq (qe_fld (qv 0) rfl) (qe_fld (qv 1) rfl) (fun _ _ => rfl)) qe_int (fun _ _ => rfl)) (qe_fld (qv 1) rfl) (fun _ _ => rfl))) (qss_cons (qs_comp (i := 3) (sc := defScope s_Walk_step) (N := N_Walk_step) (NY := ["self", "frame", "row", "taken", "name"]) (js := []) (k := 1) ⟨rfl, by decide +kernel, by decide +kernel, by decide +kernel, rfl, by decide +kernel⟩ rfl rfl rfl rfl (qi_seq (qe_fn c_p_reads (hr.mono (by decide)) rfl (qa_cons (qv 2) qa_nil))) (fun _ _ _ _ _ => (qg_name (i := 4) (show List.Nodup (["self", "frame", "row", "taken", "name"] : List Str) by decide +kernel) rfl (Or.inl rfl))) (fun _ _ _ _ _ => qif_nil) (fun _ _ _ _ _ => (qe_dget hu1 (qe_fld (qv 1) rfl) (qv 4) (fun _ _ => rfl))) nd rfl (Or.inl rfl) rfl) (qss_one (qs_if (qt_cmpR (op_eqG hu) (qe_ix ix_seq (qv 2) qe_int (fun _ _ => rfl)) qe_str rfl) (qss_one (qs_expr (qe_meth cl_Walk m_Walk_enter (hr.mono (by decide)) (qv 0) (qa_cons (qe_ix ix_seq (qv 2) qe_int (fun _ _ => rfl)) (qa_cons (qv 3) qa_nil))))) (qss_one (qs_if (qt_cmpR (op_eqG hu) (qe_ix ix_seq (qv 2) qe_int (fun _ _ => rfl)) qe_str rfl) (qss_one (qs_expr (qe_meth cl_Walk m_Walk_leave (hr.mono (by decide)) (qv 0) (qa_cons (qe_ix ix_seq (qv 3) qe_int (fun _ _ => rfl)) qa_nil)))) (qss_one (qs_expr (qe_meth cl_Walk m_Walk_work (hr.mono (by decide)) (qv 0) (qa_cons (qv 1) (qa_cons (qv 2) (qa_cons (qv 3) qa_nil))))))))))))))).up
end Bg
end
section
set_option Elab.async false
set_option linter.all false
set_option maxRecDepth 100000
set_option maxHeartbeats 4000000
namespace Bg
open PySem PySem.Spec PyProof.Rows L2
theorem d_p_stepped {P : Program} {w : World} {K : PySem.W.Frag} {mg : Str → Option Value} {base : Heap} {f : Addr} {cdv : Value} {A : Around} {outer : List Env} {s : Shared} {H : Hp} {E : XK} (B : Blt mg) (cl_Walk : Cls K (clsAt K "Walk")) (m_Walk_said : MethOk P w K mg base (clsAt K "Walk") "said" PS_Run_said K_Run_said (sp_Run_said K)) (m_Walk_answer : MethOk P w K mg base (clsAt K "Walk") "answer" PS_Run_answer K_Run_answer (sp_Run_answer K)) (m_Walk_ended : MethOk P w K mg base (clsAt K "Walk") "ended" PS_Run_ended K_Run_ended (sp_Run_ended K)) (m_Walk_step : MethOk P w K mg base (clsAt K "Walk") "step" PS_Walk_step K_Walk_step (sp_Walk_step K)) 
    (hr : Room k_p_stepped (A.deeper (envOfC "stepped" (defScope s_p_stepped) s.heap.objs.size f cdv))) : PSs (cxOf CX0 P w K mg base N_p_stepped "stepped" (defScope s_p_stepped) f cdv A outer s H E).nox (defBody s_p_stepped) (t_p_stepped K) := by
  have nd := sc_p_stepped.nd
  have hu := hr.units0
  have hu1 := hu_of hr
  exact (show QSs (cxOf CX0 P w K mg base N_p_stepped "stepped" (defScope s_p_stepped) f cdv A outer s H E).nox (defBody s_p_stepped) (t_p_stepped K) from (qss_cons (qs_set (i := 2) nd rfl (Or.inl rfl) qe_int) (qss_cons (qs_while PassesOwn.never (QW.pt (qw_and (qt_cmpR op_lt (qv 2) (qv 1) rfl) (qw_and1 (qt_not (qt_val (qe_meth0 cl_Walk m_Walk_ended (hr.mono (by decide)) (qv 0))))))) (qss_cons (qs_expr (qe_meth0 cl_Walk m_Walk_step (hr.mono (by decide)) (qv 0))) (qss_one (qs_aug (i := 2) nd rfl (Or.inl rfl) qe_int ip_add)))) (qss_cons (qs_set (i := 3) nd rfl (Or.inl rfl) (qe_ifExp (qt_val (qe_meth0 cl_Walk m_Walk_ended (hr.mono (by decide)) (qv 0))) qe_str qe_str)) (qss_one (qs_ret (qe_tup (qa_cons (qv 3) (qa_cons (qe_meth0 cl_Walk m_Walk_said (hr.mono (by decide)) (qv 0)) (qa_cons (qe_meth0 cl_Walk m_Walk_answer (hr.mono (by decide)) (qv 0)) (qa_cons (qv 2) qa_nil))))))))))).up
end Bg
end
section
set_option Elab.async false
set_option linter.all false
set_option maxRecDepth 100000
set_option maxHeartbeats 4000000
namespace Bg
open PySem PySem.Spec PyProof.Rows L2
theorem d_p_run {P : Program} {w : World} {K : PySem.W.Frag} {mg : Str → Option Value} {base : Heap} {f : Addr} {cdv : Value} {A : Around} {outer : List Env} {s : Shared} {H : Hp} {E : XK} (B : Blt mg) (mk_Walk : MakeOk P w K mg base "Walk" (clsAt K "Walk") PS_Walk_init K_Walk_init (sp_Walk_init K)) (c_p_stepped : Callee P w K mg base "stepped" PS_p_stepped K_p_stepped (sp_p_stepped K))
    (hr : Room k_p_run (A.deeper (envOfC "run" (defScope s_p_run) s.heap.objs.size f cdv))) : PSs (cxOf CX0 P w K mg base N_p_run "run" (defScope s_p_run) f cdv A outer s H E).nox (defBody s_p_run) (t_p_run K) := by
  have nd := sc_p_run.nd
  have hu := hr.units0
  have hu1 := hu_of hr
  exact (show QSs (cxOf CX0 P w K mg base N_p_run "run" (defScope s_p_run) f cdv A outer s H E).nox (defBody s_p_run) (t_p_run K) from (qss_one (qs_ret (qe_fn c_p_stepped (hr.mono (by decide)) rfl (qa_cons (qe_make mk_Walk (hr.mono (by decide)) rfl (qa_cons (qv 0) (qa_cons (qv 1) (qa_cons (qv 2) qa_nil)))) (qa_cons (qv 3) qa_nil)))))).up
end Bg
end
section
set_option Elab.async false
set_option linter.all false
set_option maxRecDepth 100000
set_option maxHeartbeats 4000000
namespace Bg
open PySem PySem.Spec PyProof.Rows L2
theorem d_right {P : Program} {w : World} {K : PySem.W.Frag} {mg : Str → Option Value} {base : Heap} {f : Addr} {cdv : Value} {A : Around} {outer : List Env} {s : Shared} {H : Hp} {E : XK} (B : Blt mg)  (c_p_run : Callee P w K mg base "run" PS_p_run K_p_run (sp_p_run K))
    (hr : Room k_right (A.deeper (envOfC "_law_right" (defScope s_right) s.heap.objs.size f cdv))) : PSs (cxOf CX0 P w K mg base N_right "_law_right" (defScope s_right) f cdv A outer s H E).nox (defBody s_right) (t_right K) := by
  have nd := sc_right.nd
  have hu := hr.units0
  have hu1 := hu_of hr
  exact (show QSs (cxOf CX0 P w K mg base N_right "_law_right" (defScope s_right) f cdv A outer s H E).nox (defBody s_right) (t_right K) from (qss_cons (qs_set (i := 7) nd rfl (Or.inl rfl) (qe_tup (qa_cons qe_str (qa_cons (qv 4) (qa_cons (qv 3) (qa_cons (qv 5) qa_nil)))))) (qss_cons (qs_for PassesOwn.never rfl (qi_seq (qe_tup (qa_cons (qv 5) (qa_cons qe_int qa_nil)))) (qg_name (i := 8) nd rfl (Or.inl rfl)) (qss_one (qs_if (qt_cmpR (op_neD hu1) (qe_fn c_p_run (hr.mono (by decide)) rfl (qa_cons (qv 0) (qa_cons (qv 1) (qa_cons (qe_lst (qa_cons (qv 2) qa_nil)) (qa_cons (qv 8) qa_nil))))) (qv 7) rfl) (qss_one (qs_ret qe_bl)) qss_nil))) (qss_cons (qs_set (i := 9) nd rfl (Or.inl rfl) (qe_fn c_p_run (hr.mono (by decide)) rfl (qa_cons (qv 0) (qa_cons (qv 1) (qa_cons (qe_lst (qa_cons (qv 2) qa_nil)) (qa_cons (qv 6) qa_nil)))))) (qss_cons (qs_if (qt_cmpR op_ge (qv 6) (qv 5) rfl) (qss_one (qs_ret (qe_cmpR (op_eqD hu1) (qv 9) (qv 7) rfl))) qss_nil) (qss_cons (qs_if (QW.pt (qw_or (qt_cmpR (op_neG hu) (qe_ix ix_seq (qv 9) qe_int (fun _ _ => rfl)) qe_str rfl) (qw_or1 (qt_cmpR (op_neG hu) (qe_slice sl_seq (qv 9) (qo_some qe_int) qo_none) (qe_tup (qa_cons qe_non (qa_cons (qv 6) qa_nil))) rfl)))) (qss_one (qs_ret qe_bl)) qss_nil) (qss_one (qs_ret (qe_cmpR (op_eqG hu) (qe_ix ix_seq (qv 9) qe_int (fun _ _ => rfl)) (qe_slice sl_seq (qv 4) qo_none (qo_some (qe_callB call_len rfl B.len_ boot_len (qa_cons (qe_ix ix_seq (qv 9) qe_int (fun _ _ => rfl)) qa_nil)))) rfl))))))))).up
end Bg
end
section
set_option Elab.async false
set_option linter.all false
set_option maxRecDepth 100000
set_option maxHeartbeats 4000000
namespace Bg
open PySem PySem.Spec PyProof.Rows L2
theorem d_draw {P : Program} {w : World} {K : PySem.W.Frag} {mg : Str → Option Value} {base : Heap} {f : Addr} {cdv : Value} {A : Around} {outer : List Env} {s : Shared} {H : Hp} {E : XK} (B : Blt mg)  
    (hr : Room k_draw (A.deeper (envOfC "_law_draw" (defScope s_draw) s.heap.objs.size f cdv))) : PSs (cxOf CX0 P w K mg base N_draw "_law_draw" (defScope s_draw) f cdv A outer s H E).nox (defBody s_draw) (t_draw K) := by
  have nd := sc_draw.nd
  have hu := hr.units0
  have hu1 := hu_of hr
  exact (show QSs (cxOf CX0 P w K mg base N_draw "_law_draw" (defScope s_draw) f cdv A outer s H E).nox (defBody s_draw) (t_draw K) from (qss_cons (qs_asg (qe_slice sl_seq (qv 0) qo_none (qo_some qe_int)) (qg_tupL rfl (qgs_cons (qg_name (i := 2) nd rfl (Or.inl rfl)) (qgs_cons (qg_name (i := 3) nd rfl (Or.inl rfl)) qgs_nil)))) (qss_cons (qs_asg (qe_op op_plus (qv 3) qe_int) (qg_sub (qv 0) qe_int set_list)) (qss_cons (qs_if (QW.pt (qw_and (qt_cmpR op_lt (qe_op op_plus (qe_op op_fdiv (qv 3) qe_int) qe_int) (qe_callB call_len rfl B.len_ boot_len (qa_cons (qv 2) qa_nil)) rfl) (qw_and1 (qt_cmpR (op_eqG hu) (qe_op op_mod (qe_ix ix_seq (qv 2) qe_int (fun _ _ => rfl)) qe_int) qe_int rfl)))) (qss_cons (qs_if (qt_cmpR (op_eqG hu) (qe_op op_mod (qv 3) qe_int) qe_int rfl) (qss_one (qs_asg (qe_ix ix_seq (qv 2) (qe_op op_plus (qe_op op_fdiv (qv 3) qe_int) qe_int) (fun _ _ => rfl)) (qg_sub (qv 0) qe_int set_list))) qss_nil) (qss_one (qs_if (qt_cmpR op_notIn_seq (qe_ix ix_seq (qv 0) qe_int (fun _ _ => rfl)) (qe_tup (qa_cons qe_int (qa_cons (qe_un un_neg qe_int) qa_nil))) rfl) (qss_cons (qs_asg (qe_callB call_divmodW rfl B.divmod_ boot_divmod (qa_cons (qe_ix ix_seq (qv 0) qe_int (fun _ _ => rfl)) (qa_cons (qv 1) qa_nil))) (qg_tup rfl (qgs_cons (qg_sub (qv 0) qe_int set_list) (qgs_cons (qg_name (i := 4) nd rfl (Or.inl rfl)) qgs_nil)))) (qss_one (qs_ret (qv 4)))) qss_nil))) (qss_one (qs_if (qt_cmpR op_lt (qv 3) (qe_callB call_len rfl B.len_ boot_len (qa_cons (qv 2) qa_nil)) rfl) (qss_one (qs_ret (qe_op op_mod (qe_ix ix_seq (qv 2) (qv 3) (fun _ _ => rfl)) (qv 1)))) qss_nil))) (qss_cons (qs_set (i := 5) nd rfl (Or.inl rfl) (qe_op op_plus (qe_op op_times (qv 3) qe_int) qe_int)) (qss_cons (qs_if (qt_cmpR op_gt (qe_callB call_len rfl B.len_ boot_len (qa_cons (qv 2) qa_nil)) qe_int rfl) (qss_one (qs_set (i := 5) nd rfl (Or.inl rfl) (qe_op op_plus (qv 5) (qe_op op_times (qe_ix ix_seq (qv 2) (qe_op op_mod (qe_op op_times (qv 3) qe_int) (qe_callB call_len rfl B.len_ boot_len (qa_cons (qv 2) qa_nil))) (fun _ _ => rfl)) (qe_op op_plus qe_int (qv 3)))))) qss_nil) (qss_cons (qs_set (i := 5) nd rfl (Or.inl rfl) (qe_op op_mod (qe_op op_times (qe_op op_mod (qv 5) qe_int) (qe_op op_plus (qv 3) qe_int)) qe_int)) (qss_cons (qs_set (i := 5) nd rfl (Or.inl rfl) (qe_op op_mod (qe_op op_times (qv 5) (qv 5)) qe_int)) (qss_one (qs_ret (qe_op op_mod (qe_op op_mod (qe_op op_times (qv 5) (qv 5)) qe_int) (qv 1)))))))))))).up
end Bg
end
section
set_option Elab.async false
set_option linter.all false
set_option maxRecDepth 100000
set_option maxHeartbeats 4000000
namespace Bg
open PySem PySem.Spec PyProof.Rows L2
theorem d_loop {P : Program} {w : World} {K : PySem.W.Frag} {mg : Str → Option Value} {base : Heap} {f : Addr} {cdv : Value} {A : Around} {outer : List Env} {s : Shared} {H : Hp} {E : XK} (B : Blt mg)  
    (hr : Room k_loop (A.deeper (envOfC "_law_loop" (defScope s_loop) s.heap.objs.size f cdv))) : PSs (cxOf CX0 P w K mg base N_loop "_law_loop" (defScope s_loop) f cdv A outer s H E).nox (defBody s_loop) (t_loop K) := by
  have nd := sc_loop.nd
  have hu := hr.units0
  have hu1 := hu_of hr
  exact (show QSs (cxOf CX0 P w K mg base N_loop "_law_loop" (defScope s_loop) f cdv A outer s H E).nox (defBody s_loop) (t_loop K) from (qss_cons (qs_asg (qe_slice sl_seqW (qv 0) qo_none (qo_some qe_int)) (qg_tup rfl (qgs_cons (qg_name (i := 3) nd rfl (Or.inl rfl)) (qgs_cons (qg_name (i := 4) nd rfl (Or.inl rfl)) (qgs_cons (qg_name (i := 5) nd rfl (Or.inl rfl)) (qgs_cons (qg_name (i := 6) nd rfl (Or.inl rfl)) qgs_nil)))))) (qss_cons (qs_set (i := 7) nd rfl (Or.inl rfl) (qe_tup (qa_cons (qe_tup (qa_cons qe_str (qa_cons (qv 3) (qa_cons (qv 1) qa_nil)))) (qa_cons (qe_tup (qa_cons qe_str (qa_cons (qv 4) (qa_cons (qv 2) qa_nil)))) (qa_cons (qe_tup (qa_cons qe_str (qa_cons (qv 5) (qa_cons qe_int qa_nil)))) (qa_cons (qe_tup (qa_cons qe_str (qa_cons qe_int qa_nil))) qa_nil)))))) (qss_cons (qs_set (i := 7) nd rfl (Or.inl rfl) (qe_op op_plusW (qv 7) (qe_tup (qa_cons (qe_tup (qa_cons qe_str (qa_cons (qv 3) (qa_cons qe_str (qa_cons (qv 3) (qa_cons (qv 4) qa_nil)))))) (qa_cons (qe_tup (qa_cons qe_str (qa_cons (qv 6) (qa_cons qe_str (qa_cons (qv 6) (qa_cons (qv 5) qa_nil)))))) (qa_cons (qe_tup (qa_cons qe_str (qa_cons qe_int qa_nil))) qa_nil)))))) (qss_cons (qs_set (i := 7) nd rfl (Or.inl rfl) (qe_op op_plusW (qv 7) (qe_tup (qa_cons (qe_tup (qa_cons qe_str (qa_cons (qv 6) (qa_cons qe_int qa_nil)))) (qa_cons (qe_tup (qa_cons qe_str (qa_cons (qv 4) qa_nil))) (qa_cons (qe_tup (qa_cons qe_str (qa_cons (qv 3) qa_nil))) qa_nil)))))) (qss_one (qs_ret (qe_tup (qa_cons qe_str (qa_cons (qe_tup (qa_cons (qv 6) qa_nil)) (qa_cons (qv 7) qa_nil))))))))))).up
end Bg
end
section
set_option Elab.async false
set_option linter.all false
set_option maxRecDepth 100000
set_option maxHeartbeats 4000000
namespace Bg
open PySem PySem.Spec PyProof.Rows L2
theorem d_self {P : Program} {w : World} {K : PySem.W.Frag} {mg : Str → Option Value} {base : Heap} {f : Addr} {cdv : Value} {A : Around} {outer : List Env} {s : Shared} {H : Hp} {E : XK} (B : Blt mg)  
    (hr : Room k_self (A.deeper (envOfC "_law_self" (defScope s_self) s.heap.objs.size f cdv))) : PSs (cxOf CX0 P w K mg base N_self "_law_self" (defScope s_self) f cdv A outer s H E).nox (defBody s_self) (t_self K) := by
  have nd := sc_self.nd
  have hu := hr.units0
  have hu1 := hu_of hr
  exact (show QSs (cxOf CX0 P w K mg base N_self "_law_self" (defScope s_self) f cdv A outer s H E).nox (defBody s_self) (t_self K) from (qss_cons (qs_asg (qe_slice sl_seq (qv 0) qo_none (qo_some qe_int)) (qg_tup rfl (qgs_cons (qg_name (i := 1) nd rfl (Or.inl rfl)) (qgs_cons (qg_name (i := 2) nd rfl (Or.inl rfl)) (qgs_cons (qg_name (i := 3) nd rfl (Or.inl rfl)) qgs_nil))))) (qss_cons (qs_set (i := 4) nd rfl (Or.inl rfl) (qe_tup (qa_cons (qe_tup (qa_cons qe_str (qa_cons (qv 3) (qa_cons qe_int qa_nil)))) (qa_cons (qe_tup (qa_cons qe_str (qa_cons (qv 3) qa_nil))) (qa_cons (qe_tup (qa_cons qe_str (qa_cons (qv 2) (qa_cons qe_int qa_nil)))) qa_nil))))) (qss_cons (qs_set (i := 4) nd rfl (Or.inl rfl) (qe_op op_plus (qv 4) (qe_tup (qa_cons (qe_tup (qa_cons qe_str (qa_cons (qv 2) (qa_cons qe_str (qa_cons (qv 3) (qa_cons (qv 2) qa_nil)))))) (qa_cons (qe_tup (qa_cons qe_str (qa_cons (qv 1) (qa_cons qe_int (qa_cons (qe_tup (qa_cons (qv 2) qa_nil)) qa_nil))))) qa_nil))))) (qss_one (qs_ret (qe_tup (qa_cons qe_str (qa_cons (qe_tup (qa_cons (qv 3) qa_nil)) (qa_cons (qe_op op_plus (qv 4) (qe_tup (qa_cons (qe_tup (qa_cons qe_str (qa_cons (qv 3) (qa_cons qe_str (qa_cons (qv 1) (qa_cons (qv 3) qa_nil)))))) (qa_cons (qe_tup (qa_cons qe_str (qa_cons (qv 3) qa_nil))) qa_nil)))) qa_nil)))))))))).up
end Bg
end
section
set_option Elab.async false
set_option linter.all false
set_option maxRecDepth 100000
set_option maxHeartbeats 4000000
namespace Bg
open PySem PySem.Spec PyProof.Rows L2
theorem d_worth {P : Program} {w : World} {K : PySem.W.Frag} {mg : Str → Option Value} {base : Heap} {f : Addr} {cdv : Value} {A : Around} {outer : List Env} {s : Shared} {H : Hp} {E : XK} (B : Blt mg)  (c_draw : Callee P w K mg base "_law_draw" PS_draw K_draw (sp_draw K))
    (hr : Room k_worth (A.deeper (envOfC "_law_worth" (defScope s_worth) s.heap.objs.size f cdv))) : PSs (cxOf CX0 P w K mg base N_worth "_law_worth" (defScope s_worth) f cdv A outer s H E).nox (defBody s_worth) (t_worth K) := by
  have nd := sc_worth.nd
  have hu := hr.units0
  have hu1 := hu_of hr
  exact (show QSs (cxOf CX0 P w K mg base N_worth "_law_worth" (defScope s_worth) f cdv A outer s H E).nox (defBody s_worth) (t_worth K) from (qss_cons (qs_if (qt_cmpR (op_eqG hu) (qe_fn c_draw (hr.mono (by decide)) rfl (qa_cons (qv 0) (qa_cons qe_int qa_nil))) qe_int rfl) (qss_one (qs_ret (qe_op op_plus (qe_op op_times (qe_fn c_draw (hr.mono (by decide)) rfl (qa_cons (qv 0) (qa_cons (qe_op op_pow qe_int qe_int) qa_nil))) (qe_op op_pow qe_int qe_int)) (qe_fn c_draw (hr.mono (by decide)) rfl (qa_cons (qv 0) (qa_cons (qe_op op_pow qe_int qe_int) qa_nil)))))) qss_nil) (qss_one (qs_ret (qe_ix ix_seq (qe_lst (qa_cons qe_int (qa_cons qe_int (qa_cons (qe_op op_sub (qe_op op_sub (qe_op op_pow qe_int qe_int) qe_int) (qe_fn c_draw (hr.mono (by decide)) rfl (qa_cons (qv 0) (qa_cons qe_int qa_nil)))) (qa_cons (qe_fn c_draw (hr.mono (by decide)) rfl (qa_cons (qv 0) (qa_cons qe_int qa_nil))) qa_nil))))) (qe_fn c_draw (hr.mono (by decide)) rfl (qa_cons (qv 0) (qa_cons qe_int qa_nil))) (fun _ _ => rfl)))))).up
end Bg
end
section
set_option Elab.async false
set_option linter.all false
set_option maxRecDepth 100000
set_option maxHeartbeats 4000000
namespace Bg
open PySem PySem.Spec PyProof.Rows L2
theorem d_names {P : Program} {w : World} {K : PySem.W.Frag} {mg : Str → Option Value} {base : Heap} {f : Addr} {cdv : Value} {A : Around} {outer : List Env} {s : Shared} {H : Hp} {E : XK} (B : Blt mg)  (c_draw : Callee P w K mg base "_law_draw" PS_draw K_draw (sp_draw K))
    (hr : Room k_names (A.deeper (envOfC "_law_names" (defScope s_names) s.heap.objs.size f cdv))) : PSs (cxOf CX0 P w K mg base N_names "_law_names" (defScope s_names) f cdv A outer s H E).nox (defBody s_names) (t_names K) := by
  have nd := sc_names.nd
  have hu := hr.units0
  have hu1 := hu_of hr
  exact (show QSs (cxOf CX0 P w K mg base N_names "_law_names" (defScope s_names) f cdv A outer s H E).nox (defBody s_names) (t_names K) from (qss_cons (qs_set (i := 2) nd rfl (Or.inr rfl) qe_str) (qss_cons (qs_set (i := 3) nd rfl (Or.inl rfl) (qe_op op_plus qe_int (qe_fn c_draw (hr.mono (by decide)) rfl (qa_cons (qv 0) (qa_cons qe_int qa_nil))))) (qss_cons (qs_set (i := 4) nd rfl (Or.inl rfl) (qe_fn c_draw (hr.mono (by decide)) rfl (qa_cons (qv 0) (qa_cons (qv 3) qa_nil)))) (qss_cons (qs_set (i := 5) nd rfl (Or.inr rfl) (qe_fn c_draw (hr.mono (by decide)) rfl (qa_cons (qv 0) (qa_cons qe_int qa_nil)))) (qss_cons (qs_comp (i := 6) (sc := defScope s_names) (N := N_names) (NY := ["_law_state", "_law_many", "_law_letters", "_law_size", "_law_at", "_law_first", "_law_base", "_law_found", "_law_k", "_law_some", "_law_name", "_law_j"]) (js := []) (k := 1) ⟨rfl, by decide +kernel, by decide +kernel, by decide +kernel, rfl, by decide +kernel⟩ rfl rfl rfl rfl (qi_range1 rfl B.range_ (qa_cons (qv 3) qa_nil)) (fun _ _ _ _ _ => (qg_name (i := 11) (show List.Nodup (["_law_state", "_law_many", "_law_letters", "_law_size", "_law_at", "_law_first", "_law_base", "_law_found", "_law_k", "_law_some", "_law_name", "_law_j"] : List Str) by decide +kernel) rfl (Or.inl rfl))) (fun _ _ _ _ _ => qif_nil) (fun _ _ _ _ _ => (qe_ix ix_seq (qv 2) (qe_op op_mod (qe_op op_plus (qv 5) (qe_op op_times (qe_op op_times qe_int (qv 11)) (qe_fn c_draw (hr.mono (by decide)) rfl (qa_cons (qv 0) (qa_cons qe_int qa_nil))))) qe_int) (fun _ _ => rfl))) nd rfl (Or.inl rfl) rfl) (qss_cons (qs_set (i := 7) nd rfl (Or.inl rfl) (qe_lst qa_nil)) (qss_cons (qs_for PassesOwn.never rfl (qi_range1 rfl B.range_ (qa_cons (qv 1) qa_nil)) (qg_name (i := 8) nd rfl (Or.inl rfl)) (qss_cons (qs_set (i := 9) nd rfl (Or.inl rfl) (qe_op op_plus (qe_op op_plus (qe_slice sl_seq (qv 6) qo_none (qo_some (qv 4))) (qe_lst (qa_cons (qe_ix ix_seq (qv 2) (qe_op op_mod (qe_op op_plus (qv 5) (qe_op op_times qe_int (qv 8))) qe_int) (fun _ _ => rfl)) qa_nil))) (qe_slice sl_seq (qv 6) (qo_some (qe_op op_plus (qv 4) qe_int)) qo_none))) (qss_cons (qs_set (i := 10) nd rfl (Or.inl rfl) (qe_bm PySem.F.plainAttrs_str PySem.F.slot_str_join PySem.F.type_str_join mt_join qe_str (qa_cons (qv 9) qa_nil))) (qss_cons (qs_if (QW.pt (qw_or (qt_cmpR op_in_seq (qv 10) (qe_tup (qa_cons qe_str (qa_cons qe_str (qa_cons qe_str (qa_cons qe_str (qa_cons qe_str (qa_cons qe_str qa_nil))))))) rfl) (qw_or1 (QW.pt (qw_and (qt_cmpR op_lt (qv 3) qe_int rfl) (qw_and1 (qt_cmpR (op_eqG hu) (qe_op op_mod (qe_op op_plus (qv 3) (qv 8)) qe_int) qe_int rfl))))))) (qss_one (qs_set (i := 10) nd rfl (Or.inl rfl) (qe_op op_plus (qv 10) qe_str))) qss_nil) (qss_one (qs_expr (qe_bm PySem.F.plainAttrs_list PySem.F.slot_list_append PySem.F.type_list_append mt_append (qv 7) (qa_cons (qv 10) qa_nil)))))))) (qss_one (qs_ret (qv 7))))))))))).up
end Bg
end
section
set_option Elab.async false
set_option linter.all false
set_option maxRecDepth 100000
set_option maxHeartbeats 4000000
namespace Bg
open PySem PySem.Spec PyProof.Rows L2
theorem d_law {P : Program} {w : World} {K : PySem.W.Frag} {mg : Str → Option Value} {base : Heap} {f : Addr} {cdv : Value} {A : Around} {outer : List Env} {s : Shared} {H : Hp} {E : XK} (B : Blt mg)  (c_right : Callee P w K mg base "_law_right" PS_right K_right (sp_right K)) (c_draw : Callee P w K mg base "_law_draw" PS_draw K_draw (sp_draw K)) (c_p_run : Callee P w K mg base "run" PS_p_run K_p_run (sp_p_run K)) (c_loop : Callee P w K mg base "_law_loop" PS_loop K_loop (sp_loop K)) (c_self : Callee P w K mg base "_law_self" PS_self K_self (sp_self K)) (c_worth : Callee P w K mg base "_law_worth" PS_worth K_worth (sp_worth K)) (c_names : Callee P w K mg base "_law_names" PS_names K_names (sp_names K))
    (hr : Room k_law (A.deeper (envOfC "law" (defScope s_law) s.heap.objs.size f cdv))) : PSs (cxOf CX0 P w K mg base N_law "law" (defScope s_law) f cdv A outer s H E).nox (defBody s_law) (t_law K) := by
  have nd := sc_law.nd
  have hu := hr.units0
  have hu1 := hu_of hr
  exact (show QSs (cxOf CX0 P w K mg base N_law "law" (defScope s_law) f cdv A outer s H E).nox (defBody s_law) (t_law K) from (qss_cons (qs_set (i := 1) nd rfl (Or.inl rfl) (qe_lst (qa_cons (qv 0) (qa_cons qe_int (qa_cons qe_int qa_nil))))) (qss_cons (qs_set (i := 2) nd rfl (Or.inl rfl) (qe_callTy call_tuple_of rfl B.tuple_ boot_tuple (qa_cons (qe_fn c_names (hr.mono (by decide)) rfl (qa_cons (qv 1) (qa_cons qe_int qa_nil))) qa_nil))) (qss_cons (qs_set (i := 3) nd rfl (Or.inl rfl) (qe_fn c_worth (hr.mono (by decide)) rfl (qa_cons (qv 1) qa_nil))) (qss_cons (qs_set (i := 4) nd rfl (Or.inl rfl) (qe_fn c_worth (hr.mono (by decide)) rfl (qa_cons (qv 1) qa_nil))) (qss_cons (qs_set (i := 5) nd rfl (Or.inl rfl) (qe_tup (qa_cons qe_str (qa_cons (qe_slice sl_seq (qv 2) qo_none (qo_some qe_int)) (qa_cons (qe_tup (qa_cons (qe_tup (qa_cons qe_str (qa_cons (qe_ix ix_seq (qv 2) qe_int (fun _ _ => rfl)) (qa_cons qe_int (qa_cons (qe_slice sl_seq (qv 2) qo_none (qo_some qe_int)) qa_nil))))) (qa_cons (qe_tup (qa_cons qe_str (qa_cons (qe_ix ix_seq (qv 2) qe_int (fun _ _ => rfl)) qa_nil))) qa_nil))) qa_nil))))) (qss_cons (qs_set (i := 6) nd rfl (Or.inl rfl) (qe_tup (qa_cons (qe_fn c_loop (hr.mono (by decide)) rfl (qa_cons (qv 2) (qa_cons (qv 3) (qa_cons (qv 4) qa_nil)))) (qa_cons (qe_fn c_self (hr.mono (by decide)) rfl (qa_cons (qv 2) qa_nil)) (qa_cons (qv 5) qa_nil))))) (qss_cons (qs_if (qt_cmpR (op_neD hu1) (qe_fn c_p_run (hr.mono (by decide)) rfl (qa_cons (qv 6) (qa_cons qe_int (qa_cons (qe_lst (qa_cons (qv 3) qa_nil)) (qa_cons qe_int qa_nil))))) (qe_tup (qa_cons qe_str (qa_cons (qe_lst qa_nil) (qa_cons qe_non (qa_cons qe_int qa_nil))))) rfl) (qss_one (qs_ret qe_bl)) qss_nil) (qss_cons (qs_set (i := 7) nd rfl (Or.inl rfl) (qe_fn c_draw (hr.mono (by decide)) rfl (qa_cons (qv 1) (qa_cons qe_int qa_nil)))) (qss_cons (qs_set (i := 8) nd rfl (Or.inl rfl) (qe_op op_mod (qe_op op_plus (qv 3) (qe_op op_times (qv 7) (qv 4))) (qe_op op_pow qe_int qe_int))) (qss_cons (qs_set (i := 9) nd rfl (Or.inl rfl) (qe_fn c_draw (hr.mono (by decide)) rfl (qa_cons (qv 1) (qa_cons qe_int qa_nil)))) (qss_cons (qs_if (qt_not (qt_val (qe_fn c_right (hr.mono (by decide)) rfl (qa_cons (qv 6) (qa_cons qe_int (qa_cons (qv 7) (qa_cons (qv 8) (qa_cons (qe_lst (qa_cons (qv 4) qa_nil)) (qa_cons (qe_op op_plus qe_int (qe_op op_times qe_int (qv 7))) (qa_cons (qv 9) qa_nil)))))))))) (qss_one (qs_ret qe_bl)) qss_nil) (qss_cons (qs_set (i := 7) nd rfl (Or.inl rfl) (qe_fn c_draw (hr.mono (by decide)) rfl (qa_cons (qv 1) (qa_cons qe_int qa_nil)))) (qss_cons (qs_set (i := 8) nd rfl (Or.inl rfl) (qe_op op_fdiv (qe_op op_times (qv 7) (qe_op op_plus (qv 7) qe_int)) qe_int)) (qss_cons (qs_set (i := 9) nd rfl (Or.inl rfl) (qe_fn c_draw (hr.mono (by decide)) rfl (qa_cons (qv 1) (qa_cons (qe_op op_plus (qe_op op_times qe_int (qv 7)) qe_int) qa_nil)))) (qss_one (qs_ret (qe_fn c_right (hr.mono (by decide)) rfl (qa_cons (qv 6) (qa_cons qe_int (qa_cons (qv 7) (qa_cons (qv 8) (qa_cons (qe_lst qa_nil) (qa_cons (qe_op op_plus (qe_op op_times qe_int (qv 7)) qe_int) (qa_cons (qv 9) qa_nil))))))))))))))))))))))))).up
end Bg
end
section
set_option Elab.async false
set_option linter.all false
set_option maxRecDepth 100000
set_option maxHeartbeats 4000000
namespace Bg
open PySem L2
theorem r_draw_tail {K : PySem.W.Frag} {st scr : Addr} {m : Int} {k : Nat} {ns : List Int} {c : Int} {H H2 : Hp} {Q : VK} {o4 o5 : Option V} {nx : St → Hp → Prop} (hk : k ≤ 1000000) (m0 : 0 < m)
    (q : ∀ (d : Int) (H' : Hp), 0 ≤ d → d < m → Stt K H' st (k + 1) → But st H H' → Q (.int d) H') (hS : H2 st = some (.lst [.ref scr, .int ((k : Int) + 1), .int c])) (hscr : ScrAt K H2 scr ns) (hns : ns.length ≤ 63) (hB : But st H H2) :
    t_draw_5 K { nx := nx, rt := Q } [some (.ref st), some (.int m), some (.ref scr), some (.int (k : Nat)), o4, o5] H2 := by
  have e1 : (((k + 1 : Nat) : Nat) : Int) = (k : Int) + 1 := by omega
  have S2 : Stt K H2 st (k + 1) := ⟨scr, ns, c, by rw [e1]; exact hS, hscr, hns⟩
  refine ⟨_, rfl, .inl ⟨_, _, rfl, rfl, .inr ⟨by decide, by decide⟩, .inl ⟨_, _, rfl, rfl, ?_⟩⟩⟩
  have rest : ∀ z : Int, t_draw_3 K { nx := nx, rt := Q } [some (.ref st), some (.int m), some (.ref scr), some (.int (k : Nat)), o4, some (.int z)] H2 := fun z => by
    have b1 : 0 ≤ z % 2147483629 := Int.emod_nonneg _ (by decide)
    have b2 : z % 2147483629 < 2147483629 := Int.emod_lt_of_pos _ (by decide)
    refine ⟨_, rfl, _, _, rfl, rfl, (by show (0 : Int) < 2147483629; decide), _, rfl, .inl ⟨_, _, rfl, rfl, .inl ⟨_, _, rfl, rfl, .inl ⟨by omega, by omega⟩, _, _, rfl, rfl, (by show (0 : Int) < 2147483629; decide), ?_⟩⟩⟩
    generalize hy : z % 2147483629 * ((k : Int) + 3) % 2147483629 = y
    have c1 : 0 ≤ y := by rw [← hy]; exact Int.emod_nonneg _ (by decide)
    have c2 : y < 2147483629 := by rw [← hy]; exact Int.emod_lt_of_pos _ (by decide)
    refine ⟨_, rfl, _, rfl, .inl ⟨_, _, rfl, rfl, .inl ⟨by omega, by omega⟩, _, _, rfl, rfl, (by show (0 : Int) < 2147483587; decide), ?_⟩⟩
    generalize hx : y * y % 2147483587 = x
    have d1 : 0 ≤ x := by rw [← hx]; exact Int.emod_nonneg _ (by decide)
    have d2 : x < 2147483587 := by rw [← hx]; exact Int.emod_lt_of_pos _ (by decide)
    refine ⟨_, rfl, _, rfl, .inl ⟨_, _, rfl, rfl, .inl ⟨by omega, by omega⟩, _, _, rfl, rfl, (by show (0 : Int) < 1999999973; decide), _, rfl, _, _, rfl, rfl, m0, ?_⟩⟩
    exact q _ H2 (Int.emod_nonneg _ (by omega)) (Int.emod_lt_of_pos _ m0) S2 hB
  refine ⟨_, rfl, _, _, rfl, .inl ⟨_, hscr.sq, rfl⟩, _, _, rfl, rfl, _, rfl, if_dec (fun hl => ?_) (fun _ => rest _)⟩
  rw [List.length_map] at hl
  have hlp : 0 < ns.length := by omega
  refine ⟨_, rfl, _, rfl, _, rfl, .inl ⟨_, _, rfl, rfl, .inr ⟨by decide, by decide⟩, _, rfl, _, _, rfl, .inl ⟨_, hscr.sq, rfl⟩, _, _, rfl, rfl, (by rw [List.length_map]; omega), ?_⟩⟩
  have i1 : 0 ≤ (k : Int) * 7 % ((ns.map V.int).length : Nat) := Int.emod_nonneg _ (by rw [List.length_map]; omega)
  have i2 : (k : Int) * 7 % ((ns.map V.int).length : Nat) < ((ns.map V.int).length : Nat) := Int.emod_lt_of_pos _ (by rw [List.length_map]; omega)
  rw [List.length_map] at i1 i2
  have i3 : ((k : Int) * 7 % (ns.length : Nat)).toNat < ns.length := by omega
  refine ixL hscr.sq (by rw [List.length_map]; exact i1) (v := .int ns[((k : Int) * 7 % (ns.length : Nat)).toNat]) (by simp only [List.length_map]; rw [List.getElem?_map, List.getElem?_eq_getElem i3]; rfl) ?_
  exact ⟨_, rfl, .inl ⟨_, _, rfl, rfl, .inl ⟨_, _, rfl, rfl, .inr ⟨by omega, by omega⟩, .inl ⟨_, _, rfl, rfl, rest _⟩⟩⟩⟩
theorem r_draw {K : PySem.W.Frag} {vs : List V} {H : Hp} {Q : VK} {E : XK} (h : sp_draw K vs H Q E) : t_draw K { nx := fun _ H' => Q .non H', rt := Q } (start N_draw vs) H := by
  obtain ⟨st, m, k, rfl, S, hk, m0, m1, q⟩ := h
  obtain ⟨scr, ns, c, hst, hscr, hns⟩ := S
  refine ⟨_, rfl, _, rfl, .inl ⟨st, _, rfl, SqL.of hst, fun p hp => ?_⟩⟩
  refine ⟨p, _, rfl, SqL.of upd_same, rfl, _, _, rfl, _, _, rfl, rfl, ?_⟩
  have np : st ≠ p := ne_of_none hst hp
  have B1 : But st H (upd H p (.lst (cutV [V.ref scr, V.int (k : Nat), V.int c] none (some 2)))) := (But.refl st H).new hp
  have h1 : (upd H p (.lst (cutV [V.ref scr, V.int (k : Nat), V.int c] none (some 2)))) st = some (.lst [.ref scr, .int (k : Nat), .int c]) := by rw [upd_ne np]; exact hst
  have s1 : ScrAt K (upd H p (.lst (cutV [V.ref scr, V.int (k : Nat), V.int c] none (some 2)))) scr ns := hscr.mono (.of_but B1 hst)
  generalize upd H p (.lst (cutV [V.ref scr, V.int (k : Nat), V.int c] none (some 2))) = H1 at B1 h1 s1 ⊢
  refine ⟨_, rfl, .inl ⟨_, _, rfl, rfl, _, rfl, setL h1 (by decide) (by show 1 < 3; decide) ?_⟩⟩
  have B2 : But st H (upd H1 st (.lst [.ref scr, .int ((k : Int) + 1), .int c])) := B1.trans .upd_at
  have h2 : (upd H1 st (.lst [.ref scr, .int ((k : Int) + 1), .int c])) st = some (.lst [.ref scr, .int ((k : Int) + 1), .int c]) := upd_same
  have s2 : ScrAt K (upd H1 st (.lst [.ref scr, .int ((k : Int) + 1), .int c])) scr ns := s1.mono (.of_but .upd_at h1)
  show t_draw_8 K _ [some (.ref st), some (.int m), some (.ref scr), some (.int (k : Nat)), none, none] (upd H1 st (.lst [.ref scr, .int ((k : Int) + 1), .int c]))
  generalize upd H1 st (.lst [.ref scr, .int ((k : Int) + 1), .int c]) = H2 at B2 h2 s2 ⊢
  have tail := @r_draw_tail K st scr m k ns c H H2 Q none none (fun _ H' => Q .non H') hk m0 q h2 s2 hns B2
  have dig : ∀ (c' : Int) (H3 : Hp), H3 st = some (.lst [.ref scr, .int ((k : Int) + 1), .int c']) → ScrAt K H3 scr ns → But st H H3 →
      t_draw_7 K { nx := t_draw_5 K { nx := fun _ H' => Q .non H', rt := Q }, rt := Q } [some (.ref st), some (.int m), some (.ref scr), some (.int (k : Nat)), none, none] H3 := fun c' H3 h3 s3 B3 => by
    refine ⟨_, rfl, ixL (SqL.of h3) (by decide) rfl ?_⟩
    refine ⟨_, rfl, (by show 2 ≤ sizeLine; decide), fun t ht => ⟨t, _, rfl, .inr (SqT.of upd_same), rfl, rfl, _, rfl, ?_⟩⟩
    have n3 : st ≠ t := ne_of_none h3 ht
    have B4 : But st H (upd H3 t (.tup [.int 0, .int (-1)])) := B3.new ht
    have h4 : (upd H3 t (.tup [.int 0, .int (-1)])) st = some (.lst [.ref scr, .int ((k : Int) + 1), .int c']) := by rw [upd_ne n3]; exact h3
    have s4 : ScrAt K (upd H3 t (.tup [.int 0, .int (-1)])) scr ns := s3.mono (.of_same ((Same.refl H3).new ht))
    refine if_bl (fun _ => ?_) (fun _ => ?_)
    · -- _law_state[2], _law_digit = divmod(_law_state[2], _law_many)
      refine ⟨_, rfl, .inl ⟨st, _, _, _, rfl, rfl, SqL.of h4, atI_of (by decide) rfl, _, rfl, _, _, rfl, ⟨m0, m1⟩, fun p2 hp2 => ?_⟩⟩
      have n4 : st ≠ p2 := ne_of_none h4 hp2
      refine ⟨p2, _, rfl, SqT.of upd_same, rfl, _, _, rfl, _, rfl, setL (by rw [upd_ne n4]; exact h4) (by decide) (by show 2 < 3; decide) ?_⟩
      refine ⟨_, _, rfl, rfl, _, rfl, ?_⟩
      have B5 := (B4.new (o := .tup [.int (c' / m), .int (c' % m)]) hp2)
      have s5 : ScrAt K (upd (upd H3 t (.tup [.int 0, .int (-1)])) p2 (.tup [.int (c' / m), .int (c' % m)])) scr ns := s4.mono (.of_same ((Same.refl _).new hp2))
      have h5 : (upd (upd H3 t (.tup [.int 0, .int (-1)])) p2 (.tup [.int (c' / m), .int (c' % m)])) st = some (.lst [.ref scr, .int ((k : Int) + 1), .int c']) := by rw [upd_ne n4]; exact h4
      refine q _ _ (Int.emod_nonneg _ (by omega)) (Int.emod_lt_of_pos _ m0) ⟨scr, ns, c' / m, ?_, s5.mono (.of_but .upd_at h5), hns⟩ (B5.trans .upd_at)
      have e1 : (((k + 1 : Nat) : Nat) : Int) = (k : Int) + 1 := by omega
      rw [upd_same, e1]
      rfl
    · exact r_draw_tail hk m0 q h4 s4 hns B4
  have e1 : (((k + 1 : Nat) : Nat) : Int) = (k : Int) + 1 := by omega
  have elif : tIfS (tTest (tOp rLt2 (tVar 3) (tCB (rLen K) (tCons (tVar 2) tNil)))) (tRet (tOp rMod2 (tOp (rIx K) (tVar 2) (tVar 3)) (tVar 1))) tNext
      { nx := t_draw_5 K { nx := fun _ H' => Q V.non H', rt := Q }, rt := Q } [some (V.ref st), some (V.int m), some (V.ref scr), some (V.int (k : Nat)), none, none] H2 := by
    refine ⟨_, rfl, _, rfl, _, _, rfl, .inl ⟨_, s2.sq, rfl⟩, _, _, rfl, rfl, _, rfl, if_dec (fun hlt => ?_) (fun _ => tail)⟩
    rw [List.length_map] at hlt
    have j2 : ((k : Nat) : Int).toNat < ns.length := by omega
    refine ⟨_, rfl, _, rfl, ixL s2.sq (by omega) (v := .int ns[((k : Nat) : Int).toNat]) (by rw [List.getElem?_map, List.getElem?_eq_getElem j2]; rfl) ?_⟩
    refine ⟨_, rfl, _, _, rfl, rfl, m0, ?_⟩
    exact q _ H2 (Int.emod_nonneg _ (by omega)) (Int.emod_lt_of_pos _ m0) ⟨scr, ns, c, by rw [e1]; exact h2, s2, hns⟩ B2
  refine ⟨_, rfl, _, _, rfl, rfl, ⟨by decide, by decide⟩, .inl ⟨_, _, rfl, rfl, _, rfl, _, _, rfl, .inl ⟨_, s2.sq, rfl⟩, _, _, rfl, rfl, _, rfl, if_dec (fun hlt => ?_) (fun _ => ?_)⟩⟩
  · rw [List.length_map] at hlt
    have hlp : 0 < ns.length := by omega
    have i0 : (ns.map V.int)[(0 : Int).toNat]? = some (.int ns[0]) := by
      show (ns.map V.int)[0]? = _
      rw [List.getElem?_map, List.getElem?_eq_getElem hlp]; rfl
    refine ⟨_, rfl, ixL s2.sq (by decide) i0 ⟨_, _, rfl, rfl, (by show (0 : Int) < 2; decide), .inl ⟨rfl, _, rfl, if_dec (fun _ => ?_) (fun _ => ?_)⟩⟩⟩
    · -- if _law_k % 12 == 0
      refine ⟨_, rfl, _, _, rfl, rfl, (by show (0 : Int) < 12; decide), .inl ⟨rfl, _, rfl, if_dec (fun _ => ?_) (fun _ => dig c H2 h2 s2 B2)⟩⟩
      have j2 : ((k : Int) / 12 + 1).toNat < ns.length := by omega
      refine ⟨_, rfl, _, rfl, _, _, rfl, rfl, ⟨by decide, by decide⟩, .inl ⟨_, _, rfl, rfl, ixL s2.sq (by omega) (v := .int ns[((k : Int) / 12 + 1).toNat]) (by rw [List.getElem?_map, List.getElem?_eq_getElem j2]; rfl) ?_⟩⟩
      refine ⟨_, rfl, setL h2 (by decide) (by show 2 < 3; decide) ?_⟩
      exact dig _ _ upd_same (s2.mono (.of_but .upd_at h2)) (B2.trans .upd_at)
    · exact elif
  · exact iteF elif
end Bg
end
section
set_option Elab.async false
set_option linter.all false
set_option maxRecDepth 100000
set_option maxHeartbeats 4000000
namespace Bg
open PySem L2
theorem r_worth {K : PySem.W.Frag} {vs : List V} {H : Hp} {Q : VK} {E : XK} (h : sp_worth K vs H Q E) : t_worth K { nx := fun _ H' => Q .non H', rt := Q } (start N_worth vs) H := by
  obtain ⟨st, k, rfl, S, hk, q⟩ := h
  have e31 : (2 : Int) ^ Int.toNat 31 = 2147483648 := by decide
  have e33 : (2 : Int) ^ Int.toNat 33 = 8589934592 := by decide
  have e64 : (2 : Int) ^ Int.toNat 64 = 18446744073709551616 := by decide
  have f64 : (2 : Int) ^ 64 = 18446744073709551616 := by decide
  refine ⟨_, rfl, st, 2, k, rfl, S, by omega, by decide, by decide, fun d H1 d0 d1 S1 B1 => ?_⟩
  refine .inl ⟨rfl, _, rfl, if_dec (fun _ => ?_) (fun _ => ?_)⟩
  · refine ⟨_, rfl, _, _, rfl, rfl, ⟨by decide, by decide, by decide⟩, st, _, k + 1, rfl, S1, by omega, by rw [e31]; decide, by rw [e31]; decide, fun d2 H2 a0 a1 S2 B2 => ?_⟩
    rw [e31] at a1
    refine ⟨_, _, rfl, rfl, ⟨by decide, by decide, by decide⟩, .inl ⟨_, _, rfl, rfl, .inl ⟨by omega, by omega⟩, ?_⟩⟩
    refine ⟨_, rfl, _, _, rfl, rfl, ⟨by decide, by decide, by decide⟩, st, _, k + 2, rfl, S2, by omega, by rw [e31]; decide, by rw [e31]; decide, fun d3 H3 b0 b1 S3 B3 => ?_⟩
    rw [e31] at b1
    refine .inl ⟨_, _, rfl, rfl, q _ _ H3 ?_ ?_ S3 (by omega) ((B1.trans B2).trans B3)⟩
    · show 0 ≤ d2 * (2 : Int) ^ Int.toNat 33 + d3
      rw [e33]; omega
    · show d2 * (2 : Int) ^ Int.toNat 33 + d3 < 2 ^ 64
      rw [e33, f64]; omega
  · refine ⟨_, _, rfl, rfl, ⟨by decide, by decide, by decide⟩, _, _, rfl, rfl, _, rfl, st, 3, k + 1, rfl, S1, by omega, by decide, by decide, fun d2 H2 a0 a1 S2 B2 => ?_⟩
    refine ⟨_, _, rfl, rfl, _, rfl, st, 12, k + 2, rfl, S2, by omega, by decide, by decide, fun d3 H3 b0 b1 S3 B3 => ?_⟩
    refine ⟨(by show 4 ≤ sizeLine; decide), fun l hl => ?_⟩
    refine ⟨_, rfl, st, 4, k + 3, rfl, S3.new hl, by omega, by decide, by decide, fun d4 H4 c0 c1 S4 B4 => ?_⟩
    obtain ⟨ys, hys⟩ := S3.lst
    have nl : l ≠ st := fun z => by rw [z, hys] at hl; cases hl
    have h4 := B4 l _ nl upd_same
    have B5 : But st H H4 := (((B1.trans B2).trans B3).new hl).trans B4
    have fin : ∀ z : Int, 0 ≤ z → z < 2 ^ 64 → Q (.int z) H4 := fun z z0 z1 => q z _ H4 z0 z1 S4 (by omega) B5
    rcases (by omega : d4 = 0 ∨ d4 = 1 ∨ d4 = 2 ∨ d4 = 3) with rfl | rfl | rfl | rfl
    · exact ixL (SqL.of h4) (by decide) rfl (fin _ (by decide) (by decide))
    · exact ixL (SqL.of h4) (by decide) rfl (fin _ (by decide) (by decide))
    · refine ixL (SqL.of h4) (by decide) rfl (fin _ ?_ ?_)
      · show 0 ≤ (2 : Int) ^ Int.toNat 64 - 1 - d2
        rw [e64]; omega
      · show (2 : Int) ^ Int.toNat 64 - 1 - d2 < 2 ^ 64
        rw [e64, f64]; omega
    · exact ixL (SqL.of h4) (by decide) rfl (fin _ (by omega) (by omega))
end Bg
end
section
set_option Elab.async false
set_option linter.all false
set_option maxRecDepth 100000
set_option maxHeartbeats 4000000
namespace Bg
open PySem L2
theorem r_p_reads {K : PySem.W.Frag} {vs : List V} {H : Hp} {Q : VK} {E : XK} (h : sp_p_reads K vs H Q E) : t_p_reads K { nx := fun _ H' => Q .non H', rt := Q } (start N_p_reads vs) H := by
  obtain ⟨v, r, rfl, hr, q⟩ := h
  cases r with
  | num x z =>
    obtain ⟨p, rfl, h⟩ := hr
    refine ⟨_, rfl, ixT h (by decide) rfl ?_⟩
    refine ⟨_, rfl, .inl ⟨rfl, _, rfl, no (by decide +kernel) ?_⟩⟩
    refine ⟨_, rfl, .inl ⟨rfl, _, rfl, no (by decide +kernel) ?_⟩⟩
    refine ⟨_, rfl, (by show 3 ≤ sizeLine; decide), fun t ht => ⟨t, _, rfl, .inr (SqT.of upd_same), rfl, rfl, _, rfl, if_f (by decide +kernel) ?_⟩⟩
    have nt : p ≠ t := ne_of_none h ht
    exact ⟨(by show 0 ≤ sizeLine; decide), fun t2 ht2 => q t2 _ upd_same (((Same.refl H).new ht).new ht2)⟩
  | op x s a b =>
    obtain ⟨p, rfl, h⟩ := hr
    refine ⟨_, rfl, ixT h (by decide) rfl ?_⟩
    refine ⟨_, rfl, .inl ⟨rfl, _, rfl, yes ?_⟩⟩
    exact ⟨_, rfl, ixT h (by decide) rfl ⟨_, rfl, ixT h (by decide) rfl ⟨(by show 2 ≤ sizeLine; decide), fun t ht => q t _ upd_same ((Same.refl H).new ht)⟩⟩⟩
  | call x k as =>
    obtain ⟨p, q1, rfl, h, h1⟩ := hr
    refine ⟨_, rfl, ixT h (by decide) rfl ?_⟩
    refine ⟨_, rfl, .inl ⟨rfl, _, rfl, no (by decide +kernel) ?_⟩⟩
    refine ⟨_, rfl, .inl ⟨rfl, _, rfl, yes ?_⟩⟩
    exact ⟨_, rfl, ixT h (by decide) rfl ⟨_, _, rfl, .inr ⟨SqT.of h1, q _ _ h1 (Same.refl H)⟩⟩⟩
  | say a =>
    obtain ⟨p, rfl, h⟩ := hr
    refine ⟨_, rfl, ixT h (by decide) rfl ?_⟩
    refine ⟨_, rfl, .inl ⟨rfl, _, rfl, no (by decide +kernel) ?_⟩⟩
    refine ⟨_, rfl, .inl ⟨rfl, _, rfl, no (by decide +kernel) ?_⟩⟩
    refine ⟨_, rfl, (by show 3 ≤ sizeLine; decide), fun t ht => ⟨t, _, rfl, .inr (SqT.of upd_same), rfl, rfl, _, rfl, if_t (by decide +kernel) ?_⟩⟩
    have nt : p ≠ t := ne_of_none h ht
    exact ⟨_, rfl, ixT (by rw [upd_ne nt]; exact h) (by decide) rfl ⟨(by show 1 ≤ sizeLine; decide), fun t2 ht2 => q t2 _ upd_same (((Same.refl H).new ht).new ht2)⟩⟩
  | jump to =>
    obtain ⟨p, rfl, h⟩ := hr
    refine ⟨_, rfl, ixT h (by decide) rfl ?_⟩
    refine ⟨_, rfl, .inl ⟨rfl, _, rfl, no (by decide +kernel) ?_⟩⟩
    refine ⟨_, rfl, .inl ⟨rfl, _, rfl, no (by decide +kernel) ?_⟩⟩
    refine ⟨_, rfl, (by show 3 ≤ sizeLine; decide), fun t ht => ⟨t, _, rfl, .inr (SqT.of upd_same), rfl, rfl, _, rfl, if_f (by decide +kernel) ?_⟩⟩
    have nt : p ≠ t := ne_of_none h ht
    exact ⟨(by show 0 ≤ sizeLine; decide), fun t2 ht2 => q t2 _ upd_same (((Same.refl H).new ht).new ht2)⟩
  | test a to =>
    obtain ⟨p, rfl, h⟩ := hr
    refine ⟨_, rfl, ixT h (by decide) rfl ?_⟩
    refine ⟨_, rfl, .inl ⟨rfl, _, rfl, no (by decide +kernel) ?_⟩⟩
    refine ⟨_, rfl, .inl ⟨rfl, _, rfl, no (by decide +kernel) ?_⟩⟩
    refine ⟨_, rfl, (by show 3 ≤ sizeLine; decide), fun t ht => ⟨t, _, rfl, .inr (SqT.of upd_same), rfl, rfl, _, rfl, if_t (by decide +kernel) ?_⟩⟩
    have nt : p ≠ t := ne_of_none h ht
    exact ⟨_, rfl, ixT (by rw [upd_ne nt]; exact h) (by decide) rfl ⟨(by show 1 ≤ sizeLine; decide), fun t2 ht2 => q t2 _ upd_same (((Same.refl H).new ht).new ht2)⟩⟩
  | give a =>
    obtain ⟨p, rfl, h⟩ := hr
    refine ⟨_, rfl, ixT h (by decide) rfl ?_⟩
    refine ⟨_, rfl, .inl ⟨rfl, _, rfl, no (by decide +kernel) ?_⟩⟩
    refine ⟨_, rfl, .inl ⟨rfl, _, rfl, no (by decide +kernel) ?_⟩⟩
    refine ⟨_, rfl, (by show 3 ≤ sizeLine; decide), fun t ht => ⟨t, _, rfl, .inr (SqT.of upd_same), rfl, rfl, _, rfl, if_t (by decide +kernel) ?_⟩⟩
    have nt : p ≠ t := ne_of_none h ht
    exact ⟨_, rfl, ixT (by rw [upd_ne nt]; exact h) (by decide) rfl ⟨(by show 1 ≤ sizeLine; decide), fun t2 ht2 => q t2 _ upd_same (((Same.refl H).new ht).new ht2)⟩⟩
theorem r_p_sets {K : PySem.W.Frag} {vs : List V} {H : Hp} {Q : VK} {E : XK} (h : sp_p_sets K vs H Q E) : t_p_sets K { nx := fun _ H' => Q .non H', rt := Q } (start N_p_sets vs) H := by
  obtain ⟨v, r, rfl, hr, q⟩ := h
  cases r with
  | num x z =>
    obtain ⟨p, rfl, h⟩ := hr
    refine ⟨_, rfl, ixT h (by decide) rfl ?_⟩
    refine ⟨(by show 3 ≤ sizeLine; decide), fun t ht => ⟨t, _, rfl, .inr (SqT.of upd_same), rfl, rfl, _, rfl, if_t (by decide +kernel) ?_⟩⟩
    have nt : p ≠ t := ne_of_none h ht
    exact ⟨_, rfl, ixT (by rw [upd_ne nt]; exact h) (by decide) rfl (q _ ((Same.refl H).new ht))⟩
  | op x s a b =>
    obtain ⟨p, rfl, h⟩ := hr
    refine ⟨_, rfl, ixT h (by decide) rfl ?_⟩
    refine ⟨(by show 3 ≤ sizeLine; decide), fun t ht => ⟨t, _, rfl, .inr (SqT.of upd_same), rfl, rfl, _, rfl, if_t (by decide +kernel) ?_⟩⟩
    have nt : p ≠ t := ne_of_none h ht
    exact ⟨_, rfl, ixT (by rw [upd_ne nt]; exact h) (by decide) rfl (q _ ((Same.refl H).new ht))⟩
  | call x k as =>
    obtain ⟨p, q1, rfl, h, h1⟩ := hr
    refine ⟨_, rfl, ixT h (by decide) rfl ?_⟩
    refine ⟨(by show 3 ≤ sizeLine; decide), fun t ht => ⟨t, _, rfl, .inr (SqT.of upd_same), rfl, rfl, _, rfl, if_t (by decide +kernel) ?_⟩⟩
    have nt : p ≠ t := ne_of_none h ht
    exact ⟨_, rfl, ixT (by rw [upd_ne nt]; exact h) (by decide) rfl (q _ ((Same.refl H).new ht))⟩
  | say a =>
    obtain ⟨p, rfl, h⟩ := hr
    refine ⟨_, rfl, ixT h (by decide) rfl ?_⟩
    refine ⟨(by show 3 ≤ sizeLine; decide), fun t ht => ⟨t, _, rfl, .inr (SqT.of upd_same), rfl, rfl, _, rfl, if_f (by decide +kernel) ?_⟩⟩
    have nt : p ≠ t := ne_of_none h ht
    exact q _ ((Same.refl H).new ht)
  | jump to =>
    obtain ⟨p, rfl, h⟩ := hr
    refine ⟨_, rfl, ixT h (by decide) rfl ?_⟩
    refine ⟨(by show 3 ≤ sizeLine; decide), fun t ht => ⟨t, _, rfl, .inr (SqT.of upd_same), rfl, rfl, _, rfl, if_f (by decide +kernel) ?_⟩⟩
    have nt : p ≠ t := ne_of_none h ht
    exact q _ ((Same.refl H).new ht)
  | test a to =>
    obtain ⟨p, rfl, h⟩ := hr
    refine ⟨_, rfl, ixT h (by decide) rfl ?_⟩
    refine ⟨(by show 3 ≤ sizeLine; decide), fun t ht => ⟨t, _, rfl, .inr (SqT.of upd_same), rfl, rfl, _, rfl, if_f (by decide +kernel) ?_⟩⟩
    have nt : p ≠ t := ne_of_none h ht
    exact q _ ((Same.refl H).new ht)
  | give a =>
    obtain ⟨p, rfl, h⟩ := hr
    refine ⟨_, rfl, ixT h (by decide) rfl ?_⟩
    refine ⟨(by show 3 ≤ sizeLine; decide), fun t ht => ⟨t, _, rfl, .inr (SqT.of upd_same), rfl, rfl, _, rfl, if_f (by decide +kernel) ?_⟩⟩
    have nt : p ≠ t := ne_of_none h ht
    exact q _ ((Same.refl H).new ht)
theorem r_p_goal {K : PySem.W.Frag} {vs : List V} {H : Hp} {Q : VK} {E : XK} (h : sp_p_goal K vs H Q E) : t_p_goal K { nx := fun _ H' => Q .non H', rt := Q } (start N_p_goal vs) H := by
  obtain ⟨v, r, rfl, hr, q⟩ := h
  cases r with
  | num x z =>
    obtain ⟨p, rfl, h⟩ := hr
    refine ⟨_, rfl, ixT h (by decide) rfl (.inl ⟨rfl, _, rfl, no (by decide +kernel) ?_⟩)⟩
    exact ⟨_, rfl, ixT h (by decide) rfl (.inl ⟨rfl, _, rfl, no (by decide +kernel) q⟩)⟩
  | op x s a b =>
    obtain ⟨p, rfl, h⟩ := hr
    refine ⟨_, rfl, ixT h (by decide) rfl (.inl ⟨rfl, _, rfl, no (by decide +kernel) ?_⟩)⟩
    exact ⟨_, rfl, ixT h (by decide) rfl (.inl ⟨rfl, _, rfl, no (by decide +kernel) q⟩)⟩
  | call x k as =>
    obtain ⟨p, q1, rfl, h, h1⟩ := hr
    refine ⟨_, rfl, ixT h (by decide) rfl (.inl ⟨rfl, _, rfl, no (by decide +kernel) ?_⟩)⟩
    exact ⟨_, rfl, ixT h (by decide) rfl (.inl ⟨rfl, _, rfl, no (by decide +kernel) q⟩)⟩
  | say a =>
    obtain ⟨p, rfl, h⟩ := hr
    refine ⟨_, rfl, ixT h (by decide) rfl (.inl ⟨rfl, _, rfl, no (by decide +kernel) ?_⟩)⟩
    exact ⟨_, rfl, ixT h (by decide) rfl (.inl ⟨rfl, _, rfl, no (by decide +kernel) q⟩)⟩
  | jump to =>
    obtain ⟨p, rfl, h⟩ := hr
    exact ⟨_, rfl, ixT h (by decide) rfl (.inl ⟨rfl, _, rfl, yes ⟨_, rfl, ixT h (by decide) rfl q⟩⟩)⟩
  | test a to =>
    obtain ⟨p, rfl, h⟩ := hr
    refine ⟨_, rfl, ixT h (by decide) rfl (.inl ⟨rfl, _, rfl, no (by decide +kernel) ?_⟩)⟩
    exact ⟨_, rfl, ixT h (by decide) rfl (.inl ⟨rfl, _, rfl, yes ⟨_, rfl, ixT h (by decide) rfl q⟩⟩)⟩
  | give a =>
    obtain ⟨p, rfl, h⟩ := hr
    refine ⟨_, rfl, ixT h (by decide) rfl (.inl ⟨rfl, _, rfl, no (by decide +kernel) ?_⟩)⟩
    exact ⟨_, rfl, ixT h (by decide) rfl (.inl ⟨rfl, _, rfl, no (by decide +kernel) q⟩)⟩
end Bg
end
section
set_option Elab.async false
set_option linter.all false
set_option maxRecDepth 100000
set_option maxHeartbeats 4000000
namespace Bg
open PySem L2
end Bg
end
section
set_option Elab.async false
set_option linter.all false
set_option maxRecDepth 100000
set_option maxHeartbeats 4000000
namespace Bg
open PySem L2
end Bg
end
section
set_option Elab.async false
set_option linter.all false
set_option maxRecDepth 100000
set_option maxHeartbeats 4000000
namespace Bg
open PySem L2
theorem r_p_stands {K : PySem.W.Frag} {vs : List V} {H : Hp} {Q : VK} {E : XK} (h : sp_p_stands K vs H Q E) : t_p_stands K { nx := fun _ H' => Q .non H', rt := Q } (start N_p_stands vs) H := by
  obtain ⟨rt, n, rvs, rs, rfl, hrt, hA, g, hn, q⟩ := h
  refine ⟨_, rfl, ?_⟩
  show t_p_stands_3 K _ [some (.ref rt), some (.int (n : Nat)), some (.int (n : Nat))] H
  refine ⟨fun m σ' H' => ∃ k, k ≤ rs.length ∧ m = rs.length - k ∧ σ' = [some (.ref rt), some (.int (n : Nat)), some (.int (runJ rs k n : Nat))] ∧ H' = H, ⟨_, 0, Nat.zero_le _, rfl, rfl, rfl⟩, ?_⟩
  rintro m σ' H' ⟨k, hk, rfl, rfl, rfl⟩
  have lt := runJ_lt g k hn
  obtain ⟨v, r, e1, e2, hra⟩ := hA.get lt
  obtain ⟨p, xs, rfl, hp⟩ := hra.ref
  have e1' : rvs[((runJ rs k n : Nat) : Int).toNat]? = some (.ref p) := by simpa using e1
  refine ⟨_, rfl, _, rfl, ixT hrt (by omega) e1' (ixT hp (by decide) rfl (.inl ⟨rfl, _, rfl, if_dec (fun hw => ?_) (fun hw => ?_)⟩))⟩
  · obtain ⟨t', rfl⟩ := word_jump (str_inj hw)
    have kl : k < rs.length := by
      by_cases c : k < rs.length
      · exact c
      · have : k = rs.length := by omega
        subst this
        have := g.ring n hn _ e2
        cases this
    refine ⟨fun σ' H'' => σ' = [some (.ref rt), some (.int (n : Nat)), some (.int (runJ rs (k + 1) n : Nat))] ∧ H'' = H', ?_, ?_⟩
    · rintro σ4 H4 ⟨rfl, rfl⟩
      exact ⟨rs.length - (k + 1), by omega, k + 1, kl, rfl, rfl, rfl⟩
    · refine ⟨_, rfl, _, rfl, ixT hrt (by omega) e1' ⟨.ref p, .jump t', rfl, hra, ?_⟩⟩
      have e : runJ rs (k + 1) n = t' := by rw [runJ_succ]; unfold stp; rw [e2]
      rw [e]
      exact ⟨rfl, rfl⟩
  · have e := runJ_end (rs := rs) (k := k) (n := n) hk fun r' hr' => by
      rw [e2] at hr'; cases hr'
      exact not_jump fun z => hw (by rw [z])
    rw [e] at q
    exact ⟨_, rfl, q⟩
end Bg
end
section
set_option Elab.async false
set_option linter.all false
set_option maxRecDepth 100000
set_option maxHeartbeats 4000000
namespace Bg
open PySem L2
theorem r_p_unbounded {K : PySem.W.Frag} {vs : List V} {H : Hp} {Q : VK} {E : XK} (h : sp_p_unbounded K vs H Q E) : t_p_unbounded K { nx := fun _ H' => Q .non H', rt := Q } (start N_p_unbounded vs) H := by
  obtain ⟨s, a, b, rfl, ha, hb, q⟩ := h
  refine ⟨_, rfl, .inl ⟨rfl, _, rfl, if_dec (fun h => ?_) (fun h => ?_)⟩⟩
  · have e : s = "+" := V.str.inj h
    refine ⟨_, rfl, _, rfl, .inl ⟨_, _, rfl, rfl, ?_⟩⟩
    have q' := q
    unfold unb at q'
    rw [if_pos e] at q'
    exact q'
  have h1 : ¬ s = "+" := fun e => h (by rw [e])
  refine ⟨_, rfl, .inl ⟨rfl, _, rfl, if_dec (fun h => ?_) (fun h => ?_)⟩⟩
  · have e : s = "-" := V.str.inj h
    refine ⟨_, rfl, _, rfl, _, _, rfl, rfl, ?_⟩
    have q' := q
    unfold unb at q'
    rw [if_neg h1, if_pos e] at q'
    exact q'
  have h2 : ¬ s = "-" := fun e => h (by rw [e])
  refine ⟨_, rfl, _, rfl, .inl ⟨_, _, rfl, rfl, .inl ⟨by have := ha.1; omega, ha.2⟩, ?_⟩⟩
  have q' := q
  unfold unb at q'
  rw [if_neg h1, if_neg h2] at q'
  exact q'
theorem r_p_worth {K : PySem.W.Frag} {vs : List V} {H : Hp} {Q : VK} {E : XK} (h : sp_p_worth K vs H Q E) : t_p_worth K { nx := fun _ H' => Q .non H', rt := Q } (start N_p_worth vs) H := by
  obtain ⟨s, a, b, rfl, ha, hb, q⟩ := h
  have e64 : (2 : Int) ^ Int.toNat 64 = 18446744073709551616 := by decide
  refine ⟨_, rfl, .inl ⟨rfl, _, rfl, if_dec (fun h => ?_) (fun h => ?_)⟩⟩
  · have e : s = "<" := V.str.inj h
    have q' := q
    unfold wth at q'
    rw [if_pos e] at q'
    refine ⟨_, rfl, _, rfl, _, _, rfl, rfl, _, rfl, if_dec (fun h => ?_) (fun h => ?_)⟩
    · rw [if_pos h] at q'; exact q'
    · rw [if_neg h] at q'; exact q'
  have h1 : ¬ s = "<" := fun e => h (by rw [e])
  refine ⟨_, rfl, .inl ⟨rfl, _, rfl, if_dec (fun h => ?_) (fun h => ?_)⟩⟩
  · have e : s = "=" := V.str.inj h
    have q' := q
    unfold wth at q'
    rw [if_neg h1, if_pos e] at q'
    refine ⟨_, rfl, _, rfl, .inl ⟨rfl, _, rfl, if_dec (fun h => ?_) (fun h => ?_)⟩⟩
    · rw [if_pos (V.int.inj h)] at q'; exact q'
    · rw [if_neg (fun z => h (by rw [z]))] at q'; exact q'
  have h2 : ¬ s = "=" := fun e => h (by rw [e])
  have q' := q
  unfold wth at q'
  rw [if_neg h1, if_neg h2] at q'
  refine ⟨_, rfl, _, rfl, _, rfl, s, a, b, rfl, ha, hb, _, _, rfl, rfl, ⟨by decide, by decide, by decide⟩, _, _, rfl, rfl, (by show (0 : Int) < (2 : Int) ^ Int.toNat 64; decide), ?_⟩
  show Q (.int (unb s a b % (2 : Int) ^ Int.toNat 64)) H
  rw [e64]; exact q'
end Bg
end
section
set_option Elab.async false
set_option linter.all false
set_option maxRecDepth 100000
set_option maxHeartbeats 4000000
namespace Bg
open PySem L2
theorem r_Run_init {K : PySem.W.Frag} {vs : List V} {H : Hp} {Q : VK} {E : XK} (h : sp_Run_init K vs H Q E) : t_Run_init K { nx := fun _ H' => Q .non H', rt := Q } (start N_Run_init vs) H := by
  obtain ⟨x, dx, C, rfl, hx, R, q⟩ := h
  refine ⟨(by show 0 ≤ sizeLine; decide), fun ol no => ?_⟩
  have hx1 : upd H ol (.lst []) x = some (.ins C dx []) := by rw [upd_ne (ne_of_none hx no)]; exact hx
  refine ⟨_, rfl, x, C, dx, _, rfl, hx1, R.cl, R.no, (by show 0 < 1000; decide), ?_⟩
  show t_Run_init_2 K _ [some (.ref x)] (upd (upd H ol (.lst [])) x (.ins C dx [("opened", .ref ol)]))
  have xo : x ≠ ol := ne_of_none hx no
  refine ⟨(by show 0 ≤ sizeLine; decide), fun sl ns => ?_⟩
  have g1 : upd (upd H ol (.lst [])) x (.ins C dx [("opened", .ref ol)]) x = some (.ins C dx [("opened", .ref ol)]) := upd_same
  have xs : x ≠ sl := ne_of_none g1 ns
  have os : ol ≠ sl := fun z => by subst z; rw [upd_ne (Ne.symm xo), upd_same] at ns; cases ns
  have Hs : H sl = none := by rw [upd_ne (Ne.symm xs), upd_ne (Ne.symm os)] at ns; exact ns
  refine ⟨_, rfl, x, C, dx, _, rfl, (by rw [upd_ne xs]; exact g1), R.cl, R.ns, (by show 1 < 1000; decide), ?_⟩
  refine ⟨_, rfl, x, C, dx, _, rfl, upd_same, R.cl, R.nu, (by show 2 < 1000; decide), ?_⟩
  refine q ol sl _ no Hs os upd_same ?_ ?_ fun b o nb hb => ?_
  · rw [upd_ne (Ne.symm xo), upd_ne (Ne.symm xo), upd_ne os, upd_ne (Ne.symm xo), upd_same]
  · rw [upd_ne (Ne.symm xs), upd_ne (Ne.symm xs), upd_same]
  · rw [upd_ne nb, upd_ne nb, upd_ne (ne_of_none hb Hs), upd_ne nb, upd_ne (ne_of_none hb no)]
    exact hb
theorem r_Run_ended {K : PySem.W.Frag} {vs : List V} {H : Hp} {Q : VK} {E : XK} (h : sp_Run_ended K vs H Q E) : t_Run_ended K { nx := fun _ H' => Q .non H', rt := Q } (start N_Run_ended vs) H := by
  obtain ⟨w, C, dx, ol, fs, fvs, rfl, hw, R, lk, ho, q⟩ := h
  refine ⟨_, rfl, w, C, dx, fs, _, rfl, hw, R.cl, R.no, lk, _, _, rfl, .inl ⟨_, SqL.of ho, rfl⟩, .inl ⟨rfl, q _ ?_⟩⟩
  rw [decide_eq_true_eq]
  constructor
  · intro z
    have z' := V.int.inj z
    exact List.length_eq_zero_iff.mp (by omega)
  · intro z
    rw [z]; rfl
theorem r_Run_said {K : PySem.W.Frag} {vs : List V} {H : Hp} {Q : VK} {E : XK} (h : sp_Run_said K vs H Q E) : t_Run_said K { nx := fun _ H' => Q .non H', rt := Q } (start N_Run_said vs) H := by
  obtain ⟨w, C, dx, sl, fs, xs, rfl, hw, R, lk, hs, q⟩ := h
  exact ⟨_, rfl, w, C, dx, fs, _, rfl, hw, R.cl, R.ns, lk, sl, _, rfl, .inl (SqL.of hs), q⟩
theorem r_Run_answer {K : PySem.W.Frag} {vs : List V} {H : Hp} {Q : VK} {E : XK} (h : sp_Run_answer K vs H Q E) : t_Run_answer K { nx := fun _ H' => Q .non H', rt := Q } (start N_Run_answer vs) H := by
  obtain ⟨w, C, dx, fs, v, rfl, hw, R, lk, q⟩ := h
  exact ⟨_, rfl, w, C, dx, fs, _, rfl, hw, R.cl, R.nu, lk, q⟩
end Bg
end
section
set_option Elab.async false
set_option linter.all false
set_option maxRecDepth 100000
set_option maxHeartbeats 4000000
namespace Bg
open PySem L2
theorem r_Frame_init {K : PySem.W.Frag} (T : TxtW K) {vs : List V} {H : Hp} {Q : VK} {E : XK} (h : sp_Frame_init K vs H Q E) : t_Frame_init K { nx := fun _ H' => Q .non H', rt := Q } (start N_Frame_init vs) H := by
  obtain ⟨x, dx, p, r, n, rfl, hx, q⟩ := h
  refine ⟨_, rfl, _, rfl, x, _, dx, _, rfl, hx, T.clF, T.nFp, (by show 0 < 1000; decide), ?_⟩
  refine ⟨_, rfl, _, rfl, x, _, dx, _, rfl, upd_same, T.clF, T.nFr, (by show 1 < 1000; decide), ?_⟩
  refine ⟨_, rfl, _, rfl, x, _, dx, _, rfl, upd_same, T.clF, T.nFn, (by show 2 < 1000; decide), ?_⟩
  show Q .non _
  rw [upd_upd, upd_upd]
  exact q
theorem fw_ne {C C' : Addr} {dx dx' pp ol sl : Addr} {o p r d : V} : HO.ins C dx (fFs p r d) ≠ HO.ins C' dx' (wFs pp ol sl o) := fun z => by
  injection z with _ _ z
  have := congrArg List.length z
  exact absurd this (by show ¬ 3 = 4; decide)
theorem WalkX.up {K : PySem.W.Frag} {H0 H : Hp} {w pp dx ol sl : Addr} {fvs : List V} {ds : List Addr} {n n' : Nat} {st : WSt} (X : WalkX K H0 H w pp dx ol sl fvs ds n st) (h : n ≤ n') : WalkX K H0 H w pp dx ol sl fvs ds n' st :=
  ⟨X.at_, X.op, X.sp, X.ne, X.fr, X.sm, X.nw, X.no, X.ns, X.nf, X.nd, Nat.le_trans X.few h, Nat.le_trans X.saw h, fun f hf => Nat.le_trans (X.nms f hf) (by omega)⟩
theorem same_put {H0 H : Hp} {a : Addr} {o : HO} (s : Same H0 H) (n : H0 a = none) : Same H0 (upd H a o) := fun b u h => by rw [upd_ne (ne_of_none h n)]; exact s b u h
theorem WalkX.same {K : PySem.W.Frag} {H0 H H' : Hp} {w pp dx ol sl : Addr} {fvs : List V} {ds : List Addr} {n : Nat} {st : WSt} (X : WalkX K H0 H w pp dx ol sl fvs ds n st) (s : Same H H') : WalkX K H0 H' w pp dx ol sl fvs ds n st :=
  ⟨s _ _ X.at_, s _ _ X.op, s _ _ X.sp, X.ne, X.fr.keep (fun a _ o e => s a o e) fun d _ o e => s d o e, X.sm.trans s, X.nw, X.no, X.ns, X.nf, X.nd, X.few, X.saw, X.nms⟩
theorem WalkX.last {K : PySem.W.Frag} {H0 H : Hp} {w pp dx ol sl a : Addr} {fvs : List V} {ds : List Addr} {n : Nat} {fs : List Fr} {f : Fr} {said : List Int} {out : V} (X : WalkX K H0 H w pp dx ol sl (fvs ++ [.ref a]) ds n ⟨fs ++ [f], said, out⟩) :
    ∃ dxa d, H a = some (.ins (clsAt K "Frame") dxa (fFs (.int (f.part : Nat)) (.int (f.row : Nat)) (.ref d))) ∧ H d = some (.dK f.nm) ∧ f.nm.length ≤ n + 100 ∧
      (∀ row' : Nat, WalkX K H0 (upd H a (.ins (clsAt K "Frame") dxa (fFs (.int (f.part : Nat)) (.int (row' : Nat)) (.ref d)))) w pp dx ol sl (fvs ++ [.ref a]) ds n ⟨fs ++ [⟨f.part, row', f.nm⟩], said, out⟩) ∧
      ∀ nm' : List (Key × V), nm'.length ≤ f.nm.length + 1 → WalkX K H0 (upd H d (.dK nm')) w pp dx ol sl (fvs ++ [.ref a]) ds (n + 1) ⟨fs ++ [⟨f.part, f.row, nm'⟩], said, out⟩ := by
  obtain ⟨fvs', ds', a', dxa, d, e1, e2, hf, na, nd, ha, hd⟩ := X.fr.last
  obtain ⟨rfl, e3⟩ := snoc_inj e1
  injection e3 with e3
  subst e3
  have fm := X.nms f (List.mem_append_right _ List.mem_cons_self)
  have mem : V.ref a ∈ fvs ++ [.ref a] := List.mem_append_right _ List.mem_cons_self
  have memd : d ∈ ds := by rw [e2]; exact List.mem_append_right _ List.mem_cons_self
  have law : w ≠ a := fun z => by have := X.at_; rw [z, ha] at this; injection this with this; exact fw_ne this
  refine ⟨dxa, d, ha, hd, fm, fun row' => ?_, fun nm' hl => ?_⟩
  · have n1 : ol ≠ a := ne_of X.op ha (by intro z; cases z)
    have n2 : sl ≠ a := ne_of X.sp ha (by intro z; cases z)
    refine ⟨by rw [upd_ne law]; exact X.at_, by rw [upd_ne n1]; exact X.op, by rw [upd_ne n2]; exact X.sp, X.ne, ?_, same_put X.sm (X.nf a mem), X.nw, X.no, X.ns, X.nf, X.nd, X.few, X.saw, fun g hg => ?_⟩
    · rw [e2]
      refine .snoc (hf.keep (fun b hb o e => ?_) fun b hb o e => ?_) na nd upd_same (by rw [upd_ne (ne_of hd ha (by intro z; cases z))]; exact hd)
      · rw [upd_ne (fun z => na (by rw [← z]; exact hb))]; exact e
      · obtain ⟨l, hl⟩ := hf.dct hb
        rw [upd_ne (ne_of hl ha (by intro z; cases z))]; exact e
    · rcases List.mem_append.mp hg with z | z
      · exact X.nms g (List.mem_append_left _ z)
      · rw [List.mem_singleton.mp z]; exact fm
  · have n0 : w ≠ d := ne_of X.at_ hd (by intro z; cases z)
    have n1 : ol ≠ d := ne_of X.op hd (by intro z; cases z)
    have n2 : sl ≠ d := ne_of X.sp hd (by intro z; cases z)
    refine ⟨by rw [upd_ne n0]; exact X.at_, by rw [upd_ne n1]; exact X.op, by rw [upd_ne n2]; exact X.sp, X.ne, ?_, same_put X.sm (X.nd d memd), X.nw, X.no, X.ns, X.nf, X.nd, Nat.le_succ_of_le X.few, Nat.le_succ_of_le X.saw, fun g hg => ?_⟩
    · rw [e2]
      refine .snoc (f := ⟨f.part, f.row, nm'⟩) (hf.keep (fun b hb o e => ?_) fun b hb o e => ?_) na nd (by rw [upd_ne (ne_of ha hd (by intro z; cases z))]; exact ha) upd_same
      · obtain ⟨dxb, l, hb', _⟩ := hf.ins hb
        rw [upd_ne (ne_of hb' hd (by intro z; cases z))]; exact e
      · rw [upd_ne (fun z => nd (by rw [← z]; exact hb))]; exact e
    · rcases List.mem_append.mp hg with z | z
      · exact Nat.le_succ_of_le (X.nms g (List.mem_append_left _ z)) |> fun h => by omega
      · rw [List.mem_singleton.mp z]
        show nm'.length ≤ n + 1 + 100
        omega
theorem WalkX.say {K : PySem.W.Frag} {H0 H : Hp} {w pp dx ol sl : Addr} {fvs : List V} {ds : List Addr} {n : Nat} {fs : List Fr} {said : List Int} {out : V} (X : WalkX K H0 H w pp dx ol sl fvs ds n ⟨fs, said, out⟩) (i : Int) :
    WalkX K H0 (upd H sl (.lst (said.map V.int ++ [.int i]))) w pp dx ol sl fvs ds (n + 1) ⟨fs, said ++ [i], out⟩ := by
  have n0 : w ≠ sl := ne_of X.at_ X.sp (by intro z; cases z)
  refine ⟨by rw [upd_ne n0]; exact X.at_, by rw [upd_ne X.ne]; exact X.op, by rw [upd_same, List.map_append]; rfl, X.ne, X.fr.keep (fun b hb o e => ?_) (fun b hb o e => ?_), same_put X.sm X.ns, X.nw, X.no, X.ns, X.nf, X.nd, Nat.le_succ_of_le X.few, ?_, fun g hg => ?_⟩
  · obtain ⟨dxb, l, hb', _⟩ := X.fr.ins hb
    rw [upd_ne (ne_of hb' X.sp (by intro z; cases z))]; exact e
  · obtain ⟨l, hl⟩ := X.fr.dct hb
    rw [upd_ne (ne_of hl X.sp (by intro z; cases z))]; exact e
  · have := X.saw
    show (said ++ [i]).length ≤ n + 1
    rw [List.length_append]
    exact Nat.succ_le_succ this
  · have := X.nms g hg
    omega
theorem part_rows {H : Hp} {pp : Addr} {bs : List BPart} {k : Nat} {b : BPart} (P : ProgAt H pp bs) (hb : bs[k]? = some b) : ∃ pvs pt pa rt rvs, H pp = some (.tup pvs) ∧ pvs[((k : Nat) : Int).toNat]? = some (.ref pt) ∧ H pt = some (.tup [.str b.name, .ref pa, .ref rt]) ∧ H pa = some (.tup (b.params.map V.str)) ∧ H rt = some (.tup rvs) ∧ AllAt (RowAt H) rvs b.rows := by
  obtain ⟨pvs, e, A⟩ := P.ex
  have kl : k < bs.length := (List.getElem?_eq_some_iff.mp hb).1
  obtain ⟨v, b', e1, e2, pt, pa, rt, rvs, rfl, h1, h2, h3, h4⟩ := A.get kl
  rw [hb] at e2; cases e2
  exact ⟨pvs, pt, pa, rt, rvs, e, by simpa using e1, h1, h2, h3, h4⟩
theorem r_Walk_go_on {K : PySem.W.Frag} (T : TxtW K) {vs : List V} {H : Hp} {Q : VK} {E : XK} (h : sp_Walk_go_on K vs H Q E) : t_Walk_go_on K { nx := fun _ H' => Q .non H', rt := Q } (start N_Walk_go_on vs) H := by
  obtain ⟨w, pp, a, dx, ol, sl, to, n, H0, fvs, ds, fs, f, said, out, bs, b, rfl, X, P, hb, tl, q⟩ := h
  obtain ⟨dxa, d, ha, hd, _, row, _⟩ := X.last
  obtain ⟨pvs, pt, pa, rt, rvs, h1, e1, h2, _, h3, hR⟩ := part_rows (P.same X.sm) hb
  have good := P.good b (List.mem_of_getElem? hb)
  refine ⟨_, rfl, w, _, dx, _, _, rfl, X.at_, T.clW, T.nWp, rfl, _, rfl, a, _, dxa, _, _, rfl, ha, T.clF, T.nFp, rfl, ixT h1 (by omega) e1 (ixT h2 (by decide) rfl ⟨_, rfl, rt, to, rvs, b.rows, rfl, h3, hR, good, tl, _, rfl, a, _, dxa, _, rfl, ha, T.clF, T.nFr, (by show 3 < 1000; decide), ?_⟩)⟩
  exact q _ (row (go b to))
end Bg
end
section
set_option Elab.async false
set_option linter.all false
set_option maxRecDepth 100000
set_option maxHeartbeats 4000000
namespace Bg
open PySem L2
theorem r_Walk_enter {K : PySem.W.Frag} (T : TxtW K) {vs : List V} {H : Hp} {Q : VK} {E : XK} (h : sp_Walk_enter K vs H Q E) : t_Walk_enter K { nx := fun _ H' => Q .non H', rt := Q } (start N_Walk_enter vs) H := by
  obtain ⟨w, pp, q0, k, n, H0, st, zs, bs, b, rfl, ⟨dx, ol, sl, fvs, ds, X⟩, P, hb, hl, hq, hn, q⟩ := h
  obtain ⟨pvs, pt, pa, rt, rvs, h1, e1, h2, h3, h4, hR⟩ := part_rows (P.same X.sm) hb
  have good := P.good b (List.mem_of_getElem? hb)
  have few := P.few b (List.mem_of_getElem? hb)
  refine ⟨_, rfl, w, _, dx, _, _, rfl, X.at_, T.clW, T.nWp, rfl, _, rfl, ixT h1 (by omega) e1 (ixT h2 (by decide) rfl ?_)⟩
  refine ⟨_, rfl, w, _, dx, _, _, rfl, X.at_, T.clW, T.nWp, rfl, _, rfl, ixT h1 (by omega) e1 (ixT h2 (by decide) rfl ⟨rt, 0, rvs, b.rows, rfl, h4, hR, good, good.pos, ?_⟩)⟩
  show t_Walk_enter_1 K _ [some (.ref w), some (.int (k : Nat)), some (.ref q0), some (.ref pa), some (.int (go b 0 : Nat))] H
  refine ⟨_, rfl, w, _, dx, _, _, rfl, X.at_, T.clW, T.nWo, rfl, .inl ⟨rfl, _, SqL.of X.op⟩, ?_⟩
  refine ⟨_, rfl, _, rfl, _, rfl, _, rfl, pa, q0, b.params, zs.map V.int, rfl, SqT.of h3, hq.imp SqL.of SqT.of, by rw [List.length_map]; exact hl, by omega, fun d nd => ?_⟩
  intro x dxx nx ndx nexx
  have nxd : x ≠ d := fun z => by rw [z, upd_same] at nx; cases nx
  have ndxd : dxx ≠ d := fun z => by rw [z, upd_same] at ndx; cases ndx
  have Hx : H x = none := by rw [upd_ne nxd] at nx; exact nx
  have Hdx : H dxx = none := by rw [upd_ne ndxd] at ndx; exact ndx
  refine ⟨x, dxx, _, _, _, rfl, upd_same, rfl, ?_⟩
  rw [upd_upd]
  have S : Same H (upd (upd (upd H d (.dK (mergeK [] ((b.params.map Sum.inr).zip (zs.map V.int))))) dxx (.own x)) x (.ins (clsAt K "Frame") dxx (fFs (.int (k : Nat)) (.int (go b 0 : Nat)) (.ref d)))) := by
    intro c o e
    rw [upd_ne (ne_of_none e Hx), upd_ne (ne_of_none e Hdx), upd_ne (ne_of_none e nd)]; exact e
  have gx : upd (upd (upd H d (.dK (mergeK [] ((b.params.map Sum.inr).zip (zs.map V.int))))) dxx (.own x)) x (.ins (clsAt K "Frame") dxx (fFs (.int (k : Nat)) (.int (go b 0 : Nat)) (.ref d))) x = some (.ins (clsAt K "Frame") dxx (fFs (.int (k : Nat)) (.int (go b 0 : Nat)) (.ref d))) := upd_same
  have gd : upd (upd (upd H d (.dK (mergeK [] ((b.params.map Sum.inr).zip (zs.map V.int))))) dxx (.own x)) x (.ins (clsAt K "Frame") dxx (fFs (.int (k : Nat)) (.int (go b 0 : Nat)) (.ref d))) d = some (.dK (mergeK [] ((b.params.map Sum.inr).zip (zs.map V.int)))) := by rw [upd_ne (Ne.symm nxd), upd_ne (Ne.symm ndxd)]; exact upd_same
  generalize upd (upd (upd H d (.dK (mergeK [] ((b.params.map Sum.inr).zip (zs.map V.int))))) dxx (.own x)) x (.ins (clsAt K "Frame") dxx (fFs (.int (k : Nat)) (.int (go b 0 : Nat)) (.ref d))) = H1 at S gx gd ⊢
  have X1 := X.same S
  have fz : fvs.length < sizeLine := smallL (by have := X.few; omega)
  refine ⟨ol, _, _, rfl, rfl, X1.op, fz, ?_⟩
  have H0x : H0 x = none := by
    cases e : H0 x with
    | none => rfl
    | some o => rw [X.sm _ _ e] at Hx; cases Hx
  have H0d : H0 d = none := by
    cases e : H0 d with
    | none => rfl
    | some o => rw [X.sm _ _ e] at nd; cases nd
  have n0 : w ≠ ol := ne_of X1.at_ X1.op (by intro z; cases z)
  have nfx : V.ref x ∉ fvs := fun m => by
    obtain ⟨dxb, l, hb', _⟩ := X.fr.ins m
    rw [hb'] at Hx; cases Hx
  have ndd : d ∉ ds := fun m => by
    obtain ⟨l, hl⟩ := X.fr.dct m
    rw [hl] at nd; cases nd
  refine q _ ⟨dx, ol, sl, fvs ++ [.ref x], ds ++ [d], by rw [upd_ne n0]; exact X1.at_, upd_same, by rw [upd_ne X.ne.symm]; exact X1.sp, X.ne, ?_, same_put X1.sm X.no, X.nw, X.no, X.ns, fun a m => ?_, fun c m => ?_, ?_, Nat.le_succ_of_le X.saw, fun f m => ?_⟩
  · refine .snoc (f := opens b k zs) (X1.fr.keep (fun a m o e => ?_) fun c m o e => ?_) nfx ndd (by rw [upd_ne (ne_of gx X1.op (by intro z; cases z))]; exact gx) (by rw [upd_ne (ne_of gd X1.op (by intro z; cases z))]; exact gd)
    · obtain ⟨dxb, l, hb', _⟩ := X1.fr.ins m
      rw [upd_ne (ne_of hb' X1.op (by intro z; cases z))]; exact e
    · obtain ⟨l, hl⟩ := X1.fr.dct m
      rw [upd_ne (ne_of hl X1.op (by intro z; cases z))]; exact e
  · rcases List.mem_append.mp m with z | z
    · exact X.nf a z
    · have := List.mem_singleton.mp z
      injection this with this
      rw [this]; exact H0x
  · rcases List.mem_append.mp m with z | z
    · exact X.nd c z
    · rw [List.mem_singleton.mp z]; exact H0d
  · rw [List.length_append]; exact Nat.succ_le_succ X.few
  · rcases List.mem_append.mp m with z | z
    · have := X.nms f z; omega
    · rw [List.mem_singleton.mp z]
      show (mergeK [] ((b.params.map Sum.inr).zip (zs.map V.int))).length ≤ n + 1 + 100
      have := length_mergeK ((b.params.map Sum.inr).zip (zs.map V.int)) []
      simp only [List.length_nil, List.length_zip, List.length_map] at this
      omega
theorem r_Walk_init {K : PySem.W.Frag} (T : TxtW K) {vs : List V} {H : Hp} {Q : VK} {E : XK} (h : sp_Walk_init K vs H Q E) : t_Walk_init K { nx := fun _ H' => Q .non H', rt := Q } (start N_Walk_init vs) H := by
  obtain ⟨w, dx, pp, q0, k, H0, zs, bs, b, rfl, hw, sm, nw, P, hb, hl, hq, q⟩ := h
  refine ⟨_, rfl, w, dx, _, rfl, hw, T.run, fun ol sl H1 no ns os w1 o1 p1 B1 => ?_⟩
  have hwq : q0 ≠ w := fun z => by rw [z, hw] at hq; rcases hq with z | z <;> cases z
  have q1 : H1 q0 = some (.lst (zs.map V.int)) ∨ H1 q0 = some (.tup (zs.map V.int)) := hq.imp (B1 _ _ hwq) (B1 _ _ hwq)
  have f0 : ∀ {c : Addr}, H c = none → H0 c = none := fun {c} e => by
    cases e0 : H0 c with
    | none => rfl
    | some o => rw [sm _ _ e0] at e; cases e
  have s1 : Same H0 H1 := fun c o e => B1 c o (ne_of_none e nw) (sm c o e)
  refine ⟨_, rfl, _, rfl, w, _, dx, _, rfl, w1, T.clW, T.nWp, (by show 3 < 1000; decide), ?_⟩
  have wo : ol ≠ w := ne_of o1 w1 (by intro z; cases z)
  have ws : sl ≠ w := ne_of p1 w1 (by intro z; cases z)
  have s3 : Same H0 (upd H1 w (.ins (clsAt K "Walk") dx (L2.putF "program" (.ref pp) (rFs ol sl)))) := same_put s1 nw
  have w3 : upd H1 w (.ins (clsAt K "Walk") dx (L2.putF "program" (.ref pp) (rFs ol sl))) w = some (.ins (clsAt K "Walk") dx (wFs pp ol sl .non)) := upd_same
  have o3 : upd H1 w (.ins (clsAt K "Walk") dx (L2.putF "program" (.ref pp) (rFs ol sl))) ol = some (.lst []) := by rw [upd_ne wo]; exact o1
  have p3 : upd H1 w (.ins (clsAt K "Walk") dx (L2.putF "program" (.ref pp) (rFs ol sl))) sl = some (.lst []) := by rw [upd_ne ws]; exact p1
  have q3 : upd H1 w (.ins (clsAt K "Walk") dx (L2.putF "program" (.ref pp) (rFs ol sl))) q0 = some (.lst (zs.map V.int)) ∨ upd H1 w (.ins (clsAt K "Walk") dx (L2.putF "program" (.ref pp) (rFs ol sl))) q0 = some (.tup (zs.map V.int)) := by rw [upd_ne hwq]; exact q1
  generalize upd H1 w (.ins (clsAt K "Walk") dx (L2.putF "program" (.ref pp) (rFs ol sl))) = H3 at s3 w3 o3 p3 q3 ⊢
  refine ⟨_, rfl, w, dx, _, rfl, w3, rfl, _, rfl, _, rfl, w, pp, q0, k, 0, H0, ⟨[], [], .non⟩, zs, bs, b, rfl, ⟨dx, ol, sl, [], [], w3, o3, p3, os, .nil, s3, nw, f0 no, f0 ns, fun a m => by (cases m), fun d m => by (cases m), Nat.le_refl _, Nat.le_refl _, fun f m => by (cases m)⟩, P, hb, hl, q3, by decide, fun H' X' => q H' X'⟩
end Bg
end
section
set_option Elab.async false
set_option linter.all false
set_option maxRecDepth 100000
set_option maxHeartbeats 4000000
namespace Bg
open PySem L2
def Res (bs : List BPart) (fs : List Fr) (f : Fr) (b : BPart) (said : List Int) (st' : WSt) : BRow → Prop
  | .num x z => st' = ⟨fs ++ [⟨f.part, go b (f.row + 1), put f.nm x z⟩], said, .non⟩
  | .op x s p q => ∃ i j, got f.nm p i ∧ got f.nm q j ∧ st' = ⟨fs ++ [⟨f.part, go b (f.row + 1), put f.nm x (wth s i j)⟩], said, .non⟩
  | .say p => ∃ i, got f.nm p i ∧ st' = ⟨fs ++ [⟨f.part, go b (f.row + 1), f.nm⟩], said ++ [i], .non⟩
  | .test p to => ∃ i, got f.nm p i ∧ st' = ⟨fs ++ [⟨f.part, if i = 0 then go b (f.row + 1) else go b to, f.nm⟩], said, .non⟩
  | .call _ k as => ∃ (c : BPart) (zs : List Int), bs[k]? = some c ∧ c.params.length = as.length ∧ zs.length = as.length ∧ (∀ (j : Nat) y z, as[j]? = some y → zs[j]? = some z → got f.nm y z) ∧ st' = ⟨fs ++ [f] ++ [opens c k zs], said, .non⟩
  | .give p => ∃ i, got f.nm p i ∧ ((fs = [] ∧ st' = ⟨[], said, .int i⟩) ∨ ∃ (gs : List Fr) (g : Fr) (c : BPart) (x : Str) (k : Nat) (as : List Str), fs = gs ++ [g] ∧ bs[g.part]? = some c ∧ c.rows[g.row]? = some (.call x k as) ∧ st' = ⟨gs ++ [⟨g.part, go c (g.row + 1), put g.nm x i⟩], said, .non⟩)
  | .jump _ => False
theorem Stp.inv {bs : List BPart} {st st' : WSt} (h : Stp bs st st') : ∃ fs f b r, st = ⟨fs ++ [f], st.said, .non⟩ ∧ bs[f.part]? = some b ∧ b.rows[f.row]? = some r ∧ Res bs fs f b st.said st' r := by
  cases h with
  | num hb hr => exact ⟨_, _, _, _, rfl, hb, hr, rfl⟩
  | op hb hr hi hj => exact ⟨_, _, _, _, rfl, hb, hr, _, _, hi, hj, rfl⟩
  | say hb hr hi => exact ⟨_, _, _, _, rfl, hb, hr, _, hi, rfl⟩
  | yes hb hr hi h0 => exact ⟨_, _, _, _, rfl, hb, hr, _, hi, by rw [if_neg h0]⟩
  | no hb hr hi => exact ⟨_, _, _, _, rfl, hb, hr, _, hi, by rw [if_pos rfl]⟩
  | call hb hr hc hl hz hi => exact ⟨_, _, _, _, rfl, hb, hr, _, _, hc, hl, hz, hi, rfl⟩
  | last hb hr hi => exact ⟨[], _, _, _, rfl, hb, hr, _, hi, .inl ⟨rfl, rfl⟩⟩
  | give hb hr hi hc hg => exact ⟨_, _, _, _, rfl, hb, hr, _, hi, .inr ⟨_, _, _, _, _, _, rfl, hc, hg, rfl⟩⟩
theorem got_eq {nm : List (Key × V)} {y : Str} {i j : Int} (h : got nm y i) (h' : got nm y j) : i = j := by
  have := h.1.symm.trans h'.1
  injection this with this
  injection this
theorem WalkX.pop {K : PySem.W.Frag} {H0 H : Hp} {w pp dx ol sl a : Addr} {fvs : List V} {ds : List Addr} {n : Nat} {fs : List Fr} {f : Fr} {said : List Int} {out : V} (X : WalkX K H0 H w pp dx ol sl (fvs ++ [.ref a]) ds n ⟨fs ++ [f], said, out⟩) :
    ∃ ds', WalkX K H0 (upd H ol (.lst fvs)) w pp dx ol sl fvs ds' n ⟨fs, said, out⟩ := by
  obtain ⟨fvs', ds', a', dxa, d, e1, e2, hf, na, nd, ha, hd⟩ := X.fr.last
  obtain ⟨rfl, _⟩ := snoc_inj e1
  have n0 : w ≠ ol := ne_of X.at_ X.op (by intro z; cases z)
  refine ⟨ds', by rw [upd_ne n0]; exact X.at_, upd_same, by rw [upd_ne X.ne.symm]; exact X.sp, X.ne, hf.keep (fun b hb o e => ?_) (fun b hb o e => ?_), same_put X.sm X.no, X.nw, X.no, X.ns, fun b m => X.nf b (List.mem_append_left _ m), fun b m => X.nd b (by rw [e2]; exact List.mem_append_left _ m), ?_, X.saw, fun g hg => X.nms g (List.mem_append_left _ hg)⟩
  · obtain ⟨dxb, l, hb', _⟩ := hf.ins hb
    rw [upd_ne (ne_of hb' X.op (by intro z; cases z))]; exact e
  · obtain ⟨l, hl⟩ := hf.dct hb
    rw [upd_ne (ne_of hl X.op (by intro z; cases z))]; exact e
  · have := X.few
    rw [List.length_append] at this
    exact Nat.le_of_succ_le this
theorem WalkX.gives {K : PySem.W.Frag} {H0 H : Hp} {w pp dx ol sl : Addr} {fvs : List V} {ds : List Addr} {n : Nat} {fs : List Fr} {said : List Int} {out : V} (X : WalkX K H0 H w pp dx ol sl fvs ds n ⟨fs, said, out⟩) (v : V) :
    WalkX K H0 (upd H w (.ins (clsAt K "Walk") dx (wFs pp ol sl v))) w pp dx ol sl fvs ds n ⟨fs, said, v⟩ := by
  refine ⟨upd_same, by rw [upd_ne (ne_of X.op X.at_ (by intro z; cases z))]; exact X.op, by rw [upd_ne (ne_of X.sp X.at_ (by intro z; cases z))]; exact X.sp, X.ne, X.fr.keep (fun b hb o e => ?_) (fun b hb o e => ?_), same_put X.sm X.nw, X.nw, X.no, X.ns, X.nf, X.nd, X.few, X.saw, X.nms⟩
  · obtain ⟨dxb, l, hb', p, r, d, rfl⟩ := X.fr.ins hb
    rw [upd_ne (fun z => by rw [z, X.at_] at hb'; injection hb' with hb'; exact fw_ne hb'.symm)]; exact e
  · obtain ⟨l, hl⟩ := X.fr.dct hb
    rw [upd_ne (ne_of hl X.at_ (by intro z; cases z))]; exact e
theorem at_last {α : Type} {xs : List α} {x : α} : atI (xs ++ [x]) (-1) = some x := by
  unfold atI ixN
  rw [if_neg (by decide), List.length_append, List.length_singleton, if_pos (by omega)]
  show (xs ++ [x])[_]? = _
  have : ((-1 : Int) + ((xs.length + 1 : Nat) : Int)).toNat = xs.length := by omega
  rw [this, List.getElem?_append_right (Nat.le_refl _), Nat.sub_self]; rfl
theorem ixLast {K : PySem.W.Frag} {p : Addr} {xs : List V} {v : V} {H : Hp} {Q : VK} (h : H p = some (.lst (xs ++ [v]))) (q : Q v H) : rIx K (.ref p) (.int (-1)) H Q := .inl ⟨p, _, _, v, rfl, rfl, SqL.of h, at_last, q⟩
theorem FsAt.last' {K : PySem.W.Frag} {H : Hp} {fvs : List V} {ds : List Addr} {fs : List Fr} {f : Fr} (h : FsAt K H fvs ds (fs ++ [f])) : ∃ fvs' a, fvs = fvs' ++ [.ref a] := by
  obtain ⟨fvs', ds', a, dx, d, e, _⟩ := h.last
  exact ⟨fvs', a, e⟩
theorem row_at {H : Hp} {pp : Addr} {bs : List BPart} {k n : Nat} {b : BPart} {r : BRow} (P : ProgAt H pp bs) (hb : bs[k]? = some b) (hr : b.rows[n]? = some r) : ∃ pvs pt pa rt rvs v, H pp = some (.tup pvs) ∧ pvs[((k : Nat) : Int).toNat]? = some (.ref pt) ∧ H pt = some (.tup [.str b.name, .ref pa, .ref rt]) ∧ H rt = some (.tup rvs) ∧ rvs[((n : Nat) : Int).toNat]? = some v ∧ RowAt H v r := by
  obtain ⟨pvs, pt, pa, rt, rvs, h1, e1, h2, _, h3, hR⟩ := part_rows P hb
  obtain ⟨v, r', e2, e3, ra⟩ := hR.get (List.getElem?_eq_some_iff.mp hr).1
  rw [hr] at e3; cases e3
  exact ⟨pvs, pt, pa, rt, rvs, v, h1, e1, h2, h3, by simpa using e2, ra⟩
theorem r_Walk_leave {K : PySem.W.Frag} (T : TxtW K) {vs : List V} {H : Hp} {Q : VK} {E : XK} (h : sp_Walk_leave K vs H Q E) : t_Walk_leave K { nx := fun _ H' => Q .non H', rt := Q } (start N_Walk_leave vs) H := by
  obtain ⟨w, pp, i, n, H0, st, st', bs, f, b, p, rfl, ⟨dx, ol, sl, fvs, ds, X⟩, P, hn, hi, hst, q⟩ := h
  have fsl : ∃ fs, st = ⟨fs ++ [f], st.said, .non⟩ := by
    rcases hst with ⟨e, _⟩ | ⟨fs, g, c, x, k, as, e, _⟩
    · exact ⟨[], e⟩
    · exact ⟨_, e⟩
  obtain ⟨fs, est⟩ := fsl
  obtain ⟨sfs, said, out⟩ := st
  simp only [WSt.mk.injEq, true_and] at est hst
  obtain ⟨rfl, rfl⟩ := est
  obtain ⟨fvs', a, rfl⟩ := X.fr.last'
  obtain ⟨ds', X1⟩ := X.pop
  refine ⟨_, rfl, w, _, dx, _, _, rfl, X.at_, T.clW, T.nWo, rfl, .inl ⟨rfl, _, SqL.of X.op⟩, ol, _, .ref a, rfl, rfl, X.op, ?_, ?_⟩
  · rw [List.length_append, List.length_singleton, Nat.add_sub_cancel, List.getElem?_append_right (Nat.le_refl _), Nat.sub_self]; rfl
  rw [List.dropLast_concat]
  refine ⟨_, rfl, w, dx, _, rfl, X1.at_, rfl, nil_open (walk_ended T ⟨w, pp, H0, n, _, rfl, ⟨dx, ol, sl, _, _, X1⟩, fun bb hbb => ⟨bb, rfl, ?_⟩⟩)⟩
  rcases hst with ⟨⟨e, _⟩, rfl⟩ | ⟨gs, g, c, x, k, as, ⟨e, _⟩, hc, hg, rfl⟩
  · have : fs = [] := List.append_left_eq_self.mp e
    subst this
    refine if_t (hbb.mpr rfl) ⟨_, rfl, _, rfl, w, _, dx, _, rfl, X1.at_, T.clW, T.nWu, (by show 4 < 1000; decide), ?_⟩
    exact q _ ⟨dx, ol, sl, _, _, (X1.gives (.int i)).up (Nat.le_succ n)⟩
  · obtain ⟨rfl, _⟩ := snoc_inj e
    refine if_f (Bool.eq_false_iff.mpr fun z => absurd (hbb.mp z) (by simp)) ?_
    obtain ⟨fv2, a2, rfl⟩ := X1.fr.last'
    generalize upd H ol (.lst (fv2 ++ [.ref a2])) = H1 at X1 ⊢
    refine ⟨_, rfl, w, _, dx, _, _, rfl, X1.at_, T.clW, T.nWo, rfl, _, rfl, ixLast X1.op ?_⟩
    show t_Walk_leave_2 K _ [some (.ref w), some (.int i), some (.ref a2)] H1
    obtain ⟨dxa, d, ha, hd, ln, _, _⟩ := X1.last
    obtain ⟨pvs, pt, pa, rt, rvs, v, h1, e1, h2, h3, e2, ra⟩ := row_at (P.same X1.sm) hc hg
    refine ⟨_, rfl, _, rfl, a2, _, dxa, _, _, rfl, ha, T.clF, T.nFn, rfl, ?_⟩
    refine ⟨_, rfl, w, _, dx, _, _, rfl, X1.at_, T.clW, T.nWp, rfl, _, rfl, a2, _, dxa, _, _, rfl, ha, T.clF, T.nFp, rfl, ixT h1 (by omega) e1 (ixT h2 (by decide) rfl ⟨_, rfl, a2, _, dxa, _, _, rfl, ha, T.clF, T.nFr, rfl, ixT h3 (by omega) e2 ⟨v, _, rfl, ra, fun H2 s2 => ?_⟩⟩)⟩
    have X2 := X1.same s2
    obtain ⟨dxb, d2, ha', hd', _, _, nms⟩ := X2.last
    have ed : d2 = d := by
      have := (s2 _ _ ha).symm.trans ha'
      injection this with this
      injection this with _ _ this
      injection this with _ this
      injection this with _ this
      injection this with this _
      injection this with _ this
      injection this with this
      exact this.symm
    subst ed
    refine ⟨d2, _, rfl, DPut.k (k := Sum.inr x) hd' (smallL (by omega)), ?_⟩
    have X3 := nms (put g.nm x i) (length_putK _ _ _)
    show t_Walk_leave_1 K _ [some (.ref w), some (.int i), some (.ref a2)] (upd H2 d2 (.dK (put g.nm x i)))
    generalize upd H2 d2 (.dK (put g.nm x i)) = H3 at X3 ⊢
    obtain ⟨dxc, d3, ha3, _⟩ := X3.last
    have gl := (P.good c (List.mem_of_getElem? hc)).inr g.row (g.row + 1) _ hg (by unfold leadsL; exact List.mem_cons_self)
    refine ⟨_, rfl, w, dx, _, rfl, X3.at_, rfl, _, rfl, _, rfl, a2, _, dxc, _, _, rfl, ha3, T.clF, T.nFr, rfl, .inl ⟨_, _, rfl, rfl, ?_⟩⟩
    refine ⟨w, pp, a2, dx, ol, sl, g.row + 1, n + 1, H0, fv2, _, gs, _, said, _, bs, c, ?_, X3, P, hc, gl, fun H' X' => q H' ⟨dx, ol, sl, _, _, X'⟩⟩
    rfl
end Bg
end
section
set_option Elab.async false
set_option linter.all false
set_option maxRecDepth 100000
set_option maxHeartbeats 4000000
namespace Bg
open PySem L2
theorem work_end {K : PySem.W.Frag} (T : TxtW K) {w pp a dx ol sl : Addr} {rv tk : V} {to n : Nat} {H0 H : Hp} {fvs : List V} {ds : List Addr} {fs : List Fr} {f : Fr} {said : List Int} {bs : List BPart} {b : BPart} {nx : St → Hp → Prop} {Q : VK} (X : WalkX K H0 H w pp dx ol sl (fvs ++ [.ref a]) ds n ⟨fs ++ [f], said, .non⟩) (P : ProgAt H0 pp bs) (hb : bs[f.part]? = some b) (tl : to < b.rows.length)
    (q : ∀ H', WalkAt K H0 H' w pp n ⟨fs ++ [⟨f.part, go b to, f.nm⟩], said, .non⟩ → nx [some (.ref w), some (.ref a), some rv, some tk, some (.int (to : Nat))] H') :
    t_Walk_work_1 K { nx := nx, rt := Q } [some (.ref w), some (.ref a), some rv, some tk, some (.int (to : Nat))] H :=
  ⟨_, rfl, w, dx, _, rfl, X.at_, rfl, _, rfl, _, rfl, w, pp, a, dx, ol, sl, to, n, H0, fvs, _, fs, _, said, _, bs, b, rfl, X, P, hb, tl, fun H' X' => q H' ⟨dx, ol, sl, _, _, X'⟩⟩
theorem r_Walk_work {K : PySem.W.Frag} (T : TxtW K) {vs : List V} {H : Hp} {Q : VK} {E : XK} (h : sp_Walk_work K vs H Q E) : t_Walk_work K { nx := fun _ H' => Q .non H', rt := Q } (start N_Walk_work vs) H := by
  obtain ⟨w, pp, a, dx, ol, sl, tk, rv, r, n, H0, fvs, ds, fs, f, said, zs, bs, b, st', rfl, X, P, hn, hb, hr, ra, wk, htk, hzl, hz, hs, q⟩ := h
  obtain ⟨dxa, d, ha, hd, ln, _, nms⟩ := X.last
  obtain ⟨fs', f', b', r', est, hb', hr', R⟩ := hs.inv
  obtain ⟨e1, e2⟩ := snoc_inj (WSt.mk.inj est).1
  subst e1 e2
  rw [hb] at hb'; cases hb'
  rw [hr] at hr'; cases hr'
  have good := P.good b (List.mem_of_getElem? hb)
  refine ⟨_, rfl, a, _, dxa, _, _, rfl, ha, T.clF, T.nFr, rfl, .inl ⟨_, _, rfl, rfl, ?_⟩⟩
  show t_Walk_work_2 K _ [some (.ref w), some (.ref a), some rv, some (.ref tk), some (.int ((f.row + 1 : Nat) : Int))] H
  have ra' := ra.mono (.of_same X.sm)
  cases r with
  | call x k as => cases wk
  | give p => cases wk
  | jump to => cases wk
  | num x z =>
    obtain ⟨p, rfl, hp⟩ := ra'
    have gl := good.inr f.row (f.row + 1) _ hr (by unfold leadsL; exact List.mem_cons_self)
    refine ⟨_, rfl, ixT hp (by decide) rfl (.inl ⟨rfl, _, rfl, yes ?_⟩)⟩
    refine ⟨_, rfl, ixT hp (by decide) rfl ⟨_, rfl, a, _, dxa, _, _, rfl, ha, T.clF, T.nFn, rfl, _, rfl, ixT hp (by decide) rfl ⟨d, _, rfl, DPut.k (k := Sum.inr x) hd (smallL (by omega)), ?_⟩⟩⟩
    have R' : st' = _ := R
    subst R'
    exact work_end T (nms (put f.nm x z) (length_putK _ _ _)) P hb gl fun H' X' => q H' X'
  | op x s p1 p2 =>
    obtain ⟨p, rfl, hp⟩ := ra'
    have gl := good.inr f.row (f.row + 1) _ hr (by unfold leadsL; exact List.mem_cons_self)
    obtain ⟨i, j, gi, gj, R'⟩ := R
    subst R'
    have ez : zs = [i, j] := by
      match zs, hzl, hz with
      | [u, v], _, hz =>
        rw [got_eq (hz 0 p1 u rfl rfl) gi, got_eq (hz 1 p2 v rfl rfl) gj]
    subst ez
    refine ⟨_, rfl, ixT hp (by decide) rfl (.inl ⟨rfl, _, rfl, no (by intro z; cases z) ?_⟩)⟩
    refine ⟨_, rfl, ixT hp (by decide) rfl (.inl ⟨rfl, _, rfl, yes ?_⟩)⟩
    refine ⟨_, rfl, ixT hp (by decide) rfl ⟨_, rfl, ixL (SqL.of htk) (by decide) rfl ⟨_, rfl, ixL (SqL.of htk) (by decide) rfl ⟨s, i, j, rfl, gi.2, gj.2, ?_⟩⟩⟩⟩
    refine ⟨_, rfl, a, _, dxa, _, _, rfl, ha, T.clF, T.nFn, rfl, _, rfl, ixT hp (by decide) rfl ⟨d, _, rfl, DPut.k (k := Sum.inr x) hd (smallL (by omega)), ?_⟩⟩
    exact work_end T (nms (put f.nm x (wth s i j)) (length_putK _ _ _)) P hb gl fun H' X' => q H' X'
  | say p1 =>
    obtain ⟨p, rfl, hp⟩ := ra'
    have gl := good.inr f.row (f.row + 1) _ hr (by unfold leadsL; exact List.mem_cons_self)
    obtain ⟨i, gi, R'⟩ := R
    subst R'
    have ez : zs = [i] := by
      match zs, hzl, hz with
      | [u], _, hz => rw [got_eq (hz 0 p1 u rfl rfl) gi]
    subst ez
    refine ⟨_, rfl, ixT hp (by decide) rfl (.inl ⟨rfl, _, rfl, no (by intro z; cases z) ?_⟩)⟩
    refine ⟨_, rfl, ixT hp (by decide) rfl (.inl ⟨rfl, _, rfl, no (by intro z; cases z) ?_⟩)⟩
    refine ⟨_, rfl, ixT hp (by decide) rfl (.inl ⟨rfl, _, rfl, yes ?_⟩)⟩
    refine ⟨_, rfl, w, _, dx, _, _, rfl, X.at_, T.clW, T.nWs, rfl, .inl ⟨rfl, _, SqL.of X.sp⟩, _, rfl, ixL (SqL.of htk) (by decide) rfl ⟨sl, _, _, rfl, rfl, X.sp, smallL (by rw [List.length_map]; have := X.saw; have : said.length ≤ n := this; omega), ?_⟩⟩
    exact work_end T (X.say i) P hb gl fun H' X' => q H' X'
  | test p1 to =>
    obtain ⟨p, rfl, hp⟩ := ra'
    have gl := good.inr f.row (f.row + 1) _ hr (by unfold leadsL; exact List.mem_cons_self)
    have gt := good.inr f.row to _ hr (by unfold leadsL; exact List.mem_cons_of_mem _ List.mem_cons_self)
    obtain ⟨i, gi, R'⟩ := R
    have ez : zs = [i] := by
      match zs, hzl, hz with
      | [u], _, hz => rw [got_eq (hz 0 p1 u rfl rfl) gi]
    subst ez
    refine ⟨_, rfl, ixT hp (by decide) rfl (.inl ⟨rfl, _, rfl, no (by intro z; cases z) ?_⟩)⟩
    refine ⟨_, rfl, ixT hp (by decide) rfl (.inl ⟨rfl, _, rfl, no (by intro z; cases z) ?_⟩)⟩
    refine ⟨_, rfl, ixT hp (by decide) rfl (.inl ⟨rfl, _, rfl, no (by intro z; cases z) ?_⟩)⟩
    refine ⟨_, rfl, ixT hp (by decide) rfl (.inl ⟨rfl, _, rfl, yes ?_⟩)⟩
    refine ⟨_, rfl, ixL (SqL.of htk) (by decide) rfl (.inl ⟨rfl, _, rfl, if_not (fun h0 => ?_) fun h0 => ?_⟩)⟩
    · rw [if_neg (fun z => h0 (by rw [z]))] at R'
      subst R'
      refine ⟨_, rfl, .ref p, .test p1 to, rfl, ⟨p, rfl, hp⟩, ?_⟩
      show t_Walk_work_1 K _ [some (.ref w), some (.ref a), some (.ref p), some (.ref tk), some (.int (to : Nat))] H
      exact work_end T (X.up (Nat.le_succ n)) P hb gt fun H' X' => q H' X'
    · rw [if_pos (V.int.inj h0)] at R'
      subst R'
      exact work_end T (X.up (Nat.le_succ n)) P hb gl fun H' X' => q H' X'
theorem Res.taken {bs : List BPart} {fs : List Fr} {f : Fr} {b : BPart} {said : List Int} {st' : WSt} {r : BRow} (h : Res bs fs f b said st' r) : ∃ zs : List Int, zs.length = (readsOf r).length ∧ ∀ (j : Nat) y z, (readsOf r)[j]? = some y → zs[j]? = some z → got f.nm y z := by
  cases r with
  | num x z => exact ⟨[], rfl, fun j y z h => by simp [readsOf] at h⟩
  | op x s p q =>
    obtain ⟨i, j, gi, gj, _⟩ := h
    refine ⟨[i, j], rfl, fun n y z hy hz => ?_⟩
    match n with
    | 0 => cases hy; cases hz; exact gi
    | 1 => cases hy; cases hz; exact gj
    | n + 2 => simp [readsOf] at hy
  | say p =>
    obtain ⟨i, gi, _⟩ := h
    refine ⟨[i], rfl, fun n y z hy hz => ?_⟩
    match n with
    | 0 => cases hy; cases hz; exact gi
    | n + 1 => simp [readsOf] at hy
  | test p to =>
    obtain ⟨i, gi, _⟩ := h
    refine ⟨[i], rfl, fun n y z hy hz => ?_⟩
    match n with
    | 0 => cases hy; cases hz; exact gi
    | n + 1 => simp [readsOf] at hy
  | call x k as =>
    obtain ⟨c, zs, _, _, hl, hz, _⟩ := h
    exact ⟨zs, hl, hz⟩
  | give p =>
    obtain ⟨i, gi, _⟩ := h
    refine ⟨[i], rfl, fun n y z hy hz => ?_⟩
    match n with
    | 0 => cases hy; cases hz; exact gi
    | n + 1 => simp [readsOf] at hy
  | jump to => exact h.elim
theorem r_Walk_step {K : PySem.W.Frag} (T : TxtW K) {vs : List V} {H : Hp} {Q : VK} {E : XK} (h : sp_Walk_step K vs H Q E) : t_Walk_step K { nx := fun _ H' => Q .non H', rt := Q } (start N_Walk_step vs) H := by
  obtain ⟨w, pp, n, H0, st, st', bs, rfl, ⟨dx, ol, sl, fvs, ds, X⟩, P, hn, hs, q⟩ := h
  have hs' := hs
  obtain ⟨fs, f, b, r, est, hb, hr, R⟩ := hs.inv
  obtain ⟨sfs, said, out⟩ := st
  simp only [WSt.mk.injEq, true_and] at est
  obtain ⟨rfl, rfl⟩ := est
  obtain ⟨fvs', a, rfl⟩ := X.fr.last'
  refine ⟨_, rfl, w, dx, _, rfl, X.at_, rfl, nil_open (walk_ended T ⟨w, pp, H0, n, _, rfl, ⟨dx, ol, sl, _, _, X⟩, fun bb hbb => ⟨bb, rfl, if_f (Bool.eq_false_iff.mpr fun z => absurd (hbb.mp z) (by simp)) ?_⟩⟩)⟩
  refine ⟨_, rfl, w, _, dx, _, _, rfl, X.at_, T.clW, T.nWo, rfl, _, rfl, ixLast X.op ?_⟩
  show t_Walk_step_3 K _ [some (.ref w), some (.ref a), none, none] H
  obtain ⟨dxa, d, ha, hd, ln, _, _⟩ := X.last
  obtain ⟨pvs, pt, pa, rt, rvs, v, h1, e1, h2, h3, e2, ra⟩ := row_at (P.same X.sm) hb hr
  obtain ⟨pvs0, pt0, pa0, rt0, rvs0, v0, k1, f1, k2, k3, f2, ra0⟩ := row_at P hb hr
  have ev : v0 = v := by
    have z1 := (X.sm _ _ k1).symm.trans h1; cases z1
    have z2 := f1.symm.trans e1; cases z2
    have z3 := (X.sm _ _ k2).symm.trans h2; cases z3
    have z4 := (X.sm _ _ k3).symm.trans h3; cases z4
    have z5 := f2.symm.trans e2; cases z5
    rfl
  subst ev
  refine ⟨_, rfl, w, _, dx, _, _, rfl, X.at_, T.clW, T.nWp, rfl, _, rfl, a, _, dxa, _, _, rfl, ha, T.clF, T.nFp, rfl, ixT h1 (by omega) e1 (ixT h2 (by decide) rfl ⟨_, rfl, a, _, dxa, _, _, rfl, ha, T.clF, T.nFr, rfl, ixT h3 (by omega) e2 ?_⟩)⟩
  show t_Walk_step_2 K _ [some (.ref w), some (.ref a), some v0, none] H
  obtain ⟨zs, hzl, hz⟩ := R.taken
  refine .inr ⟨_, rfl, v0, r, rfl, ra, fun t H1 ht s1 => ⟨t, rfl, ⟨_, SqT.of ht⟩, fun L hL => ?_⟩⟩
  refine comp_tup (xs := (readsOf r).map V.str) (fun j σ' H' => ∃ (o : Option V), σ' = [some (.ref w), some (.ref a), some v0, none, o] ∧ H' L = some (.lst ((zs.take j).map V.int)) ∧ Same H1 H') ?_ ?_ ?_ ?_
  · exact ⟨none, rfl, upd_same, (Same.refl H1).new hL⟩
  · rintro j σ' H' _ ⟨o, _, _, s'⟩
    exact SqT.of (s' _ _ ht)
  · rintro j x σ' H' hx ⟨o, rfl, hl, s'⟩
    rw [List.getElem?_map] at hx
    cases hy : (readsOf r)[j]? with
    | none => rw [hy] at hx; cases hx
    | some y =>
    rw [hy] at hx
    have hx' : V.str y = x := Option.some.inj hx
    subst hx'
    have jl : j < zs.length := by rw [hzl]; exact (List.getElem?_eq_some_iff.mp hy).1
    have hzj : zs[j]? = some zs[j] := List.getElem?_eq_getElem jl
    have gj := hz j y _ hy hzj
    have S := s1.trans s'
    have few : zs.length ≤ 100 := by
      rw [hzl]
      cases r with
      | call x k as =>
        obtain ⟨c, zs2, hc, hl2, _⟩ := R
        have := P.few c (List.mem_of_getElem? hc)
        show as.length ≤ 100
        omega
      | _ => simp [readsOf]
    refine app_yes ⟨_, rfl, a, _, dxa, _, _, rfl, S _ _ ha, T.clF, T.nFn, rfl, _, rfl, d, .int zs[j], rfl, ?_, _, hl, smallL (by rw [List.length_map, List.length_take]; omega), _, rfl, ?_, ?_⟩
    · have := DGet.k (k := Sum.inr y) (S _ _ hd)
      rw [gj.1] at this
      exact this
    · rw [upd_same, ← List.take_append_getElem jl, List.map_append]; rfl
    · intro b u hb2
      have nb : b ≠ L := ne_of_none hb2 hL
      rw [upd_ne nb]; exact s' b u hb2
  · rintro σ' H2 ⟨o, _, hl, s2⟩
    rw [List.length_map, ← hzl, List.take_length] at hl
    have S2 := s1.trans s2
    have X2 := X.same S2
    show t_Walk_step_1 K _ [some (.ref w), some (.ref a), some v0, some (.ref L)] H2
    have ra2 := ra.mono (.of_same S2)
    have X2' : WalkX K H0 H2 w pp dx ol sl (fvs' ++ [.ref a]) ds n ⟨fs ++ [f], said, .non⟩ := X2
    clear X2
    by_cases wk : isWork r = true
    · obtain ⟨p, xs, rfl, hp⟩ := ra2.ref
      have n1 : ¬ V.str (word r) = V.str "call" := by cases r <;> first | (cases wk; done) | (intro z; cases z)
      have n2 : ¬ V.str (word r) = V.str "give" := by cases r <;> first | (cases wk; done) | (intro z; cases z)
      refine ⟨_, rfl, ixT hp (by decide) rfl (.inl ⟨rfl, _, rfl, no n1 ?_⟩)⟩
      refine ⟨_, rfl, ixT hp (by decide) rfl (.inl ⟨rfl, _, rfl, no n2 ?_⟩)⟩
      exact ⟨_, rfl, w, dx, _, rfl, X2'.at_, rfl, _, rfl, _, rfl, _, rfl, w, pp, a, dx, ol, sl, L, .ref p, r, n, H0, fvs', ds, fs, f, said, zs, bs, b, st', rfl, X2', P, hn, hb, hr, ra0, wk, hl, hzl, hz, hs, q⟩
    cases r with
    | num x z => exact absurd rfl wk
    | op x s p1 p2 => exact absurd rfl wk
    | say p1 => exact absurd rfl wk
    | test p1 to => exact absurd rfl wk
    | jump to => exact R.elim
    | call x k as =>
      obtain ⟨p, q1, rfl, hp, hq1⟩ := ra2
      obtain ⟨c, zs2, hc, hl2, hz2, gz2, rfl⟩ := R
      have ez : zs = zs2 := by
        apply List.ext_getElem (by rw [hz2]; exact hzl)
        intro j j1 j2
        have ja : j < as.length := by rw [← hz2]; exact j2
        have g1 := hz j as[j] zs[j] (List.getElem?_eq_getElem ja) (List.getElem?_eq_getElem j1)
        have g2 := gz2 j as[j] zs2[j] (List.getElem?_eq_getElem ja) (List.getElem?_eq_getElem j2)
        exact got_eq g1 g2
      subst ez
      refine ⟨_, rfl, ixT hp (by decide) rfl (.inl ⟨rfl, _, rfl, yes ?_⟩)⟩
      exact ⟨_, rfl, w, dx, _, rfl, X2'.at_, rfl, _, rfl, ixT hp (by decide) rfl ⟨_, rfl, w, pp, L, k, n, H0, ⟨fs ++ [f], said, .non⟩, zs, bs, c, rfl, ⟨dx, ol, sl, _, _, X2'⟩, P, hc, by rw [hl2, hz2], .inl hl, hn, q⟩⟩
    | give p1 =>
      obtain ⟨p, rfl, hp⟩ := ra2
      obtain ⟨i, gi, hR⟩ := R
      have ez : zs = [i] := by
        match zs, hzl, hz with
        | [u], _, hz => rw [got_eq (hz 0 p1 u rfl rfl) gi]
      subst ez
      refine ⟨_, rfl, ixT hp (by decide) rfl (.inl ⟨rfl, _, rfl, no (by intro z; cases z) ?_⟩)⟩
      refine ⟨_, rfl, ixT hp (by decide) rfl (.inl ⟨rfl, _, rfl, yes ?_⟩)⟩
      refine ⟨_, rfl, w, dx, _, rfl, X2'.at_, rfl, _, rfl, ixL (SqL.of hl) (by decide) rfl ⟨w, pp, i, n, H0, ⟨fs ++ [f], said, .non⟩, st', bs, f, b, p1, rfl, ⟨dx, ol, sl, _, _, X2'⟩, P, hn, gi.2, ?_, q⟩⟩
      rcases hR with ⟨rfl, rfl⟩ | ⟨gs, g, c, x, k, as, rfl, hc, hg, rfl⟩
      · exact .inl ⟨rfl, rfl⟩
      · exact .inr ⟨gs, g, c, x, k, as, rfl, hc, hg, rfl⟩
theorem ret_open' {te : TE} {D : Ends} {σ : St} {H : Hp} (h : te σ H D.rt) : tRet te D σ H := h
theorem Ch.seq {bs : List BPart} {m : Nat} {st st' : WSt} (h : Ch bs m st st') : ∃ s : Nat → WSt, s 0 = st ∧ s m = st' ∧ ∀ j, j < m → (s j).fs ≠ [] ∧ Stp bs (s j) (s (j + 1)) := by
  induction h with
  | nil => exact ⟨fun _ => _, rfl, rfl, fun j h => absurd h (Nat.not_lt_zero j)⟩
  | @snoc n st st1 st2 h ne s ih =>
    obtain ⟨f, f0, f1, f2⟩ := ih
    refine ⟨fun j => if j ≤ n then f j else st2, by simp [f0], if_neg (by omega), fun j hj => ?_⟩
    by_cases c : j = n
    · subst c
      dsimp only
      rw [if_pos (Nat.le_refl _), if_neg (by omega), f1]
      exact ⟨ne, s⟩
    · have jn : j < n := by omega
      dsimp only
      rw [if_pos (by omega), if_pos (by omega)]
      exact f2 j jn
theorem r_p_stepped {K : PySem.W.Frag} (T : TxtW K) {vs : List V} {H : Hp} {Q : VK} {E : XK} (h : sp_p_stepped K vs H Q E) : t_p_stepped K { nx := fun _ H' => Q .non H', rt := Q } (start N_p_stepped vs) H := by
  obtain ⟨w, pp, most, m, H0, bs, st0, st, rfl, X1, P, hm, ch, mm, hst, q⟩ := h
  obtain ⟨s, s0, s1, ss⟩ := ch.seq
  refine ⟨fun u σ' H' => ∃ j, j ≤ m ∧ u = m - j ∧ σ' = [some (.ref w), some (.int (most : Nat)), some (.int (j : Nat)), none] ∧ WalkAt K H0 H' w pp (j + 1) (s j), ⟨m, 0, Nat.zero_le _, rfl, rfl, by rw [s0]; exact X1⟩, ?_⟩
  rintro u σ' H' ⟨j, hj, rfl, rfl, X⟩
  obtain ⟨dx, ol, sl, fvs, ds, X'⟩ := X
  by_cases jm : j < m
  · obtain ⟨ne1, sp1⟩ := ss j jm
    refine ⟨_, rfl, _, rfl, _, _, rfl, rfl, _, rfl, if_t (decide_eq_true (by omega)) ?_⟩
    refine ⟨_, rfl, w, dx, _, rfl, X'.at_, rfl, nil_open (walk_ended T ⟨w, pp, H0, _, _, rfl, ⟨dx, ol, sl, _, _, X'⟩, fun bb hbb => ⟨bb, rfl, ?_⟩⟩)⟩
    have : bb = false := Bool.eq_false_iff.mpr fun z => ne1 (hbb.mp z)
    subst this
    refine iteT ⟨fun σ2 H2 => σ2 = [some (.ref w), some (.int (most : Nat)), some (.int ((j + 1 : Nat) : Int)), none] ∧ WalkAt K H0 H2 w pp (j + 2) (s (j + 1)), ?_, ?_⟩
    · rintro σ2 H2 ⟨rfl, X2⟩
      exact ⟨m - (j + 1), by omega, j + 1, jm, rfl, rfl, X2⟩
    · refine ⟨_, rfl, w, dx, _, rfl, X'.at_, rfl, w, pp, j + 1, H0, s j, s (j + 1), bs, rfl, ⟨dx, ol, sl, _, _, X'⟩, P, by omega, sp1, fun H2 X2 => ?_⟩
      exact ⟨_, rfl, _, _, rfl, rfl, rfl, X2⟩
  · have ej : j = m := by omega
    subst ej
    rw [s1] at X'
    refine ⟨_, rfl, _, rfl, _, _, rfl, rfl, _, rfl, ?_⟩
    have fin : t_p_stepped_2 K { nx := fun _ H' => Q .non H', rt := Q } [some (.ref w), some (.int (most : Nat)), some (.int (j : Nat)), none] H' := by
      refine ⟨_, rfl, w, dx, _, rfl, X'.at_, rfl, nil_open (walk_ended T ⟨w, pp, H0, _, _, rfl, ⟨dx, ol, sl, _, _, X'⟩, fun bb hbb => ⟨bb, rfl, ?_⟩⟩)⟩
      have key : ∀ (v : Str), v = wordOf st → t_p_stepped_1 K { nx := fun _ H' => Q .non H', rt := Q } [some (.ref w), some (.int (most : Nat)), some (.int (j : Nat)), some (.str v)] H' := by
        intro v ev
        refine ⟨_, rfl, _, rfl, w, dx, _, rfl, X'.at_, rfl, nil_open (walk_said T ⟨w, pp, H0, _, _, rfl, ⟨dx, ol, sl, _, _, X'⟩, fun l nl => ?_⟩)⟩
        have sl1 := (Same.refl H').new (o := .lst (st.said.map V.int)) nl
        have X2 := X'.same sl1
        refine ⟨_, rfl, w, dx, _, rfl, X2.at_, rfl, nil_open (walk_answer T ⟨w, pp, H0, _, _, rfl, ⟨dx, ol, sl, _, _, X2⟩, _, rfl, by show 4 ≤ sizeLine; decide, fun p np => ?_⟩)⟩
        have Hl : H0 l = none := by
          cases e : H0 l with
          | none => rfl
          | some o => rw [X'.sm _ _ e] at nl; cases nl
        refine q p l _ (by rw [upd_same, ev]) ?_ Hl (X2.sm.trans ((Same.refl _).new np))
        rw [upd_ne (fun z => by rw [← z, upd_same] at np; cases np), upd_same]
      refine if_bl (fun e => ?_) fun e => ?_
      · exact key "given" (by unfold wordOf; rw [hbb.mp e]; rfl)
      · refine key "spent" ?_
        unfold wordOf
        have : st.fs ≠ [] := fun z => by rw [hbb.mpr z] at e; cases e
        rw [if_neg (by simpa using this)]
    by_cases c : j < most
    · refine if_t (decide_eq_true (by omega)) ?_
      refine ⟨_, rfl, w, dx, _, rfl, X'.at_, rfl, nil_open (walk_ended T ⟨w, pp, H0, _, _, rfl, ⟨dx, ol, sl, _, _, X'⟩, fun bb hbb => ⟨bb, rfl, ?_⟩⟩)⟩
      have : bb = true := hbb.mpr (hst.resolve_right (by omega))
      subst this
      exact iteF fin
    · exact if_f (decide_eq_false (by omega)) (iteF fin)
theorem r_p_run {K : PySem.W.Frag} (T : TxtW K) {vs : List V} {H : Hp} {Q : VK} {E : XK} (h : sp_p_run K vs H Q E) : t_p_run K { nx := fun _ H' => Q .non H', rt := Q } (start N_p_run vs) H := by
  obtain ⟨pp, q0, k, most, m, zs, bs, b, st, rfl, P, hb, hl, hq, hm, ch, mm, hst, q⟩ := h
  refine ret_open' ⟨_, rfl, _, rfl, _, rfl, fun w dxw nw ndx ne => ?_⟩
  have S0 : Same H (upd (upd H dxw (.own w)) w (.ins (clsAt K "Walk") dxw [])) := (Same.new (Same.refl H) ndx).trans ((Same.refl _).new (by rw [upd_ne (Ne.symm ne)]; exact nw))
  refine ⟨w, dxw, pp, q0, k, H, zs, bs, b, rfl, upd_same, S0, nw, P, hb, hl, hq.imp (S0 _ _) (S0 _ _), fun H1 X1 => ⟨rfl, ?_⟩⟩
  exact ⟨_, rfl, w, pp, most, m, H, bs, _, st, rfl, X1, P, hm, ch, mm, hst, q⟩
end Bg
end
section
set_option Elab.async false
set_option linter.all false
set_option maxRecDepth 100000
set_option maxHeartbeats 4000000
namespace Bg
open PySem L2
theorem Stp.ne {bs : List BPart} {st st' : WSt} (h : Stp bs st st') : st.fs ≠ [] := by
  obtain ⟨fs, f, b, r, e, _⟩ := h.inv
  rw [e]; simp
theorem Stp.non {bs : List BPart} {st st' : WSt} (h : Stp bs st st') : st.out = .non := by
  obtain ⟨fs, f, b, r, e, _⟩ := h.inv
  rw [e]
theorem Stp.more {bs : List BPart} {st st' : WSt} (h : Stp bs st st') : st.said <+: st'.said := by
  cases h <;> first | exact List.prefix_refl _ | exact List.prefix_append _ _
theorem Ch.add {bs : List BPart} {n : Nat} {a b c : WSt} (h : Ch bs n a b) (s : Stp bs b c) : Ch bs (n + 1) a c := .snoc h s.ne s
theorem Ch.trans {bs : List BPart} {m n : Nat} {a b c : WSt} (h : Ch bs m a b) (h' : Ch bs n b c) : Ch bs (m + n) a c := by
  induction h' with
  | nil => exact h
  | snoc _ ne s ih => exact .snoc (ih h) ne s
theorem Ch.cut {bs : List BPart} {m : Nat} {a b : WSt} (h : Ch bs m a b) : ∀ j, j < m → ∃ c, Ch bs j a c ∧ c.fs ≠ [] ∧ c.out = .non ∧ c.said <+: b.said := by
  induction h with
  | nil => intro j hj; exact absurd hj (Nat.not_lt_zero j)
  | @snoc n st st1 st2 h ne s ih =>
    intro j hj
    by_cases e : j = n
    · subst e; exact ⟨st1, h, ne, s.non, s.more⟩
    · obtain ⟨c, h1, h2, h3, h4⟩ := ih j (by omega)
      exact ⟨c, h1, h2, h3, h4.trans s.more⟩
theorem got_put {nm : List (Key × V)} {x : Str} {i : Int} (h : Wth i) : got (put nm x i) x i := ⟨by unfold put; rw [valV_put, if_pos rfl], h⟩
theorem got_keep {nm : List (Key × V)} {x y : Str} {i j : Int} (n : y ≠ x) (h : got nm y j) : got (put nm x i) y j := ⟨by unfold put; rw [valV_put, if_neg (fun z => n (Sum.inr.inj z))]; exact h.1, h.2⟩
theorem got_open {b : BPart} {k : Nat} {x : Str} {i : Int} (e : b.params = [x]) (h : Wth i) : got (opens b k [i]).nm x i := by
  refine ⟨?_, h⟩
  show valV (mergeK [] ((b.params.map Sum.inr).zip ([i].map V.int))) (Sum.inr x) = _
  rw [e]
  exact (valV_put [] (Sum.inr x) (Sum.inr x) (.int i)).trans (if_pos rfl)
def goodB (rs : List BRow) : Bool := decide (0 < rs.length) && decide (rs.length < 64) && (List.range rs.length).all fun n => (match rs[n]? with | some r => (leadsL n r).all (fun m => decide (m < rs.length)) | none => true) && (match rs[runJ rs rs.length n]? with | some r => !isJump r | none => true)
theorem good_of {rs : List BRow} (h : goodB rs = true) : RowsGood rs := by
  unfold goodB at h
  rw [Bool.and_eq_true, Bool.and_eq_true, decide_eq_true_eq, decide_eq_true_eq, List.all_eq_true] at h
  obtain ⟨⟨h1, h2⟩, h3⟩ := h
  refine ⟨h1, h2, fun n m r e hm => ?_, fun n hn r e => ?_⟩
  · have := h3 n (List.mem_range.mpr (List.getElem?_eq_some_iff.mp e).1)
    rw [Bool.and_eq_true, e] at this
    exact of_decide_eq_true (List.all_eq_true.mp this.1 m hm)
  · have := h3 n (List.mem_range.mpr hn)
    rw [Bool.and_eq_true, e] at this
    simpa using this.2
theorem good_loop (s c o n : Str) (b m : Int) : RowsGood (loopP s c o n b m).rows := good_of rfl
theorem good_self (s o n : Str) : RowsGood (selfP s o n).rows := good_of rfl
theorem good_ever (x y : Str) : RowsGood (everP x y).rows := good_of rfl
theorem ever_ch {bs : List BPart} {x y : Str} (h : bs[2]? = some (everP x y)) {i : Int} (hi : Wth i) : ∀ j : Nat, Ch bs j ⟨[opens (everP x y) 2 [i]], [], .non⟩ ⟨List.replicate j (opens (everP x y) 2 [i]) ++ [opens (everP x y) 2 [i]], [], .non⟩
  | 0 => .nil
  | j + 1 => by
    have := (ever_ch h hi j).add (.call (f := opens (everP x y) 2 [i]) (c := everP x y) (k := 2) (x := y) (as := [x]) (zs := [i]) h rfl h rfl rfl fun n u v hu hv => by
      match n with
      | 0 => cases hu; cases hv; exact got_open rfl hi
      | n + 1 => simp at hu)
    have e : List.replicate (j + 1) (opens (everP x y) 2 [i]) = List.replicate j (opens (everP x y) 2 [i]) ++ [opens (everP x y) 2 [i]] := List.replicate_succ'
    rw [e]
    exact this
theorem wth_add (a b : Int) : wth "+" a b = (a + b) % 18446744073709551616 := by
  unfold wth unb; rw [if_neg (by decide +kernel), if_neg (by decide +kernel), if_pos rfl]
theorem wth_sub (a b : Int) : wth "-" a b = (a - b) % 18446744073709551616 := by
  unfold wth unb; rw [if_neg (by decide +kernel), if_neg (by decide +kernel), if_neg (by decide +kernel), if_pos rfl]
theorem wth_small {a : Int} (h0 : 0 ≤ a) (h : a < 100000) : Wth a := ⟨h0, Int.lt_trans h (by decide)⟩
structure LoopSt (s c o n : Str) (b m : Int) (left done : Nat) (nm : List (Key × V)) : Prop where
  s : got nm s ((b + done * m) % 18446744073709551616)
  c : got nm c m
  o : got nm o 1
  n : got nm n (left : Int)
theorem mod_ok (a : Int) : Wth (a % 18446744073709551616) := ⟨Int.emod_nonneg _ (by decide), Int.emod_lt_of_pos _ (by decide)⟩
theorem loop_turns {bs : List BPart} {s c o n : Str} {b m : Int} (h : bs[0]? = some (loopP s c o n b m)) (nd : [s, c, o, n].Nodup) (hm : Wth m) : ∀ (left done : Nat) (nm : List (Key × V)), left + done ≤ 1000 → LoopSt s c o n b m left done nm →
    ∃ nm', Ch bs (3 * left) ⟨[⟨0, 7, nm⟩], [], .non⟩ ⟨[⟨0, 7, nm'⟩], [], .non⟩ ∧ LoopSt s c o n b m 0 (left + done) nm'
  | 0, done, nm, _, L => ⟨nm, .nil, by rw [Nat.zero_add]; exact L⟩
  | left + 1, done, nm, hl, L => by
    simp only [List.nodup_cons, List.mem_cons, List.not_mem_nil, or_false, not_or] at nd
    obtain ⟨⟨n1, n2, n3⟩, ⟨n4, n5⟩, n6, _⟩ := nd
    have e1 : wth "+" ((b + done * m) % 18446744073709551616) m = (b + (done + 1 : Nat) * m) % 18446744073709551616 := by
      rw [wth_add]
      have : ((done + 1 : Nat) : Int) * m = done * m + m := by rw [Int.natCast_add, Int.add_mul]; simp
      rw [this, Int.emod_add_emod, Int.add_assoc]
    have e2 : wth "-" ((left + 1 : Nat) : Int) 1 = (left : Int) := by
      rw [wth_sub]; omega
    have s1 : Stp bs ⟨[] ++ [⟨0, 7, nm⟩], [], .non⟩ ⟨[] ++ [⟨0, 4, nm⟩], [], .non⟩ := .yes (f := ⟨0, 7, nm⟩) (b := loopP s c o n b m) (p := n) (to := 4) h rfl L.n (by omega)
    have s2 : Stp bs ⟨[] ++ [⟨0, 4, nm⟩], [], .non⟩ ⟨[] ++ [⟨0, 5, put nm s (wth "+" ((b + done * m) % 18446744073709551616) m)⟩], [], .non⟩ := .op (f := ⟨0, 4, nm⟩) (b := loopP s c o n b m) (x := s) (s := "+") (p := s) (q := c) h rfl L.s L.c
    rw [e1] at s2
    have w1 := mod_ok (b + (done + 1 : Nat) * m)
    have s3 : Stp bs ⟨[] ++ [⟨0, 5, put nm s ((b + (done + 1 : Nat) * m) % 18446744073709551616)⟩], [], .non⟩ ⟨[] ++ [⟨0, 7, put (put nm s ((b + (done + 1 : Nat) * m) % 18446744073709551616)) n (wth "-" ((left + 1 : Nat) : Int) 1)⟩], [], .non⟩ := .op (f := ⟨0, 5, put nm s ((b + (done + 1 : Nat) * m) % 18446744073709551616)⟩) (b := loopP s c o n b m) (x := n) (s := "-") (p := n) (q := o) h rfl (got_keep (Ne.symm n3) L.n) (got_keep (Ne.symm n2) L.o)
    rw [e2] at s3
    obtain ⟨nm', C, L'⟩ := loop_turns h (by simp [*]) hm left (done + 1) (put (put nm s ((b + (done + 1 : Nat) * m) % 18446744073709551616)) n (left : Int)) (by omega) ⟨got_keep n3 (got_put w1), got_keep n5 (got_keep (Ne.symm n1) L.c), got_keep n6 (got_keep (Ne.symm n2) L.o), got_put (wth_small (by omega) (by omega))⟩
    refine ⟨nm', ?_, ?_⟩
    · have := (((Ch.nil.add s1).add s2).add s3).trans C
      rw [show 3 * (left + 1) = 0 + 1 + 1 + 1 + 3 * left by omega]
      exact this
    · rw [show left + 1 + done = left + (done + 1) by omega]; exact L'
theorem loop_ch {bs : List BPart} {s c o n : Str} {b m : Int} (h : bs[0]? = some (loopP s c o n b m)) (nd : [s, c, o, n].Nodup) (hb : Wth b) (hm : Wth m) (many : Nat) (hl : many ≤ 1000) :
    Ch bs (6 + 3 * many) ⟨[opens (loopP s c o n b m) 0 [(many : Int)]], [], .non⟩ ⟨[], [m], .int ((b + many * m) % 18446744073709551616)⟩ := by
  have nd' := nd
  simp only [List.nodup_cons, List.mem_cons, List.not_mem_nil, or_false, not_or] at nd
  obtain ⟨⟨n1, n2, n3⟩, ⟨n4, n5⟩, n6, _⟩ := nd
  have g0 : got (opens (loopP s c o n b m) 0 [(many : Int)]).nm n (many : Int) := got_open rfl (wth_small (by omega) (by omega))
  have o1 : opens (loopP s c o n b m) 0 [(many : Int)] = ⟨0, 0, (opens (loopP s c o n b m) 0 [(many : Int)]).nm⟩ := rfl
  rw [o1]
  generalize (opens (loopP s c o n b m) 0 [(many : Int)]).nm = nm at g0 ⊢
  have s1 : Stp bs ⟨[] ++ [⟨0, 0, nm⟩], [], .non⟩ ⟨[] ++ [⟨0, 1, put nm s b⟩], [], .non⟩ := .num (f := ⟨0, 0, nm⟩) (b := loopP s c o n b m) (x := s) (z := b) h rfl
  have s2 : Stp bs ⟨[] ++ [⟨0, 1, put nm s b⟩], [], .non⟩ ⟨[] ++ [⟨0, 2, put (put nm s b) c m⟩], [], .non⟩ := .num (f := ⟨0, 1, put nm s b⟩) (b := loopP s c o n b m) (x := c) (z := m) h rfl
  have s3 : Stp bs ⟨[] ++ [⟨0, 2, put (put nm s b) c m⟩], [], .non⟩ ⟨[] ++ [⟨0, 7, put (put (put nm s b) c m) o 1⟩], [], .non⟩ := .num (f := ⟨0, 2, put (put nm s b) c m⟩) (b := loopP s c o n b m) (x := o) (z := 1) h rfl
  have eb : (b + (0 : Nat) * m) % 18446744073709551616 = b := by
    have h2 : b < 18446744073709551616 := hb.2
    have h1 := hb.1
    rw [Int.natCast_zero, Int.zero_mul, Int.add_zero]
    exact Int.emod_eq_of_lt h1 h2
  obtain ⟨nm', C, L⟩ := loop_turns h nd' hm many 0 (put (put (put nm s b) c m) o 1) (by omega) ⟨by rw [eb]; exact got_keep n2 (got_keep n1 (got_put hb)), got_keep n4 (got_put hm), got_put (wth_small (by decide) (by decide)), got_keep (Ne.symm n6) (got_keep (Ne.symm n5) (got_keep (Ne.symm n3) g0))⟩
  have s4 : Stp bs ⟨[] ++ [⟨0, 7, nm'⟩], [], .non⟩ ⟨[] ++ [⟨0, 8, nm'⟩], [], .non⟩ := .no (f := ⟨0, 7, nm'⟩) (b := loopP s c o n b m) (p := n) (to := 4) h rfl L.n
  have s5 : Stp bs ⟨[] ++ [⟨0, 8, nm'⟩], [], .non⟩ ⟨[] ++ [⟨0, 9, nm'⟩], [] ++ [m], .non⟩ := .say (f := ⟨0, 8, nm'⟩) (b := loopP s c o n b m) (p := c) h rfl L.c
  have s6 : Stp bs ⟨[⟨0, 9, nm'⟩], [] ++ [m], .non⟩ ⟨[], [m], .int ((b + (many + 0 : Nat) * m) % 18446744073709551616)⟩ := .last (f := ⟨0, 9, nm'⟩) (b := loopP s c o n b m) (p := s) h rfl L.s
  have := ((((Ch.nil.add s1).add s2).add s3).trans C).add s4 |>.add s5 |>.add s6
  rw [show 6 + 3 * many = 0 + 1 + 1 + 1 + 3 * many + 1 + 1 + 1 by omega]
  exact this
def tri : Nat → Nat
  | 0 => 0
  | k + 1 => tri k + (k + 1)
theorem tri_eq : ∀ k, 2 * tri k = k * (k + 1)
  | 0 => rfl
  | k + 1 => by
    show 2 * (tri k + (k + 1)) = _
    rw [Nat.mul_add, tri_eq k]
    have : (k + 1) * (k + 1 + 1) = k * (k + 1) + 2 * (k + 1) := by
      rw [Nat.add_comm (k * (k + 1)), ← Nat.add_mul, Nat.add_comm 2 k, Nat.mul_comm]
    omega
theorem tri_le {k : Nat} (h : k ≤ 90) : tri k ≤ 4095 := by
  have e := tri_eq k
  have : k * (k + 1) ≤ 90 * 91 := Nat.mul_le_mul h (by omega)
  omega
theorem self_ch {bs : List BPart} {s o n : Str} (h : bs[1]? = some (selfP s o n)) (nd : [s, o, n].Nodup) : ∀ (k : Nat), k ≤ 90 → ∀ fs : List Fr, ∃ (r : Nat) (nm : List (Key × V)), Ch bs (6 * k + 1) ⟨fs ++ [opens (selfP s o n) 1 [(k : Int)]], [], .non⟩ ⟨fs ++ [⟨1, r, nm⟩], [], .non⟩ ∧ (selfP s o n).rows[r]? = some (.give n) ∧ got nm n ((tri k : Nat) : Int)
  | 0, _, fs => by
    have g0 : got (opens (selfP s o n) 1 [((0 : Nat) : Int)]).nm n ((0 : Nat) : Int) := got_open rfl (wth_small (by decide) (by decide))
    exact ⟨1, _, Ch.nil.add (.no (f := opens (selfP s o n) 1 [((0 : Nat) : Int)]) (b := selfP s o n) (p := n) (to := 2) h rfl g0), rfl, g0⟩
  | k + 1, hk, fs => by
    have nd' := nd
    simp only [List.nodup_cons, List.mem_cons, List.not_mem_nil, or_false, not_or] at nd
    obtain ⟨⟨n1, n2⟩, n3, _⟩ := nd
    have g0 : got (opens (selfP s o n) 1 [((k + 1 : Nat) : Int)]).nm n ((k + 1 : Nat) : Int) := got_open rfl (wth_small (by omega) (by omega))
    have o1 : opens (selfP s o n) 1 [((k + 1 : Nat) : Int)] = ⟨1, 0, (opens (selfP s o n) 1 [((k + 1 : Nat) : Int)]).nm⟩ := rfl
    rw [o1]
    generalize (opens (selfP s o n) 1 [((k + 1 : Nat) : Int)]).nm = nm at g0 ⊢
    have s1 : Stp bs ⟨fs ++ [⟨1, 0, nm⟩], [], .non⟩ ⟨fs ++ [⟨1, 2, nm⟩], [], .non⟩ := .yes (f := ⟨1, 0, nm⟩) (b := selfP s o n) (p := n) (to := 2) h rfl g0 (by omega)
    have s2 : Stp bs ⟨fs ++ [⟨1, 2, nm⟩], [], .non⟩ ⟨fs ++ [⟨1, 3, put nm o 1⟩], [], .non⟩ := .num (f := ⟨1, 2, nm⟩) (b := selfP s o n) (x := o) (z := 1) h rfl
    have e2 : wth "-" ((k + 1 : Nat) : Int) 1 = (k : Int) := by
      rw [wth_sub]; omega
    have s3 : Stp bs ⟨fs ++ [⟨1, 3, put nm o 1⟩], [], .non⟩ ⟨fs ++ [⟨1, 4, put (put nm o 1) o (wth "-" ((k + 1 : Nat) : Int) 1)⟩], [], .non⟩ := .op (f := ⟨1, 3, put nm o 1⟩) (b := selfP s o n) (x := o) (s := "-") (p := n) (q := o) h rfl (got_keep (Ne.symm n3) g0) (got_put (wth_small (by decide) (by decide)))
    rw [e2] at s3
    have go : got (put (put nm o 1) o (k : Int)) o (k : Int) := got_put (wth_small (by omega) (by omega))
    have gn : got (put (put nm o 1) o (k : Int)) n ((k + 1 : Nat) : Int) := got_keep (Ne.symm n3) (got_keep (Ne.symm n3) g0)
    generalize put (put nm o 1) o (k : Int) = nm4 at s3 go gn
    have s4 : Stp bs ⟨fs ++ [⟨1, 4, nm4⟩], [], .non⟩ ⟨fs ++ [⟨1, 4, nm4⟩] ++ [opens (selfP s o n) 1 [(k : Int)]], [], .non⟩ := .call (f := ⟨1, 4, nm4⟩) (b := selfP s o n) (c := selfP s o n) (x := s) (k := 1) (as := [o]) (zs := [(k : Int)]) h rfl h rfl rfl fun j u v hu hv => by
      match j with
      | 0 => cases hu; cases hv; exact go
      | j + 1 => simp at hu
    obtain ⟨r, nm5, C, hr, g5⟩ := self_ch h nd' k (by omega) (fs ++ [⟨1, 4, nm4⟩])
    have s5 : Stp bs ⟨fs ++ [⟨1, 4, nm4⟩] ++ [⟨1, r, nm5⟩], [], .non⟩ ⟨fs ++ [⟨1, 5, put nm4 s ((tri k : Nat) : Int)⟩], [], .non⟩ := .give (g := ⟨1, 4, nm4⟩) (f := ⟨1, r, nm5⟩) (b := selfP s o n) (c := selfP s o n) (p := n) (x := s) (k := 1) (as := [o]) h hr g5 h rfl
    have tl := tri_le (k := k) (by omega)
    have e3 : wth "+" ((tri k : Nat) : Int) ((k + 1 : Nat) : Int) = ((tri (k + 1) : Nat) : Int) := by
      rw [wth_add]
      show _ = ((tri k + (k + 1) : Nat) : Int)
      omega
    have s6 : Stp bs ⟨fs ++ [⟨1, 5, put nm4 s ((tri k : Nat) : Int)⟩], [], .non⟩ ⟨fs ++ [⟨1, 6, put (put nm4 s ((tri k : Nat) : Int)) n (wth "+" ((tri k : Nat) : Int) ((k + 1 : Nat) : Int))⟩], [], .non⟩ := .op (f := ⟨1, 5, put nm4 s ((tri k : Nat) : Int)⟩) (b := selfP s o n) (x := n) (s := "+") (p := s) (q := n) h rfl (got_put (wth_small (by omega) (by omega))) (got_keep (Ne.symm n2) gn)
    rw [e3] at s6
    refine ⟨6, put (put nm4 s ((tri k : Nat) : Int)) n ((tri (k + 1) : Nat) : Int), ?_, rfl, got_put (wth_small (by omega) ?_)⟩
    · have := (((((Ch.nil.add s1).add s2).add s3).add s4).trans C).add s5 |>.add s6
      rw [show 6 * (k + 1) + 1 = 0 + 1 + 1 + 1 + 1 + (6 * k + 1) + 1 + 1 by omega]
      exact this
    · have := tri_le hk
      omega
theorem self_all {bs : List BPart} {s o n : Str} (h : bs[1]? = some (selfP s o n)) (nd : [s, o, n].Nodup) {k : Nat} (hk : k ≤ 90) :
    Ch bs (6 * k + 2) ⟨[opens (selfP s o n) 1 [(k : Int)]], [], .non⟩ ⟨[], [], .int ((tri k : Nat) : Int)⟩ := by
  obtain ⟨r, nm, C, hr, g⟩ := self_ch h nd k hk []
  exact C.add (.last (f := ⟨1, r, nm⟩) (b := selfP s o n) (p := n) h hr g)
end Bg
end
section
set_option Elab.async false
set_option linter.all false
set_option maxRecDepth 100000
set_option maxHeartbeats 4000000
namespace Bg
open PySem L2
theorem tup_new {t : TA} {σ : St} {H : Hp} {Q : VK} (xs : List V) (pure : ∀ R : List V → Hp → Prop, R xs H → t σ H R) (hl : xs.length ≤ 100) (q : ∀ p H', H' p = some (.tup xs) → Same H H' → Q (.ref p) H') : tTup t σ H Q :=
  pure _ ⟨Nat.le_trans hl (by decide), fun p np => q p _ upd_same ((Same.refl H).new np)⟩
theorem tup_open {t : TA} {σ : St} {H : Hp} {Q : VK} (h : t σ H fun xs H1 => xs.length ≤ sizeLine ∧ ∀ p, H1 p = none → Q (.ref p) (upd H1 p (.tup xs))) : tTup t σ H Q := h
theorem asg_open {te : TE} {g : TG} {u : TS} {D : Ends} {σ : St} {H : Hp} (h : te σ H fun x H1 => g x σ H1 (u D)) : tSeq (tAsg te g) u D σ H := h
theorem ret_open {te : TE} {D : Ends} {σ : St} {H : Hp} (h : te σ H D.rt) : tRet te D σ H := h
theorem cons_open {ta : TE} {tr : TA} {σ : St} {H : Hp} {Q : List V → Hp → Prop} (h : ta σ H fun x H1 => tr σ H1 fun xs H2 => Q (x :: xs) H2) : tCons ta tr σ H Q := h
theorem cons_c {v : V} {tr : TA} {σ : St} {H : Hp} {Q : List V → Hp → Prop} (h : tr σ H fun xs H2 => Q (v :: xs) H2) : tCons (tC v) tr σ H Q := h
theorem cons_v {i : Nat} {v : V} {tr : TA} {σ : St} {H : Hp} {Q : List V → Hp → Prop} (e : σ[i]? = some (some v)) (h : tr σ H fun xs H2 => Q (v :: xs) H2) : tCons (tVar i) tr σ H Q := ⟨v, e, h⟩
theorem cons_tup {t tr : TA} {σ : St} {H : Hp} {Q : List V → Hp → Prop} (xs : List V) (pure : ∀ R : List V → Hp → Prop, R xs H → t σ H R) (hl : xs.length ≤ 100) (q : ∀ p H', H' p = some (.tup xs) → Same H H' → tr σ H' fun ys H2 => Q (.ref p :: ys) H2) : tCons (tTup t) tr σ H Q := tup_new xs pure hl q
theorem catT_new {K : PySem.W.Frag} {a b : Addr} {xs ys : List V} {H : Hp} {Q : VK} (ha : H a = some (.tup xs)) (hb : H b = some (.tup ys)) (ne : xs ≠ []) (ne' : ys ≠ []) (hl : xs.length + ys.length ≤ 100) (q : ∀ p H', H' p = some (.tup (xs ++ ys)) → Same H H' → Q (.ref p) H') : rPlus K (.ref a) (.ref b) H Q :=
  .inr (.inr (.inr ⟨a, b, xs, ys, rfl, rfl, SqT.of ha, SqT.of hb, ne, Nat.le_trans hl (by decide), fun z => absurd z ne', fun _ p np => q p _ upd_same ((Same.refl H).new np)⟩))
theorem AllAt.cons {α : Type} {R : V → α → Prop} {vs : List V} {rs : List α} {v : V} {r : α} (q : R v r) (h : AllAt R vs rs) : AllAt R (v :: vs) (r :: rs) := ⟨by simp [h.len], fun i v' r' a b => by
  match i with
  | 0 => cases a; cases b; exact q
  | i + 1 => exact h.at_ i v' r' a b⟩
end Bg
end
section
set_option Elab.async false
set_option linter.all false
set_option maxRecDepth 100000
set_option maxHeartbeats 4000000
namespace Bg
open PySem L2
theorem r_loop {K : PySem.W.Frag} {vs : List V} {H : Hp} {Q : VK} {E : XK} (h : sp_loop K vs H Q E) : t_loop K { nx := fun _ H' => Q .non H', rt := Q } (start N_loop vs) H := by
  obtain ⟨nt, b, m, s, c, o, n, rfl, hn, q⟩ := h
  refine ⟨_, rfl, _, rfl, .inl ⟨nt, _, rfl, SqT.of hn, ⟨rfl, rfl⟩, nt, _, rfl, SqT.of hn, rfl, _, _, rfl, _, _, rfl, _, _, rfl, _, _, rfl, rfl, ?_⟩⟩
  show t_loop_4 K _ [some (.ref nt), some (.int b), some (.int m), some (.str s), some (.str c), some (.str o), some (.str n), none] H
  unfold t_loop_4
  refine asg_open (tup_open ?_)
  refine cons_tup [.str "num", .str s, .int b] (fun R r => ⟨_, rfl, _, rfl, r⟩) (by show 3 ≤ 100; decide) fun p0 H0 h0 s0 => ?_
  refine cons_tup [.str "num", .str c, .int m] (fun R r => ⟨_, rfl, _, rfl, r⟩) (by show 3 ≤ 100; decide) fun p1 H1 h1 s1 => ?_
  refine cons_tup [.str "num", .str o, .int 1] (fun R r => ⟨_, rfl, r⟩) (by show 3 ≤ 100; decide) fun p2 H2 h2 s2 => ?_
  refine cons_tup [.str "jump", .int 7] (fun R r => r) (by show 2 ≤ 100; decide) fun p3 H3 h3 s3 => ?_
  refine ⟨(by show 4 ≤ sizeLine; decide), fun ta na => ?_⟩
  have ha : upd H3 ta (.tup [.ref p0, .ref p1, .ref p2, .ref p3]) ta = some (.tup [.ref p0, .ref p1, .ref p2, .ref p3]) := upd_same
  have sa : Same H3 (upd H3 ta (.tup [.ref p0, .ref p1, .ref p2, .ref p3])) := (Same.refl H3).new na
  show t_loop_3 K _ [some (.ref nt), some (.int b), some (.int m), some (.str s), some (.str c), some (.str o), some (.str n), some (.ref ta)] (upd H3 ta (.tup [.ref p0, .ref p1, .ref p2, .ref p3]))
  generalize upd H3 ta (.tup [.ref p0, .ref p1, .ref p2, .ref p3]) = Ha at ha sa ⊢
  refine ⟨_, rfl, ?_⟩
  refine tup_open ?_
  refine cons_tup [.str "op", .str s, .str "+", .str s, .str c] (fun R r => ⟨_, rfl, _, rfl, _, rfl, r⟩) (by show 5 ≤ 100; decide) fun p4 H4 h4 s4 => ?_
  refine cons_tup [.str "op", .str n, .str "-", .str n, .str o] (fun R r => ⟨_, rfl, _, rfl, _, rfl, r⟩) (by show 5 ≤ 100; decide) fun p5 H5 h5 s5 => ?_
  refine cons_tup [.str "jump", .int 7] (fun R r => r) (by show 2 ≤ 100; decide) fun p6 H6 h6 s6 => ?_
  refine ⟨(by show 3 ≤ sizeLine; decide), fun tb nb => ?_⟩
  have hb : upd H6 tb (.tup [.ref p4, .ref p5, .ref p6]) tb = some (.tup [.ref p4, .ref p5, .ref p6]) := upd_same
  have sb : Same H6 (upd H6 tb (.tup [.ref p4, .ref p5, .ref p6])) := (Same.refl H6).new nb
  generalize upd H6 tb (.tup [.ref p4, .ref p5, .ref p6]) = Hb at hb sb ⊢
  have ha' := sb _ _ (s6 _ _ (s5 _ _ (s4 _ _ ha)))
  refine .inr (catT_new ha' hb (by simp) (by simp) (by show 7 ≤ 100; decide) fun tc Hc hc sc => ?_)
  show t_loop_2 K _ [some (.ref nt), some (.int b), some (.int m), some (.str s), some (.str c), some (.str o), some (.str n), some (.ref tc)] Hc
  refine ⟨_, rfl, ?_⟩
  refine tup_open ?_
  refine cons_tup [.str "test", .str n, .int 4] (fun R r => ⟨_, rfl, r⟩) (by show 3 ≤ 100; decide) fun p7 H7 h7 s7 => ?_
  refine cons_tup [.str "say", .str c] (fun R r => ⟨_, rfl, r⟩) (by show 2 ≤ 100; decide) fun p8 H8 h8 s8 => ?_
  refine cons_tup [.str "give", .str s] (fun R r => ⟨_, rfl, r⟩) (by show 2 ≤ 100; decide) fun p9 H9 h9 s9 => ?_
  refine ⟨(by show 3 ≤ sizeLine; decide), fun td nd => ?_⟩
  have hd : upd H9 td (.tup [.ref p7, .ref p8, .ref p9]) td = some (.tup [.ref p7, .ref p8, .ref p9]) := upd_same
  have sd : Same H9 (upd H9 td (.tup [.ref p7, .ref p8, .ref p9])) := (Same.refl H9).new nd
  generalize upd H9 td (.tup [.ref p7, .ref p8, .ref p9]) = Hd at hd sd ⊢
  have hc' := sd _ _ (s9 _ _ (s8 _ _ (s7 _ _ hc)))
  refine .inr (catT_new hc' hd (by simp) (by simp) (by show 10 ≤ 100; decide) fun te He he se => ?_)
  show t_loop_1 K _ [some (.ref nt), some (.int b), some (.int m), some (.str s), some (.str c), some (.str o), some (.str n), some (.ref te)] He
  unfold t_loop_1
  refine ret_open (tup_open (cons_c ?_))
  refine cons_tup [.str n] (fun R r => ⟨_, rfl, r⟩) (by show 1 ≤ 100; decide) fun pa Hf hpa sf => ?_
  refine ⟨_, rfl, (by show 3 ≤ sizeLine; decide), fun pt npt => ?_⟩
  have hg : upd Hf pt (.tup [.str "loop", .ref pa, .ref te]) pt = some (.tup [.str "loop", .ref pa, .ref te]) := upd_same
  have sg : Same Hf (upd Hf pt (.tup [.str "loop", .ref pa, .ref te])) := (Same.refl Hf).new npt
  show Q _ (upd Hf pt (.tup [.str "loop", .ref pa, .ref te]))
  generalize upd Hf pt (.tup [.str "loop", .ref pa, .ref te]) = G at hg sg ⊢
  have t9 := ((sd.trans se).trans sf).trans sg
  have t8 := s9.trans t9
  have t7 := s8.trans t8
  have tc' := s7.trans t7
  have t6 := (sb.trans sc).trans tc'
  have t5 := s6.trans t6
  have t4 := s5.trans t5
  have ta' := s4.trans t4
  have t3 := sa.trans ta'
  have t2 := s3.trans t3
  have t1 := s2.trans t2
  have t0 := s1.trans t1
  refine q pt G ⟨pt, pa, te, _, rfl, hg, sg _ _ hpa, sg _ _ (sf _ _ he), ?_⟩ (s0.trans t0)
  exact .cons ⟨p0, rfl, t0 _ _ h0⟩ (.cons ⟨p1, rfl, t1 _ _ h1⟩ (.cons ⟨p2, rfl, t2 _ _ h2⟩ (.cons ⟨p3, rfl, t3 _ _ h3⟩ (.cons ⟨p4, rfl, t4 _ _ h4⟩ (.cons ⟨p5, rfl, t5 _ _ h5⟩ (.cons ⟨p6, rfl, t6 _ _ h6⟩ (.cons ⟨p7, rfl, t7 _ _ h7⟩ (.cons ⟨p8, rfl, t8 _ _ h8⟩ (.cons ⟨p9, rfl, t9 _ _ h9⟩ .nil)))))))))
theorem r_self {K : PySem.W.Frag} {vs : List V} {H : Hp} {Q : VK} {E : XK} (h : sp_self K vs H Q E) : t_self K { nx := fun _ H' => Q .non H', rt := Q } (start N_self vs) H := by
  obtain ⟨nt, s, o, n, z, rfl, hn, q⟩ := h
  refine ⟨_, rfl, _, rfl, .inr ⟨nt, _, rfl, SqT.of hn, (fun z => absurd z.2 (by show ¬ 3 = 4; decide)), fun tn ntn => ?_⟩⟩
  have hm : upd H tn (.tup (cutV [V.str s, .str o, .str n, .str z] none (some 3))) tn = some (.tup [.str s, .str o, .str n]) := upd_same
  have sm : Same H (upd H tn (.tup (cutV [V.str s, .str o, .str n, .str z] none (some 3)))) := (Same.refl H).new ntn
  generalize upd H tn (.tup (cutV [V.str s, .str o, .str n, .str z] none (some 3))) = Hm at hm sm ⊢
  refine ⟨tn, _, rfl, SqT.of hm, rfl, _, _, rfl, _, _, rfl, _, _, rfl, rfl, ?_⟩
  show t_self_3 K _ [some (.ref nt), some (.str s), some (.str o), some (.str n), none] Hm
  unfold t_self_3
  refine asg_open (tup_open ?_)
  refine cons_tup [.str "test", .str n, .int 2] (fun R r => ⟨_, rfl, r⟩) (by show 3 ≤ 100; decide) fun p0 H0 h0 s0 => ?_
  refine cons_tup [.str "give", .str n] (fun R r => ⟨_, rfl, r⟩) (by show 2 ≤ 100; decide) fun p1 H1 h1 s1 => ?_
  refine cons_tup [.str "num", .str o, .int 1] (fun R r => ⟨_, rfl, r⟩) (by show 3 ≤ 100; decide) fun p2 H2 h2 s2 => ?_
  refine ⟨(by show 3 ≤ sizeLine; decide), fun ta na => ?_⟩
  have ha : upd H2 ta (.tup [.ref p0, .ref p1, .ref p2]) ta = some (.tup [.ref p0, .ref p1, .ref p2]) := upd_same
  have sa : Same H2 (upd H2 ta (.tup [.ref p0, .ref p1, .ref p2])) := (Same.refl H2).new na
  show t_self_2 K _ [some (.ref nt), some (.str s), some (.str o), some (.str n), some (.ref ta)] (upd H2 ta (.tup [.ref p0, .ref p1, .ref p2]))
  generalize upd H2 ta (.tup [.ref p0, .ref p1, .ref p2]) = Ha at ha sa ⊢
  refine ⟨_, rfl, ?_⟩
  refine tup_open ?_
  refine cons_tup [.str "op", .str o, .str "-", .str n, .str o] (fun R r => ⟨_, rfl, _, rfl, _, rfl, r⟩) (by show 5 ≤ 100; decide) fun p3 H3 h3 s3 => ?_
  refine cons_open (tup_open (cons_c (cons_v rfl (cons_c ?_))))
  refine cons_tup [.str o] (fun R r => ⟨_, rfl, r⟩) (by show 1 ≤ 100; decide) fun pq Hq hq sq => ?_
  refine ⟨(by show 4 ≤ sizeLine; decide), fun p4 n4 => ?_⟩
  have h4 : upd Hq p4 (.tup [.str "call", .str s, .int 1, .ref pq]) p4 = some (.tup [.str "call", .str s, .int 1, .ref pq]) := upd_same
  have s4 : Same Hq (upd Hq p4 (.tup [.str "call", .str s, .int 1, .ref pq])) := (Same.refl Hq).new n4
  generalize upd Hq p4 (.tup [.str "call", .str s, .int 1, .ref pq]) = H4 at h4 s4 ⊢
  refine ⟨(by show 2 ≤ sizeLine; decide), fun tb nb => ?_⟩
  have hb : upd H4 tb (.tup [.ref p3, .ref p4]) tb = some (.tup [.ref p3, .ref p4]) := upd_same
  have sb : Same H4 (upd H4 tb (.tup [.ref p3, .ref p4])) := (Same.refl H4).new nb
  generalize upd H4 tb (.tup [.ref p3, .ref p4]) = Hb at hb sb ⊢
  have ha' := sb _ _ (s4 _ _ (sq _ _ (s3 _ _ ha)))
  refine catT_new ha' hb (by simp) (by simp) (by show 5 ≤ 100; decide) fun tc Hc hc sc => ?_
  show t_self_1 K _ [some (.ref nt), some (.str s), some (.str o), some (.str n), some (.ref tc)] Hc
  unfold t_self_1
  refine ret_open (tup_open (cons_c ?_))
  refine cons_tup [.str n] (fun R r => ⟨_, rfl, r⟩) (by show 1 ≤ 100; decide) fun pa Hf hpa sf => ?_
  refine cons_open ⟨_, rfl, ?_⟩
  refine tup_open ?_
  refine cons_tup [.str "op", .str n, .str "+", .str s, .str n] (fun R r => ⟨_, rfl, _, rfl, _, rfl, r⟩) (by show 5 ≤ 100; decide) fun p5 H5 h5 s5 => ?_
  refine cons_tup [.str "give", .str n] (fun R r => ⟨_, rfl, r⟩) (by show 2 ≤ 100; decide) fun p6 H6 h6 s6 => ?_
  refine ⟨(by show 2 ≤ sizeLine; decide), fun td nd => ?_⟩
  have hd : upd H6 td (.tup [.ref p5, .ref p6]) td = some (.tup [.ref p5, .ref p6]) := upd_same
  have sd : Same H6 (upd H6 td (.tup [.ref p5, .ref p6])) := (Same.refl H6).new nd
  generalize upd H6 td (.tup [.ref p5, .ref p6]) = Hd at hd sd ⊢
  have hc' := sd _ _ (s6 _ _ (s5 _ _ (sf _ _ hc)))
  refine catT_new hc' hd (by simp) (by simp) (by show 7 ≤ 100; decide) fun te He he se => ?_
  refine ⟨(by show 3 ≤ sizeLine; decide), fun pt npt => ?_⟩
  have hg : upd He pt (.tup [.str "self", .ref pa, .ref te]) pt = some (.tup [.str "self", .ref pa, .ref te]) := upd_same
  have sg : Same He (upd He pt (.tup [.str "self", .ref pa, .ref te])) := (Same.refl He).new npt
  show Q _ (upd He pt (.tup [.str "self", .ref pa, .ref te]))
  generalize upd He pt (.tup [.str "self", .ref pa, .ref te]) = G at hg sg ⊢
  have t6 := (sd.trans se).trans sg
  have t5 := s6.trans t6
  have tf := s5.trans t5
  have t4 := ((sb.trans sc).trans sf).trans tf
  have tq := s4.trans t4
  have t3 := sq.trans tq
  have t2 := (sa.trans s3).trans t3
  have t1 := s2.trans t2
  have t0 := s1.trans t1
  refine q pt G ⟨pt, pa, te, _, rfl, hg, tf _ _ hpa, sg _ _ he, ?_⟩ (sm.trans (s0.trans t0))
  exact .cons ⟨p0, rfl, t0 _ _ h0⟩ (.cons ⟨p1, rfl, t1 _ _ h1⟩ (.cons ⟨p2, rfl, t2 _ _ h2⟩ (.cons ⟨p3, rfl, t3 _ _ h3⟩ (.cons ⟨p4, pq, rfl, t4 _ _ h4, tq _ _ hq⟩ (.cons ⟨p5, rfl, t5 _ _ h5⟩ (.cons ⟨p6, rfl, t6 _ _ h6⟩ .nil))))))
end Bg
end
section
set_option Elab.async false
set_option linter.all false
set_option maxRecDepth 100000
set_option maxHeartbeats 4000000
namespace Bg
open PySem L2
theorem eqVs_same {xs : List V} (h : ∀ x ∈ xs, eqV x x = true) : eqVs xs xs = true := by
  unfold eqVs
  rw [Bool.and_eq_true]
  refine ⟨List.all_eq_true.mpr fun j hj => ?_, by simp⟩
  have hj' := List.mem_range.mp hj
  rw [Nat.min_self] at hj'
  rw [List.getElem?_eq_getElem hj']
  exact h _ (List.getElem_mem hj')
theorem eqVs_intL (ns : List Int) : eqVs (ns.map V.int) (ns.map V.int) = true := eqVs_same fun x hx => by
  obtain ⟨n, _, rfl⟩ := List.mem_map.mp hx
  show (n == n) = true
  simp
theorem flat_intM (ns : List Int) : (ns.map V.int).all flatV = true := by
  rw [List.all_eq_true]
  intro v hv
  obtain ⟨y, _, rfl⟩ := List.mem_map.mp hv
  rfl
theorem eqV_strS (s : Str) : eqV (.str s) (.str s) = true := by show (s == s) = true; simp
theorem eqV_intS (s : Int) : eqV (.int s) (.int s) = true := by show (s == s) = true; simp
theorem found_due {K : PySem.W.Frag} {neg : Bool} {p q l w : Addr} {wd : Str} {o : V} {n : Int} {ns : List Int} {H : Hp} {Q : VK} (hp : H p = some (.tup [.str wd, .ref l, o, .int n])) (hq : H q = some (.tup [.str wd, .ref w, o, .int n])) (hl : H l = some (.lst (ns.map V.int))) (hw : H w = some (.lst (ns.map V.int))) (ne : l ≠ w) (fo : flatV o = true) (eo : eqV o o = true) (k : Q (.bl !neg) H) : rEqD K neg (.ref p) (.ref q) H Q := by
  refine ⟨p, q, _, _, [eqV (.str wd) (.str wd), eqVs (ns.map V.int) (ns.map V.int), eqV o o, eqV (.int n) (.int n)], rfl, rfl, SqT.of hp, SqT.of hq, rfl, rfl, fun j a b e ha hb he => ?_, ?_⟩
  · match j with
    | 0 => cases ha; cases hb; cases he; exact .flat rfl rfl
    | 1 => cases ha; cases hb; cases he; exact .lists ne (SqL.of hl) (SqL.of hw) (flat_intM ns) (flat_intM ns)
    | 2 => cases ha; cases hb; cases he; exact .flat fo fo
    | 3 => cases ha; cases hb; cases he; exact .flat rfl rfl
    | j + 4 => simp at ha
  · rw [eqV_strS, eqVs_intL, eo, eqV_intS]
    cases neg <;> exact k
theorem r_right {K : PySem.W.Frag} {vs : List V} {H : Hp} {Q : VK} {E : XK} (h : sp_right K vs H Q E) : t_right K { nx := fun _ H' => Q .non H', rt := Q } (start N_right vs) H := by
  obtain ⟨pp, wl, k, steps, budget, many, ans, words, bs, b, st, rfl, P, hb, hp1, hw, hwl, hst, hbu, ch, sf, ss, so, q⟩ := h
  refine ⟨_, rfl, _, rfl, _, rfl, (by show 4 ≤ sizeLine; decide), fun dp ndp => ?_⟩
  have hd : upd H dp (.tup [.str "given", .ref wl, .int ans, .int (steps : Nat)]) dp = some (.tup [.str "given", .ref wl, .int ans, .int (steps : Nat)]) := upd_same
  have s0 : Same H (upd H dp (.tup [.str "given", .ref wl, .int ans, .int (steps : Nat)])) := (Same.refl H).new ndp
  show t_right_6 K _ [some (.ref pp), some (.int (k : Nat)), some (.int many), some (.int ans), some (.ref wl), some (.int (steps : Nat)), some (.int (budget : Nat)), some (.ref dp), none, none] (upd H dp (.tup [.str "given", .ref wl, .int ans, .int (steps : Nat)]))
  generalize upd H dp (.tup [.str "given", .ref wl, .int ans, .int (steps : Nat)]) = H1 at hd s0 ⊢
  have gv : wordOf st = "given" := by unfold wordOf; rw [sf]; rfl
  have run1 : ∀ (H2 : Hp) (most : Nat) (R : VK), Same H1 H2 → steps ≤ most → most ≤ 5000 → (∀ (p l : Addr) (H3 : Hp), H3 p = some (.tup [.str "given", .ref l, .int ans, .int (steps : Nat)]) → H3 l = some (.lst (words.map V.int)) → H2 l = none → Same H2 H3 → R (.ref p) H3) → ∀ (ql : Addr), H2 ql = none → sp_p_run K [.ref pp, .int (k : Nat), .ref ql, .int (most : Nat)] (upd H2 ql (.lst [.int many])) R E0 := by
    intro H2 most R s2 h1 h2 kk ql nql
    have sq : Same H2 (upd H2 ql (.lst [.int many])) := (Same.refl H2).new nql
    refine ⟨pp, ql, k, most, steps, [many], bs, b, st, rfl, P.same (s0.trans (s2.trans sq)), hb, hp1, .inl upd_same, h2, ch, h1, .inl sf, fun p l H3 hp hl nl s3 => kk p l H3 ?_ ?_ ?_ (sq.trans s3)⟩
    · rw [hp, gv, so]
    · rw [hl, ss]
    · cases e : H2 l with
      | none => rfl
      | some o => rw [sq _ _ e] at nl; cases nl
  refine .inr ⟨_, rfl, (by show 2 ≤ sizeLine; decide), fun tp ntp => ?_⟩
  have ht : upd H1 tp (.tup [.int (steps : Nat), .int 1000]) tp = some (.tup [.int (steps : Nat), .int 1000]) := upd_same
  have st1 : Same H1 (upd H1 tp (.tup [.int (steps : Nat), .int 1000])) := (Same.refl H1).new ntp
  generalize upd H1 tp (.tup [.int (steps : Nat), .int 1000]) = H2 at ht st1 ⊢
  refine ⟨tp, rfl, ⟨_, SqT.of ht⟩, for_tup (xs := [.int (steps : Nat), .int 1000]) (fun i σ' H' => ∃ o, σ' = [some (.ref pp), some (.int (k : Nat)), some (.int many), some (.int ans), some (.ref wl), some (.int (steps : Nat)), some (.int (budget : Nat)), some (.ref dp), o, none] ∧ Same H2 H') ⟨_, rfl, Same.refl H2⟩ ?_ ?_ ?_⟩
  · rintro i σ' H' _ ⟨o, _, s'⟩
    exact SqT.of (s' _ _ ht)
  · rintro i x σ' H' hx ⟨o, rfl, s'⟩
    obtain ⟨mo, rfl, m1, m2⟩ : ∃ mo : Nat, x = .int (mo : Nat) ∧ steps ≤ mo ∧ mo ≤ 5000 := by
      match i with
      | 0 => cases hx; exact ⟨steps, rfl, Nat.le_refl _, by omega⟩
      | 1 => cases hx; exact ⟨1000, rfl, hst, by decide⟩
      | i + 2 => simp at hx
    refine ⟨_, rfl, _, rfl, _, rfl, (by show 1 ≤ sizeLine; decide), fun ql nql => ⟨_, rfl, ?_⟩⟩
    unfold tNil
    dsimp only
    refine run1 H' mo _ (st1.trans s') m1 m2 (fun p l H3 hp hl nl s3 => ⟨_, rfl, ?_⟩) ql nql
    have S := st1.trans (s'.trans s3)
    have w1 := s0 _ _ hw
    refine found_due hp (S _ _ hd) hl (S _ _ w1) (fun z => by rw [z, s' _ _ (st1 _ _ w1)] at nl; cases nl) rfl (eqV_intS _) ⟨_, rfl, iteF ⟨_, rfl, s'.trans s3⟩⟩
  · rintro σ' H3 ⟨o, rfl, s3⟩
    show t_right_4 K _ _ _
    have S3 := st1.trans s3
    have w1 := s0 _ _ hw
    by_cases c : steps ≤ budget
    · refine ⟨_, rfl, _, rfl, _, rfl, (by show 1 ≤ sizeLine; decide), fun ql nql => ⟨_, rfl, ?_⟩⟩
      unfold tNil
      dsimp only
      refine run1 H3 budget _ S3 c (by omega) (fun p l H4 hp hl nl s4 => ?_) ql nql
      refine ⟨_, rfl, _, rfl, _, _, rfl, rfl, _, rfl, if_t (decide_eq_true (by omega)) ⟨_, rfl, _, rfl, ?_⟩⟩
      have S := S3.trans s4
      exact found_due hp (S _ _ hd) hl (S _ _ w1) (fun z => by rw [z, S3 _ _ w1] at nl; cases nl) rfl (eqV_intS _) (q _ (s0.trans S))
    · obtain ⟨c2, C2, nf, no, pre⟩ := ch.cut budget (by omega)
      refine ⟨_, rfl, _, rfl, _, rfl, (by show 1 ≤ sizeLine; decide), fun ql nql => ⟨_, rfl, ?_⟩⟩
      have sq : Same H3 (upd H3 ql (.lst [.int many])) := (Same.refl H3).new nql
      refine ⟨pp, ql, k, budget, budget, [many], bs, b, c2, rfl, P.same (s0.trans (S3.trans sq)), hb, hp1, .inl upd_same, by omega, C2, Nat.le_refl _, .inr rfl, fun p l H4 hp hl nl s4 => ?_⟩
      have sp : wordOf c2 = "spent" := by unfold wordOf; rw [if_neg (by simpa using nf)]
      rw [sp, no] at hp
      have S := S3.trans (sq.trans s4)
      refine ⟨_, rfl, _, rfl, _, _, rfl, rfl, _, rfl, if_f (decide_eq_false (by omega)) ?_⟩
      show t_right_2 K _ _ _
      refine ⟨_, rfl, ixT hp (by decide) rfl (.inl ⟨rfl, _, rfl, ?_⟩)⟩
      refine if_f (by decide +kernel) ?_
      refine ⟨_, rfl, _, rfl, .inr ⟨p, _, rfl, SqT.of hp, (fun z => absurd z.1 (by show ¬ 2 = 0; decide)), fun cu ncu => ?_⟩⟩
      have hcu : upd H4 cu (.tup (cutV [V.str "spent", .ref l, .non, .int (budget : Nat)] (some 2) none)) cu = some (.tup [.non, .int (budget : Nat)]) := upd_same
      have scu : Same H4 (upd H4 cu (.tup (cutV [V.str "spent", .ref l, .non, .int (budget : Nat)] (some 2) none))) := (Same.refl H4).new ncu
      generalize upd H4 cu (.tup (cutV [V.str "spent", .ref l, .non, .int (budget : Nat)] (some 2) none)) = H5 at hcu scu ⊢
      refine ⟨_, rfl, (by show 2 ≤ sizeLine; decide), fun du ndu => ?_⟩
      have hdu : upd H5 du (.tup [.non, .int (budget : Nat)]) du = some (.tup [.non, .int (budget : Nat)]) := upd_same
      have sdu : Same H5 (upd H5 du (.tup [.non, .int (budget : Nat)])) := (Same.refl H5).new ndu
      generalize upd H5 du (.tup [.non, .int (budget : Nat)]) = H6 at hdu sdu ⊢
      refine .inr (.inl ⟨cu, du, _, _, rfl, rfl, SqT.of (sdu _ _ hcu), SqT.of hdu, rfl, rfl, _, rfl, ?_⟩)
      have e6 : eqVs [V.non, .int (budget : Nat)] [.non, .int (budget : Nat)] = true := eqVs_same fun x hx => by
        rcases List.mem_cons.mp hx with rfl | hx
        · rfl
        · rw [List.mem_singleton.mp hx]; exact eqV_intS _
      rw [e6]
      refine iteF ?_
      show t_right_1 K _ _ _
      have T6 := scu.trans sdu
      have hp6 := T6 _ _ hp
      have hl6 := T6 _ _ hl
      have hw6 := T6 _ _ (S _ _ w1)
      refine ⟨_, rfl, ixT hp6 (by decide) rfl ⟨_, rfl, _, rfl, ixT hp6 (by decide) rfl ⟨_, _, rfl, .inl ⟨_, SqL.of hl6, rfl⟩, _, rfl, ?_⟩⟩⟩
      refine .inl ⟨wl, _, rfl, SqL.of hw6, fun cl ncl => ?_⟩
      rw [cut_take, List.length_map, ← List.map_take]
      have et : words.take c2.said.length = c2.said := by
        rw [← ss]; exact (List.prefix_iff_eq_take.mp pre).symm
      rw [et]
      have nlc : l ≠ cl := ne_of_none hl6 ncl
      refine .inr (.inr (.inr ⟨l, cl, _, _, rfl, rfl, SqL.of (by rw [upd_ne nlc]; exact hl6), SqL.of upd_same, flat_intM _, flat_intM _, ?_⟩))
      rw [eqVs_intL]
      exact q _ (s0.trans (S.trans (T6.trans ((Same.refl H6).new ncl))))
theorem ProgAt.tp {H H' : Hp} {pp : Addr} {bs : List BPart} (h : ProgAt H pp bs) (t : Tp H H') : ProgAt H' pp bs := by
  obtain ⟨pvs, e, a⟩ := h.ex
  exact ⟨⟨pvs, t _ _ e, a.imp fun _ _ z => z.mono t⟩, h.good, h.few⟩
theorem r_law {K : PySem.W.Frag} {vs : List V} {H : Hp} {Q : VK} {E : XK} (h : sp_law K vs H Q E) : t_law K { nx := fun _ H' => Q .non H', rt := Q } (start N_law vs) H := by
  obtain ⟨scr, ns, rfl, hscr, hns, q⟩ := h
  have e64 : (2 : Int) ^ Int.toNat 64 = 18446744073709551616 := by decide
  refine ⟨_, rfl, (by show 3 ≤ sizeLine; decide), fun st hst => ?_⟩
  have S1 : Stt K (upd H st (.lst [.ref scr, .int 0, .int 0])) st 0 := ⟨scr, ns, 0, upd_same, hscr.mono (.of_same ((Same.refl H).new hst)), hns⟩
  show t_law_14 K _ [some (.ref scr), some (.ref st), none, none, none, none, none, none, none, none] (upd H st (.lst [.ref scr, .int 0, .int 0]))
  generalize upd H st (.lst [.ref scr, .int 0, .int 0]) = H1 at S1 ⊢
  refine ⟨_, rfl, st, 4, 0, rfl, S1, by omega, by decide, fun nl ys k2 H2 nnl yl yn yN hnl S2 l2 B2 => ⟨nl, _, rfl, .inl ⟨SqL.of hnl, fun nt nnt => ?_⟩⟩⟩
  obtain ⟨s, c, o, n, rfl⟩ : ∃ s c o n, ys = [s, c, o, n] := by
    match ys, yl with
    | [s, c, o, n], _ => exact ⟨s, c, o, n, rfl⟩
  have hnt : upd H2 nt (.tup ([s, c, o, n].map V.str)) nt = some (.tup [.str s, .str c, .str o, .str n]) := upd_same
  have S3 : Stt K (upd H2 nt (.tup ([s, c, o, n].map V.str))) st k2 := S2.new nnt
  show t_law_13 K _ [some (.ref scr), some (.ref st), some (.ref nt), none, none, none, none, none, none, none] (upd H2 nt (.tup ([s, c, o, n].map V.str)))
  generalize upd H2 nt (.tup ([s, c, o, n].map V.str)) = H3 at hnt S3 ⊢
  refine ⟨_, rfl, st, k2, rfl, S3, by omega, fun b k4 H4 b0 b1 S4 l4 B4 => ?_⟩
  have hnt4 := Tp.of_but B4 S3.lst.choose_spec _ _ hnt
  refine ⟨_, rfl, st, k4, rfl, S4, by omega, fun m k5 H5 m0 m1 S5 l5 B5 => ?_⟩
  have hnt5 := Tp.of_but B5 S4.lst.choose_spec _ _ hnt4
  show t_law_11 K _ [some (.ref scr), some (.ref st), some (.ref nt), some (.int b), some (.int m), none, none, none, none, none] H5
  unfold t_law_11
  refine asg_open (tup_open (cons_c (cons_open ?_)))
  refine ⟨_, rfl, _, rfl, .inr ⟨nt, _, rfl, SqT.of hnt5, (fun z => absurd z.2 (by show ¬ 1 = 4; decide)), fun pa npa => ?_⟩⟩
  have hpa : upd H5 pa (.tup (cutV [V.str s, .str c, .str o, .str n] none (some 1))) pa = some (.tup [.str s]) := upd_same
  have spa : Same H5 (upd H5 pa (.tup (cutV [V.str s, .str c, .str o, .str n] none (some 1)))) := (Same.refl H5).new npa
  generalize upd H5 pa (.tup (cutV [V.str s, .str c, .str o, .str n] none (some 1))) = H6 at hpa spa ⊢
  have hnt6 := spa _ _ hnt5
  refine cons_open (tup_open (cons_open (tup_open (cons_c (cons_open ?_)))))
  refine ⟨_, rfl, ixT hnt6 (by decide) rfl (cons_c (cons_open ?_))⟩
  refine ⟨_, rfl, _, rfl, .inr ⟨nt, _, rfl, SqT.of hnt6, (fun z => absurd z.2 (by show ¬ 1 = 4; decide)), fun pb npb => ?_⟩⟩
  have hpb : upd H6 pb (.tup (cutV [V.str s, .str c, .str o, .str n] none (some 1))) pb = some (.tup [.str s]) := upd_same
  have spb : Same H6 (upd H6 pb (.tup (cutV [V.str s, .str c, .str o, .str n] none (some 1)))) := (Same.refl H6).new npb
  generalize upd H6 pb (.tup (cutV [V.str s, .str c, .str o, .str n] none (some 1))) = H7 at hpb spb ⊢
  refine ⟨(by show 4 ≤ sizeLine; decide), fun r0 nr0 => ?_⟩
  have hr0 : upd H7 r0 (.tup [.str "call", .str c, .int 2, .ref pb]) r0 = some (.tup [.str "call", .str c, .int 2, .ref pb]) := upd_same
  have sr0 : Same H7 (upd H7 r0 (.tup [.str "call", .str c, .int 2, .ref pb])) := (Same.refl H7).new nr0
  generalize upd H7 r0 (.tup [.str "call", .str c, .int 2, .ref pb]) = H8 at hr0 sr0 ⊢
  have hnt8 := sr0 _ _ (spb _ _ hnt6)
  refine cons_open (tup_open (cons_c (cons_open ?_)))
  refine ⟨_, rfl, ixT hnt8 (by decide) rfl ⟨(by show 2 ≤ sizeLine; decide), fun r1 nr1 => ?_⟩⟩
  have hr1 : upd H8 r1 (.tup [.str "give", .str c]) r1 = some (.tup [.str "give", .str c]) := upd_same
  have sr1 : Same H8 (upd H8 r1 (.tup [.str "give", .str c])) := (Same.refl H8).new nr1
  generalize upd H8 r1 (.tup [.str "give", .str c]) = H9 at hr1 sr1 ⊢
  refine ⟨(by show 2 ≤ sizeLine; decide), fun rt nrt => ?_⟩
  have hrt : upd H9 rt (.tup [.ref r0, .ref r1]) rt = some (.tup [.ref r0, .ref r1]) := upd_same
  have srt : Same H9 (upd H9 rt (.tup [.ref r0, .ref r1])) := (Same.refl H9).new nrt
  generalize upd H9 rt (.tup [.ref r0, .ref r1]) = H10 at hrt srt ⊢
  refine ⟨(by show 3 ≤ sizeLine; decide), fun ev nev => ?_⟩
  have hev : upd H10 ev (.tup [.str "ever", .ref pa, .ref rt]) ev = some (.tup [.str "ever", .ref pa, .ref rt]) := upd_same
  have sev : Same H10 (upd H10 ev (.tup [.str "ever", .ref pa, .ref rt])) := (Same.refl H10).new nev
  show t_law_10 K _ [some (.ref scr), some (.ref st), some (.ref nt), some (.int b), some (.int m), some (.ref ev), none, none, none, none] (upd H10 ev (.tup [.str "ever", .ref pa, .ref rt]))
  generalize upd H10 ev (.tup [.str "ever", .ref pa, .ref rt]) = H11 at hev sev ⊢
  have t9 := srt.trans sev
  have t8 := sr1.trans t9
  have t7 := sr0.trans t8
  have t6 := spb.trans t7
  have t5 := spa.trans t6
  have PE : PartAt H11 (.ref ev) (everP s c) := ⟨ev, pa, rt, _, rfl, hev, t6 _ _ hpa, sev _ _ hrt, .cons ⟨r0, pb, rfl, t8 _ _ hr0, t7 _ _ hpb⟩ (.cons ⟨r1, rfl, t9 _ _ hr1⟩ .nil)⟩
  refine ⟨_, rfl, _, rfl, _, rfl, nt, b, m, s, c, o, n, rfl, t5 _ _ hnt5, fun lp H12 PL s12 => ?_⟩
  refine ⟨_, rfl, nt, s, c, o, n, rfl, s12 _ _ (t5 _ _ hnt5), fun fp H13 PS s13 => ?_⟩
  refine ⟨_, rfl, (by show 3 ≤ sizeLine; decide), fun pp npp => ?_⟩
  have hpp : upd H13 pp (.tup [.ref lp, .ref fp, .ref ev]) pp = some (.tup [.ref lp, .ref fp, .ref ev]) := upd_same
  have spp : Same H13 (upd H13 pp (.tup [.ref lp, .ref fp, .ref ev])) := (Same.refl H13).new npp
  show t_law_9 K _ [some (.ref scr), some (.ref st), some (.ref nt), some (.int b), some (.int m), some (.ref ev), some (.ref pp), none, none, none] (upd H13 pp (.tup [.ref lp, .ref fp, .ref ev]))
  generalize upd H13 pp (.tup [.ref lp, .ref fp, .ref ev]) = H14 at hpp spp ⊢
  have P : ProgAt H14 pp [loopP s c o n b m, selfP s c o, everP s c] := by
    refine ⟨⟨_, hpp, .cons (PL.mono (.of_same (s13.trans spp))) (.cons (PS.mono (.of_same spp)) (.cons (PE.mono (.of_same (s12.trans (s13.trans spp)))) .nil))⟩, ?_, ?_⟩
    · intro x hx
      simp only [List.mem_cons, List.not_mem_nil, or_false] at hx
      rcases hx with rfl | rfl | rfl
      · exact good_loop s c o n b m
      · exact good_self s c o
      · exact good_ever s c
    · intro x hx
      simp only [List.mem_cons, List.not_mem_nil, or_false] at hx
      rcases hx with rfl | rfl | rfl <;> (show 1 ≤ 100; decide)
  have S14 : Stt K H14 st k5 := S5.same (t5.trans (s12.trans (s13.trans spp)))
  have nd3 : [s, c, o].Nodup := by
    have := yn
    simp only [List.nodup_cons, List.mem_cons, List.not_mem_nil, or_false, not_or] at this ⊢
    obtain ⟨⟨a1, a2, a3⟩, ⟨a4, a5⟩, a6, _⟩ := this
    exact ⟨⟨a1, a2⟩, a4, by simp⟩
  refine ⟨_, rfl, _, rfl, (by show 1 ≤ sizeLine; decide), fun ql nql => ?_⟩
  have sq : Same H14 (upd H14 ql (.lst [.int b])) := (Same.refl H14).new nql
  have hq : upd H14 ql (.lst [.int b]) ql = some (.lst [.int b]) := upd_same
  generalize upd H14 ql (.lst [.int b]) = H15 at sq hq ⊢
  refine ⟨pp, ql, 2, 1000, 1000, [b], [loopP s c o n b m, selfP s c o, everP s c], everP s c, _, rfl, P.same sq, rfl, rfl, .inl hq, by decide, ever_ch rfl ⟨b0, b1⟩ 1000, Nat.le_refl _, .inr rfl, fun fo sl H16 hfo hsl nsl s16 => ?_⟩
  have wd : wordOf ⟨List.replicate 1000 (opens (everP s c) 2 [b]) ++ [opens (everP s c) 2 [b]], [], .non⟩ = "spent" := by
    unfold wordOf; rw [if_neg (by simp)]
  rw [wd] at hfo
  refine ⟨(by show 0 ≤ sizeLine; decide), fun el nel => ⟨(by show 4 ≤ sizeLine; decide), fun du ndu => ?_⟩⟩
  have s17 : Same H16 (upd (upd H16 el (.lst [])) du (.tup [.str "spent", .ref el, .non, .int 1000])) := ((Same.refl H16).new nel).trans ((Same.refl _).new ndu)
  have hdu : upd (upd H16 el (.lst [])) du (.tup [.str "spent", .ref el, .non, .int 1000]) du = some (.tup [.str "spent", .ref el, .non, .int 1000]) := upd_same
  have hel : upd (upd H16 el (.lst [])) du (.tup [.str "spent", .ref el, .non, .int 1000]) el = some (.lst []) := by
    rw [upd_ne (fun z => by rw [← z, upd_same] at ndu; cases ndu)]; exact upd_same
  generalize upd (upd H16 el (.lst [])) du (.tup [.str "spent", .ref el, .non, .int 1000]) = H17 at s17 hdu hel ⊢
  refine found_due (ns := []) (s17 _ _ hfo) hdu (s17 _ _ hsl) hel (fun z => by rw [z, nel] at hsl; cases hsl) rfl rfl ⟨_, rfl, iteF ?_⟩
  have S17 := (S14.same sq).same (s16.trans s17)
  have P17 := (P.same sq).same (s16.trans s17)
  show t_law_8 K _ [some (.ref scr), some (.ref st), some (.ref nt), some (.int b), some (.int m), some (.ref ev), some (.ref pp), none, none, none] H17
  refine ⟨_, rfl, st, 201, k5, rfl, S17, by omega, by decide, by decide, fun d H18 d0 d1 S18 B18 => ?_⟩
  obtain ⟨u, rfl⟩ : ∃ u : Nat, d = (u : Int) := ⟨d.toNat, by omega⟩
  have P18 : ProgAt H18 pp [loopP s c o n b m, selfP s c o, everP s c] := P17.tp (.of_but B18 S17.lst.choose_spec)
  refine ⟨_, rfl, _, rfl, _, rfl, .inl ⟨_, _, rfl, rfl, .inl ⟨by omega, by omega⟩, .inl ⟨_, _, rfl, rfl, _, _, rfl, rfl, ⟨by decide, by decide, by decide⟩, _, _, rfl, rfl, by show (0 : Int) < 2 ^ Int.toNat 64; decide, ?_⟩⟩⟩
  dsimp only
  rw [e64]
  show t_law_6 K _ [some (.ref scr), some (.ref st), some (.ref nt), some (.int b), some (.int m), some (.ref ev), some (.ref pp), some (.int (u : Nat)), some (.int ((b + u * m) % 18446744073709551616)), none] H18
  refine ⟨_, rfl, st, 1001, _, rfl, S18, by omega, by decide, by decide, fun d H19 d0 d1 S19 B19 => ?_⟩
  obtain ⟨bu, rfl⟩ : ∃ u : Nat, d = (u : Int) := ⟨d.toNat, by omega⟩
  have P19 : ProgAt H19 pp [loopP s c o n b m, selfP s c o, everP s c] := P18.tp (.of_but B19 S18.lst.choose_spec)
  show t_law_5 K _ [some (.ref scr), some (.ref st), some (.ref nt), some (.int b), some (.int m), some (.ref ev), some (.ref pp), some (.int (u : Nat)), some (.int ((b + u * m) % 18446744073709551616)), some (.int (bu : Nat))] H19
  refine ⟨_, rfl, _, rfl, _, rfl, _, rfl, (by show 1 ≤ sizeLine; decide), fun wl nwl => ?_⟩
  have swl : Same H19 (upd H19 wl (.lst [.int m])) := (Same.refl H19).new nwl
  have hwl : upd H19 wl (.lst [.int m]) wl = some (.lst [.int m]) := upd_same
  generalize upd H19 wl (.lst [.int m]) = H20 at swl hwl ⊢
  refine ⟨_, rfl, .inl ⟨_, _, rfl, rfl, .inl ⟨by decide, by decide⟩, .inl ⟨_, _, rfl, rfl, _, rfl, ?_⟩⟩⟩
  refine ⟨pp, wl, 0, 6 + 3 * u, bu, (u : Int), (b + u * m) % 18446744073709551616, [m], [loopP s c o n b m, selfP s c o, everP s c], loopP s c o n b m, _, ?_, P19.same swl, rfl, rfl, hwl, by show 1 ≤ 10; decide, by omega, by omega, loop_ch rfl yn ⟨b0, b1⟩ ⟨m0, m1⟩ u (by omega), rfl, rfl, rfl, fun H21 s21 => ⟨_, rfl, iteF ?_⟩⟩
  · have : ((6 + 3 * u : Nat) : Int) = 6 + 3 * (u : Int) := by omega
    rw [this]; rfl
  have S21 := (S19.same swl).same s21
  have P21 := (P19.same swl).same s21
  show t_law_4 K _ [some (.ref scr), some (.ref st), some (.ref nt), some (.int b), some (.int m), some (.ref ev), some (.ref pp), some (.int (u : Nat)), some (.int ((b + u * m) % 18446744073709551616)), some (.int (bu : Nat))] H21
  refine ⟨_, rfl, st, 91, _, rfl, S21, by omega, by decide, by decide, fun d H22 d0 d1 S22 B22 => ?_⟩
  obtain ⟨v, rfl⟩ : ∃ u : Nat, d = (u : Int) := ⟨d.toNat, by omega⟩
  have P22 : ProgAt H22 pp [loopP s c o n b m, selfP s c o, everP s c] := P21.tp (.of_but B22 S21.lst.choose_spec)
  refine ⟨_, rfl, _, rfl, .inl ⟨_, _, rfl, rfl, .inl ⟨_, _, rfl, rfl, .inl ⟨by omega, by omega⟩, _, _, rfl, rfl, ⟨by decide, by decide⟩, ?_⟩⟩⟩
  have et : (v : Int) * ((v : Int) + 1) / 2 = ((tri v : Nat) : Int) := by
    have e := tri_eq v
    have e' : ((2 * tri v : Nat) : Int) = ((v * (v + 1) : Nat) : Int) := by rw [e]
    rw [Int.natCast_mul, Int.natCast_mul, Int.natCast_add] at e'
    rw [show (v : Int) * ((v : Int) + 1) = 2 * ((tri v : Nat) : Int) from e'.symm]
    omega
  dsimp only
  rw [et]
  show t_law_2 K _ [some (.ref scr), some (.ref st), some (.ref nt), some (.int b), some (.int m), some (.ref ev), some (.ref pp), some (.int (v : Nat)), some (.int ((tri v : Nat) : Int)), some (.int (bu : Nat))] H22
  refine ⟨_, rfl, _, rfl, .inl ⟨_, _, rfl, rfl, .inl ⟨by decide, by decide⟩, .inl ⟨_, _, rfl, rfl, st, 6 * (v : Int) + 4, _, rfl, S22, by omega, by omega, by omega, fun d H23 d0 d1 S23 B23 => ?_⟩⟩⟩
  obtain ⟨bv, rfl⟩ : ∃ u : Nat, d = (u : Int) := ⟨d.toNat, by omega⟩
  have P23 : ProgAt H23 pp [loopP s c o n b m, selfP s c o, everP s c] := P22.tp (.of_but B23 S22.lst.choose_spec)
  show t_law_1 K _ [some (.ref scr), some (.ref st), some (.ref nt), some (.int b), some (.int m), some (.ref ev), some (.ref pp), some (.int (v : Nat)), some (.int ((tri v : Nat) : Int)), some (.int (bv : Nat))] H23
  refine ⟨_, rfl, _, rfl, _, rfl, (by show 0 ≤ sizeLine; decide), fun wl nwl => ?_⟩
  have swl : Same H23 (upd H23 wl (.lst [])) := (Same.refl H23).new nwl
  have hwl : upd H23 wl (.lst []) wl = some (.lst []) := upd_same
  generalize upd H23 wl (.lst []) = H24 at swl hwl ⊢
  refine ⟨_, rfl, .inl ⟨_, _, rfl, rfl, .inl ⟨by decide, by decide⟩, .inl ⟨_, _, rfl, rfl, _, rfl, ?_⟩⟩⟩
  refine ⟨pp, wl, 1, 6 * v + 2, bv, (v : Int), ((tri v : Nat) : Int), [], [loopP s c o n b m, selfP s c o, everP s c], selfP s c o, _, ?_, P23.same swl, rfl, rfl, hwl, by decide, by omega, by omega, self_all rfl nd3 (by omega), rfl, rfl, rfl, fun H25 s25 => q H25⟩
  have : ((6 * v + 2 : Nat) : Int) = 6 * (v : Int) + 2 := by omega
  rw [this]; rfl
end Bg
end
set_option Elab.async false
set_option linter.all false
set_option maxRecDepth 100000
set_option maxHeartbeats 4000000
namespace Bg
open PySem PySem.Spec PyProof.Rows L2
section
variable {P : Program} {w : World} {K : PySem.W.Frag} {mg : Str → Option Value} {base : Heap}
theorem len_Frame_init {vs : List V} {H : Hp} {Q : VK} {E : XK} (h : sp_Frame_init K vs H Q E) : vs.length = PS_Frame_init.length := by
  first | (obtain ⟨rfl, _⟩ := h; rfl) | (obtain ⟨_, rfl, _⟩ := h; rfl) | (obtain ⟨_, _, rfl, _⟩ := h; rfl) | (obtain ⟨_, _, _, rfl, _⟩ := h; rfl) | (obtain ⟨_, _, _, _, rfl, _⟩ := h; rfl) | (obtain ⟨_, _, _, _, _, rfl, _⟩ := h; rfl) | (obtain ⟨_, _, _, _, _, _, rfl, _⟩ := h; rfl) | (obtain ⟨_, _, _, _, _, _, _, rfl, _⟩ := h; rfl) | (obtain ⟨_, _, _, _, _, _, _, _, rfl, _⟩ := h; rfl) | (obtain ⟨_, _, _, _, _, _, _, _, _, rfl, _⟩ := h; rfl) | (obtain ⟨_, _, _, _, _, _, _, _, _, _, rfl, _⟩ := h; rfl) | (obtain ⟨_, _, _, _, _, _, _, _, _, _, _, rfl, _⟩ := h; rfl) | (obtain ⟨_, _, _, _, _, _, _, _, _, _, _, _, rfl, _⟩ := h; rfl) | (obtain ⟨_, _, _, _, _, _, _, _, _, _, _, _, _, rfl, _⟩ := h; rfl) | (obtain ⟨_, _, _, _, _, _, _, _, _, _, _, _, _, _, rfl, _⟩ := h; rfl) | (obtain ⟨_, _, _, _, _, _, _, _, _, _, _, _, _, _, _, rfl, _⟩ := h; rfl) | (obtain ⟨_, _, _, _, _, _, _, _, _, _, _, _, _, _, _, _, rfl, _⟩ := h; rfl) | (obtain ⟨_, _, _, _, _, _, _, _, _, _, _, _, _, _, _, _, _, rfl, _⟩ := h; rfl) | (obtain ⟨_, _, _, _, _, _, _, _, _, _, _, _, _, _, _, _, _, _, rfl, _⟩ := h; rfl) | (obtain ⟨_, _, _, _, _, _, _, _, _, _, _, _, _, _, _, _, _, _, _, rfl, _⟩ := h; rfl) | (obtain ⟨_, _, _, _, _, _, _, _, _, _, _, _, _, _, _, _, _, _, _, _, rfl, _⟩ := h; rfl) | (obtain ⟨_, _, _, _, _, _, _, _, _, _, _, _, _, _, _, _, _, _, _, _, _, rfl, _⟩ := h; rfl) | (obtain ⟨_, _, _, _, _, _, _, _, _, _, _, _, _, _, _, _, _, _, _, _, _, _, rfl, _⟩ := h; rfl) | (obtain ⟨_, _, _, _, _, _, _, _, _, _, _, _, _, _, _, _, _, _, _, _, _, _, _, rfl, _⟩ := h; rfl) | (obtain ⟨_, _, _, _, _, _, _, _, _, _, _, _, _, _, _, _, _, _, _, _, _, _, _, _, rfl, _⟩ := h; rfl) | (obtain ⟨_, _, _, _, _, _, _, _, _, _, _, _, _, _, _, _, _, _, _, _, _, _, _, _, _, rfl, _⟩ := h; rfl)
theorem ok_Frame_init {f : Addr} {fd : FuncData} (F : Fun K "__init__" "Frame.__init__" s_Frame_init f fd) (B : Blt mg) (T : TxtW K)  : FnOk P w K mg base CX0 K_Frame_init f fd PS_Frame_init (sp_Frame_init K) :=
  F.ok sc_Frame_init (fun vs H Q E h => len_Frame_init h) fun cdv A outer s H vs Q E hr h => ⟨_, d_Frame_init B hr, r_Frame_init T (E := E) h⟩
theorem len_p_goal {vs : List V} {H : Hp} {Q : VK} {E : XK} (h : sp_p_goal K vs H Q E) : vs.length = PS_p_goal.length := by
  first | (obtain ⟨rfl, _⟩ := h; rfl) | (obtain ⟨_, rfl, _⟩ := h; rfl) | (obtain ⟨_, _, rfl, _⟩ := h; rfl) | (obtain ⟨_, _, _, rfl, _⟩ := h; rfl) | (obtain ⟨_, _, _, _, rfl, _⟩ := h; rfl) | (obtain ⟨_, _, _, _, _, rfl, _⟩ := h; rfl) | (obtain ⟨_, _, _, _, _, _, rfl, _⟩ := h; rfl) | (obtain ⟨_, _, _, _, _, _, _, rfl, _⟩ := h; rfl) | (obtain ⟨_, _, _, _, _, _, _, _, rfl, _⟩ := h; rfl) | (obtain ⟨_, _, _, _, _, _, _, _, _, rfl, _⟩ := h; rfl) | (obtain ⟨_, _, _, _, _, _, _, _, _, _, rfl, _⟩ := h; rfl) | (obtain ⟨_, _, _, _, _, _, _, _, _, _, _, rfl, _⟩ := h; rfl) | (obtain ⟨_, _, _, _, _, _, _, _, _, _, _, _, rfl, _⟩ := h; rfl) | (obtain ⟨_, _, _, _, _, _, _, _, _, _, _, _, _, rfl, _⟩ := h; rfl) | (obtain ⟨_, _, _, _, _, _, _, _, _, _, _, _, _, _, rfl, _⟩ := h; rfl) | (obtain ⟨_, _, _, _, _, _, _, _, _, _, _, _, _, _, _, rfl, _⟩ := h; rfl) | (obtain ⟨_, _, _, _, _, _, _, _, _, _, _, _, _, _, _, _, rfl, _⟩ := h; rfl) | (obtain ⟨_, _, _, _, _, _, _, _, _, _, _, _, _, _, _, _, _, rfl, _⟩ := h; rfl) | (obtain ⟨_, _, _, _, _, _, _, _, _, _, _, _, _, _, _, _, _, _, rfl, _⟩ := h; rfl) | (obtain ⟨_, _, _, _, _, _, _, _, _, _, _, _, _, _, _, _, _, _, _, rfl, _⟩ := h; rfl) | (obtain ⟨_, _, _, _, _, _, _, _, _, _, _, _, _, _, _, _, _, _, _, _, rfl, _⟩ := h; rfl) | (obtain ⟨_, _, _, _, _, _, _, _, _, _, _, _, _, _, _, _, _, _, _, _, _, rfl, _⟩ := h; rfl) | (obtain ⟨_, _, _, _, _, _, _, _, _, _, _, _, _, _, _, _, _, _, _, _, _, _, rfl, _⟩ := h; rfl) | (obtain ⟨_, _, _, _, _, _, _, _, _, _, _, _, _, _, _, _, _, _, _, _, _, _, _, rfl, _⟩ := h; rfl) | (obtain ⟨_, _, _, _, _, _, _, _, _, _, _, _, _, _, _, _, _, _, _, _, _, _, _, _, rfl, _⟩ := h; rfl) | (obtain ⟨_, _, _, _, _, _, _, _, _, _, _, _, _, _, _, _, _, _, _, _, _, _, _, _, _, rfl, _⟩ := h; rfl)
theorem ok_p_goal {f : Addr} {fd : FuncData} (F : Fun K "goal" "goal" s_p_goal f fd) (B : Blt mg)  : FnOk P w K mg base CX0 K_p_goal f fd PS_p_goal (sp_p_goal K) :=
  F.ok sc_p_goal (fun vs H Q E h => len_p_goal h) fun cdv A outer s H vs Q E hr h => ⟨_, d_p_goal B hr, r_p_goal (E := E) h⟩
theorem len_p_stands {vs : List V} {H : Hp} {Q : VK} {E : XK} (h : sp_p_stands K vs H Q E) : vs.length = PS_p_stands.length := by
  first | (obtain ⟨rfl, _⟩ := h; rfl) | (obtain ⟨_, rfl, _⟩ := h; rfl) | (obtain ⟨_, _, rfl, _⟩ := h; rfl) | (obtain ⟨_, _, _, rfl, _⟩ := h; rfl) | (obtain ⟨_, _, _, _, rfl, _⟩ := h; rfl) | (obtain ⟨_, _, _, _, _, rfl, _⟩ := h; rfl) | (obtain ⟨_, _, _, _, _, _, rfl, _⟩ := h; rfl) | (obtain ⟨_, _, _, _, _, _, _, rfl, _⟩ := h; rfl) | (obtain ⟨_, _, _, _, _, _, _, _, rfl, _⟩ := h; rfl) | (obtain ⟨_, _, _, _, _, _, _, _, _, rfl, _⟩ := h; rfl) | (obtain ⟨_, _, _, _, _, _, _, _, _, _, rfl, _⟩ := h; rfl) | (obtain ⟨_, _, _, _, _, _, _, _, _, _, _, rfl, _⟩ := h; rfl) | (obtain ⟨_, _, _, _, _, _, _, _, _, _, _, _, rfl, _⟩ := h; rfl) | (obtain ⟨_, _, _, _, _, _, _, _, _, _, _, _, _, rfl, _⟩ := h; rfl) | (obtain ⟨_, _, _, _, _, _, _, _, _, _, _, _, _, _, rfl, _⟩ := h; rfl) | (obtain ⟨_, _, _, _, _, _, _, _, _, _, _, _, _, _, _, rfl, _⟩ := h; rfl) | (obtain ⟨_, _, _, _, _, _, _, _, _, _, _, _, _, _, _, _, rfl, _⟩ := h; rfl) | (obtain ⟨_, _, _, _, _, _, _, _, _, _, _, _, _, _, _, _, _, rfl, _⟩ := h; rfl) | (obtain ⟨_, _, _, _, _, _, _, _, _, _, _, _, _, _, _, _, _, _, rfl, _⟩ := h; rfl) | (obtain ⟨_, _, _, _, _, _, _, _, _, _, _, _, _, _, _, _, _, _, _, rfl, _⟩ := h; rfl) | (obtain ⟨_, _, _, _, _, _, _, _, _, _, _, _, _, _, _, _, _, _, _, _, rfl, _⟩ := h; rfl) | (obtain ⟨_, _, _, _, _, _, _, _, _, _, _, _, _, _, _, _, _, _, _, _, _, rfl, _⟩ := h; rfl) | (obtain ⟨_, _, _, _, _, _, _, _, _, _, _, _, _, _, _, _, _, _, _, _, _, _, rfl, _⟩ := h; rfl) | (obtain ⟨_, _, _, _, _, _, _, _, _, _, _, _, _, _, _, _, _, _, _, _, _, _, _, rfl, _⟩ := h; rfl) | (obtain ⟨_, _, _, _, _, _, _, _, _, _, _, _, _, _, _, _, _, _, _, _, _, _, _, _, rfl, _⟩ := h; rfl) | (obtain ⟨_, _, _, _, _, _, _, _, _, _, _, _, _, _, _, _, _, _, _, _, _, _, _, _, _, rfl, _⟩ := h; rfl)
theorem ok_p_stands {f : Addr} {fd : FuncData} (F : Fun K "stands" "stands" s_p_stands f fd) (B : Blt mg) (c_p_goal : Callee P w K mg base "goal" PS_p_goal K_p_goal (sp_p_goal K)) : FnOk P w K mg base CX0 K_p_stands f fd PS_p_stands (sp_p_stands K) :=
  F.ok sc_p_stands (fun vs H Q E h => len_p_stands h) fun cdv A outer s H vs Q E hr h => ⟨_, d_p_stands B c_p_goal hr, r_p_stands (E := E) h⟩
theorem len_Walk_enter {vs : List V} {H : Hp} {Q : VK} {E : XK} (h : sp_Walk_enter K vs H Q E) : vs.length = PS_Walk_enter.length := by
  first | (obtain ⟨rfl, _⟩ := h; rfl) | (obtain ⟨_, rfl, _⟩ := h; rfl) | (obtain ⟨_, _, rfl, _⟩ := h; rfl) | (obtain ⟨_, _, _, rfl, _⟩ := h; rfl) | (obtain ⟨_, _, _, _, rfl, _⟩ := h; rfl) | (obtain ⟨_, _, _, _, _, rfl, _⟩ := h; rfl) | (obtain ⟨_, _, _, _, _, _, rfl, _⟩ := h; rfl) | (obtain ⟨_, _, _, _, _, _, _, rfl, _⟩ := h; rfl) | (obtain ⟨_, _, _, _, _, _, _, _, rfl, _⟩ := h; rfl) | (obtain ⟨_, _, _, _, _, _, _, _, _, rfl, _⟩ := h; rfl) | (obtain ⟨_, _, _, _, _, _, _, _, _, _, rfl, _⟩ := h; rfl) | (obtain ⟨_, _, _, _, _, _, _, _, _, _, _, rfl, _⟩ := h; rfl) | (obtain ⟨_, _, _, _, _, _, _, _, _, _, _, _, rfl, _⟩ := h; rfl) | (obtain ⟨_, _, _, _, _, _, _, _, _, _, _, _, _, rfl, _⟩ := h; rfl) | (obtain ⟨_, _, _, _, _, _, _, _, _, _, _, _, _, _, rfl, _⟩ := h; rfl) | (obtain ⟨_, _, _, _, _, _, _, _, _, _, _, _, _, _, _, rfl, _⟩ := h; rfl) | (obtain ⟨_, _, _, _, _, _, _, _, _, _, _, _, _, _, _, _, rfl, _⟩ := h; rfl) | (obtain ⟨_, _, _, _, _, _, _, _, _, _, _, _, _, _, _, _, _, rfl, _⟩ := h; rfl) | (obtain ⟨_, _, _, _, _, _, _, _, _, _, _, _, _, _, _, _, _, _, rfl, _⟩ := h; rfl) | (obtain ⟨_, _, _, _, _, _, _, _, _, _, _, _, _, _, _, _, _, _, _, rfl, _⟩ := h; rfl) | (obtain ⟨_, _, _, _, _, _, _, _, _, _, _, _, _, _, _, _, _, _, _, _, rfl, _⟩ := h; rfl) | (obtain ⟨_, _, _, _, _, _, _, _, _, _, _, _, _, _, _, _, _, _, _, _, _, rfl, _⟩ := h; rfl) | (obtain ⟨_, _, _, _, _, _, _, _, _, _, _, _, _, _, _, _, _, _, _, _, _, _, rfl, _⟩ := h; rfl) | (obtain ⟨_, _, _, _, _, _, _, _, _, _, _, _, _, _, _, _, _, _, _, _, _, _, _, rfl, _⟩ := h; rfl) | (obtain ⟨_, _, _, _, _, _, _, _, _, _, _, _, _, _, _, _, _, _, _, _, _, _, _, _, rfl, _⟩ := h; rfl) | (obtain ⟨_, _, _, _, _, _, _, _, _, _, _, _, _, _, _, _, _, _, _, _, _, _, _, _, _, rfl, _⟩ := h; rfl)
theorem ok_Walk_enter {f : Addr} {fd : FuncData} (F : Fun K "enter" "Walk.enter" s_Walk_enter f fd) (B : Blt mg) (T : TxtW K) (mk_Frame : MakeOk P w K mg base "Frame" (clsAt K "Frame") PS_Frame_init K_Frame_init (sp_Frame_init K)) (c_p_stands : Callee P w K mg base "stands" PS_p_stands K_p_stands (sp_p_stands K)) : FnOk P w K mg base CX0 K_Walk_enter f fd PS_Walk_enter (sp_Walk_enter K) :=
  F.ok sc_Walk_enter (fun vs H Q E h => len_Walk_enter h) fun cdv A outer s H vs Q E hr h => ⟨_, d_Walk_enter B mk_Frame c_p_stands hr, r_Walk_enter T (E := E) h⟩
theorem len_Run_init {vs : List V} {H : Hp} {Q : VK} {E : XK} (h : sp_Run_init K vs H Q E) : vs.length = PS_Run_init.length := by
  first | (obtain ⟨rfl, _⟩ := h; rfl) | (obtain ⟨_, rfl, _⟩ := h; rfl) | (obtain ⟨_, _, rfl, _⟩ := h; rfl) | (obtain ⟨_, _, _, rfl, _⟩ := h; rfl) | (obtain ⟨_, _, _, _, rfl, _⟩ := h; rfl) | (obtain ⟨_, _, _, _, _, rfl, _⟩ := h; rfl) | (obtain ⟨_, _, _, _, _, _, rfl, _⟩ := h; rfl) | (obtain ⟨_, _, _, _, _, _, _, rfl, _⟩ := h; rfl) | (obtain ⟨_, _, _, _, _, _, _, _, rfl, _⟩ := h; rfl) | (obtain ⟨_, _, _, _, _, _, _, _, _, rfl, _⟩ := h; rfl) | (obtain ⟨_, _, _, _, _, _, _, _, _, _, rfl, _⟩ := h; rfl) | (obtain ⟨_, _, _, _, _, _, _, _, _, _, _, rfl, _⟩ := h; rfl) | (obtain ⟨_, _, _, _, _, _, _, _, _, _, _, _, rfl, _⟩ := h; rfl) | (obtain ⟨_, _, _, _, _, _, _, _, _, _, _, _, _, rfl, _⟩ := h; rfl) | (obtain ⟨_, _, _, _, _, _, _, _, _, _, _, _, _, _, rfl, _⟩ := h; rfl) | (obtain ⟨_, _, _, _, _, _, _, _, _, _, _, _, _, _, _, rfl, _⟩ := h; rfl) | (obtain ⟨_, _, _, _, _, _, _, _, _, _, _, _, _, _, _, _, rfl, _⟩ := h; rfl) | (obtain ⟨_, _, _, _, _, _, _, _, _, _, _, _, _, _, _, _, _, rfl, _⟩ := h; rfl) | (obtain ⟨_, _, _, _, _, _, _, _, _, _, _, _, _, _, _, _, _, _, rfl, _⟩ := h; rfl) | (obtain ⟨_, _, _, _, _, _, _, _, _, _, _, _, _, _, _, _, _, _, _, rfl, _⟩ := h; rfl) | (obtain ⟨_, _, _, _, _, _, _, _, _, _, _, _, _, _, _, _, _, _, _, _, rfl, _⟩ := h; rfl) | (obtain ⟨_, _, _, _, _, _, _, _, _, _, _, _, _, _, _, _, _, _, _, _, _, rfl, _⟩ := h; rfl) | (obtain ⟨_, _, _, _, _, _, _, _, _, _, _, _, _, _, _, _, _, _, _, _, _, _, rfl, _⟩ := h; rfl) | (obtain ⟨_, _, _, _, _, _, _, _, _, _, _, _, _, _, _, _, _, _, _, _, _, _, _, rfl, _⟩ := h; rfl) | (obtain ⟨_, _, _, _, _, _, _, _, _, _, _, _, _, _, _, _, _, _, _, _, _, _, _, _, rfl, _⟩ := h; rfl) | (obtain ⟨_, _, _, _, _, _, _, _, _, _, _, _, _, _, _, _, _, _, _, _, _, _, _, _, _, rfl, _⟩ := h; rfl)
theorem ok_Run_init {f : Addr} {fd : FuncData} (F : Fun K "__init__" "Run.__init__" s_Run_init f fd) (B : Blt mg)  : FnOk P w K mg base CX0 K_Run_init f fd PS_Run_init (sp_Run_init K) :=
  F.ok sc_Run_init (fun vs H Q E h => len_Run_init h) fun cdv A outer s H vs Q E hr h => ⟨_, d_Run_init B hr, r_Run_init (E := E) h⟩
theorem len_Walk_init {vs : List V} {H : Hp} {Q : VK} {E : XK} (h : sp_Walk_init K vs H Q E) : vs.length = PS_Walk_init.length := by
  first | (obtain ⟨rfl, _⟩ := h; rfl) | (obtain ⟨_, rfl, _⟩ := h; rfl) | (obtain ⟨_, _, rfl, _⟩ := h; rfl) | (obtain ⟨_, _, _, rfl, _⟩ := h; rfl) | (obtain ⟨_, _, _, _, rfl, _⟩ := h; rfl) | (obtain ⟨_, _, _, _, _, rfl, _⟩ := h; rfl) | (obtain ⟨_, _, _, _, _, _, rfl, _⟩ := h; rfl) | (obtain ⟨_, _, _, _, _, _, _, rfl, _⟩ := h; rfl) | (obtain ⟨_, _, _, _, _, _, _, _, rfl, _⟩ := h; rfl) | (obtain ⟨_, _, _, _, _, _, _, _, _, rfl, _⟩ := h; rfl) | (obtain ⟨_, _, _, _, _, _, _, _, _, _, rfl, _⟩ := h; rfl) | (obtain ⟨_, _, _, _, _, _, _, _, _, _, _, rfl, _⟩ := h; rfl) | (obtain ⟨_, _, _, _, _, _, _, _, _, _, _, _, rfl, _⟩ := h; rfl) | (obtain ⟨_, _, _, _, _, _, _, _, _, _, _, _, _, rfl, _⟩ := h; rfl) | (obtain ⟨_, _, _, _, _, _, _, _, _, _, _, _, _, _, rfl, _⟩ := h; rfl) | (obtain ⟨_, _, _, _, _, _, _, _, _, _, _, _, _, _, _, rfl, _⟩ := h; rfl) | (obtain ⟨_, _, _, _, _, _, _, _, _, _, _, _, _, _, _, _, rfl, _⟩ := h; rfl) | (obtain ⟨_, _, _, _, _, _, _, _, _, _, _, _, _, _, _, _, _, rfl, _⟩ := h; rfl) | (obtain ⟨_, _, _, _, _, _, _, _, _, _, _, _, _, _, _, _, _, _, rfl, _⟩ := h; rfl) | (obtain ⟨_, _, _, _, _, _, _, _, _, _, _, _, _, _, _, _, _, _, _, rfl, _⟩ := h; rfl) | (obtain ⟨_, _, _, _, _, _, _, _, _, _, _, _, _, _, _, _, _, _, _, _, rfl, _⟩ := h; rfl) | (obtain ⟨_, _, _, _, _, _, _, _, _, _, _, _, _, _, _, _, _, _, _, _, _, rfl, _⟩ := h; rfl) | (obtain ⟨_, _, _, _, _, _, _, _, _, _, _, _, _, _, _, _, _, _, _, _, _, _, rfl, _⟩ := h; rfl) | (obtain ⟨_, _, _, _, _, _, _, _, _, _, _, _, _, _, _, _, _, _, _, _, _, _, _, rfl, _⟩ := h; rfl) | (obtain ⟨_, _, _, _, _, _, _, _, _, _, _, _, _, _, _, _, _, _, _, _, _, _, _, _, rfl, _⟩ := h; rfl) | (obtain ⟨_, _, _, _, _, _, _, _, _, _, _, _, _, _, _, _, _, _, _, _, _, _, _, _, _, rfl, _⟩ := h; rfl)
theorem ok_Walk_init {f : Addr} {fd : FuncData} (F : Fun K "__init__" "Walk.__init__" s_Walk_init f fd) (B : Blt mg) (T : TxtW K) (cl_Walk : Cls K (clsAt K "Walk")) (m_Walk_enter : MethOk P w K mg base (clsAt K "Walk") "enter" PS_Walk_enter K_Walk_enter (sp_Walk_enter K)) (b_Run_init : BaseOk P w K mg base "Run" (clsAt K "Run") "__init__" PS_Run_init K_Run_init (sp_Run_init K)) : FnOk P w K mg base CX0 K_Walk_init f fd PS_Walk_init (sp_Walk_init K) :=
  F.ok sc_Walk_init (fun vs H Q E h => len_Walk_init h) fun cdv A outer s H vs Q E hr h => ⟨_, d_Walk_init B cl_Walk m_Walk_enter b_Run_init hr, r_Walk_init T (E := E) h⟩
theorem len_Run_said {vs : List V} {H : Hp} {Q : VK} {E : XK} (h : sp_Run_said K vs H Q E) : vs.length = PS_Run_said.length := by
  first | (obtain ⟨rfl, _⟩ := h; rfl) | (obtain ⟨_, rfl, _⟩ := h; rfl) | (obtain ⟨_, _, rfl, _⟩ := h; rfl) | (obtain ⟨_, _, _, rfl, _⟩ := h; rfl) | (obtain ⟨_, _, _, _, rfl, _⟩ := h; rfl) | (obtain ⟨_, _, _, _, _, rfl, _⟩ := h; rfl) | (obtain ⟨_, _, _, _, _, _, rfl, _⟩ := h; rfl) | (obtain ⟨_, _, _, _, _, _, _, rfl, _⟩ := h; rfl) | (obtain ⟨_, _, _, _, _, _, _, _, rfl, _⟩ := h; rfl) | (obtain ⟨_, _, _, _, _, _, _, _, _, rfl, _⟩ := h; rfl) | (obtain ⟨_, _, _, _, _, _, _, _, _, _, rfl, _⟩ := h; rfl) | (obtain ⟨_, _, _, _, _, _, _, _, _, _, _, rfl, _⟩ := h; rfl) | (obtain ⟨_, _, _, _, _, _, _, _, _, _, _, _, rfl, _⟩ := h; rfl) | (obtain ⟨_, _, _, _, _, _, _, _, _, _, _, _, _, rfl, _⟩ := h; rfl) | (obtain ⟨_, _, _, _, _, _, _, _, _, _, _, _, _, _, rfl, _⟩ := h; rfl) | (obtain ⟨_, _, _, _, _, _, _, _, _, _, _, _, _, _, _, rfl, _⟩ := h; rfl) | (obtain ⟨_, _, _, _, _, _, _, _, _, _, _, _, _, _, _, _, rfl, _⟩ := h; rfl) | (obtain ⟨_, _, _, _, _, _, _, _, _, _, _, _, _, _, _, _, _, rfl, _⟩ := h; rfl) | (obtain ⟨_, _, _, _, _, _, _, _, _, _, _, _, _, _, _, _, _, _, rfl, _⟩ := h; rfl) | (obtain ⟨_, _, _, _, _, _, _, _, _, _, _, _, _, _, _, _, _, _, _, rfl, _⟩ := h; rfl) | (obtain ⟨_, _, _, _, _, _, _, _, _, _, _, _, _, _, _, _, _, _, _, _, rfl, _⟩ := h; rfl) | (obtain ⟨_, _, _, _, _, _, _, _, _, _, _, _, _, _, _, _, _, _, _, _, _, rfl, _⟩ := h; rfl) | (obtain ⟨_, _, _, _, _, _, _, _, _, _, _, _, _, _, _, _, _, _, _, _, _, _, rfl, _⟩ := h; rfl) | (obtain ⟨_, _, _, _, _, _, _, _, _, _, _, _, _, _, _, _, _, _, _, _, _, _, _, rfl, _⟩ := h; rfl) | (obtain ⟨_, _, _, _, _, _, _, _, _, _, _, _, _, _, _, _, _, _, _, _, _, _, _, _, rfl, _⟩ := h; rfl) | (obtain ⟨_, _, _, _, _, _, _, _, _, _, _, _, _, _, _, _, _, _, _, _, _, _, _, _, _, rfl, _⟩ := h; rfl)
theorem ok_Run_said {f : Addr} {fd : FuncData} (F : Fun K "said" "Run.said" s_Run_said f fd) (B : Blt mg)  : FnOk P w K mg base CX0 K_Run_said f fd PS_Run_said (sp_Run_said K) :=
  F.ok sc_Run_said (fun vs H Q E h => len_Run_said h) fun cdv A outer s H vs Q E hr h => ⟨_, d_Run_said B hr, r_Run_said (E := E) h⟩
theorem len_Run_answer {vs : List V} {H : Hp} {Q : VK} {E : XK} (h : sp_Run_answer K vs H Q E) : vs.length = PS_Run_answer.length := by
  first | (obtain ⟨rfl, _⟩ := h; rfl) | (obtain ⟨_, rfl, _⟩ := h; rfl) | (obtain ⟨_, _, rfl, _⟩ := h; rfl) | (obtain ⟨_, _, _, rfl, _⟩ := h; rfl) | (obtain ⟨_, _, _, _, rfl, _⟩ := h; rfl) | (obtain ⟨_, _, _, _, _, rfl, _⟩ := h; rfl) | (obtain ⟨_, _, _, _, _, _, rfl, _⟩ := h; rfl) | (obtain ⟨_, _, _, _, _, _, _, rfl, _⟩ := h; rfl) | (obtain ⟨_, _, _, _, _, _, _, _, rfl, _⟩ := h; rfl) | (obtain ⟨_, _, _, _, _, _, _, _, _, rfl, _⟩ := h; rfl) | (obtain ⟨_, _, _, _, _, _, _, _, _, _, rfl, _⟩ := h; rfl) | (obtain ⟨_, _, _, _, _, _, _, _, _, _, _, rfl, _⟩ := h; rfl) | (obtain ⟨_, _, _, _, _, _, _, _, _, _, _, _, rfl, _⟩ := h; rfl) | (obtain ⟨_, _, _, _, _, _, _, _, _, _, _, _, _, rfl, _⟩ := h; rfl) | (obtain ⟨_, _, _, _, _, _, _, _, _, _, _, _, _, _, rfl, _⟩ := h; rfl) | (obtain ⟨_, _, _, _, _, _, _, _, _, _, _, _, _, _, _, rfl, _⟩ := h; rfl) | (obtain ⟨_, _, _, _, _, _, _, _, _, _, _, _, _, _, _, _, rfl, _⟩ := h; rfl) | (obtain ⟨_, _, _, _, _, _, _, _, _, _, _, _, _, _, _, _, _, rfl, _⟩ := h; rfl) | (obtain ⟨_, _, _, _, _, _, _, _, _, _, _, _, _, _, _, _, _, _, rfl, _⟩ := h; rfl) | (obtain ⟨_, _, _, _, _, _, _, _, _, _, _, _, _, _, _, _, _, _, _, rfl, _⟩ := h; rfl) | (obtain ⟨_, _, _, _, _, _, _, _, _, _, _, _, _, _, _, _, _, _, _, _, rfl, _⟩ := h; rfl) | (obtain ⟨_, _, _, _, _, _, _, _, _, _, _, _, _, _, _, _, _, _, _, _, _, rfl, _⟩ := h; rfl) | (obtain ⟨_, _, _, _, _, _, _, _, _, _, _, _, _, _, _, _, _, _, _, _, _, _, rfl, _⟩ := h; rfl) | (obtain ⟨_, _, _, _, _, _, _, _, _, _, _, _, _, _, _, _, _, _, _, _, _, _, _, rfl, _⟩ := h; rfl) | (obtain ⟨_, _, _, _, _, _, _, _, _, _, _, _, _, _, _, _, _, _, _, _, _, _, _, _, rfl, _⟩ := h; rfl) | (obtain ⟨_, _, _, _, _, _, _, _, _, _, _, _, _, _, _, _, _, _, _, _, _, _, _, _, _, rfl, _⟩ := h; rfl)
theorem ok_Run_answer {f : Addr} {fd : FuncData} (F : Fun K "answer" "Run.answer" s_Run_answer f fd) (B : Blt mg)  : FnOk P w K mg base CX0 K_Run_answer f fd PS_Run_answer (sp_Run_answer K) :=
  F.ok sc_Run_answer (fun vs H Q E h => len_Run_answer h) fun cdv A outer s H vs Q E hr h => ⟨_, d_Run_answer B hr, r_Run_answer (E := E) h⟩
theorem len_Run_ended {vs : List V} {H : Hp} {Q : VK} {E : XK} (h : sp_Run_ended K vs H Q E) : vs.length = PS_Run_ended.length := by
  first | (obtain ⟨rfl, _⟩ := h; rfl) | (obtain ⟨_, rfl, _⟩ := h; rfl) | (obtain ⟨_, _, rfl, _⟩ := h; rfl) | (obtain ⟨_, _, _, rfl, _⟩ := h; rfl) | (obtain ⟨_, _, _, _, rfl, _⟩ := h; rfl) | (obtain ⟨_, _, _, _, _, rfl, _⟩ := h; rfl) | (obtain ⟨_, _, _, _, _, _, rfl, _⟩ := h; rfl) | (obtain ⟨_, _, _, _, _, _, _, rfl, _⟩ := h; rfl) | (obtain ⟨_, _, _, _, _, _, _, _, rfl, _⟩ := h; rfl) | (obtain ⟨_, _, _, _, _, _, _, _, _, rfl, _⟩ := h; rfl) | (obtain ⟨_, _, _, _, _, _, _, _, _, _, rfl, _⟩ := h; rfl) | (obtain ⟨_, _, _, _, _, _, _, _, _, _, _, rfl, _⟩ := h; rfl) | (obtain ⟨_, _, _, _, _, _, _, _, _, _, _, _, rfl, _⟩ := h; rfl) | (obtain ⟨_, _, _, _, _, _, _, _, _, _, _, _, _, rfl, _⟩ := h; rfl) | (obtain ⟨_, _, _, _, _, _, _, _, _, _, _, _, _, _, rfl, _⟩ := h; rfl) | (obtain ⟨_, _, _, _, _, _, _, _, _, _, _, _, _, _, _, rfl, _⟩ := h; rfl) | (obtain ⟨_, _, _, _, _, _, _, _, _, _, _, _, _, _, _, _, rfl, _⟩ := h; rfl) | (obtain ⟨_, _, _, _, _, _, _, _, _, _, _, _, _, _, _, _, _, rfl, _⟩ := h; rfl) | (obtain ⟨_, _, _, _, _, _, _, _, _, _, _, _, _, _, _, _, _, _, rfl, _⟩ := h; rfl) | (obtain ⟨_, _, _, _, _, _, _, _, _, _, _, _, _, _, _, _, _, _, _, rfl, _⟩ := h; rfl) | (obtain ⟨_, _, _, _, _, _, _, _, _, _, _, _, _, _, _, _, _, _, _, _, rfl, _⟩ := h; rfl) | (obtain ⟨_, _, _, _, _, _, _, _, _, _, _, _, _, _, _, _, _, _, _, _, _, rfl, _⟩ := h; rfl) | (obtain ⟨_, _, _, _, _, _, _, _, _, _, _, _, _, _, _, _, _, _, _, _, _, _, rfl, _⟩ := h; rfl) | (obtain ⟨_, _, _, _, _, _, _, _, _, _, _, _, _, _, _, _, _, _, _, _, _, _, _, rfl, _⟩ := h; rfl) | (obtain ⟨_, _, _, _, _, _, _, _, _, _, _, _, _, _, _, _, _, _, _, _, _, _, _, _, rfl, _⟩ := h; rfl) | (obtain ⟨_, _, _, _, _, _, _, _, _, _, _, _, _, _, _, _, _, _, _, _, _, _, _, _, _, rfl, _⟩ := h; rfl)
theorem ok_Run_ended {f : Addr} {fd : FuncData} (F : Fun K "ended" "Run.ended" s_Run_ended f fd) (B : Blt mg)  : FnOk P w K mg base CX0 K_Run_ended f fd PS_Run_ended (sp_Run_ended K) :=
  F.ok sc_Run_ended (fun vs H Q E h => len_Run_ended h) fun cdv A outer s H vs Q E hr h => ⟨_, d_Run_ended B hr, r_Run_ended (E := E) h⟩
theorem len_Walk_go_on {vs : List V} {H : Hp} {Q : VK} {E : XK} (h : sp_Walk_go_on K vs H Q E) : vs.length = PS_Walk_go_on.length := by
  first | (obtain ⟨rfl, _⟩ := h; rfl) | (obtain ⟨_, rfl, _⟩ := h; rfl) | (obtain ⟨_, _, rfl, _⟩ := h; rfl) | (obtain ⟨_, _, _, rfl, _⟩ := h; rfl) | (obtain ⟨_, _, _, _, rfl, _⟩ := h; rfl) | (obtain ⟨_, _, _, _, _, rfl, _⟩ := h; rfl) | (obtain ⟨_, _, _, _, _, _, rfl, _⟩ := h; rfl) | (obtain ⟨_, _, _, _, _, _, _, rfl, _⟩ := h; rfl) | (obtain ⟨_, _, _, _, _, _, _, _, rfl, _⟩ := h; rfl) | (obtain ⟨_, _, _, _, _, _, _, _, _, rfl, _⟩ := h; rfl) | (obtain ⟨_, _, _, _, _, _, _, _, _, _, rfl, _⟩ := h; rfl) | (obtain ⟨_, _, _, _, _, _, _, _, _, _, _, rfl, _⟩ := h; rfl) | (obtain ⟨_, _, _, _, _, _, _, _, _, _, _, _, rfl, _⟩ := h; rfl) | (obtain ⟨_, _, _, _, _, _, _, _, _, _, _, _, _, rfl, _⟩ := h; rfl) | (obtain ⟨_, _, _, _, _, _, _, _, _, _, _, _, _, _, rfl, _⟩ := h; rfl) | (obtain ⟨_, _, _, _, _, _, _, _, _, _, _, _, _, _, _, rfl, _⟩ := h; rfl) | (obtain ⟨_, _, _, _, _, _, _, _, _, _, _, _, _, _, _, _, rfl, _⟩ := h; rfl) | (obtain ⟨_, _, _, _, _, _, _, _, _, _, _, _, _, _, _, _, _, rfl, _⟩ := h; rfl) | (obtain ⟨_, _, _, _, _, _, _, _, _, _, _, _, _, _, _, _, _, _, rfl, _⟩ := h; rfl) | (obtain ⟨_, _, _, _, _, _, _, _, _, _, _, _, _, _, _, _, _, _, _, rfl, _⟩ := h; rfl) | (obtain ⟨_, _, _, _, _, _, _, _, _, _, _, _, _, _, _, _, _, _, _, _, rfl, _⟩ := h; rfl) | (obtain ⟨_, _, _, _, _, _, _, _, _, _, _, _, _, _, _, _, _, _, _, _, _, rfl, _⟩ := h; rfl) | (obtain ⟨_, _, _, _, _, _, _, _, _, _, _, _, _, _, _, _, _, _, _, _, _, _, rfl, _⟩ := h; rfl) | (obtain ⟨_, _, _, _, _, _, _, _, _, _, _, _, _, _, _, _, _, _, _, _, _, _, _, rfl, _⟩ := h; rfl) | (obtain ⟨_, _, _, _, _, _, _, _, _, _, _, _, _, _, _, _, _, _, _, _, _, _, _, _, rfl, _⟩ := h; rfl) | (obtain ⟨_, _, _, _, _, _, _, _, _, _, _, _, _, _, _, _, _, _, _, _, _, _, _, _, _, rfl, _⟩ := h; rfl)
theorem ok_Walk_go_on {f : Addr} {fd : FuncData} (F : Fun K "go_on" "Walk.go_on" s_Walk_go_on f fd) (B : Blt mg) (T : TxtW K) (c_p_stands : Callee P w K mg base "stands" PS_p_stands K_p_stands (sp_p_stands K)) : FnOk P w K mg base CX0 K_Walk_go_on f fd PS_Walk_go_on (sp_Walk_go_on K) :=
  F.ok sc_Walk_go_on (fun vs H Q E h => len_Walk_go_on h) fun cdv A outer s H vs Q E hr h => ⟨_, d_Walk_go_on B c_p_stands hr, r_Walk_go_on T (E := E) h⟩
theorem len_p_sets {vs : List V} {H : Hp} {Q : VK} {E : XK} (h : sp_p_sets K vs H Q E) : vs.length = PS_p_sets.length := by
  first | (obtain ⟨rfl, _⟩ := h; rfl) | (obtain ⟨_, rfl, _⟩ := h; rfl) | (obtain ⟨_, _, rfl, _⟩ := h; rfl) | (obtain ⟨_, _, _, rfl, _⟩ := h; rfl) | (obtain ⟨_, _, _, _, rfl, _⟩ := h; rfl) | (obtain ⟨_, _, _, _, _, rfl, _⟩ := h; rfl) | (obtain ⟨_, _, _, _, _, _, rfl, _⟩ := h; rfl) | (obtain ⟨_, _, _, _, _, _, _, rfl, _⟩ := h; rfl) | (obtain ⟨_, _, _, _, _, _, _, _, rfl, _⟩ := h; rfl) | (obtain ⟨_, _, _, _, _, _, _, _, _, rfl, _⟩ := h; rfl) | (obtain ⟨_, _, _, _, _, _, _, _, _, _, rfl, _⟩ := h; rfl) | (obtain ⟨_, _, _, _, _, _, _, _, _, _, _, rfl, _⟩ := h; rfl) | (obtain ⟨_, _, _, _, _, _, _, _, _, _, _, _, rfl, _⟩ := h; rfl) | (obtain ⟨_, _, _, _, _, _, _, _, _, _, _, _, _, rfl, _⟩ := h; rfl) | (obtain ⟨_, _, _, _, _, _, _, _, _, _, _, _, _, _, rfl, _⟩ := h; rfl) | (obtain ⟨_, _, _, _, _, _, _, _, _, _, _, _, _, _, _, rfl, _⟩ := h; rfl) | (obtain ⟨_, _, _, _, _, _, _, _, _, _, _, _, _, _, _, _, rfl, _⟩ := h; rfl) | (obtain ⟨_, _, _, _, _, _, _, _, _, _, _, _, _, _, _, _, _, rfl, _⟩ := h; rfl) | (obtain ⟨_, _, _, _, _, _, _, _, _, _, _, _, _, _, _, _, _, _, rfl, _⟩ := h; rfl) | (obtain ⟨_, _, _, _, _, _, _, _, _, _, _, _, _, _, _, _, _, _, _, rfl, _⟩ := h; rfl) | (obtain ⟨_, _, _, _, _, _, _, _, _, _, _, _, _, _, _, _, _, _, _, _, rfl, _⟩ := h; rfl) | (obtain ⟨_, _, _, _, _, _, _, _, _, _, _, _, _, _, _, _, _, _, _, _, _, rfl, _⟩ := h; rfl) | (obtain ⟨_, _, _, _, _, _, _, _, _, _, _, _, _, _, _, _, _, _, _, _, _, _, rfl, _⟩ := h; rfl) | (obtain ⟨_, _, _, _, _, _, _, _, _, _, _, _, _, _, _, _, _, _, _, _, _, _, _, rfl, _⟩ := h; rfl) | (obtain ⟨_, _, _, _, _, _, _, _, _, _, _, _, _, _, _, _, _, _, _, _, _, _, _, _, rfl, _⟩ := h; rfl) | (obtain ⟨_, _, _, _, _, _, _, _, _, _, _, _, _, _, _, _, _, _, _, _, _, _, _, _, _, rfl, _⟩ := h; rfl)
theorem ok_p_sets {f : Addr} {fd : FuncData} (F : Fun K "sets" "sets" s_p_sets f fd) (B : Blt mg)  : FnOk P w K mg base CX0 K_p_sets f fd PS_p_sets (sp_p_sets K) :=
  F.ok sc_p_sets (fun vs H Q E h => len_p_sets h) fun cdv A outer s H vs Q E hr h => ⟨_, d_p_sets B hr, r_p_sets (E := E) h⟩
theorem len_Walk_leave {vs : List V} {H : Hp} {Q : VK} {E : XK} (h : sp_Walk_leave K vs H Q E) : vs.length = PS_Walk_leave.length := by
  first | (obtain ⟨rfl, _⟩ := h; rfl) | (obtain ⟨_, rfl, _⟩ := h; rfl) | (obtain ⟨_, _, rfl, _⟩ := h; rfl) | (obtain ⟨_, _, _, rfl, _⟩ := h; rfl) | (obtain ⟨_, _, _, _, rfl, _⟩ := h; rfl) | (obtain ⟨_, _, _, _, _, rfl, _⟩ := h; rfl) | (obtain ⟨_, _, _, _, _, _, rfl, _⟩ := h; rfl) | (obtain ⟨_, _, _, _, _, _, _, rfl, _⟩ := h; rfl) | (obtain ⟨_, _, _, _, _, _, _, _, rfl, _⟩ := h; rfl) | (obtain ⟨_, _, _, _, _, _, _, _, _, rfl, _⟩ := h; rfl) | (obtain ⟨_, _, _, _, _, _, _, _, _, _, rfl, _⟩ := h; rfl) | (obtain ⟨_, _, _, _, _, _, _, _, _, _, _, rfl, _⟩ := h; rfl) | (obtain ⟨_, _, _, _, _, _, _, _, _, _, _, _, rfl, _⟩ := h; rfl) | (obtain ⟨_, _, _, _, _, _, _, _, _, _, _, _, _, rfl, _⟩ := h; rfl) | (obtain ⟨_, _, _, _, _, _, _, _, _, _, _, _, _, _, rfl, _⟩ := h; rfl) | (obtain ⟨_, _, _, _, _, _, _, _, _, _, _, _, _, _, _, rfl, _⟩ := h; rfl) | (obtain ⟨_, _, _, _, _, _, _, _, _, _, _, _, _, _, _, _, rfl, _⟩ := h; rfl) | (obtain ⟨_, _, _, _, _, _, _, _, _, _, _, _, _, _, _, _, _, rfl, _⟩ := h; rfl) | (obtain ⟨_, _, _, _, _, _, _, _, _, _, _, _, _, _, _, _, _, _, rfl, _⟩ := h; rfl) | (obtain ⟨_, _, _, _, _, _, _, _, _, _, _, _, _, _, _, _, _, _, _, rfl, _⟩ := h; rfl) | (obtain ⟨_, _, _, _, _, _, _, _, _, _, _, _, _, _, _, _, _, _, _, _, rfl, _⟩ := h; rfl) | (obtain ⟨_, _, _, _, _, _, _, _, _, _, _, _, _, _, _, _, _, _, _, _, _, rfl, _⟩ := h; rfl) | (obtain ⟨_, _, _, _, _, _, _, _, _, _, _, _, _, _, _, _, _, _, _, _, _, _, rfl, _⟩ := h; rfl) | (obtain ⟨_, _, _, _, _, _, _, _, _, _, _, _, _, _, _, _, _, _, _, _, _, _, _, rfl, _⟩ := h; rfl) | (obtain ⟨_, _, _, _, _, _, _, _, _, _, _, _, _, _, _, _, _, _, _, _, _, _, _, _, rfl, _⟩ := h; rfl) | (obtain ⟨_, _, _, _, _, _, _, _, _, _, _, _, _, _, _, _, _, _, _, _, _, _, _, _, _, rfl, _⟩ := h; rfl)
theorem ok_Walk_leave {f : Addr} {fd : FuncData} (F : Fun K "leave" "Walk.leave" s_Walk_leave f fd) (B : Blt mg) (T : TxtW K) (cl_Walk : Cls K (clsAt K "Walk")) (m_Walk_ended : MethOk P w K mg base (clsAt K "Walk") "ended" PS_Run_ended K_Run_ended (sp_Run_ended K)) (m_Walk_go_on : MethOk P w K mg base (clsAt K "Walk") "go_on" PS_Walk_go_on K_Walk_go_on (sp_Walk_go_on K)) (c_p_sets : Callee P w K mg base "sets" PS_p_sets K_p_sets (sp_p_sets K)) : FnOk P w K mg base CX0 K_Walk_leave f fd PS_Walk_leave (sp_Walk_leave K) :=
  F.ok sc_Walk_leave (fun vs H Q E h => len_Walk_leave h) fun cdv A outer s H vs Q E hr h => ⟨_, d_Walk_leave B cl_Walk m_Walk_ended m_Walk_go_on c_p_sets hr, r_Walk_leave T (E := E) h⟩
theorem len_p_unbounded {vs : List V} {H : Hp} {Q : VK} {E : XK} (h : sp_p_unbounded K vs H Q E) : vs.length = PS_p_unbounded.length := by
  first | (obtain ⟨rfl, _⟩ := h; rfl) | (obtain ⟨_, rfl, _⟩ := h; rfl) | (obtain ⟨_, _, rfl, _⟩ := h; rfl) | (obtain ⟨_, _, _, rfl, _⟩ := h; rfl) | (obtain ⟨_, _, _, _, rfl, _⟩ := h; rfl) | (obtain ⟨_, _, _, _, _, rfl, _⟩ := h; rfl) | (obtain ⟨_, _, _, _, _, _, rfl, _⟩ := h; rfl) | (obtain ⟨_, _, _, _, _, _, _, rfl, _⟩ := h; rfl) | (obtain ⟨_, _, _, _, _, _, _, _, rfl, _⟩ := h; rfl) | (obtain ⟨_, _, _, _, _, _, _, _, _, rfl, _⟩ := h; rfl) | (obtain ⟨_, _, _, _, _, _, _, _, _, _, rfl, _⟩ := h; rfl) | (obtain ⟨_, _, _, _, _, _, _, _, _, _, _, rfl, _⟩ := h; rfl) | (obtain ⟨_, _, _, _, _, _, _, _, _, _, _, _, rfl, _⟩ := h; rfl) | (obtain ⟨_, _, _, _, _, _, _, _, _, _, _, _, _, rfl, _⟩ := h; rfl) | (obtain ⟨_, _, _, _, _, _, _, _, _, _, _, _, _, _, rfl, _⟩ := h; rfl) | (obtain ⟨_, _, _, _, _, _, _, _, _, _, _, _, _, _, _, rfl, _⟩ := h; rfl) | (obtain ⟨_, _, _, _, _, _, _, _, _, _, _, _, _, _, _, _, rfl, _⟩ := h; rfl) | (obtain ⟨_, _, _, _, _, _, _, _, _, _, _, _, _, _, _, _, _, rfl, _⟩ := h; rfl) | (obtain ⟨_, _, _, _, _, _, _, _, _, _, _, _, _, _, _, _, _, _, rfl, _⟩ := h; rfl) | (obtain ⟨_, _, _, _, _, _, _, _, _, _, _, _, _, _, _, _, _, _, _, rfl, _⟩ := h; rfl) | (obtain ⟨_, _, _, _, _, _, _, _, _, _, _, _, _, _, _, _, _, _, _, _, rfl, _⟩ := h; rfl) | (obtain ⟨_, _, _, _, _, _, _, _, _, _, _, _, _, _, _, _, _, _, _, _, _, rfl, _⟩ := h; rfl) | (obtain ⟨_, _, _, _, _, _, _, _, _, _, _, _, _, _, _, _, _, _, _, _, _, _, rfl, _⟩ := h; rfl) | (obtain ⟨_, _, _, _, _, _, _, _, _, _, _, _, _, _, _, _, _, _, _, _, _, _, _, rfl, _⟩ := h; rfl) | (obtain ⟨_, _, _, _, _, _, _, _, _, _, _, _, _, _, _, _, _, _, _, _, _, _, _, _, rfl, _⟩ := h; rfl) | (obtain ⟨_, _, _, _, _, _, _, _, _, _, _, _, _, _, _, _, _, _, _, _, _, _, _, _, _, rfl, _⟩ := h; rfl)
theorem ok_p_unbounded {f : Addr} {fd : FuncData} (F : Fun K "unbounded" "unbounded" s_p_unbounded f fd) (B : Blt mg)  : FnOk P w K mg base CX0 K_p_unbounded f fd PS_p_unbounded (sp_p_unbounded K) :=
  F.ok sc_p_unbounded (fun vs H Q E h => len_p_unbounded h) fun cdv A outer s H vs Q E hr h => ⟨_, d_p_unbounded B hr, r_p_unbounded (E := E) h⟩
theorem len_p_worth {vs : List V} {H : Hp} {Q : VK} {E : XK} (h : sp_p_worth K vs H Q E) : vs.length = PS_p_worth.length := by
  first | (obtain ⟨rfl, _⟩ := h; rfl) | (obtain ⟨_, rfl, _⟩ := h; rfl) | (obtain ⟨_, _, rfl, _⟩ := h; rfl) | (obtain ⟨_, _, _, rfl, _⟩ := h; rfl) | (obtain ⟨_, _, _, _, rfl, _⟩ := h; rfl) | (obtain ⟨_, _, _, _, _, rfl, _⟩ := h; rfl) | (obtain ⟨_, _, _, _, _, _, rfl, _⟩ := h; rfl) | (obtain ⟨_, _, _, _, _, _, _, rfl, _⟩ := h; rfl) | (obtain ⟨_, _, _, _, _, _, _, _, rfl, _⟩ := h; rfl) | (obtain ⟨_, _, _, _, _, _, _, _, _, rfl, _⟩ := h; rfl) | (obtain ⟨_, _, _, _, _, _, _, _, _, _, rfl, _⟩ := h; rfl) | (obtain ⟨_, _, _, _, _, _, _, _, _, _, _, rfl, _⟩ := h; rfl) | (obtain ⟨_, _, _, _, _, _, _, _, _, _, _, _, rfl, _⟩ := h; rfl) | (obtain ⟨_, _, _, _, _, _, _, _, _, _, _, _, _, rfl, _⟩ := h; rfl) | (obtain ⟨_, _, _, _, _, _, _, _, _, _, _, _, _, _, rfl, _⟩ := h; rfl) | (obtain ⟨_, _, _, _, _, _, _, _, _, _, _, _, _, _, _, rfl, _⟩ := h; rfl) | (obtain ⟨_, _, _, _, _, _, _, _, _, _, _, _, _, _, _, _, rfl, _⟩ := h; rfl) | (obtain ⟨_, _, _, _, _, _, _, _, _, _, _, _, _, _, _, _, _, rfl, _⟩ := h; rfl) | (obtain ⟨_, _, _, _, _, _, _, _, _, _, _, _, _, _, _, _, _, _, rfl, _⟩ := h; rfl) | (obtain ⟨_, _, _, _, _, _, _, _, _, _, _, _, _, _, _, _, _, _, _, rfl, _⟩ := h; rfl) | (obtain ⟨_, _, _, _, _, _, _, _, _, _, _, _, _, _, _, _, _, _, _, _, rfl, _⟩ := h; rfl) | (obtain ⟨_, _, _, _, _, _, _, _, _, _, _, _, _, _, _, _, _, _, _, _, _, rfl, _⟩ := h; rfl) | (obtain ⟨_, _, _, _, _, _, _, _, _, _, _, _, _, _, _, _, _, _, _, _, _, _, rfl, _⟩ := h; rfl) | (obtain ⟨_, _, _, _, _, _, _, _, _, _, _, _, _, _, _, _, _, _, _, _, _, _, _, rfl, _⟩ := h; rfl) | (obtain ⟨_, _, _, _, _, _, _, _, _, _, _, _, _, _, _, _, _, _, _, _, _, _, _, _, rfl, _⟩ := h; rfl) | (obtain ⟨_, _, _, _, _, _, _, _, _, _, _, _, _, _, _, _, _, _, _, _, _, _, _, _, _, rfl, _⟩ := h; rfl)
theorem ok_p_worth {f : Addr} {fd : FuncData} (F : Fun K "worth" "worth" s_p_worth f fd) (B : Blt mg) (c_p_unbounded : Callee P w K mg base "unbounded" PS_p_unbounded K_p_unbounded (sp_p_unbounded K)) : FnOk P w K mg base CX0 K_p_worth f fd PS_p_worth (sp_p_worth K) :=
  F.ok sc_p_worth (fun vs H Q E h => len_p_worth h) fun cdv A outer s H vs Q E hr h => ⟨_, d_p_worth B c_p_unbounded hr, r_p_worth (E := E) h⟩
theorem len_Walk_work {vs : List V} {H : Hp} {Q : VK} {E : XK} (h : sp_Walk_work K vs H Q E) : vs.length = PS_Walk_work.length := by
  first | (obtain ⟨rfl, _⟩ := h; rfl) | (obtain ⟨_, rfl, _⟩ := h; rfl) | (obtain ⟨_, _, rfl, _⟩ := h; rfl) | (obtain ⟨_, _, _, rfl, _⟩ := h; rfl) | (obtain ⟨_, _, _, _, rfl, _⟩ := h; rfl) | (obtain ⟨_, _, _, _, _, rfl, _⟩ := h; rfl) | (obtain ⟨_, _, _, _, _, _, rfl, _⟩ := h; rfl) | (obtain ⟨_, _, _, _, _, _, _, rfl, _⟩ := h; rfl) | (obtain ⟨_, _, _, _, _, _, _, _, rfl, _⟩ := h; rfl) | (obtain ⟨_, _, _, _, _, _, _, _, _, rfl, _⟩ := h; rfl) | (obtain ⟨_, _, _, _, _, _, _, _, _, _, rfl, _⟩ := h; rfl) | (obtain ⟨_, _, _, _, _, _, _, _, _, _, _, rfl, _⟩ := h; rfl) | (obtain ⟨_, _, _, _, _, _, _, _, _, _, _, _, rfl, _⟩ := h; rfl) | (obtain ⟨_, _, _, _, _, _, _, _, _, _, _, _, _, rfl, _⟩ := h; rfl) | (obtain ⟨_, _, _, _, _, _, _, _, _, _, _, _, _, _, rfl, _⟩ := h; rfl) | (obtain ⟨_, _, _, _, _, _, _, _, _, _, _, _, _, _, _, rfl, _⟩ := h; rfl) | (obtain ⟨_, _, _, _, _, _, _, _, _, _, _, _, _, _, _, _, rfl, _⟩ := h; rfl) | (obtain ⟨_, _, _, _, _, _, _, _, _, _, _, _, _, _, _, _, _, rfl, _⟩ := h; rfl) | (obtain ⟨_, _, _, _, _, _, _, _, _, _, _, _, _, _, _, _, _, _, rfl, _⟩ := h; rfl) | (obtain ⟨_, _, _, _, _, _, _, _, _, _, _, _, _, _, _, _, _, _, _, rfl, _⟩ := h; rfl) | (obtain ⟨_, _, _, _, _, _, _, _, _, _, _, _, _, _, _, _, _, _, _, _, rfl, _⟩ := h; rfl) | (obtain ⟨_, _, _, _, _, _, _, _, _, _, _, _, _, _, _, _, _, _, _, _, _, rfl, _⟩ := h; rfl) | (obtain ⟨_, _, _, _, _, _, _, _, _, _, _, _, _, _, _, _, _, _, _, _, _, _, rfl, _⟩ := h; rfl) | (obtain ⟨_, _, _, _, _, _, _, _, _, _, _, _, _, _, _, _, _, _, _, _, _, _, _, rfl, _⟩ := h; rfl) | (obtain ⟨_, _, _, _, _, _, _, _, _, _, _, _, _, _, _, _, _, _, _, _, _, _, _, _, rfl, _⟩ := h; rfl) | (obtain ⟨_, _, _, _, _, _, _, _, _, _, _, _, _, _, _, _, _, _, _, _, _, _, _, _, _, rfl, _⟩ := h; rfl)
theorem ok_Walk_work {f : Addr} {fd : FuncData} (F : Fun K "work" "Walk.work" s_Walk_work f fd) (B : Blt mg) (T : TxtW K) (cl_Walk : Cls K (clsAt K "Walk")) (m_Walk_go_on : MethOk P w K mg base (clsAt K "Walk") "go_on" PS_Walk_go_on K_Walk_go_on (sp_Walk_go_on K)) (c_p_worth : Callee P w K mg base "worth" PS_p_worth K_p_worth (sp_p_worth K)) (c_p_goal : Callee P w K mg base "goal" PS_p_goal K_p_goal (sp_p_goal K)) : FnOk P w K mg base CX0 K_Walk_work f fd PS_Walk_work (sp_Walk_work K) :=
  F.ok sc_Walk_work (fun vs H Q E h => len_Walk_work h) fun cdv A outer s H vs Q E hr h => ⟨_, d_Walk_work B cl_Walk m_Walk_go_on c_p_worth c_p_goal hr, r_Walk_work T (E := E) h⟩
theorem len_p_reads {vs : List V} {H : Hp} {Q : VK} {E : XK} (h : sp_p_reads K vs H Q E) : vs.length = PS_p_reads.length := by
  first | (obtain ⟨rfl, _⟩ := h; rfl) | (obtain ⟨_, rfl, _⟩ := h; rfl) | (obtain ⟨_, _, rfl, _⟩ := h; rfl) | (obtain ⟨_, _, _, rfl, _⟩ := h; rfl) | (obtain ⟨_, _, _, _, rfl, _⟩ := h; rfl) | (obtain ⟨_, _, _, _, _, rfl, _⟩ := h; rfl) | (obtain ⟨_, _, _, _, _, _, rfl, _⟩ := h; rfl) | (obtain ⟨_, _, _, _, _, _, _, rfl, _⟩ := h; rfl) | (obtain ⟨_, _, _, _, _, _, _, _, rfl, _⟩ := h; rfl) | (obtain ⟨_, _, _, _, _, _, _, _, _, rfl, _⟩ := h; rfl) | (obtain ⟨_, _, _, _, _, _, _, _, _, _, rfl, _⟩ := h; rfl) | (obtain ⟨_, _, _, _, _, _, _, _, _, _, _, rfl, _⟩ := h; rfl) | (obtain ⟨_, _, _, _, _, _, _, _, _, _, _, _, rfl, _⟩ := h; rfl) | (obtain ⟨_, _, _, _, _, _, _, _, _, _, _, _, _, rfl, _⟩ := h; rfl) | (obtain ⟨_, _, _, _, _, _, _, _, _, _, _, _, _, _, rfl, _⟩ := h; rfl) | (obtain ⟨_, _, _, _, _, _, _, _, _, _, _, _, _, _, _, rfl, _⟩ := h; rfl) | (obtain ⟨_, _, _, _, _, _, _, _, _, _, _, _, _, _, _, _, rfl, _⟩ := h; rfl) | (obtain ⟨_, _, _, _, _, _, _, _, _, _, _, _, _, _, _, _, _, rfl, _⟩ := h; rfl) | (obtain ⟨_, _, _, _, _, _, _, _, _, _, _, _, _, _, _, _, _, _, rfl, _⟩ := h; rfl) | (obtain ⟨_, _, _, _, _, _, _, _, _, _, _, _, _, _, _, _, _, _, _, rfl, _⟩ := h; rfl) | (obtain ⟨_, _, _, _, _, _, _, _, _, _, _, _, _, _, _, _, _, _, _, _, rfl, _⟩ := h; rfl) | (obtain ⟨_, _, _, _, _, _, _, _, _, _, _, _, _, _, _, _, _, _, _, _, _, rfl, _⟩ := h; rfl) | (obtain ⟨_, _, _, _, _, _, _, _, _, _, _, _, _, _, _, _, _, _, _, _, _, _, rfl, _⟩ := h; rfl) | (obtain ⟨_, _, _, _, _, _, _, _, _, _, _, _, _, _, _, _, _, _, _, _, _, _, _, rfl, _⟩ := h; rfl) | (obtain ⟨_, _, _, _, _, _, _, _, _, _, _, _, _, _, _, _, _, _, _, _, _, _, _, _, rfl, _⟩ := h; rfl) | (obtain ⟨_, _, _, _, _, _, _, _, _, _, _, _, _, _, _, _, _, _, _, _, _, _, _, _, _, rfl, _⟩ := h; rfl)
theorem ok_p_reads {f : Addr} {fd : FuncData} (F : Fun K "reads" "reads" s_p_reads f fd) (B : Blt mg)  : FnOk P w K mg base CX0 K_p_reads f fd PS_p_reads (sp_p_reads K) :=
  F.ok sc_p_reads (fun vs H Q E h => len_p_reads h) fun cdv A outer s H vs Q E hr h => ⟨_, d_p_reads B hr, r_p_reads (E := E) h⟩
theorem len_Walk_step {vs : List V} {H : Hp} {Q : VK} {E : XK} (h : sp_Walk_step K vs H Q E) : vs.length = PS_Walk_step.length := by
  first | (obtain ⟨rfl, _⟩ := h; rfl) | (obtain ⟨_, rfl, _⟩ := h; rfl) | (obtain ⟨_, _, rfl, _⟩ := h; rfl) | (obtain ⟨_, _, _, rfl, _⟩ := h; rfl) | (obtain ⟨_, _, _, _, rfl, _⟩ := h; rfl) | (obtain ⟨_, _, _, _, _, rfl, _⟩ := h; rfl) | (obtain ⟨_, _, _, _, _, _, rfl, _⟩ := h; rfl) | (obtain ⟨_, _, _, _, _, _, _, rfl, _⟩ := h; rfl) | (obtain ⟨_, _, _, _, _, _, _, _, rfl, _⟩ := h; rfl) | (obtain ⟨_, _, _, _, _, _, _, _, _, rfl, _⟩ := h; rfl) | (obtain ⟨_, _, _, _, _, _, _, _, _, _, rfl, _⟩ := h; rfl) | (obtain ⟨_, _, _, _, _, _, _, _, _, _, _, rfl, _⟩ := h; rfl) | (obtain ⟨_, _, _, _, _, _, _, _, _, _, _, _, rfl, _⟩ := h; rfl) | (obtain ⟨_, _, _, _, _, _, _, _, _, _, _, _, _, rfl, _⟩ := h; rfl) | (obtain ⟨_, _, _, _, _, _, _, _, _, _, _, _, _, _, rfl, _⟩ := h; rfl) | (obtain ⟨_, _, _, _, _, _, _, _, _, _, _, _, _, _, _, rfl, _⟩ := h; rfl) | (obtain ⟨_, _, _, _, _, _, _, _, _, _, _, _, _, _, _, _, rfl, _⟩ := h; rfl) | (obtain ⟨_, _, _, _, _, _, _, _, _, _, _, _, _, _, _, _, _, rfl, _⟩ := h; rfl) | (obtain ⟨_, _, _, _, _, _, _, _, _, _, _, _, _, _, _, _, _, _, rfl, _⟩ := h; rfl) | (obtain ⟨_, _, _, _, _, _, _, _, _, _, _, _, _, _, _, _, _, _, _, rfl, _⟩ := h; rfl) | (obtain ⟨_, _, _, _, _, _, _, _, _, _, _, _, _, _, _, _, _, _, _, _, rfl, _⟩ := h; rfl) | (obtain ⟨_, _, _, _, _, _, _, _, _, _, _, _, _, _, _, _, _, _, _, _, _, rfl, _⟩ := h; rfl) | (obtain ⟨_, _, _, _, _, _, _, _, _, _, _, _, _, _, _, _, _, _, _, _, _, _, rfl, _⟩ := h; rfl) | (obtain ⟨_, _, _, _, _, _, _, _, _, _, _, _, _, _, _, _, _, _, _, _, _, _, _, rfl, _⟩ := h; rfl) | (obtain ⟨_, _, _, _, _, _, _, _, _, _, _, _, _, _, _, _, _, _, _, _, _, _, _, _, rfl, _⟩ := h; rfl) | (obtain ⟨_, _, _, _, _, _, _, _, _, _, _, _, _, _, _, _, _, _, _, _, _, _, _, _, _, rfl, _⟩ := h; rfl)
theorem ok_Walk_step {f : Addr} {fd : FuncData} (F : Fun K "step" "Walk.step" s_Walk_step f fd) (B : Blt mg) (T : TxtW K) (cl_Walk : Cls K (clsAt K "Walk")) (m_Walk_enter : MethOk P w K mg base (clsAt K "Walk") "enter" PS_Walk_enter K_Walk_enter (sp_Walk_enter K)) (m_Walk_leave : MethOk P w K mg base (clsAt K "Walk") "leave" PS_Walk_leave K_Walk_leave (sp_Walk_leave K)) (m_Walk_work : MethOk P w K mg base (clsAt K "Walk") "work" PS_Walk_work K_Walk_work (sp_Walk_work K)) (m_Walk_ended : MethOk P w K mg base (clsAt K "Walk") "ended" PS_Run_ended K_Run_ended (sp_Run_ended K)) (c_p_reads : Callee P w K mg base "reads" PS_p_reads K_p_reads (sp_p_reads K)) : FnOk P w K mg base CX0 K_Walk_step f fd PS_Walk_step (sp_Walk_step K) :=
  F.ok sc_Walk_step (fun vs H Q E h => len_Walk_step h) fun cdv A outer s H vs Q E hr h => ⟨_, d_Walk_step B cl_Walk m_Walk_enter m_Walk_leave m_Walk_work m_Walk_ended c_p_reads hr, r_Walk_step T (E := E) h⟩
theorem len_p_stepped {vs : List V} {H : Hp} {Q : VK} {E : XK} (h : sp_p_stepped K vs H Q E) : vs.length = PS_p_stepped.length := by
  first | (obtain ⟨rfl, _⟩ := h; rfl) | (obtain ⟨_, rfl, _⟩ := h; rfl) | (obtain ⟨_, _, rfl, _⟩ := h; rfl) | (obtain ⟨_, _, _, rfl, _⟩ := h; rfl) | (obtain ⟨_, _, _, _, rfl, _⟩ := h; rfl) | (obtain ⟨_, _, _, _, _, rfl, _⟩ := h; rfl) | (obtain ⟨_, _, _, _, _, _, rfl, _⟩ := h; rfl) | (obtain ⟨_, _, _, _, _, _, _, rfl, _⟩ := h; rfl) | (obtain ⟨_, _, _, _, _, _, _, _, rfl, _⟩ := h; rfl) | (obtain ⟨_, _, _, _, _, _, _, _, _, rfl, _⟩ := h; rfl) | (obtain ⟨_, _, _, _, _, _, _, _, _, _, rfl, _⟩ := h; rfl) | (obtain ⟨_, _, _, _, _, _, _, _, _, _, _, rfl, _⟩ := h; rfl) | (obtain ⟨_, _, _, _, _, _, _, _, _, _, _, _, rfl, _⟩ := h; rfl) | (obtain ⟨_, _, _, _, _, _, _, _, _, _, _, _, _, rfl, _⟩ := h; rfl) | (obtain ⟨_, _, _, _, _, _, _, _, _, _, _, _, _, _, rfl, _⟩ := h; rfl) | (obtain ⟨_, _, _, _, _, _, _, _, _, _, _, _, _, _, _, rfl, _⟩ := h; rfl) | (obtain ⟨_, _, _, _, _, _, _, _, _, _, _, _, _, _, _, _, rfl, _⟩ := h; rfl) | (obtain ⟨_, _, _, _, _, _, _, _, _, _, _, _, _, _, _, _, _, rfl, _⟩ := h; rfl) | (obtain ⟨_, _, _, _, _, _, _, _, _, _, _, _, _, _, _, _, _, _, rfl, _⟩ := h; rfl) | (obtain ⟨_, _, _, _, _, _, _, _, _, _, _, _, _, _, _, _, _, _, _, rfl, _⟩ := h; rfl) | (obtain ⟨_, _, _, _, _, _, _, _, _, _, _, _, _, _, _, _, _, _, _, _, rfl, _⟩ := h; rfl) | (obtain ⟨_, _, _, _, _, _, _, _, _, _, _, _, _, _, _, _, _, _, _, _, _, rfl, _⟩ := h; rfl) | (obtain ⟨_, _, _, _, _, _, _, _, _, _, _, _, _, _, _, _, _, _, _, _, _, _, rfl, _⟩ := h; rfl) | (obtain ⟨_, _, _, _, _, _, _, _, _, _, _, _, _, _, _, _, _, _, _, _, _, _, _, rfl, _⟩ := h; rfl) | (obtain ⟨_, _, _, _, _, _, _, _, _, _, _, _, _, _, _, _, _, _, _, _, _, _, _, _, rfl, _⟩ := h; rfl) | (obtain ⟨_, _, _, _, _, _, _, _, _, _, _, _, _, _, _, _, _, _, _, _, _, _, _, _, _, rfl, _⟩ := h; rfl)
theorem ok_p_stepped {f : Addr} {fd : FuncData} (F : Fun K "stepped" "stepped" s_p_stepped f fd) (B : Blt mg) (T : TxtW K) (cl_Walk : Cls K (clsAt K "Walk")) (m_Walk_said : MethOk P w K mg base (clsAt K "Walk") "said" PS_Run_said K_Run_said (sp_Run_said K)) (m_Walk_answer : MethOk P w K mg base (clsAt K "Walk") "answer" PS_Run_answer K_Run_answer (sp_Run_answer K)) (m_Walk_ended : MethOk P w K mg base (clsAt K "Walk") "ended" PS_Run_ended K_Run_ended (sp_Run_ended K)) (m_Walk_step : MethOk P w K mg base (clsAt K "Walk") "step" PS_Walk_step K_Walk_step (sp_Walk_step K)) : FnOk P w K mg base CX0 K_p_stepped f fd PS_p_stepped (sp_p_stepped K) :=
  F.ok sc_p_stepped (fun vs H Q E h => len_p_stepped h) fun cdv A outer s H vs Q E hr h => ⟨_, d_p_stepped B cl_Walk m_Walk_said m_Walk_answer m_Walk_ended m_Walk_step hr, r_p_stepped T (E := E) h⟩
theorem len_p_run {vs : List V} {H : Hp} {Q : VK} {E : XK} (h : sp_p_run K vs H Q E) : vs.length = PS_p_run.length := by
  first | (obtain ⟨rfl, _⟩ := h; rfl) | (obtain ⟨_, rfl, _⟩ := h; rfl) | (obtain ⟨_, _, rfl, _⟩ := h; rfl) | (obtain ⟨_, _, _, rfl, _⟩ := h; rfl) | (obtain ⟨_, _, _, _, rfl, _⟩ := h; rfl) | (obtain ⟨_, _, _, _, _, rfl, _⟩ := h; rfl) | (obtain ⟨_, _, _, _, _, _, rfl, _⟩ := h; rfl) | (obtain ⟨_, _, _, _, _, _, _, rfl, _⟩ := h; rfl) | (obtain ⟨_, _, _, _, _, _, _, _, rfl, _⟩ := h; rfl) | (obtain ⟨_, _, _, _, _, _, _, _, _, rfl, _⟩ := h; rfl) | (obtain ⟨_, _, _, _, _, _, _, _, _, _, rfl, _⟩ := h; rfl) | (obtain ⟨_, _, _, _, _, _, _, _, _, _, _, rfl, _⟩ := h; rfl) | (obtain ⟨_, _, _, _, _, _, _, _, _, _, _, _, rfl, _⟩ := h; rfl) | (obtain ⟨_, _, _, _, _, _, _, _, _, _, _, _, _, rfl, _⟩ := h; rfl) | (obtain ⟨_, _, _, _, _, _, _, _, _, _, _, _, _, _, rfl, _⟩ := h; rfl) | (obtain ⟨_, _, _, _, _, _, _, _, _, _, _, _, _, _, _, rfl, _⟩ := h; rfl) | (obtain ⟨_, _, _, _, _, _, _, _, _, _, _, _, _, _, _, _, rfl, _⟩ := h; rfl) | (obtain ⟨_, _, _, _, _, _, _, _, _, _, _, _, _, _, _, _, _, rfl, _⟩ := h; rfl) | (obtain ⟨_, _, _, _, _, _, _, _, _, _, _, _, _, _, _, _, _, _, rfl, _⟩ := h; rfl) | (obtain ⟨_, _, _, _, _, _, _, _, _, _, _, _, _, _, _, _, _, _, _, rfl, _⟩ := h; rfl) | (obtain ⟨_, _, _, _, _, _, _, _, _, _, _, _, _, _, _, _, _, _, _, _, rfl, _⟩ := h; rfl) | (obtain ⟨_, _, _, _, _, _, _, _, _, _, _, _, _, _, _, _, _, _, _, _, _, rfl, _⟩ := h; rfl) | (obtain ⟨_, _, _, _, _, _, _, _, _, _, _, _, _, _, _, _, _, _, _, _, _, _, rfl, _⟩ := h; rfl) | (obtain ⟨_, _, _, _, _, _, _, _, _, _, _, _, _, _, _, _, _, _, _, _, _, _, _, rfl, _⟩ := h; rfl) | (obtain ⟨_, _, _, _, _, _, _, _, _, _, _, _, _, _, _, _, _, _, _, _, _, _, _, _, rfl, _⟩ := h; rfl) | (obtain ⟨_, _, _, _, _, _, _, _, _, _, _, _, _, _, _, _, _, _, _, _, _, _, _, _, _, rfl, _⟩ := h; rfl)
theorem ok_p_run {f : Addr} {fd : FuncData} {dV : Value} (F : FunD K "run" "run" s_p_run dV f fd) (B : Blt mg) (T : TxtW K) (mk_Walk : MakeOk P w K mg base "Walk" (clsAt K "Walk") PS_Walk_init K_Walk_init (sp_Walk_init K)) (c_p_stepped : Callee P w K mg base "stepped" PS_p_stepped K_p_stepped (sp_p_stepped K)) : FnOk P w K mg base CX0 K_p_run f fd PS_p_run (sp_p_run K) :=
  F.ok sc_p_run (fun vs H Q E h => len_p_run h) fun cdv A outer s H vs Q E hr h => ⟨_, d_p_run B mk_Walk c_p_stepped hr, r_p_run T (E := E) h⟩
theorem len_right {vs : List V} {H : Hp} {Q : VK} {E : XK} (h : sp_right K vs H Q E) : vs.length = PS_right.length := by
  first | (obtain ⟨rfl, _⟩ := h; rfl) | (obtain ⟨_, rfl, _⟩ := h; rfl) | (obtain ⟨_, _, rfl, _⟩ := h; rfl) | (obtain ⟨_, _, _, rfl, _⟩ := h; rfl) | (obtain ⟨_, _, _, _, rfl, _⟩ := h; rfl) | (obtain ⟨_, _, _, _, _, rfl, _⟩ := h; rfl) | (obtain ⟨_, _, _, _, _, _, rfl, _⟩ := h; rfl) | (obtain ⟨_, _, _, _, _, _, _, rfl, _⟩ := h; rfl) | (obtain ⟨_, _, _, _, _, _, _, _, rfl, _⟩ := h; rfl) | (obtain ⟨_, _, _, _, _, _, _, _, _, rfl, _⟩ := h; rfl) | (obtain ⟨_, _, _, _, _, _, _, _, _, _, rfl, _⟩ := h; rfl) | (obtain ⟨_, _, _, _, _, _, _, _, _, _, _, rfl, _⟩ := h; rfl) | (obtain ⟨_, _, _, _, _, _, _, _, _, _, _, _, rfl, _⟩ := h; rfl) | (obtain ⟨_, _, _, _, _, _, _, _, _, _, _, _, _, rfl, _⟩ := h; rfl) | (obtain ⟨_, _, _, _, _, _, _, _, _, _, _, _, _, _, rfl, _⟩ := h; rfl) | (obtain ⟨_, _, _, _, _, _, _, _, _, _, _, _, _, _, _, rfl, _⟩ := h; rfl) | (obtain ⟨_, _, _, _, _, _, _, _, _, _, _, _, _, _, _, _, rfl, _⟩ := h; rfl) | (obtain ⟨_, _, _, _, _, _, _, _, _, _, _, _, _, _, _, _, _, rfl, _⟩ := h; rfl) | (obtain ⟨_, _, _, _, _, _, _, _, _, _, _, _, _, _, _, _, _, _, rfl, _⟩ := h; rfl) | (obtain ⟨_, _, _, _, _, _, _, _, _, _, _, _, _, _, _, _, _, _, _, rfl, _⟩ := h; rfl) | (obtain ⟨_, _, _, _, _, _, _, _, _, _, _, _, _, _, _, _, _, _, _, _, rfl, _⟩ := h; rfl) | (obtain ⟨_, _, _, _, _, _, _, _, _, _, _, _, _, _, _, _, _, _, _, _, _, rfl, _⟩ := h; rfl) | (obtain ⟨_, _, _, _, _, _, _, _, _, _, _, _, _, _, _, _, _, _, _, _, _, _, rfl, _⟩ := h; rfl) | (obtain ⟨_, _, _, _, _, _, _, _, _, _, _, _, _, _, _, _, _, _, _, _, _, _, _, rfl, _⟩ := h; rfl) | (obtain ⟨_, _, _, _, _, _, _, _, _, _, _, _, _, _, _, _, _, _, _, _, _, _, _, _, rfl, _⟩ := h; rfl) | (obtain ⟨_, _, _, _, _, _, _, _, _, _, _, _, _, _, _, _, _, _, _, _, _, _, _, _, _, rfl, _⟩ := h; rfl)
theorem ok_right {f : Addr} {fd : FuncData} (F : Fun K "_law_right" "_law_right" s_right f fd) (B : Blt mg) (c_p_run : Callee P w K mg base "run" PS_p_run K_p_run (sp_p_run K)) : FnOk P w K mg base CX0 K_right f fd PS_right (sp_right K) :=
  F.ok sc_right (fun vs H Q E h => len_right h) fun cdv A outer s H vs Q E hr h => ⟨_, d_right B c_p_run hr, r_right (E := E) h⟩
theorem len_draw {vs : List V} {H : Hp} {Q : VK} {E : XK} (h : sp_draw K vs H Q E) : vs.length = PS_draw.length := by
  first | (obtain ⟨rfl, _⟩ := h; rfl) | (obtain ⟨_, rfl, _⟩ := h; rfl) | (obtain ⟨_, _, rfl, _⟩ := h; rfl) | (obtain ⟨_, _, _, rfl, _⟩ := h; rfl) | (obtain ⟨_, _, _, _, rfl, _⟩ := h; rfl) | (obtain ⟨_, _, _, _, _, rfl, _⟩ := h; rfl) | (obtain ⟨_, _, _, _, _, _, rfl, _⟩ := h; rfl) | (obtain ⟨_, _, _, _, _, _, _, rfl, _⟩ := h; rfl) | (obtain ⟨_, _, _, _, _, _, _, _, rfl, _⟩ := h; rfl) | (obtain ⟨_, _, _, _, _, _, _, _, _, rfl, _⟩ := h; rfl) | (obtain ⟨_, _, _, _, _, _, _, _, _, _, rfl, _⟩ := h; rfl) | (obtain ⟨_, _, _, _, _, _, _, _, _, _, _, rfl, _⟩ := h; rfl) | (obtain ⟨_, _, _, _, _, _, _, _, _, _, _, _, rfl, _⟩ := h; rfl) | (obtain ⟨_, _, _, _, _, _, _, _, _, _, _, _, _, rfl, _⟩ := h; rfl) | (obtain ⟨_, _, _, _, _, _, _, _, _, _, _, _, _, _, rfl, _⟩ := h; rfl) | (obtain ⟨_, _, _, _, _, _, _, _, _, _, _, _, _, _, _, rfl, _⟩ := h; rfl) | (obtain ⟨_, _, _, _, _, _, _, _, _, _, _, _, _, _, _, _, rfl, _⟩ := h; rfl) | (obtain ⟨_, _, _, _, _, _, _, _, _, _, _, _, _, _, _, _, _, rfl, _⟩ := h; rfl) | (obtain ⟨_, _, _, _, _, _, _, _, _, _, _, _, _, _, _, _, _, _, rfl, _⟩ := h; rfl) | (obtain ⟨_, _, _, _, _, _, _, _, _, _, _, _, _, _, _, _, _, _, _, rfl, _⟩ := h; rfl) | (obtain ⟨_, _, _, _, _, _, _, _, _, _, _, _, _, _, _, _, _, _, _, _, rfl, _⟩ := h; rfl) | (obtain ⟨_, _, _, _, _, _, _, _, _, _, _, _, _, _, _, _, _, _, _, _, _, rfl, _⟩ := h; rfl) | (obtain ⟨_, _, _, _, _, _, _, _, _, _, _, _, _, _, _, _, _, _, _, _, _, _, rfl, _⟩ := h; rfl) | (obtain ⟨_, _, _, _, _, _, _, _, _, _, _, _, _, _, _, _, _, _, _, _, _, _, _, rfl, _⟩ := h; rfl) | (obtain ⟨_, _, _, _, _, _, _, _, _, _, _, _, _, _, _, _, _, _, _, _, _, _, _, _, rfl, _⟩ := h; rfl) | (obtain ⟨_, _, _, _, _, _, _, _, _, _, _, _, _, _, _, _, _, _, _, _, _, _, _, _, _, rfl, _⟩ := h; rfl)
theorem ok_draw {f : Addr} {fd : FuncData} (F : Fun K "_law_draw" "_law_draw" s_draw f fd) (B : Blt mg)  : FnOk P w K mg base CX0 K_draw f fd PS_draw (sp_draw K) :=
  F.ok sc_draw (fun vs H Q E h => len_draw h) fun cdv A outer s H vs Q E hr h => ⟨_, d_draw B hr, r_draw (E := E) h⟩
theorem len_loop {vs : List V} {H : Hp} {Q : VK} {E : XK} (h : sp_loop K vs H Q E) : vs.length = PS_loop.length := by
  first | (obtain ⟨rfl, _⟩ := h; rfl) | (obtain ⟨_, rfl, _⟩ := h; rfl) | (obtain ⟨_, _, rfl, _⟩ := h; rfl) | (obtain ⟨_, _, _, rfl, _⟩ := h; rfl) | (obtain ⟨_, _, _, _, rfl, _⟩ := h; rfl) | (obtain ⟨_, _, _, _, _, rfl, _⟩ := h; rfl) | (obtain ⟨_, _, _, _, _, _, rfl, _⟩ := h; rfl) | (obtain ⟨_, _, _, _, _, _, _, rfl, _⟩ := h; rfl) | (obtain ⟨_, _, _, _, _, _, _, _, rfl, _⟩ := h; rfl) | (obtain ⟨_, _, _, _, _, _, _, _, _, rfl, _⟩ := h; rfl) | (obtain ⟨_, _, _, _, _, _, _, _, _, _, rfl, _⟩ := h; rfl) | (obtain ⟨_, _, _, _, _, _, _, _, _, _, _, rfl, _⟩ := h; rfl) | (obtain ⟨_, _, _, _, _, _, _, _, _, _, _, _, rfl, _⟩ := h; rfl) | (obtain ⟨_, _, _, _, _, _, _, _, _, _, _, _, _, rfl, _⟩ := h; rfl) | (obtain ⟨_, _, _, _, _, _, _, _, _, _, _, _, _, _, rfl, _⟩ := h; rfl) | (obtain ⟨_, _, _, _, _, _, _, _, _, _, _, _, _, _, _, rfl, _⟩ := h; rfl) | (obtain ⟨_, _, _, _, _, _, _, _, _, _, _, _, _, _, _, _, rfl, _⟩ := h; rfl) | (obtain ⟨_, _, _, _, _, _, _, _, _, _, _, _, _, _, _, _, _, rfl, _⟩ := h; rfl) | (obtain ⟨_, _, _, _, _, _, _, _, _, _, _, _, _, _, _, _, _, _, rfl, _⟩ := h; rfl) | (obtain ⟨_, _, _, _, _, _, _, _, _, _, _, _, _, _, _, _, _, _, _, rfl, _⟩ := h; rfl) | (obtain ⟨_, _, _, _, _, _, _, _, _, _, _, _, _, _, _, _, _, _, _, _, rfl, _⟩ := h; rfl) | (obtain ⟨_, _, _, _, _, _, _, _, _, _, _, _, _, _, _, _, _, _, _, _, _, rfl, _⟩ := h; rfl) | (obtain ⟨_, _, _, _, _, _, _, _, _, _, _, _, _, _, _, _, _, _, _, _, _, _, rfl, _⟩ := h; rfl) | (obtain ⟨_, _, _, _, _, _, _, _, _, _, _, _, _, _, _, _, _, _, _, _, _, _, _, rfl, _⟩ := h; rfl) | (obtain ⟨_, _, _, _, _, _, _, _, _, _, _, _, _, _, _, _, _, _, _, _, _, _, _, _, rfl, _⟩ := h; rfl) | (obtain ⟨_, _, _, _, _, _, _, _, _, _, _, _, _, _, _, _, _, _, _, _, _, _, _, _, _, rfl, _⟩ := h; rfl)
theorem ok_loop {f : Addr} {fd : FuncData} (F : Fun K "_law_loop" "_law_loop" s_loop f fd) (B : Blt mg)  : FnOk P w K mg base CX0 K_loop f fd PS_loop (sp_loop K) :=
  F.ok sc_loop (fun vs H Q E h => len_loop h) fun cdv A outer s H vs Q E hr h => ⟨_, d_loop B hr, r_loop (E := E) h⟩
theorem len_self {vs : List V} {H : Hp} {Q : VK} {E : XK} (h : sp_self K vs H Q E) : vs.length = PS_self.length := by
  first | (obtain ⟨rfl, _⟩ := h; rfl) | (obtain ⟨_, rfl, _⟩ := h; rfl) | (obtain ⟨_, _, rfl, _⟩ := h; rfl) | (obtain ⟨_, _, _, rfl, _⟩ := h; rfl) | (obtain ⟨_, _, _, _, rfl, _⟩ := h; rfl) | (obtain ⟨_, _, _, _, _, rfl, _⟩ := h; rfl) | (obtain ⟨_, _, _, _, _, _, rfl, _⟩ := h; rfl) | (obtain ⟨_, _, _, _, _, _, _, rfl, _⟩ := h; rfl) | (obtain ⟨_, _, _, _, _, _, _, _, rfl, _⟩ := h; rfl) | (obtain ⟨_, _, _, _, _, _, _, _, _, rfl, _⟩ := h; rfl) | (obtain ⟨_, _, _, _, _, _, _, _, _, _, rfl, _⟩ := h; rfl) | (obtain ⟨_, _, _, _, _, _, _, _, _, _, _, rfl, _⟩ := h; rfl) | (obtain ⟨_, _, _, _, _, _, _, _, _, _, _, _, rfl, _⟩ := h; rfl) | (obtain ⟨_, _, _, _, _, _, _, _, _, _, _, _, _, rfl, _⟩ := h; rfl) | (obtain ⟨_, _, _, _, _, _, _, _, _, _, _, _, _, _, rfl, _⟩ := h; rfl) | (obtain ⟨_, _, _, _, _, _, _, _, _, _, _, _, _, _, _, rfl, _⟩ := h; rfl) | (obtain ⟨_, _, _, _, _, _, _, _, _, _, _, _, _, _, _, _, rfl, _⟩ := h; rfl) | (obtain ⟨_, _, _, _, _, _, _, _, _, _, _, _, _, _, _, _, _, rfl, _⟩ := h; rfl) | (obtain ⟨_, _, _, _, _, _, _, _, _, _, _, _, _, _, _, _, _, _, rfl, _⟩ := h; rfl) | (obtain ⟨_, _, _, _, _, _, _, _, _, _, _, _, _, _, _, _, _, _, _, rfl, _⟩ := h; rfl) | (obtain ⟨_, _, _, _, _, _, _, _, _, _, _, _, _, _, _, _, _, _, _, _, rfl, _⟩ := h; rfl) | (obtain ⟨_, _, _, _, _, _, _, _, _, _, _, _, _, _, _, _, _, _, _, _, _, rfl, _⟩ := h; rfl) | (obtain ⟨_, _, _, _, _, _, _, _, _, _, _, _, _, _, _, _, _, _, _, _, _, _, rfl, _⟩ := h; rfl) | (obtain ⟨_, _, _, _, _, _, _, _, _, _, _, _, _, _, _, _, _, _, _, _, _, _, _, rfl, _⟩ := h; rfl) | (obtain ⟨_, _, _, _, _, _, _, _, _, _, _, _, _, _, _, _, _, _, _, _, _, _, _, _, rfl, _⟩ := h; rfl) | (obtain ⟨_, _, _, _, _, _, _, _, _, _, _, _, _, _, _, _, _, _, _, _, _, _, _, _, _, rfl, _⟩ := h; rfl)
theorem ok_self {f : Addr} {fd : FuncData} (F : Fun K "_law_self" "_law_self" s_self f fd) (B : Blt mg)  : FnOk P w K mg base CX0 K_self f fd PS_self (sp_self K) :=
  F.ok sc_self (fun vs H Q E h => len_self h) fun cdv A outer s H vs Q E hr h => ⟨_, d_self B hr, r_self (E := E) h⟩
theorem len_worth {vs : List V} {H : Hp} {Q : VK} {E : XK} (h : sp_worth K vs H Q E) : vs.length = PS_worth.length := by
  first | (obtain ⟨rfl, _⟩ := h; rfl) | (obtain ⟨_, rfl, _⟩ := h; rfl) | (obtain ⟨_, _, rfl, _⟩ := h; rfl) | (obtain ⟨_, _, _, rfl, _⟩ := h; rfl) | (obtain ⟨_, _, _, _, rfl, _⟩ := h; rfl) | (obtain ⟨_, _, _, _, _, rfl, _⟩ := h; rfl) | (obtain ⟨_, _, _, _, _, _, rfl, _⟩ := h; rfl) | (obtain ⟨_, _, _, _, _, _, _, rfl, _⟩ := h; rfl) | (obtain ⟨_, _, _, _, _, _, _, _, rfl, _⟩ := h; rfl) | (obtain ⟨_, _, _, _, _, _, _, _, _, rfl, _⟩ := h; rfl) | (obtain ⟨_, _, _, _, _, _, _, _, _, _, rfl, _⟩ := h; rfl) | (obtain ⟨_, _, _, _, _, _, _, _, _, _, _, rfl, _⟩ := h; rfl) | (obtain ⟨_, _, _, _, _, _, _, _, _, _, _, _, rfl, _⟩ := h; rfl) | (obtain ⟨_, _, _, _, _, _, _, _, _, _, _, _, _, rfl, _⟩ := h; rfl) | (obtain ⟨_, _, _, _, _, _, _, _, _, _, _, _, _, _, rfl, _⟩ := h; rfl) | (obtain ⟨_, _, _, _, _, _, _, _, _, _, _, _, _, _, _, rfl, _⟩ := h; rfl) | (obtain ⟨_, _, _, _, _, _, _, _, _, _, _, _, _, _, _, _, rfl, _⟩ := h; rfl) | (obtain ⟨_, _, _, _, _, _, _, _, _, _, _, _, _, _, _, _, _, rfl, _⟩ := h; rfl) | (obtain ⟨_, _, _, _, _, _, _, _, _, _, _, _, _, _, _, _, _, _, rfl, _⟩ := h; rfl) | (obtain ⟨_, _, _, _, _, _, _, _, _, _, _, _, _, _, _, _, _, _, _, rfl, _⟩ := h; rfl) | (obtain ⟨_, _, _, _, _, _, _, _, _, _, _, _, _, _, _, _, _, _, _, _, rfl, _⟩ := h; rfl) | (obtain ⟨_, _, _, _, _, _, _, _, _, _, _, _, _, _, _, _, _, _, _, _, _, rfl, _⟩ := h; rfl) | (obtain ⟨_, _, _, _, _, _, _, _, _, _, _, _, _, _, _, _, _, _, _, _, _, _, rfl, _⟩ := h; rfl) | (obtain ⟨_, _, _, _, _, _, _, _, _, _, _, _, _, _, _, _, _, _, _, _, _, _, _, rfl, _⟩ := h; rfl) | (obtain ⟨_, _, _, _, _, _, _, _, _, _, _, _, _, _, _, _, _, _, _, _, _, _, _, _, rfl, _⟩ := h; rfl) | (obtain ⟨_, _, _, _, _, _, _, _, _, _, _, _, _, _, _, _, _, _, _, _, _, _, _, _, _, rfl, _⟩ := h; rfl)
theorem ok_worth {f : Addr} {fd : FuncData} (F : Fun K "_law_worth" "_law_worth" s_worth f fd) (B : Blt mg) (c_draw : Callee P w K mg base "_law_draw" PS_draw K_draw (sp_draw K)) : FnOk P w K mg base CX0 K_worth f fd PS_worth (sp_worth K) :=
  F.ok sc_worth (fun vs H Q E h => len_worth h) fun cdv A outer s H vs Q E hr h => ⟨_, d_worth B c_draw hr, r_worth (E := E) h⟩
theorem len_names {vs : List V} {H : Hp} {Q : VK} {E : XK} (h : sp_names K vs H Q E) : vs.length = PS_names.length := by
  first | (obtain ⟨rfl, _⟩ := h; rfl) | (obtain ⟨_, rfl, _⟩ := h; rfl) | (obtain ⟨_, _, rfl, _⟩ := h; rfl) | (obtain ⟨_, _, _, rfl, _⟩ := h; rfl) | (obtain ⟨_, _, _, _, rfl, _⟩ := h; rfl) | (obtain ⟨_, _, _, _, _, rfl, _⟩ := h; rfl) | (obtain ⟨_, _, _, _, _, _, rfl, _⟩ := h; rfl) | (obtain ⟨_, _, _, _, _, _, _, rfl, _⟩ := h; rfl) | (obtain ⟨_, _, _, _, _, _, _, _, rfl, _⟩ := h; rfl) | (obtain ⟨_, _, _, _, _, _, _, _, _, rfl, _⟩ := h; rfl) | (obtain ⟨_, _, _, _, _, _, _, _, _, _, rfl, _⟩ := h; rfl) | (obtain ⟨_, _, _, _, _, _, _, _, _, _, _, rfl, _⟩ := h; rfl) | (obtain ⟨_, _, _, _, _, _, _, _, _, _, _, _, rfl, _⟩ := h; rfl) | (obtain ⟨_, _, _, _, _, _, _, _, _, _, _, _, _, rfl, _⟩ := h; rfl) | (obtain ⟨_, _, _, _, _, _, _, _, _, _, _, _, _, _, rfl, _⟩ := h; rfl) | (obtain ⟨_, _, _, _, _, _, _, _, _, _, _, _, _, _, _, rfl, _⟩ := h; rfl) | (obtain ⟨_, _, _, _, _, _, _, _, _, _, _, _, _, _, _, _, rfl, _⟩ := h; rfl) | (obtain ⟨_, _, _, _, _, _, _, _, _, _, _, _, _, _, _, _, _, rfl, _⟩ := h; rfl) | (obtain ⟨_, _, _, _, _, _, _, _, _, _, _, _, _, _, _, _, _, _, rfl, _⟩ := h; rfl) | (obtain ⟨_, _, _, _, _, _, _, _, _, _, _, _, _, _, _, _, _, _, _, rfl, _⟩ := h; rfl) | (obtain ⟨_, _, _, _, _, _, _, _, _, _, _, _, _, _, _, _, _, _, _, _, rfl, _⟩ := h; rfl) | (obtain ⟨_, _, _, _, _, _, _, _, _, _, _, _, _, _, _, _, _, _, _, _, _, rfl, _⟩ := h; rfl) | (obtain ⟨_, _, _, _, _, _, _, _, _, _, _, _, _, _, _, _, _, _, _, _, _, _, rfl, _⟩ := h; rfl) | (obtain ⟨_, _, _, _, _, _, _, _, _, _, _, _, _, _, _, _, _, _, _, _, _, _, _, rfl, _⟩ := h; rfl) | (obtain ⟨_, _, _, _, _, _, _, _, _, _, _, _, _, _, _, _, _, _, _, _, _, _, _, _, rfl, _⟩ := h; rfl) | (obtain ⟨_, _, _, _, _, _, _, _, _, _, _, _, _, _, _, _, _, _, _, _, _, _, _, _, _, rfl, _⟩ := h; rfl)
theorem ok_names {f : Addr} {fd : FuncData} (F : Fun K "_law_names" "_law_names" s_names f fd) (B : Blt mg) (c_draw : Callee P w K mg base "_law_draw" PS_draw K_draw (sp_draw K)) : FnOk P w K mg base CX0 K_names f fd PS_names (sp_names K) :=
  F.ok sc_names (fun vs H Q E h => len_names h) fun cdv A outer s H vs Q E hr h => ⟨_, d_names B c_draw hr, r_names (E := E) h⟩
theorem len_law {vs : List V} {H : Hp} {Q : VK} {E : XK} (h : sp_law K vs H Q E) : vs.length = PS_law.length := by
  first | (obtain ⟨rfl, _⟩ := h; rfl) | (obtain ⟨_, rfl, _⟩ := h; rfl) | (obtain ⟨_, _, rfl, _⟩ := h; rfl) | (obtain ⟨_, _, _, rfl, _⟩ := h; rfl) | (obtain ⟨_, _, _, _, rfl, _⟩ := h; rfl) | (obtain ⟨_, _, _, _, _, rfl, _⟩ := h; rfl) | (obtain ⟨_, _, _, _, _, _, rfl, _⟩ := h; rfl) | (obtain ⟨_, _, _, _, _, _, _, rfl, _⟩ := h; rfl) | (obtain ⟨_, _, _, _, _, _, _, _, rfl, _⟩ := h; rfl) | (obtain ⟨_, _, _, _, _, _, _, _, _, rfl, _⟩ := h; rfl) | (obtain ⟨_, _, _, _, _, _, _, _, _, _, rfl, _⟩ := h; rfl) | (obtain ⟨_, _, _, _, _, _, _, _, _, _, _, rfl, _⟩ := h; rfl) | (obtain ⟨_, _, _, _, _, _, _, _, _, _, _, _, rfl, _⟩ := h; rfl) | (obtain ⟨_, _, _, _, _, _, _, _, _, _, _, _, _, rfl, _⟩ := h; rfl) | (obtain ⟨_, _, _, _, _, _, _, _, _, _, _, _, _, _, rfl, _⟩ := h; rfl) | (obtain ⟨_, _, _, _, _, _, _, _, _, _, _, _, _, _, _, rfl, _⟩ := h; rfl) | (obtain ⟨_, _, _, _, _, _, _, _, _, _, _, _, _, _, _, _, rfl, _⟩ := h; rfl) | (obtain ⟨_, _, _, _, _, _, _, _, _, _, _, _, _, _, _, _, _, rfl, _⟩ := h; rfl) | (obtain ⟨_, _, _, _, _, _, _, _, _, _, _, _, _, _, _, _, _, _, rfl, _⟩ := h; rfl) | (obtain ⟨_, _, _, _, _, _, _, _, _, _, _, _, _, _, _, _, _, _, _, rfl, _⟩ := h; rfl) | (obtain ⟨_, _, _, _, _, _, _, _, _, _, _, _, _, _, _, _, _, _, _, _, rfl, _⟩ := h; rfl) | (obtain ⟨_, _, _, _, _, _, _, _, _, _, _, _, _, _, _, _, _, _, _, _, _, rfl, _⟩ := h; rfl) | (obtain ⟨_, _, _, _, _, _, _, _, _, _, _, _, _, _, _, _, _, _, _, _, _, _, rfl, _⟩ := h; rfl) | (obtain ⟨_, _, _, _, _, _, _, _, _, _, _, _, _, _, _, _, _, _, _, _, _, _, _, rfl, _⟩ := h; rfl) | (obtain ⟨_, _, _, _, _, _, _, _, _, _, _, _, _, _, _, _, _, _, _, _, _, _, _, _, rfl, _⟩ := h; rfl) | (obtain ⟨_, _, _, _, _, _, _, _, _, _, _, _, _, _, _, _, _, _, _, _, _, _, _, _, _, rfl, _⟩ := h; rfl)
theorem ok_law {f : Addr} {fd : FuncData} (F : Fun K "law" "law" s_law f fd) (B : Blt mg) (c_right : Callee P w K mg base "_law_right" PS_right K_right (sp_right K)) (c_draw : Callee P w K mg base "_law_draw" PS_draw K_draw (sp_draw K)) (c_p_run : Callee P w K mg base "run" PS_p_run K_p_run (sp_p_run K)) (c_loop : Callee P w K mg base "_law_loop" PS_loop K_loop (sp_loop K)) (c_self : Callee P w K mg base "_law_self" PS_self K_self (sp_self K)) (c_worth : Callee P w K mg base "_law_worth" PS_worth K_worth (sp_worth K)) (c_names : Callee P w K mg base "_law_names" PS_names K_names (sp_names K)) : FnOk P w K mg base CX0 K_law f fd PS_law (sp_law K) :=
  F.ok sc_law (fun vs H Q E h => len_law h) fun cdv A outer s H vs Q E hr h => ⟨_, d_law B c_right c_draw c_p_run c_loop c_self c_worth c_names hr, r_law (E := E) h⟩
end
theorem all_mk {l : PySem.W.OpenLaw} {w : World} {K : PySem.W.Frag} {h : Heap} {mg : Str → Option Value} {fa : Addr} (X : K.In h) (G : h.Ns mainGlobals mg) (hfa : mg "law" = some (.ref fa))
    {C_Frame : Addr} (zc_Frame : PySem.W.nsIn K mainGlobals "Frame" = some (some (.ref C_Frame))) (pg_Frame : PySem.W.plainGet K C_Frame Str.empty = true) (hd_Frame : PySem.W.hasDictIn K C_Frame = true) (po_Frame : PySem.W.plainOver K C_Frame = true) (sa_Frame : PySem.W.findIn K (.ref C_Frame) "__setattr__" = some (some (.builtin "object.__setattr__"))) (ma_Frame : PySem.W.makesIn K C_Frame = true) (kp_Frame : PySem.W.keepIn K (.ref C_Frame) = true)
    {C_Walk : Addr} (zc_Walk : PySem.W.nsIn K mainGlobals "Walk" = some (some (.ref C_Walk))) (pg_Walk : PySem.W.plainGet K C_Walk Str.empty = true) (hd_Walk : PySem.W.hasDictIn K C_Walk = true) (po_Walk : PySem.W.plainOver K C_Walk = true) (sa_Walk : PySem.W.findIn K (.ref C_Walk) "__setattr__" = some (some (.builtin "object.__setattr__"))) (ma_Walk : PySem.W.makesIn K C_Walk = true) (kp_Walk : PySem.W.keepIn K (.ref C_Walk) = true)
    {C_Run : Addr} (zc_Run : PySem.W.nsIn K mainGlobals "Run" = some (some (.ref C_Run)))
    (hg_Run : PySem.W.specialIn K (.ref C_Run) "__getattribute__" = some (some (.builtin "type.__getattribute__"))) (rd_Run : PySem.W.readsIn K C_Run (.type "type") = true)
    (no_0 : PySem.W.findIn K (.ref C_Walk) "program" = some none)
    (no_1 : PySem.W.findIn K (.ref C_Walk) "opened" = some none)
    (no_2 : PySem.W.findIn K (.ref C_Walk) "spoken" = some none)
    (no_3 : PySem.W.findIn K (.ref C_Walk) "outcome" = some none)
    (no_4 : PySem.W.findIn K (.ref C_Frame) "part" = some none)
    (no_5 : PySem.W.findIn K (.ref C_Frame) "row" = some none)
    (no_6 : PySem.W.findIn K (.ref C_Frame) "names" = some none)
    {od0 an0 : Option Addr} {sl0 : Array (Option Value)} {oc0 kV0 dc0 pm0 cd0 ct0 : Value} {f0 : Addr}
    (a0 : PySem.W.findIn K (.ref C_Frame) "__init__" = some (some (.ref f0)))
    (l0 : K.lookup f0 = some ⟨oc0, od0, .func (PySem.W.fnOf "__init__" "Frame.__init__" (defArgs s_Frame_init) (defBody s_Frame_init) (defScope s_Frame_init) .none kV0 dc0 pm0 an0 cd0 ct0), sl0⟩) (c0 : PySem.W.codeIn K cd0 "Frame.__init__" = true) (k0 : PySem.W.keepIn K (.ref f0) = true)
    (i0 : PySem.W.isFn K (.ref f0) = true)
    {od1 an1 : Option Addr} {sl1 : Array (Option Value)} {oc1 kV1 dc1 pm1 cd1 ct1 : Value} {f1 : Addr}
    (a1 : PySem.W.nsIn K mainGlobals "goal" = some (some (.ref f1)))
    (l1 : K.lookup f1 = some ⟨oc1, od1, .func (PySem.W.fnOf "goal" "goal" (defArgs s_p_goal) (defBody s_p_goal) (defScope s_p_goal) .none kV1 dc1 pm1 an1 cd1 ct1), sl1⟩) (c1 : PySem.W.codeIn K cd1 "goal" = true) (k1 : PySem.W.keepIn K (.ref f1) = true)
    {od2 an2 : Option Addr} {sl2 : Array (Option Value)} {oc2 kV2 dc2 pm2 cd2 ct2 : Value} {f2 : Addr}
    (a2 : PySem.W.nsIn K mainGlobals "stands" = some (some (.ref f2)))
    (l2 : K.lookup f2 = some ⟨oc2, od2, .func (PySem.W.fnOf "stands" "stands" (defArgs s_p_stands) (defBody s_p_stands) (defScope s_p_stands) .none kV2 dc2 pm2 an2 cd2 ct2), sl2⟩) (c2 : PySem.W.codeIn K cd2 "stands" = true) (k2 : PySem.W.keepIn K (.ref f2) = true)
    {od3 an3 : Option Addr} {sl3 : Array (Option Value)} {oc3 kV3 dc3 pm3 cd3 ct3 : Value} {f3 : Addr}
    (a3 : PySem.W.findIn K (.ref C_Walk) "enter" = some (some (.ref f3)))
    (l3 : K.lookup f3 = some ⟨oc3, od3, .func (PySem.W.fnOf "enter" "Walk.enter" (defArgs s_Walk_enter) (defBody s_Walk_enter) (defScope s_Walk_enter) .none kV3 dc3 pm3 an3 cd3 ct3), sl3⟩) (c3 : PySem.W.codeIn K cd3 "Walk.enter" = true) (k3 : PySem.W.keepIn K (.ref f3) = true)
    (i3 : PySem.W.isFn K (.ref f3) = true)
    {od4 an4 : Option Addr} {sl4 : Array (Option Value)} {oc4 kV4 dc4 pm4 cd4 ct4 : Value} {f4 : Addr}
    (a4 : PySem.W.findCls K (.ref C_Run) (.type "type") "__init__" = some (.val (.ref f4)))
    (l4 : K.lookup f4 = some ⟨oc4, od4, .func (PySem.W.fnOf "__init__" "Run.__init__" (defArgs s_Run_init) (defBody s_Run_init) (defScope s_Run_init) .none kV4 dc4 pm4 an4 cd4 ct4), sl4⟩) (c4 : PySem.W.codeIn K cd4 "Run.__init__" = true) (k4 : PySem.W.keepIn K (.ref f4) = true)
    (i4 : PySem.W.isFn K (.ref f4) = true)
    {od5 an5 : Option Addr} {sl5 : Array (Option Value)} {oc5 kV5 dc5 pm5 cd5 ct5 : Value} {f5 : Addr}
    (a5 : PySem.W.findIn K (.ref C_Walk) "__init__" = some (some (.ref f5)))
    (l5 : K.lookup f5 = some ⟨oc5, od5, .func (PySem.W.fnOf "__init__" "Walk.__init__" (defArgs s_Walk_init) (defBody s_Walk_init) (defScope s_Walk_init) .none kV5 dc5 pm5 an5 cd5 ct5), sl5⟩) (c5 : PySem.W.codeIn K cd5 "Walk.__init__" = true) (k5 : PySem.W.keepIn K (.ref f5) = true)
    (i5 : PySem.W.isFn K (.ref f5) = true)
    {od6 an6 : Option Addr} {sl6 : Array (Option Value)} {oc6 kV6 dc6 pm6 cd6 ct6 : Value} {f6 : Addr}
    (a6 : PySem.W.findIn K (.ref C_Walk) "said" = some (some (.ref f6)))
    (l6 : K.lookup f6 = some ⟨oc6, od6, .func (PySem.W.fnOf "said" "Run.said" (defArgs s_Run_said) (defBody s_Run_said) (defScope s_Run_said) .none kV6 dc6 pm6 an6 cd6 ct6), sl6⟩) (c6 : PySem.W.codeIn K cd6 "Run.said" = true) (k6 : PySem.W.keepIn K (.ref f6) = true)
    (i6 : PySem.W.isFn K (.ref f6) = true)
    {od7 an7 : Option Addr} {sl7 : Array (Option Value)} {oc7 kV7 dc7 pm7 cd7 ct7 : Value} {f7 : Addr}
    (a7 : PySem.W.findIn K (.ref C_Walk) "answer" = some (some (.ref f7)))
    (l7 : K.lookup f7 = some ⟨oc7, od7, .func (PySem.W.fnOf "answer" "Run.answer" (defArgs s_Run_answer) (defBody s_Run_answer) (defScope s_Run_answer) .none kV7 dc7 pm7 an7 cd7 ct7), sl7⟩) (c7 : PySem.W.codeIn K cd7 "Run.answer" = true) (k7 : PySem.W.keepIn K (.ref f7) = true)
    (i7 : PySem.W.isFn K (.ref f7) = true)
    {od8 an8 : Option Addr} {sl8 : Array (Option Value)} {oc8 kV8 dc8 pm8 cd8 ct8 : Value} {f8 : Addr}
    (a8 : PySem.W.findIn K (.ref C_Walk) "ended" = some (some (.ref f8)))
    (l8 : K.lookup f8 = some ⟨oc8, od8, .func (PySem.W.fnOf "ended" "Run.ended" (defArgs s_Run_ended) (defBody s_Run_ended) (defScope s_Run_ended) .none kV8 dc8 pm8 an8 cd8 ct8), sl8⟩) (c8 : PySem.W.codeIn K cd8 "Run.ended" = true) (k8 : PySem.W.keepIn K (.ref f8) = true)
    (i8 : PySem.W.isFn K (.ref f8) = true)
    {od9 an9 : Option Addr} {sl9 : Array (Option Value)} {oc9 kV9 dc9 pm9 cd9 ct9 : Value} {f9 : Addr}
    (a9 : PySem.W.findIn K (.ref C_Walk) "go_on" = some (some (.ref f9)))
    (l9 : K.lookup f9 = some ⟨oc9, od9, .func (PySem.W.fnOf "go_on" "Walk.go_on" (defArgs s_Walk_go_on) (defBody s_Walk_go_on) (defScope s_Walk_go_on) .none kV9 dc9 pm9 an9 cd9 ct9), sl9⟩) (c9 : PySem.W.codeIn K cd9 "Walk.go_on" = true) (k9 : PySem.W.keepIn K (.ref f9) = true)
    (i9 : PySem.W.isFn K (.ref f9) = true)
    {od10 an10 : Option Addr} {sl10 : Array (Option Value)} {oc10 kV10 dc10 pm10 cd10 ct10 : Value} {f10 : Addr}
    (a10 : PySem.W.nsIn K mainGlobals "sets" = some (some (.ref f10)))
    (l10 : K.lookup f10 = some ⟨oc10, od10, .func (PySem.W.fnOf "sets" "sets" (defArgs s_p_sets) (defBody s_p_sets) (defScope s_p_sets) .none kV10 dc10 pm10 an10 cd10 ct10), sl10⟩) (c10 : PySem.W.codeIn K cd10 "sets" = true) (k10 : PySem.W.keepIn K (.ref f10) = true)
    {od11 an11 : Option Addr} {sl11 : Array (Option Value)} {oc11 kV11 dc11 pm11 cd11 ct11 : Value} {f11 : Addr}
    (a11 : PySem.W.findIn K (.ref C_Walk) "leave" = some (some (.ref f11)))
    (l11 : K.lookup f11 = some ⟨oc11, od11, .func (PySem.W.fnOf "leave" "Walk.leave" (defArgs s_Walk_leave) (defBody s_Walk_leave) (defScope s_Walk_leave) .none kV11 dc11 pm11 an11 cd11 ct11), sl11⟩) (c11 : PySem.W.codeIn K cd11 "Walk.leave" = true) (k11 : PySem.W.keepIn K (.ref f11) = true)
    (i11 : PySem.W.isFn K (.ref f11) = true)
    {od12 an12 : Option Addr} {sl12 : Array (Option Value)} {oc12 kV12 dc12 pm12 cd12 ct12 : Value} {f12 : Addr}
    (a12 : PySem.W.nsIn K mainGlobals "unbounded" = some (some (.ref f12)))
    (l12 : K.lookup f12 = some ⟨oc12, od12, .func (PySem.W.fnOf "unbounded" "unbounded" (defArgs s_p_unbounded) (defBody s_p_unbounded) (defScope s_p_unbounded) .none kV12 dc12 pm12 an12 cd12 ct12), sl12⟩) (c12 : PySem.W.codeIn K cd12 "unbounded" = true) (k12 : PySem.W.keepIn K (.ref f12) = true)
    {od13 an13 : Option Addr} {sl13 : Array (Option Value)} {oc13 kV13 dc13 pm13 cd13 ct13 : Value} {f13 : Addr}
    (a13 : PySem.W.nsIn K mainGlobals "worth" = some (some (.ref f13)))
    (l13 : K.lookup f13 = some ⟨oc13, od13, .func (PySem.W.fnOf "worth" "worth" (defArgs s_p_worth) (defBody s_p_worth) (defScope s_p_worth) .none kV13 dc13 pm13 an13 cd13 ct13), sl13⟩) (c13 : PySem.W.codeIn K cd13 "worth" = true) (k13 : PySem.W.keepIn K (.ref f13) = true)
    {od14 an14 : Option Addr} {sl14 : Array (Option Value)} {oc14 kV14 dc14 pm14 cd14 ct14 : Value} {f14 : Addr}
    (a14 : PySem.W.findIn K (.ref C_Walk) "work" = some (some (.ref f14)))
    (l14 : K.lookup f14 = some ⟨oc14, od14, .func (PySem.W.fnOf "work" "Walk.work" (defArgs s_Walk_work) (defBody s_Walk_work) (defScope s_Walk_work) .none kV14 dc14 pm14 an14 cd14 ct14), sl14⟩) (c14 : PySem.W.codeIn K cd14 "Walk.work" = true) (k14 : PySem.W.keepIn K (.ref f14) = true)
    (i14 : PySem.W.isFn K (.ref f14) = true)
    {od15 an15 : Option Addr} {sl15 : Array (Option Value)} {oc15 kV15 dc15 pm15 cd15 ct15 : Value} {f15 : Addr}
    (a15 : PySem.W.nsIn K mainGlobals "reads" = some (some (.ref f15)))
    (l15 : K.lookup f15 = some ⟨oc15, od15, .func (PySem.W.fnOf "reads" "reads" (defArgs s_p_reads) (defBody s_p_reads) (defScope s_p_reads) .none kV15 dc15 pm15 an15 cd15 ct15), sl15⟩) (c15 : PySem.W.codeIn K cd15 "reads" = true) (k15 : PySem.W.keepIn K (.ref f15) = true)
    {od16 an16 : Option Addr} {sl16 : Array (Option Value)} {oc16 kV16 dc16 pm16 cd16 ct16 : Value} {f16 : Addr}
    (a16 : PySem.W.findIn K (.ref C_Walk) "step" = some (some (.ref f16)))
    (l16 : K.lookup f16 = some ⟨oc16, od16, .func (PySem.W.fnOf "step" "Walk.step" (defArgs s_Walk_step) (defBody s_Walk_step) (defScope s_Walk_step) .none kV16 dc16 pm16 an16 cd16 ct16), sl16⟩) (c16 : PySem.W.codeIn K cd16 "Walk.step" = true) (k16 : PySem.W.keepIn K (.ref f16) = true)
    (i16 : PySem.W.isFn K (.ref f16) = true)
    {od17 an17 : Option Addr} {sl17 : Array (Option Value)} {oc17 kV17 dc17 pm17 cd17 ct17 : Value} {f17 : Addr}
    (a17 : PySem.W.nsIn K mainGlobals "stepped" = some (some (.ref f17)))
    (l17 : K.lookup f17 = some ⟨oc17, od17, .func (PySem.W.fnOf "stepped" "stepped" (defArgs s_p_stepped) (defBody s_p_stepped) (defScope s_p_stepped) .none kV17 dc17 pm17 an17 cd17 ct17), sl17⟩) (c17 : PySem.W.codeIn K cd17 "stepped" = true) (k17 : PySem.W.keepIn K (.ref f17) = true)
    {od18 an18 : Option Addr} {sl18 : Array (Option Value)} {oc18 kV18 dc18 pm18 cd18 ct18 : Value} {f18 : Addr}
    {dt18_0 : Tok}
    {T18 : Addr} {ocT18 : Value} {odT18 : Option Addr} {nT18 : Nat} {slT18 : Array (Option Value)}
    (a18 : PySem.W.nsIn K mainGlobals "run" = some (some (.ref f18)))
    (l18 : K.lookup f18 = some ⟨oc18, od18, .func (PySem.W.fnOf "run" "run" (defArgs s_p_run) (defBody s_p_run) (defScope s_p_run) (.ref T18) kV18 dc18 pm18 an18 cd18 ct18), sl18⟩) (c18 : PySem.W.codeIn K cd18 "run" = true) (k18 : PySem.W.keepIn K (.ref f18) = true)
    (t18 : K.lookup T18 = some ⟨ocT18, odT18, .seq #[(Value.int 400 dt18_0)] nT18, slT18⟩)
    {od19 an19 : Option Addr} {sl19 : Array (Option Value)} {oc19 kV19 dc19 pm19 cd19 ct19 : Value} {f19 : Addr}
    (a19 : PySem.W.nsIn K mainGlobals "_law_right" = some (some (.ref f19)))
    (l19 : K.lookup f19 = some ⟨oc19, od19, .func (PySem.W.fnOf "_law_right" "_law_right" (defArgs s_right) (defBody s_right) (defScope s_right) .none kV19 dc19 pm19 an19 cd19 ct19), sl19⟩) (c19 : PySem.W.codeIn K cd19 "_law_right" = true) (k19 : PySem.W.keepIn K (.ref f19) = true)
    {od20 an20 : Option Addr} {sl20 : Array (Option Value)} {oc20 kV20 dc20 pm20 cd20 ct20 : Value} {f20 : Addr}
    (a20 : PySem.W.nsIn K mainGlobals "_law_draw" = some (some (.ref f20)))
    (l20 : K.lookup f20 = some ⟨oc20, od20, .func (PySem.W.fnOf "_law_draw" "_law_draw" (defArgs s_draw) (defBody s_draw) (defScope s_draw) .none kV20 dc20 pm20 an20 cd20 ct20), sl20⟩) (c20 : PySem.W.codeIn K cd20 "_law_draw" = true) (k20 : PySem.W.keepIn K (.ref f20) = true)
    {od21 an21 : Option Addr} {sl21 : Array (Option Value)} {oc21 kV21 dc21 pm21 cd21 ct21 : Value} {f21 : Addr}
    (a21 : PySem.W.nsIn K mainGlobals "_law_loop" = some (some (.ref f21)))
    (l21 : K.lookup f21 = some ⟨oc21, od21, .func (PySem.W.fnOf "_law_loop" "_law_loop" (defArgs s_loop) (defBody s_loop) (defScope s_loop) .none kV21 dc21 pm21 an21 cd21 ct21), sl21⟩) (c21 : PySem.W.codeIn K cd21 "_law_loop" = true) (k21 : PySem.W.keepIn K (.ref f21) = true)
    {od22 an22 : Option Addr} {sl22 : Array (Option Value)} {oc22 kV22 dc22 pm22 cd22 ct22 : Value} {f22 : Addr}
    (a22 : PySem.W.nsIn K mainGlobals "_law_self" = some (some (.ref f22)))
    (l22 : K.lookup f22 = some ⟨oc22, od22, .func (PySem.W.fnOf "_law_self" "_law_self" (defArgs s_self) (defBody s_self) (defScope s_self) .none kV22 dc22 pm22 an22 cd22 ct22), sl22⟩) (c22 : PySem.W.codeIn K cd22 "_law_self" = true) (k22 : PySem.W.keepIn K (.ref f22) = true)
    {od23 an23 : Option Addr} {sl23 : Array (Option Value)} {oc23 kV23 dc23 pm23 cd23 ct23 : Value} {f23 : Addr}
    (a23 : PySem.W.nsIn K mainGlobals "_law_worth" = some (some (.ref f23)))
    (l23 : K.lookup f23 = some ⟨oc23, od23, .func (PySem.W.fnOf "_law_worth" "_law_worth" (defArgs s_worth) (defBody s_worth) (defScope s_worth) .none kV23 dc23 pm23 an23 cd23 ct23), sl23⟩) (c23 : PySem.W.codeIn K cd23 "_law_worth" = true) (k23 : PySem.W.keepIn K (.ref f23) = true)
    {od24 an24 : Option Addr} {sl24 : Array (Option Value)} {oc24 kV24 dc24 pm24 cd24 ct24 : Value} {f24 : Addr}
    (a24 : PySem.W.nsIn K mainGlobals "_law_names" = some (some (.ref f24)))
    (l24 : K.lookup f24 = some ⟨oc24, od24, .func (PySem.W.fnOf "_law_names" "_law_names" (defArgs s_names) (defBody s_names) (defScope s_names) .none kV24 dc24 pm24 an24 cd24 ct24), sl24⟩) (c24 : PySem.W.codeIn K cd24 "_law_names" = true) (k24 : PySem.W.keepIn K (.ref f24) = true)
    {od25 an25 : Option Addr} {sl25 : Array (Option Value)} {oc25 kV25 dc25 pm25 cd25 ct25 : Value} {f25 : Addr}
    (a25 : PySem.W.nsIn K mainGlobals "law" = some (some (.ref f25)))
    (l25 : K.lookup f25 = some ⟨oc25, od25, .func (PySem.W.fnOf "law" "law" (defArgs s_law) (defBody s_law) (defScope s_law) .none kV25 dc25 pm25 an25 cd25 ct25), sl25⟩) (c25 : PySem.W.codeIn K cd25 "law" = true) (k25 : PySem.W.keepIn K (.ref f25) = true)
    (z_len : PySem.W.nsIn K mainGlobals "len" = some none) (z_range : PySem.W.nsIn K mainGlobals "range" = some none) (z_divmod : PySem.W.nsIn K mainGlobals "divmod" = some none) (z_max : PySem.W.nsIn K mainGlobals "max" = some none) (z_min : PySem.W.nsIn K mainGlobals "min" = some none) (z_sum : PySem.W.nsIn K mainGlobals "sum" = some none) (z_all : PySem.W.nsIn K mainGlobals "all" = some none) (z_isinstance : PySem.W.nsIn K mainGlobals "isinstance" = some none) (z_int : PySem.W.nsIn K mainGlobals "int" = some none) (z_bool : PySem.W.nsIn K mainGlobals "bool" = some none) (z_list : PySem.W.nsIn K mainGlobals "list" = some none) (z_tuple : PySem.W.nsIn K mainGlobals "tuple" = some none) (z_enumerate : PySem.W.nsIn K mainGlobals "enumerate" = some none) (z_zip : PySem.W.nsIn K mainGlobals "zip" = some none) (z_sorted : PySem.W.nsIn K mainGlobals "sorted" = some none) (z_set : PySem.W.nsIn K mainGlobals "set" = some none) (z_dict : PySem.W.nsIn K mainGlobals "dict" = some none) (z_str : PySem.W.nsIn K mainGlobals "str" = some none) (z_any : PySem.W.nsIn K mainGlobals "any" = some none) (z_reversed : PySem.W.nsIn K mainGlobals "reversed" = some none) (z_abs : PySem.W.nsIn K mainGlobals "abs" = some none) :
    ∃ fd : FuncData, (∀ (s : Shared) (v : Value), BindsTo s fd ⟨[v], []⟩ [("_law_script", v)]) ∧ ∀ base : Heap, K.In base → base.Ns mainGlobals mg → FnOk l.prog w K mg base CX0 K_law fa fd PS_law (sp_law K) := by
  have e := hfa.symm.trans (PySem.W.mg_of X G a25)
  cases e
  have B : Blt mg := ⟨PySem.W.mg_none_of X G z_len, PySem.W.mg_none_of X G z_range, PySem.W.mg_none_of X G z_divmod, PySem.W.mg_none_of X G z_max, PySem.W.mg_none_of X G z_min, PySem.W.mg_none_of X G z_sum, PySem.W.mg_none_of X G z_all, PySem.W.mg_none_of X G z_isinstance, PySem.W.mg_none_of X G z_int, PySem.W.mg_none_of X G z_bool, PySem.W.mg_none_of X G z_list, PySem.W.mg_none_of X G z_tuple, PySem.W.mg_none_of X G z_enumerate, PySem.W.mg_none_of X G z_zip, PySem.W.mg_none_of X G z_sorted, PySem.W.mg_none_of X G z_set, PySem.W.mg_none_of X G z_dict, PySem.W.mg_none_of X G z_str, PySem.W.mg_none_of X G z_any, PySem.W.mg_none_of X G z_reversed, PySem.W.mg_none_of X G z_abs⟩
  have eC_Run : clsAt K "Run" = C_Run := clsAt_of zc_Run
  have eC_Frame : clsAt K "Frame" = C_Frame := clsAt_of zc_Frame
  have cl_Frame : Cls K (clsAt K "Frame") := by rw [eC_Frame]; exact ⟨pg_Frame, hd_Frame, po_Frame, sa_Frame⟩
  have eC_Walk : clsAt K "Walk" = C_Walk := clsAt_of zc_Walk
  have cl_Walk : Cls K (clsAt K "Walk") := by rw [eC_Walk]; exact ⟨pg_Walk, hd_Walk, po_Walk, sa_Walk⟩
  have T : TxtW K := ⟨cl_Walk, cl_Frame, (by rw [eC_Walk]; exact no_0), (by rw [eC_Walk]; exact no_1), (by rw [eC_Walk]; exact no_2), (by rw [eC_Walk]; exact no_3), (by rw [eC_Frame]; exact no_4), (by rw [eC_Frame]; exact no_5), (by rw [eC_Frame]; exact no_6)⟩
  have F0 := fun_mk (st := s_Frame_init) l0 c0 k0
  have b0 := F0.binds (ps := PS_Frame_init) fun _ _ _ _ _ _ us hl => match us, hl with | [_, _, _, _], _ => rfl
  have F1 := fun_mk (st := s_p_goal) l1 c1 k1
  have b1 := F1.binds (ps := PS_p_goal) fun _ _ _ _ _ _ us hl => match us, hl with | [_], _ => rfl
  have F2 := fun_mk (st := s_p_stands) l2 c2 k2
  have b2 := F2.binds (ps := PS_p_stands) fun _ _ _ _ _ _ us hl => match us, hl with | [_, _], _ => rfl
  have F3 := fun_mk (st := s_Walk_enter) l3 c3 k3
  have b3 := F3.binds (ps := PS_Walk_enter) fun _ _ _ _ _ _ us hl => match us, hl with | [_, _, _], _ => rfl
  have F4 := fun_mk (st := s_Run_init) l4 c4 k4
  have b4 := F4.binds (ps := PS_Run_init) fun _ _ _ _ _ _ us hl => match us, hl with | [_], _ => rfl
  have F5 := fun_mk (st := s_Walk_init) l5 c5 k5
  have b5 := F5.binds (ps := PS_Walk_init) fun _ _ _ _ _ _ us hl => match us, hl with | [_, _, _, _], _ => rfl
  have F6 := fun_mk (st := s_Run_said) l6 c6 k6
  have b6 := F6.binds (ps := PS_Run_said) fun _ _ _ _ _ _ us hl => match us, hl with | [_], _ => rfl
  have F7 := fun_mk (st := s_Run_answer) l7 c7 k7
  have b7 := F7.binds (ps := PS_Run_answer) fun _ _ _ _ _ _ us hl => match us, hl with | [_], _ => rfl
  have F8 := fun_mk (st := s_Run_ended) l8 c8 k8
  have b8 := F8.binds (ps := PS_Run_ended) fun _ _ _ _ _ _ us hl => match us, hl with | [_], _ => rfl
  have F9 := fun_mk (st := s_Walk_go_on) l9 c9 k9
  have b9 := F9.binds (ps := PS_Walk_go_on) fun _ _ _ _ _ _ us hl => match us, hl with | [_, _, _], _ => rfl
  have F10 := fun_mk (st := s_p_sets) l10 c10 k10
  have b10 := F10.binds (ps := PS_p_sets) fun _ _ _ _ _ _ us hl => match us, hl with | [_], _ => rfl
  have F11 := fun_mk (st := s_Walk_leave) l11 c11 k11
  have b11 := F11.binds (ps := PS_Walk_leave) fun _ _ _ _ _ _ us hl => match us, hl with | [_, _], _ => rfl
  have F12 := fun_mk (st := s_p_unbounded) l12 c12 k12
  have b12 := F12.binds (ps := PS_p_unbounded) fun _ _ _ _ _ _ us hl => match us, hl with | [_, _, _], _ => rfl
  have F13 := fun_mk (st := s_p_worth) l13 c13 k13
  have b13 := F13.binds (ps := PS_p_worth) fun _ _ _ _ _ _ us hl => match us, hl with | [_, _, _], _ => rfl
  have F14 := fun_mk (st := s_Walk_work) l14 c14 k14
  have b14 := F14.binds (ps := PS_Walk_work) fun _ _ _ _ _ _ us hl => match us, hl with | [_, _, _, _], _ => rfl
  have F15 := fun_mk (st := s_p_reads) l15 c15 k15
  have b15 := F15.binds (ps := PS_p_reads) fun _ _ _ _ _ _ us hl => match us, hl with | [_], _ => rfl
  have F16 := fun_mk (st := s_Walk_step) l16 c16 k16
  have b16 := F16.binds (ps := PS_Walk_step) fun _ _ _ _ _ _ us hl => match us, hl with | [_], _ => rfl
  have F17 := fun_mk (st := s_p_stepped) l17 c17 k17
  have b17 := F17.binds (ps := PS_p_stepped) fun _ _ _ _ _ _ us hl => match us, hl with | [_, _], _ => rfl
  have F18 := funD_mk (st := s_p_run) l18 c18 k18
  have F19 := fun_mk (st := s_right) l19 c19 k19
  have b19 := F19.binds (ps := PS_right) fun _ _ _ _ _ _ us hl => match us, hl with | [_, _, _, _, _, _, _], _ => rfl
  have F20 := fun_mk (st := s_draw) l20 c20 k20
  have b20 := F20.binds (ps := PS_draw) fun _ _ _ _ _ _ us hl => match us, hl with | [_, _], _ => rfl
  have F21 := fun_mk (st := s_loop) l21 c21 k21
  have b21 := F21.binds (ps := PS_loop) fun _ _ _ _ _ _ us hl => match us, hl with | [_, _, _], _ => rfl
  have F22 := fun_mk (st := s_self) l22 c22 k22
  have b22 := F22.binds (ps := PS_self) fun _ _ _ _ _ _ us hl => match us, hl with | [_], _ => rfl
  have F23 := fun_mk (st := s_worth) l23 c23 k23
  have b23 := F23.binds (ps := PS_worth) fun _ _ _ _ _ _ us hl => match us, hl with | [_], _ => rfl
  have F24 := fun_mk (st := s_names) l24 c24 k24
  have b24 := F24.binds (ps := PS_names) fun _ _ _ _ _ _ us hl => match us, hl with | [_, _], _ => rfl
  have F25 := fun_mk (st := s_law) l25 c25 k25
  refine ⟨PySem.W.fnOf "law" "law" (defArgs s_law) (defBody s_law) (defScope s_law) .none kV25 dc25 pm25 an25 cd25 ct25, fun s v => .of_eq rfl, fun base _ _ => ?_⟩
  have mk_Frame : MakeOk l.prog w K mg base "Frame" (clsAt K "Frame") PS_Frame_init K_Frame_init (sp_Frame_init K) := ⟨⟨f0, _, PySem.W.mg_of X G zc_Frame |>.trans (by rw [eC_Frame]), by rw [eC_Frame]; exact ⟨ma_Frame, a0, i0, kp_Frame⟩, b0, ok_Frame_init F0 B T⟩⟩
  have c_p_goal : Callee l.prog w K mg base "goal" PS_p_goal K_p_goal (sp_p_goal K) := ⟨⟨_, _, PySem.W.mg_of X G a1, k1, b1, ok_p_goal F1 B⟩⟩
  have c_p_stands : Callee l.prog w K mg base "stands" PS_p_stands K_p_stands (sp_p_stands K) := ⟨⟨_, _, PySem.W.mg_of X G a2, k2, b2, ok_p_stands F2 B c_p_goal⟩⟩
  have m_Walk_enter : MethOk l.prog w K mg base (clsAt K "Walk") "enter" PS_Walk_enter K_Walk_enter (sp_Walk_enter K) := ⟨⟨f3, _, by rw [eC_Walk]; exact ⟨a3, i3, k3⟩, b3, ok_Walk_enter F3 B T mk_Frame c_p_stands⟩⟩
  have b_Run_init : BaseOk l.prog w K mg base "Run" (clsAt K "Run") "__init__" PS_Run_init K_Run_init (sp_Run_init K) := ⟨⟨f4, _, PySem.W.mg_of X G zc_Run |>.trans (by rw [eC_Run]), by rw [eC_Run]; exact hg_Run, by rw [eC_Run]; exact rd_Run, by rw [eC_Run]; exact a4, k4, b4, ok_Run_init F4 B⟩⟩
  have mk_Walk : MakeOk l.prog w K mg base "Walk" (clsAt K "Walk") PS_Walk_init K_Walk_init (sp_Walk_init K) := ⟨⟨f5, _, PySem.W.mg_of X G zc_Walk |>.trans (by rw [eC_Walk]), by rw [eC_Walk]; exact ⟨ma_Walk, a5, i5, kp_Walk⟩, b5, ok_Walk_init F5 B T cl_Walk m_Walk_enter b_Run_init⟩⟩
  have m_Walk_said : MethOk l.prog w K mg base (clsAt K "Walk") "said" PS_Run_said K_Run_said (sp_Run_said K) := ⟨⟨f6, _, by rw [eC_Walk]; exact ⟨a6, i6, k6⟩, b6, ok_Run_said F6 B⟩⟩
  have m_Walk_answer : MethOk l.prog w K mg base (clsAt K "Walk") "answer" PS_Run_answer K_Run_answer (sp_Run_answer K) := ⟨⟨f7, _, by rw [eC_Walk]; exact ⟨a7, i7, k7⟩, b7, ok_Run_answer F7 B⟩⟩
  have m_Walk_ended : MethOk l.prog w K mg base (clsAt K "Walk") "ended" PS_Run_ended K_Run_ended (sp_Run_ended K) := ⟨⟨f8, _, by rw [eC_Walk]; exact ⟨a8, i8, k8⟩, b8, ok_Run_ended F8 B⟩⟩
  have m_Walk_go_on : MethOk l.prog w K mg base (clsAt K "Walk") "go_on" PS_Walk_go_on K_Walk_go_on (sp_Walk_go_on K) := ⟨⟨f9, _, by rw [eC_Walk]; exact ⟨a9, i9, k9⟩, b9, ok_Walk_go_on F9 B T c_p_stands⟩⟩
  have c_p_sets : Callee l.prog w K mg base "sets" PS_p_sets K_p_sets (sp_p_sets K) := ⟨⟨_, _, PySem.W.mg_of X G a10, k10, b10, ok_p_sets F10 B⟩⟩
  have m_Walk_leave : MethOk l.prog w K mg base (clsAt K "Walk") "leave" PS_Walk_leave K_Walk_leave (sp_Walk_leave K) := ⟨⟨f11, _, by rw [eC_Walk]; exact ⟨a11, i11, k11⟩, b11, ok_Walk_leave F11 B T cl_Walk m_Walk_ended m_Walk_go_on c_p_sets⟩⟩
  have c_p_unbounded : Callee l.prog w K mg base "unbounded" PS_p_unbounded K_p_unbounded (sp_p_unbounded K) := ⟨⟨_, _, PySem.W.mg_of X G a12, k12, b12, ok_p_unbounded F12 B⟩⟩
  have c_p_worth : Callee l.prog w K mg base "worth" PS_p_worth K_p_worth (sp_p_worth K) := ⟨⟨_, _, PySem.W.mg_of X G a13, k13, b13, ok_p_worth F13 B c_p_unbounded⟩⟩
  have m_Walk_work : MethOk l.prog w K mg base (clsAt K "Walk") "work" PS_Walk_work K_Walk_work (sp_Walk_work K) := ⟨⟨f14, _, by rw [eC_Walk]; exact ⟨a14, i14, k14⟩, b14, ok_Walk_work F14 B T cl_Walk m_Walk_go_on c_p_worth c_p_goal⟩⟩
  have c_p_reads : Callee l.prog w K mg base "reads" PS_p_reads K_p_reads (sp_p_reads K) := ⟨⟨_, _, PySem.W.mg_of X G a15, k15, b15, ok_p_reads F15 B⟩⟩
  have m_Walk_step : MethOk l.prog w K mg base (clsAt K "Walk") "step" PS_Walk_step K_Walk_step (sp_Walk_step K) := ⟨⟨f16, _, by rw [eC_Walk]; exact ⟨a16, i16, k16⟩, b16, ok_Walk_step F16 B T cl_Walk m_Walk_enter m_Walk_leave m_Walk_work m_Walk_ended c_p_reads⟩⟩
  have c_p_stepped : Callee l.prog w K mg base "stepped" PS_p_stepped K_p_stepped (sp_p_stepped K) := ⟨⟨_, _, PySem.W.mg_of X G a17, k17, b17, ok_p_stepped F17 B T cl_Walk m_Walk_said m_Walk_answer m_Walk_ended m_Walk_step⟩⟩
  have b18_0 : Binds K _ PS_p_run [] := fun s us X hl => match us, (show us.length = 4 from by rw [List.append_nil] at hl; exact hl) with | [_, _, _, _], _ => PySem.W.binds_K (fd := PySem.W.fnOf "run" "run" (defArgs s_p_run) (defBody s_p_run) (defScope s_p_run) (.ref T18) kV18 dc18 pm18 an18 cd18 ct18) X rfl t18 rfl rfl rfl
  have c_p_run : Callee l.prog w K mg base "run" PS_p_run K_p_run (sp_p_run K) := ⟨⟨_, _, PySem.W.mg_of X G a18, k18, b18_0, ok_p_run F18 B T mk_Walk c_p_stepped⟩⟩
  have c_right : Callee l.prog w K mg base "_law_right" PS_right K_right (sp_right K) := ⟨⟨_, _, PySem.W.mg_of X G a19, k19, b19, ok_right F19 B c_p_run⟩⟩
  have c_draw : Callee l.prog w K mg base "_law_draw" PS_draw K_draw (sp_draw K) := ⟨⟨_, _, PySem.W.mg_of X G a20, k20, b20, ok_draw F20 B⟩⟩
  have c_loop : Callee l.prog w K mg base "_law_loop" PS_loop K_loop (sp_loop K) := ⟨⟨_, _, PySem.W.mg_of X G a21, k21, b21, ok_loop F21 B⟩⟩
  have c_self : Callee l.prog w K mg base "_law_self" PS_self K_self (sp_self K) := ⟨⟨_, _, PySem.W.mg_of X G a22, k22, b22, ok_self F22 B⟩⟩
  have c_worth : Callee l.prog w K mg base "_law_worth" PS_worth K_worth (sp_worth K) := ⟨⟨_, _, PySem.W.mg_of X G a23, k23, b23, ok_worth F23 B c_draw⟩⟩
  have c_names : Callee l.prog w K mg base "_law_names" PS_names K_names (sp_names K) := ⟨⟨_, _, PySem.W.mg_of X G a24, k24, b24, ok_names F24 B c_draw⟩⟩
  exact ok_law F25 B c_right c_draw c_p_run c_loop c_self c_worth c_names
theorem scr_of {K : PySem.W.Frag} {H : Hp} {a : Addr} {ns : List Int} (o : Only H) (h : SqL K H a (ns.map V.int)) : ScrAt K H a ns := by
  rcases h with (h | h) | h
  · rcases o a with z | ⟨ob, xs, z⟩ <;> rw [h] at z <;> cases z
  · exact .inl h
  · exact .inr h
theorem walk {l : PySem.W.OpenLaw} {q : Program} {loose : List Str} {XP : (Str → Option Value) → Heap → Prop} {YP : World → Heap → Prop} {d : DefRec} {K : Params → PySem.W.Frag} (hn : l.most = some 63) (hdf : d.params.defaults = [])
    (hY : ∀ (w : World) (h : Heap), YP w h → (K w.params).In h)
    (F : ∀ (w : World) (mg : Str → Option Value) (fa : Addr) (h : Heap), (K w.params).In h → h.Ns mainGlobals mg → mg d.name = some (.ref fa) →
      ∃ fd : FuncData, (∀ (s : Shared) (u : Value), BindsTo s fd ⟨[u], []⟩ [("_law_script", u)]) ∧ ∀ base : Heap, (K w.params).In base → base.Ns mainGlobals mg → FnOk l.prog w (K w.params) mg base CX0 K_law fa fd PS_law (sp_law (K w.params))) :
    PySem.W.WalkO q loose XP YP l.row.toRowW d [] (fun f vs => PySem.call f vs) :=
  L2.walk_of (n := 63) (k := K_law) (x := "_law_script") (CX := fun _ => CX0) (sp := fun w => sp_law (K w.params)) hn (by decide) hdf ⟨rfl, by decide, by decide⟩ hY F (fun _ _ a ns hl hO hS => ⟨a, ns, rfl, scr_of hO hS, hl, fun _ => rfl⟩) fun _ _ _ _ _ z => z
end Bg
open PySem PySem.W PyProof.Rows
set_option maxRecDepth 100000 in
set_option maxHeartbeats 0 in
theorem PySem.Challenge.cw_beltgarth_k33_loops_and_calls_of_themsel_holds : PySem.Challenge.rw_beltgarth_k33_loops_and_calls_of_themsel.Holds := by
  w_on; o_law; k_head; (case hw => w_witness2)
  k_fill
  refine Bg.walk (l := PySem.Challenge.rw_beltgarth_k33_loops_and_calls_of_themsel) rfl rfl (fun w h Y => PySem.W.kIn_of Y) ?F
  case F =>
    intro w mg fa h KX G hmg
    refine' Bg.all_mk KX G hmg ?zc_Frame ?pg_Frame ?hd_Frame ?po_Frame ?sa_Frame ?ma_Frame ?kp_Frame ?zc_Walk ?pg_Walk ?hd_Walk ?po_Walk ?sa_Walk ?ma_Walk ?kp_Walk ?zc_Run ?hg_Run ?rd_Run ?no_0 ?no_1 ?no_2 ?no_3 ?no_4 ?no_5 ?no_6 ?a0 ?l0 ?c0 ?k0 ?i0 ?a1 ?l1 ?c1 ?k1 ?a2 ?l2 ?c2 ?k2 ?a3 ?l3 ?c3 ?k3 ?i3 ?a4 ?l4 ?c4 ?k4 ?i4 ?a5 ?l5 ?c5 ?k5 ?i5 ?a6 ?l6 ?c6 ?k6 ?i6 ?a7 ?l7 ?c7 ?k7 ?i7 ?a8 ?l8 ?c8 ?k8 ?i8 ?a9 ?l9 ?c9 ?k9 ?i9 ?a10 ?l10 ?c10 ?k10 ?a11 ?l11 ?c11 ?k11 ?i11 ?a12 ?l12 ?c12 ?k12 ?a13 ?l13 ?c13 ?k13 ?a14 ?l14 ?c14 ?k14 ?i14 ?a15 ?l15 ?c15 ?k15 ?a16 ?l16 ?c16 ?k16 ?i16 ?a17 ?l17 ?c17 ?k17 ?a18 ?l18 ?c18 ?k18 ?t18 ?a19 ?l19 ?c19 ?k19 ?a20 ?l20 ?c20 ?k20 ?a21 ?l21 ?c21 ?k21 ?a22 ?l22 ?c22 ?k22 ?a23 ?l23 ?c23 ?k23 ?a24 ?l24 ?c24 ?k24 ?a25 ?l25 ?c25 ?k25 ?z_len ?z_range ?z_divmod ?z_max ?z_min ?z_sum ?z_all ?z_isinstance ?z_int ?z_bool ?z_list ?z_tuple ?z_enumerate ?z_zip ?z_sorted ?z_set ?z_dict ?z_str ?z_any ?z_reversed ?z_abs
    (case zc_Frame => k_is)
    (case pg_Frame => k_is)
    (case hd_Frame => k_is)
    (case po_Frame => k_is)
    (case sa_Frame => k_is)
    (case ma_Frame => k_is)
    (case kp_Frame => k_is)
    (case zc_Walk => k_is)
    (case pg_Walk => k_is)
    (case hd_Walk => k_is)
    (case po_Walk => k_is)
    (case sa_Walk => k_is)
    (case ma_Walk => k_is)
    (case kp_Walk => k_is)
    (case zc_Run => k_is)
    (case hg_Run => k_is)
    (case rd_Run => k_is)
    (case no_0 => k_is)
    (case no_1 => k_is)
    (case no_2 => k_is)
    (case no_3 => k_is)
    (case no_4 => k_is)
    (case no_5 => k_is)
    (case no_6 => k_is)
    (case a0 => k_is)
    (case l0 => k_is)
    (case c0 => k_is)
    (case k0 => k_is)
    (case i0 => k_is)
    (case a1 => k_is)
    (case l1 => k_is)
    (case c1 => k_is)
    (case k1 => k_is)
    (case a2 => k_is)
    (case l2 => k_is)
    (case c2 => k_is)
    (case k2 => k_is)
    (case a3 => k_is)
    (case l3 => k_is)
    (case c3 => k_is)
    (case k3 => k_is)
    (case i3 => k_is)
    (case a4 => k_is)
    (case l4 => k_is)
    (case c4 => k_is)
    (case k4 => k_is)
    (case i4 => k_is)
    (case a5 => k_is)
    (case l5 => k_is)
    (case c5 => k_is)
    (case k5 => k_is)
    (case i5 => k_is)
    (case a6 => k_is)
    (case l6 => k_is)
    (case c6 => k_is)
    (case k6 => k_is)
    (case i6 => k_is)
    (case a7 => k_is)
    (case l7 => k_is)
    (case c7 => k_is)
    (case k7 => k_is)
    (case i7 => k_is)
    (case a8 => k_is)
    (case l8 => k_is)
    (case c8 => k_is)
    (case k8 => k_is)
    (case i8 => k_is)
    (case a9 => k_is)
    (case l9 => k_is)
    (case c9 => k_is)
    (case k9 => k_is)
    (case i9 => k_is)
    (case a10 => k_is)
    (case l10 => k_is)
    (case c10 => k_is)
    (case k10 => k_is)
    (case a11 => k_is)
    (case l11 => k_is)
    (case c11 => k_is)
    (case k11 => k_is)
    (case i11 => k_is)
    (case a12 => k_is)
    (case l12 => k_is)
    (case c12 => k_is)
    (case k12 => k_is)
    (case a13 => k_is)
    (case l13 => k_is)
    (case c13 => k_is)
    (case k13 => k_is)
    (case a14 => k_is)
    (case l14 => k_is)
    (case c14 => k_is)
    (case k14 => k_is)
    (case i14 => k_is)
    (case a15 => k_is)
    (case l15 => k_is)
    (case c15 => k_is)
    (case k15 => k_is)
    (case a16 => k_is)
    (case l16 => k_is)
    (case c16 => k_is)
    (case k16 => k_is)
    (case i16 => k_is)
    (case a17 => k_is)
    (case l17 => k_is)
    (case c17 => k_is)
    (case k17 => k_is)
    (case a18 => k_is)
    (case l18 => k_is)
    (case c18 => k_is)
    (case k18 => k_is)
    (case t18 => k_is)
    (case a19 => k_is)
    (case l19 => k_is)
    (case c19 => k_is)
    (case k19 => k_is)
    (case a20 => k_is)
    (case l20 => k_is)
    (case c20 => k_is)
    (case k20 => k_is)
    (case a21 => k_is)
    (case l21 => k_is)
    (case c21 => k_is)
    (case k21 => k_is)
    (case a22 => k_is)
    (case l22 => k_is)
    (case c22 => k_is)
    (case k22 => k_is)
    (case a23 => k_is)
    (case l23 => k_is)
    (case c23 => k_is)
    (case k23 => k_is)
    (case a24 => k_is)
    (case l24 => k_is)
    (case c24 => k_is)
    (case k24 => k_is)
    (case a25 => k_is)
    (case l25 => k_is)
    (case c25 => k_is)
    (case k25 => k_is)
    (case z_len => k_is)
    (case z_range => k_is)
    (case z_divmod => k_is)
    (case z_max => k_is)
    (case z_min => k_is)
    (case z_sum => k_is)
    (case z_all => k_is)
    (case z_isinstance => k_is)
    (case z_int => k_is)
    (case z_bool => k_is)
    (case z_list => k_is)
    (case z_tuple => k_is)
    (case z_enumerate => k_is)
    (case z_zip => k_is)
    (case z_sorted => k_is)
    (case z_set => k_is)
    (case z_dict => k_is)
    (case z_str => k_is)
    (case z_any => k_is)
    (case z_reversed => k_is)
    (case z_abs => k_is)
