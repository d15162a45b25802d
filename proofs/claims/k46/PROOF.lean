import PyProof.Rows.All
import Wide.All
import OpenK.AllK
import Wide.FinOn
import Lean
import PyProof.EqAt
import PyProof.EqKinds
import PyProof.TupleCall
import PySem.Challenge.RW_beltgarth_k46_whole_budgets
section
set_option Elab.async false
set_option linter.all false
set_option maxRecDepth 100000
namespace L2
open PySem PySem.Spec PyProof.Rows
abbrev Key := Sum Int Str
def keyIs : Key → Value → Bool
  | .inl k, v => Value.isInt k v
  | .inr x, v => Value.isStrOf x v
def keyH (w : World) : Key → Int
  | .inl k => hashInt k
  | .inr x => hashStr w x
theorem keyIs_shape : ∀ {k : Key} {v : Value}, keyIs k v = true → (∃ i t, k = Sum.inl i ∧ v = Value.int i t) ∨ (∃ x t, k = Sum.inr x ∧ v = Value.str x t)
  | .inl i, v, h => by
    obtain ⟨t, e⟩ := Value.isInt_shape (k := i) (v := v) h
    exact .inl ⟨i, t, rfl, e⟩
  | .inr x, v, h => by
    obtain ⟨t, e⟩ := Value.isStrOf_shape (x := x) (v := v) h
    exact .inr ⟨x, t, rfl, e⟩
theorem key_ll (a b : Int) : decide ((Sum.inl a : Key) = Sum.inl b) = (a == b) := by
  by_cases e : a = b
  · subst e; simp
  · have h : ¬ (Sum.inl a : Key) = Sum.inl b := fun q => e (Sum.inl.inj q)
    rw [decide_eq_false h]
    exact (beq_eq_false_iff_ne.mpr e).symm
theorem key_rr (a b : Str) : decide ((Sum.inr a : Key) = Sum.inr b) = decide (a = b) := by
  by_cases e : a = b
  · subst e; simp
  · have h : ¬ (Sum.inr a : Key) = Sum.inr b := fun q => e (Sum.inr.inj q)
    rw [decide_eq_false h, decide_eq_false e]
theorem key_lr (a : Int) (b : Str) : decide ((Sum.inl a : Key) = Sum.inr b) = false := decide_eq_false (fun q => nomatch q)
theorem key_rl (a : Str) (b : Int) : decide ((Sum.inr a : Key) = Sum.inl b) = false := decide_eq_false (fun q => nomatch q)
def mixKind (prog : Program) (w : World) : PySem.KeyKind prog w Key where
  is := keyIs
  hash := keyH w
  inj := fun v a b ha hb => by
    rcases keyIs_shape ha with ⟨i, t, rfl, rfl⟩ | ⟨x, t, rfl, rfl⟩
    · rcases keyIs_shape hb with ⟨j, u, rfl, e⟩ | ⟨y, u, rfl, e⟩
      · injection e with e1 _; rw [e1]
      · exact nomatch e
    · rcases keyIs_shape hb with ⟨j, u, rfl, e⟩ | ⟨y, u, rfl, e⟩
      · exact nomatch e
      · injection e with e1 _; rw [e1]
  byValue := fun k v h => by
    rcases keyIs_shape h with ⟨i, t, rfl, rfl⟩ | ⟨x, t, rfl, rfl⟩ <;> rfl
  pyHash := fun hv h => by
    rcases keyIs_shape hv with ⟨i, t, rfl, rfl⟩ | ⟨x, t, rfl, rfl⟩
    · exact wpAny_pyHash_int h
    · exact wpAny_pyHash_str h
  eqBool := fun hu hv h => by
    rcases keyIs_shape hu with ⟨i, t, rfl, rfl⟩ | ⟨x, t, rfl, rfl⟩
    · rcases keyIs_shape hv with ⟨j, u, rfl, rfl⟩ | ⟨y, u, rfl, rfl⟩
      · rw [key_ll] at h; exact wpAny_eqBool_int h
      · rw [key_lr] at h; exact SeqAt.EqAt.int_str i t y u _ _ _ _ h
    · rcases keyIs_shape hv with ⟨j, u, rfl, rfl⟩ | ⟨y, u, rfl, rfl⟩
      · rw [key_rl] at h; exact SeqAt.EqAt.str_int x t j u _ _ _ _ h
      · rw [key_rr] at h; exact wpAny_eqBool_str h
  «strs» := fun k x t v h => by
    rcases keyIs_shape h with ⟨i, u, rfl, e⟩ | ⟨y, u, rfl, e⟩
    · exact nomatch e
    · injection e with e1 _
      subst e1
      cases v <;> rfl
end L2
namespace L2
open PySem PySem.Spec PyProof.Rows
inductive V where
  | non | bl (b : Bool) | int (i : Int) | str (x : Str) | byt (b : Array UInt8) | flt (b : UInt64) | ref (a : Addr) | ty (n : String)
  deriving DecidableEq
def RelV : V → Value → Prop
  | .non, u => u = Value.none
  | .bl b, u => u = Value.bool b
  | .int i, u => ∃ t, u = Value.int i t
  | .str x, u => ∃ t, u = Value.str x t
  | .byt b, u => ∃ t, u = Value.bytes b t
  | .flt b, u => ∃ t, u = Value.float b t
  | .ref a, u => u = Value.ref a
  | .ty n, u => u = Value.type n
abbrev Vals : List V → List Value → Prop := Paired RelV
theorem Vals.length {xs : List V} {us : List Value} (r : Vals xs us) : xs.length = us.length := Paired.length r
theorem Vals.get : ∀ {xs : List V} {us : List Value} {i : Nat} {x : V}, Vals xs us → xs[i]? = some x → ∃ u, us[i]? = some u ∧ RelV x u
  | _, _, _, _, .nil, e => by simp at e
  | _, _, 0, _, .cons r _, e => by simp at e; subst e; exact ⟨_, rfl, r⟩
  | _, _, i + 1, x, .cons _ t, e => by
    obtain ⟨u, h1, h2⟩ := Vals.get (i := i) (x := x) t (by simpa using e)
    exact ⟨u, by simpa using h1, h2⟩
theorem Vals.set {x : V} {u : Value} (r : RelV x u) : ∀ {xs : List V} {us : List Value} (i : Nat), Vals xs us → Vals (xs.set i x) (us.set i u)
  | _, _, _, .nil => .nil
  | _, _, 0, .cons _ t => .cons r t
  | _, _, i + 1, .cons q t => .cons q (Vals.set r i t)
theorem Vals.append : ∀ {xs ys : List V} {us ws : List Value}, Vals xs us → Vals ys ws → Vals (xs ++ ys) (us ++ ws)
  | _, _, _, _, .nil, s => s
  | _, _, _, _, .cons r t, s => .cons r (Vals.append t s)
theorem Vals.take : ∀ {xs : List V} {us : List Value} (n : Nat), Vals xs us → Vals (xs.take n) (us.take n)
  | _, _, 0, _ => .nil
  | _, _, _ + 1, .nil => .nil
  | _, _, n + 1, .cons r t => .cons r (Vals.take n t)
theorem Vals.drop : ∀ {xs : List V} {us : List Value} (n : Nat), Vals xs us → Vals (xs.drop n) (us.drop n)
  | _, _, 0, r => r
  | _, _, _ + 1, .nil => .nil
  | _, _, n + 1, .cons _ t => Vals.drop n t
def RelO : Option V → Option Value → Prop
  | some v, some u => RelV v u
  | none, none => True
  | _, _ => False
def KV {κ : Type} : List (κ × V) → List (κ × Value) → Prop := Paired fun (p : κ × V) (q : κ × Value) => p.1 = q.1 ∧ RelV p.2 q.2
def kV : Key → V
  | .inl i => .int i
  | .inr x => .str x
inductive HO where
  /-- a list -/
  | lst (xs : List V)
  /-- a tuple (never changes) -/
  | tup (xs : List V)
  /-- a dict whose keys are ints and texts; one whose keys are tuples of ints and texts (the empty one is both) -/
  | dK (kvs : List (Key × V)) | dT (kvs : List (List Key × V))
  /-- a set of ints: its members, its size -/
  | set (S : Int → Bool) (n : Nat)
  /-- an instance of the class at C, its dict at dx, its attributes -/
  | ins (C dx : Addr) (fs : List (Str × V))
  /-- the dict of the instance at x -/
  | own (x : Addr)
  /-- the dict of an exception -/
  | xd (fs : List (Str × V))
  /-- a bound method, f of x -/
  | met (f x : Addr)
  /-- a range object lo, lo + 1, .. below hi -/
  | rng (lo hi : Int)
  /-- a thing that is known to the object (the script; a dict while a loop walks it): read, never written while it is so -/
  | frz (o : Obj) (u : HO)
  /-- a code object's table -/
  | tbl (ps : Array Value)
  /-- any other thing, by what is true of its one object (a def of one's own: SetO a S n := HO.ext fun h => ..) -/
  | ext (φ : Heap → Prop)
abbrev Hp := Addr → Option HO
def upd (H : Hp) (a : Addr) (o : HO) : Hp := fun b => if b = a then some o else H b
theorem upd_same {H : Hp} {a : Addr} {o : HO} : upd H a o a = some o := by unfold upd; rw [if_pos rfl]
theorem upd_ne {H : Hp} {a b : Addr} {o : HO} (h : b ≠ a) : upd H a o b = H b := by unfold upd; rw [if_neg h]
theorem upd_upd {H : Hp} {a : Addr} {o u : HO} : upd (upd H a o) a u = upd H a u := by
  funext b; unfold upd; split <;> rfl
theorem ne_of {H : Hp} {a b : Addr} {o u : HO} (h : H a = some o) (h' : H b = some u) (d : o ≠ u) : a ≠ b := by
  intro e; subst e; rw [h] at h'; exact d (Option.some.inj h')
theorem ne_of_none {H : Hp} {a b : Addr} {o : HO} (h : H a = some o) (h' : H b = none) : a ≠ b := by
  intro e; subst e; rw [h] at h'; cases h'
def IsTupN (h : Heap) (a : Addr) (items : Array Value) : Prop := ∃ o, h.get? a = some o ∧ (o.cls = .type "tuple" ∧ o.dict = none) ∧ ∃ n, o.data = .seq items n
theorem IsTupN.tup {h : Heap} {a : Addr} {items : Array Value} (x : IsTupN h a items) : IsTup h a items := let ⟨o, e, c, n⟩ := x; ⟨o, e, c.1, n⟩
theorem IsTupN.lt {h : Heap} {a : Addr} {items : Array Value} (x : IsTupN h a items) : a < h.objs.size := let ⟨_, e, _⟩ := x; Heap.lt_size e
theorem IsTupN.new (h : Heap) (items : Array Value) : IsTupN (h.push { cls := .type "tuple", data := .seq items }) h.objs.size items := ⟨_, Heap.get?_push_size _ rfl, ⟨rfl, rfl⟩, _, rfl⟩
section
variable (P : Program) (w : World)
def ObjOk (H : Hp) (h : Heap) (a : Addr) : HO → Prop
  | .lst xs => xs.length ≤ sizeLine ∧ ∃ (its : List Value) (n : Nat), Vals xs its ∧ h.get? a = some { cls := .type "list", data := .seq its.toArray n }
  | .tup xs => xs.length ≤ sizeLine ∧ ∃ its : List Value, Vals xs its ∧ IsTupN h a its.toArray
  | .dK kvs => kvs.length ≤ sizeLine ∧ (a == sysModules) = false ∧ ∃ vs, KV kvs vs ∧ h.DictOf (mixKind P w) a vs
  | .dT kvs => kvs.length ≤ sizeLine ∧ (a == sysModules) = false ∧ ∃ xs : List (List Key × Addr × Value),
      Paired (fun (p : List Key × V) (q : List Key × Addr × Value) => p.1 = q.1 ∧ H q.2.1 = some (.tup (p.1.map kV)) ∧ RelV p.2 q.2.2) kvs xs ∧
      ∃ o es ep, h.get? a = some o ∧ o.ExactDict ∧ o.data = .dict es ep ∧ es.toList = xs.map (entryOfKey (tupleKind (mixKind P w))) ∧ (xs.map (·.1)).Nodup
  | .set S n => h.SetOf (intKind P w) a S n
  | .ins C dx fs => H dx = some (.own a) ∧ fs.length ≤ 1000 ∧ dx ≠ a ∧ h.get? a = some (PySem.W.instObj C dx) ∧
      ∃ mA, h.Ns1 dx mA ∧ (∀ f, RelO (fs.lookup f) (mA f)) ∧ PySem.Within mA (fs.map (·.1))
  | .own _ => ∃ o, h.get? a = some o
  | .xd fs => ∃ mA, h.Ns1 a mA ∧ ∀ f, RelO (fs.lookup f) (mA f)
  | .rng lo hi => ∃ t u v, h.get? a = some { cls := .type "range", data := .fields #[.int lo t, .int hi u, .int 1 v] }
  | .frz o u => h.get? a = some o ∧ ObjOk H h a u
  | .tbl ps => h.get? a = some { cls := .none, data := .fields ps }
  | .met f x => h.get? a = some (PySem.W.methodObj (.ref f) (.ref x))
  | .ext φ => φ h ∧ (∃ o, h.get? a = some o) ∧ ∀ h1 h2 : Heap, φ h1 → (∀ o, h1.get? a = some o → h2.get? a = some o) → φ h2
def HOk (H : Hp) (h : Heap) : Prop := ∀ a o, H a = some o → ObjOk P w H h a o
end
section
variable {P : Program} {w : World} {H H' : Hp} {h h' : Heap} {a : Addr} {o : HO}
theorem ObjOk.lt (x : ObjOk P w H h a o) : a < h.objs.size := by
  cases o with
  | lst xs => obtain ⟨_, _, _, _, e⟩ := x; exact Heap.lt_size e
  | tup xs => obtain ⟨_, _, _, p⟩ := x; exact p.lt
  | dK kvs => obtain ⟨_, _, _, _, o, _, _, e, _⟩ := x; exact Heap.lt_size e
  | dT kvs => obtain ⟨_, _, _, _, o, _, _, e, _⟩ := x; exact Heap.lt_size e
  | set S n => obtain ⟨o, _, _, _, e, _⟩ := x; exact Heap.lt_size e
  | ins C dx fs => obtain ⟨_, _, _, e, _⟩ := x; exact Heap.lt_size e
  | own y => obtain ⟨_, e⟩ := x; exact Heap.lt_size e
  | xd fs => obtain ⟨_, ⟨_, _, _, e, _⟩, _⟩ := x; exact Heap.lt_size e
  | rng lo hi => obtain ⟨_, _, _, e⟩ := x; exact Heap.lt_size e
  | frz ob u => obtain ⟨e, _⟩ := x; exact Heap.lt_size e
  | tbl ps => exact Heap.lt_size (show h.get? a = some _ from x)
  | met f y => exact Heap.lt_size (show h.get? a = some _ from x)
  | ext φ => obtain ⟨_, ⟨_, e⟩, _⟩ := x; exact Heap.lt_size e
theorem Paired.mapP {α β : Type} {F G : α → β → Prop} : ∀ {l₁ : List α} {l₂ : List β}, Paired F l₁ l₂ → (∀ a b, F a b → G a b) → Paired G l₁ l₂
  | _, _, .nil, _ => .nil
  | _, _, .cons r t, f => .cons (f _ _ r) (Paired.mapP t f)
theorem ObjOk.stay (x : ObjOk P w H h a o) (k : ∀ b u, (b = a ∨ H b = some (.own a)) → h.get? b = some u → h'.get? b = some u)
    (ho : ∀ b, H b = some (.own a) → H' b = some (.own a)) (ht : ∀ b xs, H b = some (.tup xs) → H' b = some (.tup xs)) : ObjOk P w H' h' a o := by
  induction o with
  | lst xs => obtain ⟨z, its, n, r, e⟩ := x; exact ⟨z, its, n, r, k _ _ (.inl rfl) e⟩
  | tup xs => obtain ⟨z, its, r, ob, e, c⟩ := x; exact ⟨z, its, r, ob, k _ _ (.inl rfl) e, c⟩
  | dK kvs => obtain ⟨z, y, vs, r, ob, es, ep, e, c⟩ := x; exact ⟨z, y, vs, r, ob, es, ep, k _ _ (.inl rfl) e, c⟩
  | dT kvs =>
    obtain ⟨z, y, xs, r, ob, es, ep, e, c⟩ := x
    exact ⟨z, y, xs, Paired.mapP r fun p q z => ⟨z.1, ht _ _ z.2.1, z.2.2⟩, ob, es, ep, k _ _ (.inl rfl) e, c⟩
  | set S n => obtain ⟨ob, es, ep, t, e, c⟩ := x; exact ⟨ob, es, ep, t, k _ _ (.inl rfl) e, c⟩
  | ins C dx fs =>
    obtain ⟨d, z, ne, e, mA, ⟨od, es, ep, e2, c⟩, r⟩ := x
    exact ⟨ho _ d, z, ne, k _ _ (.inl rfl) e, mA, ⟨od, es, ep, k _ _ (.inr d) e2, c⟩, r⟩
  | own y => obtain ⟨ob, e⟩ := x; exact ⟨ob, k _ _ (.inl rfl) e⟩
  | xd fs => obtain ⟨mA, ⟨od, es, ep, e, c⟩, r⟩ := x; exact ⟨mA, ⟨od, es, ep, k _ _ (.inl rfl) e, c⟩, r⟩
  | rng lo hi => obtain ⟨t, u, v, e⟩ := x; exact ⟨t, u, v, k _ _ (.inl rfl) e⟩
  | frz ob u ih => obtain ⟨e, q⟩ := x; exact ⟨k _ _ (.inl rfl) e, ih q⟩
  | tbl ps =>
    have e : h.get? a = some { cls := .none, data := .fields ps } := x
    show h'.get? a = some { cls := .none, data := .fields ps }
    exact k a _ (.inl rfl) e
  | met f y =>
    have e : h.get? a = some (PySem.W.methodObj (.ref f) (.ref y)) := x
    show h'.get? a = some (PySem.W.methodObj (.ref f) (.ref y))
    exact k a _ (.inl rfl) e
  | ext φ => obtain ⟨p, ⟨o, e⟩, st⟩ := x; exact ⟨st _ _ p fun o q => k _ _ (.inl rfl) q, ⟨o, k _ _ (.inl rfl) e⟩, st⟩
theorem HOk.lt (x : HOk P w H h) (e : H a = some o) : a < h.objs.size := (x a o e).lt
theorem HOk.fresh (x : HOk P w H h) (e : h.objs.size ≤ a) : H a = none := by
  cases q : H a with
  | none => rfl
  | some u => exact absurd (Nat.lt_of_lt_of_le (x.lt q) e) (Nat.lt_irrefl _)
theorem HOk.kept (x : HOk P w H h) (k : ∀ b u, h.get? b = some u → h'.get? b = some u) : HOk P w H h' := fun a o e =>
  (x a o e).stay (fun b u _ q => k b u q) (fun _ q => q) fun _ _ q => q
theorem HOk.laid (x : HOk P w H h) (k : ∀ b u, h.get? b = some u → h'.get? b = some u) (hp : h.objs.size ≤ a) (new : ObjOk P w (upd H a o) h' a o) : HOk P w (upd H a o) h' := fun b u e => by
  have hn := x.fresh hp
  by_cases hb : b = a
  · subst hb; rw [upd_same] at e; cases e; exact new
  · rw [upd_ne hb] at e
    exact (x b u e).stay (fun c v _ q => k c v q) (fun c q => by rw [upd_ne (ne_of_none q hn)]; exact q) fun c xs q => by rw [upd_ne (ne_of_none q hn)]; exact q
end
def Rd (H : Hp) (a : Addr) (u : HO) : Prop := H a = some u ∨ ∃ o, H a = some (.frz o u)
theorem Rd.ok {P : Program} {w : World} {H : Hp} {h : Heap} {a : Addr} {u : HO} (r : Rd H a u) (x : HOk P w H h) : ObjOk P w H h a u := by
  rcases r with r | ⟨o, r⟩
  · exact x a u r
  · obtain ⟨_, q⟩ := x a _ r
    exact q
def Mut : Option HO → Prop
  | some (.lst _) => True
  | some (.dK _) => True
  | some (.dT _) => True
  | some (.set _ _) => True
  | some (.ins _ _ _) => True
  | some (.ext _) => True
  | _ => False
section
variable {P : Program} {w : World} {H : Hp} {h h' : Heap} {x e : Addr} {o' : HO}
theorem HOk.write (ok : HOk P w H h) (mu : Mut (H x)) (he : e = x ∨ H e = some (.own x)) (k : ∀ b u, b ≠ e → h.get? b = some u → h'.get? b = some u) (heo : ∃ u, h'.get? e = some u)
    (new : ObjOk P w (upd H x o') h' x o') : HOk P w (upd H x o') h' := fun b u q => by
  have nown : ∀ c y, H c = some (.own y) → c ≠ x := fun c y r z => by subst z; rw [r] at mu; exact mu
  have ntup : ∀ c xs, H c = some (.tup xs) → c ≠ x := fun c xs r z => by subst z; rw [r] at mu; exact mu
  by_cases hb : b = x
  · subst hb; rw [upd_same] at q; cases q; exact new
  · rw [upd_ne hb] at q
    by_cases hbe : b = e
    · have q' : H b = some (.own x) := by
        rcases he with z | z
        · exact absurd (hbe.trans z) hb
        · rw [hbe]; exact z
      rw [q] at q'; cases q'
      obtain ⟨v, hv⟩ := heo
      exact ⟨v, by rw [hbe]; exact hv⟩
    · refine (ok b u q).stay (fun c v hc r => k c v ?_ r) (fun c r => by rw [upd_ne (nown c b r)]; exact r) fun c xs r => by rw [upd_ne (ntup c xs r)]; exact r
      rcases hc with rfl | hc
      · exact hbe
      · rintro rfl
        rcases he with z | z
        · exact nown c b hc z
        · rw [hc] at z; cases z; exact hb rfl
end
structure Un (fs ex : List Addr) (H H' : Hp) (h h' : Heap) : Prop where
  keep : ∀ b o, h.get? b = some o → H b = none → b ∉ fs → b ∉ ex → h'.get? b = some o
  slot : ∀ b o, h.get? b = some o → H b = none → b ∈ fs → b ∉ ex → ∃ sl, h'.get? b = some { o with slots := sl }
  free : ∀ b o, h.get? b = some o → H b = none → b ∉ ex → H' b = none
  there : ∀ b o, h.get? b = some o → b ∉ ex → ∃ o', h'.get? b = some o'
  tups : ∀ b xs, H b = some (.tup xs) → H' b = some (.tup xs)
  frzs : ∀ b o u, H b = some (.frz o u) → H' b = some (.frz o u)
  tbls : ∀ b ps, H b = some (.tbl ps) → ∃ more, H' b = some (.tbl (ps ++ more))
section
variable {fs fs' ex ex' : List Addr} {H H1 H2 : Hp} {h h1 h2 h' : Heap} {a x e : Addr} {o : HO}
theorem Un.any (u : Un fs ex H H1 h h1) {b : Addr} {ob : Obj} (q : h.get? b = some ob) (n : H b = none) (hx : b ∉ ex) : ∃ sl, h1.get? b = some { ob with slots := sl } := by
  by_cases hb : b ∈ fs
  · exact u.slot b ob q n hb hx
  · exact ⟨ob.slots, u.keep b ob q n hb hx⟩
theorem Un.kept (k : ∀ b u, h.get? b = some u → h'.get? b = some u) : Un fs ex H H h h' :=
  ⟨fun b ob q _ _ _ => k b ob q, fun b ob q _ _ _ => ⟨ob.slots, k b ob q⟩, fun _ _ _ n _ => n, fun b ob q _ => ⟨ob, k b ob q⟩, fun _ _ q => q, fun _ _ _ q => q, fun _ ps q => ⟨#[], by rw [q]; simp⟩⟩
theorem Un.refl : Un fs ex H H h h := Un.kept fun _ _ q => q
theorem Un.laid (k : ∀ b u, h.get? b = some u → h'.get? b = some u) (hp : h.objs.size ≤ a) (hn : H a = none) : Un fs ex H (upd H a o) h h' where
  keep := fun b u q _ _ _ => k b u q
  slot := fun b u q _ _ _ => ⟨u.slots, k b u q⟩
  free := fun b u q n _ => by rw [upd_ne (Nat.ne_of_lt (Nat.lt_of_lt_of_le (Heap.lt_size q) hp))]; exact n
  there := fun b u q _ => ⟨u, k b u q⟩
  tups := fun b xs q => by rw [upd_ne (ne_of_none q hn)]; exact q
  frzs := fun b u xs q => by rw [upd_ne (ne_of_none q hn)]; exact q
  tbls := fun b ps q => ⟨#[], by rw [upd_ne (ne_of_none q hn), q]; simp⟩
theorem Un.write (mu : Mut (H x)) (he : e = x ∨ H e = some (.own x)) (k : ∀ b u, b ≠ e → h.get? b = some u → h'.get? b = some u) (heo : ∃ u, h'.get? e = some u) : Un fs ex H (upd H x o) h h' := by
  have hx : ∀ b, H b = none → b ≠ x := fun b n z => by subst z; rw [n] at mu; exact mu
  have hb : ∀ b, H b = none → b ≠ e := fun b n z => by
    subst z
    rcases he with r | r
    · exact hx b n r
    · rw [n] at r; cases r
  have hm : ∀ b u, H b = some u → ¬ Mut (some u) → b ≠ x := fun b u q nm z => by subst z; rw [q] at mu; exact nm mu
  refine ⟨fun b u q n _ _ => k b u (hb b n) q, fun b u q n _ _ => ⟨u.slots, k b u (hb b n) q⟩, fun b u q n _ => by rw [upd_ne (hx b n)]; exact n, fun b u q _ => ?_,
    fun b xs q => by rw [upd_ne (hm b _ q fun z => z)]; exact q, fun b u xs q => by rw [upd_ne (hm b _ q fun z => z)]; exact q, fun b ps q => ⟨#[], by rw [upd_ne (hm b _ q fun z => z), q]; simp⟩⟩
  by_cases hbe : b = e
  · subst hbe; exact heo
  · exact ⟨u, k b u hbe q⟩
end
def trk (h : Heap) (H : Hp) : List Addr := (List.range h.objs.size).filter fun a => (H a).isSome
def hidT (h : Heap) (H : Hp) : Heap := PySem.W.hideAll h (trk h H)
theorem hidT_size (h : Heap) (H : Hp) : (hidT h H).objs.size = h.objs.size := PySem.W.hideAll_size _ _
theorem hidT_get {h : Heap} {H : Hp} {b : Addr} {o : Obj} (e : h.get? b = some o) (n : H b = none) : (hidT h H).get? b = some o :=
  PySem.W.hideAll_get _ e fun hm => by
    have q : (H b).isSome = true := (List.mem_filter.mp hm).2
    rw [n] at q; simp at q
theorem of_hidT {h : Heap} {H : Hp} {b : Addr} {o : Obj} (e : (hidT h H).get? b = some o) : h.get? b = some o ∧ H b = none := by
  have e' : h.get? b = some o := PySem.W.of_hideAll (trk h H) e
  refine ⟨e', ?_⟩
  cases q : H b with
  | none => rfl
  | some x =>
    have hm : b ∈ trk h H := List.mem_filter.mpr ⟨List.mem_range.mpr (Heap.lt_size e'), by simp [q]⟩
    have z : (hidT h H).get? b = none := PySem.W.hideAll_none (trk h H) hm
    rw [z] at e; cases e
end L2
namespace L2
open PySem PySem.Spec PyProof.Rows
structure Mod (K : PySem.W.Frag) (mg : Str → Option Value) (base : Heap) : Prop where
  kin : K.In base
  glob : base.Ns mainGlobals mg
  blt : ∃ mb, base.Ns builtinsNs mb ∧ ∀ x : Str, x ≠ "__name__" → mb x = bootBuiltins x
  nolimit : base.NoLimit
structure Cx where
  prog : Program
  w : World
  K : PySem.W.Frag
  mg : Str → Option Value
  base : Heap
  A : Around
  N : List Str
  s₀ : Shared
  H₀ : Hp
  env : Env
  outer : List Env
  stack : List Env
  ex : List Addr
  fn : Str → Bool
  calm : Bool
  pn : List (Addr × Obj)
  xe : Value → Shared → Prop
def frs (l : List Env) : List Addr := l.filterMap (·.frame)
abbrev Cx.fs (X : Cx) : List Addr := frs X.outer
def Vis (sc : Scope) (x : Str) : Prop := sc.names.lookup x = some .local ∨ sc.names.lookup x = some .cell ∨ sc.names.lookup x = some .free
def Loc (sc : Scope) (x : Str) : Prop := sc.names.lookup x = some .local ∨ sc.names.lookup x = some .cell
def Look (env : Env) (h : Heap) (m : Str → Option Value) (x : Str) (u : Value) : Prop :=
  (env.kindOf x = some .local ∧ m x = some u) ∨ ((env.kindOf x = some .cell ∨ env.kindOf x = some .free) ∧ ∃ c, env.cells.lookup x = some c ∧ h.IsCell c (some u))
structure Cx.Ok (X : Cx) : Prop where
  mod : Mod X.K X.mg X.base
  kind : X.env.scope.kind = .function
  glob : X.env.globals = mainGlobals
  blt : X.env.builtins = builtinsNs
  above : X.s₀.heap.objs.size ≤ X.env.locals
  inj : ∀ x y c, X.env.cells.lookup x = some c → X.env.cells.lookup y = some c → x = y
  has : ∀ x, (X.env.kindOf x = some .cell ∨ X.env.kindOf x = some .free) → ∃ c, X.env.cells.lookup x = some c
  cab : ∀ x c, X.fn x = true → X.env.cells.lookup x = some c → X.s₀.heap.objs.size ≤ c
  hd : X.calm = true → X.A.handled = none
  frames : X.A.frames = some X.stack
  stk : X.stack = X.outer ∨ (X.stack = X.env :: X.outer ∧ X.env.frame = some X.env.locals)
  exf : ∀ b ∈ X.ex, b ≠ X.env.locals ∧ ∀ x c, X.env.cells.lookup x = some c → c ≠ b
  bs : ∀ b o, X.base.get? b = some o → X.s₀.heap.get? b = some o ∧ X.H₀ b = none
  bsz : X.base.objs.size ≤ X.s₀.heap.objs.size
  noex : ∀ b o, X.base.get? b = some o → b ∉ X.ex
  exfs : ∀ b ∈ X.ex, b ∉ X.fs
  funs : X.s₀.heap.FunFrames X.base X.outer
  frf : ∀ b ∈ X.fs, X.H₀ b = none
structure Inv (X : Cx) (pins : List (Addr × Obj)) (σ : List (Option V)) (H : Hp) (s : Shared) : Prop where
  ok : X.Ok
  os : s.os = X.s₀.os
  bare : AllBare s.gens
  base : Un X.fs X.ex X.H₀ H X.s₀.heap s.heap
  loc : ∃ m, s.heap.Ns X.env.locals m ∧ ∀ (i : Nat) (x : Str) (v : V), X.N[i]? = some x → σ[i]? = some (some v) → Vis X.env.scope x → ∃ u, RelV v u ∧ Look X.env s.heap m x u
  cell : ∀ x c, X.env.cells.lookup x = some c → ∃ v, s.heap.IsCell c v
  free : H X.env.locals = none
  freeC : ∀ x c, X.env.cells.lookup x = some c → H c = none
  pin : ∀ p ∈ X.pn ++ pins, s.heap.get? p.1 = some p.2 ∧ H p.1 = none ∧ p.1 ≠ X.env.locals ∧ p.1 ∉ X.fs ∧ ∀ v, p.2.data ≠ .cell v
  hok : HOk X.prog X.w H s.heap
  len : σ.length = X.N.length
section
variable {X : Cx} {pins : List (Addr × Obj)} {σ : List (Option V)} {H H' : Hp} {s : Shared} {h' : Heap}
theorem Cx.Ok.nofr (ok : X.Ok) {b : Addr} {o : Obj} (e : X.base.get? b = some o) : b ∉ X.fs := fun hb => by
  have := (ok.funs.mem hb).1
  rw [e] at this; cases this
theorem Inv.bs (I : Inv X pins σ H s) : ∀ b o, X.base.get? b = some o → s.heap.get? b = some o ∧ H b = none := fun b o e =>
  ⟨I.base.keep b o (I.ok.bs b o e).1 (I.ok.bs b o e).2 (I.ok.nofr e) (I.ok.noex b o e), I.base.free b o (I.ok.bs b o e).1 (I.ok.bs b o e).2 (I.ok.noex b o e)⟩
theorem Inv.bk (I : Inv X pins σ H s) : ∀ b o, X.base.get? b = some o → s.heap.get? b = some o := fun b o e => (I.bs b o e).1
theorem Inv.mod (I : Inv X pins σ H s) : Mod X.K X.mg X.base := I.ok.mod
theorem Inv.kIn (I : Inv X pins σ H s) : X.K.In s.heap := I.ok.mod.kin.keeps I.bk
theorem Inv.lt (I : Inv X pins σ H s) : X.env.locals < s.heap.objs.size := let ⟨_, hn, _⟩ := I.loc; hn.lt
theorem Inv.sz (I : Inv X pins σ H s) : X.s₀.heap.objs.size ≤ s.heap.objs.size := Nat.le_trans I.ok.above (Nat.le_of_lt I.lt)
theorem Inv.nofs (I : Inv X pins σ H s) {a : Addr} (h : s.heap.objs.size ≤ a) : a ∉ X.fs := fun hb => by
  obtain ⟨_, o, ho, _⟩ := I.ok.funs.mem hb
  exact absurd (Nat.lt_of_lt_of_le (Heap.lt_size ho) (Nat.le_trans I.sz h)) (Nat.lt_irrefl _)
theorem Inv.cne (I : Inv X pins σ H s) : ∀ x c, X.env.cells.lookup x = some c → c ≠ X.env.locals := fun x c e z => by
  obtain ⟨v, o, ho, hd⟩ := I.cell x c e
  obtain ⟨m, ⟨o', es, ep, ho', hd', _⟩, _⟩ := I.loc
  rw [z, ho'] at ho; cases ho; rw [hd'] at hd; cases hd
theorem Inv.funs (I : Inv X pins σ H s) : s.heap.FunFrames X.base X.outer := by
  have all : ∀ (l : List Env), (∀ b ∈ frs l, b ∈ X.fs) → X.s₀.heap.FunFrames X.base l → s.heap.FunFrames X.base l := by
    intro l
    induction l with
    | nil => intro _ _; trivial
    | cons env r ih =>
      intro hs hl
      obtain ⟨hk, ⟨L, o, hf, hn, ho, hd⟩, hr⟩ := hl
      have hL : L ∈ X.fs := hs L (by unfold frs; rw [List.filterMap_cons, hf]; exact List.mem_cons_self)
      obtain ⟨sl, e⟩ := I.base.slot L o ho (I.ok.frf L hL) hL fun z => I.ok.exfs L z hL
      exact ⟨hk, ⟨L, _, hf, hn, e, hd⟩, ih (fun b hb => hs b (by unfold frs; rw [List.filterMap_cons, hf]; exact List.mem_cons_of_mem _ hb)) hr⟩
  exact all X.outer (fun _ hb => hb) I.ok.funs
theorem Inv.stack (I : Inv X pins σ H s) : s.heap.FunFrames X.base X.stack := by
  rcases I.ok.stk with e | ⟨e, hf⟩
  · rw [e]; exact I.funs
  · rw [e]
    obtain ⟨m, hn, _⟩ := I.loc
    refine .cons (by rw [I.ok.kind]; decide) hf hn ?_ I.funs
    exact Heap.get?_none_of_le (Nat.le_trans I.ok.bsz I.ok.above)
theorem Inv.stkSub (I : Inv X pins σ H s) : ∀ b ∈ frs X.stack, b ∈ X.env.locals :: X.fs := fun b hb => by
  rcases I.ok.stk with e | ⟨e, hf⟩
  · rw [e] at hb; exact List.mem_cons_of_mem _ hb
  · rw [e] at hb
    unfold frs at hb
    rw [List.filterMap_cons, hf] at hb
    exact hb
theorem Inv.stkFree (I : Inv X pins σ H s) : ∀ b ∈ frs X.stack, H b = none := fun b hb => by
  rcases List.mem_cons.mp (I.stkSub b hb) with e | hb
  · rw [e]; exact I.free
  · obtain ⟨_, o, ho, _⟩ := I.ok.funs.mem hb
    exact I.base.free b o ho (I.ok.frf b hb) fun z => I.ok.exfs b z hb
theorem Inv.step {g' : Array GenState} {t' : Nat} {d' : Drawn} {ch : List Addr} (I : Inv X pins σ H s)
    (hch : ∀ b ∈ ch, (b ∈ X.ex ∨ X.s₀.heap.objs.size ≤ b) ∧ b ≠ X.env.locals ∧ (∀ x c, X.env.cells.lookup x = some c → c ≠ b) ∧ ∀ p ∈ X.pn ++ pins, p.1 ≠ b)
    (keep : ∀ b o, b ≠ X.env.locals → b ∉ X.fs → b ∉ ch → s.heap.get? b = some o → H b = none → h'.get? b = some o)
    (slot : ∀ b o, b ≠ X.env.locals → b ∈ X.fs → b ∉ ch → s.heap.get? b = some o → H b = none → ∃ sl, h'.get? b = some { o with slots := sl }) (free : ∀ b o, b ∉ ch → s.heap.get? b = some o → H b = none → H' b = none)
    (there : ∀ b o, b ∉ ch → s.heap.get? b = some o → ∃ o', h'.get? b = some o')
    (tups : ∀ b xs, H b = some (.tup xs) → H' b = some (.tup xs)) (frzs : ∀ b o u, H b = some (.frz o u) → H' b = some (.frz o u)) (tbls : ∀ b ps, H b = some (.tbl ps) → ∃ more, H' b = some (.tbl (ps ++ more)))
    (ns : ∀ m, s.heap.Ns X.env.locals m → h'.Ns X.env.locals m) (hok : HOk X.prog X.w H' h') (hg : AllBare g') :
    Inv X pins σ H' { s with heap := h', gens := g', drawn := d', toks := t' } := by
  have neL : ∀ b o, X.s₀.heap.get? b = some o → b ≠ X.env.locals := fun b o e => Nat.ne_of_lt (Nat.lt_of_lt_of_le (Heap.lt_size e) I.ok.above)
  have neC : ∀ b o, X.s₀.heap.get? b = some o → b ∉ X.ex → b ∉ ch := fun b o e hx hb => by
    rcases (hch b hb).1 with z | z
    · exact hx z
    · exact absurd (Nat.lt_of_lt_of_le (Heap.lt_size e) z) (Nat.lt_irrefl _)
  have cellK : ∀ x c, X.env.cells.lookup x = some c → ∀ v, s.heap.IsCell c v → h'.IsCell c v := fun x c e v ⟨o, ho, hd⟩ => by
    have nch : c ∉ ch := fun z => (hch c z).2.2.1 x c e rfl
    by_cases hc : c ∈ X.fs
    · obtain ⟨sl, q⟩ := slot c o (I.cne x c e) hc nch ho (I.freeC x c e)
      exact ⟨_, q, hd⟩
    · exact ⟨o, keep c o (I.cne x c e) hc nch ho (I.freeC x c e), hd⟩
  refine ⟨I.ok, I.os, hg, ⟨fun b o e n hb hx => ?_, fun b o e n hb hx => ?_, fun b o e n hx => ?_, fun b o e hx => ?_, fun b xs e => tups b xs (I.base.tups b xs e), fun b o xs e => frzs b o xs (I.base.frzs b o xs e), fun b ps e => ?_⟩, ?_, fun x c e => ?_, ?_, fun x c e => ?_, fun p hp => ?_, hok, I.len⟩
  · exact keep b o (neL b o e) hb (neC b o e hx) (I.base.keep b o e n hb hx) (I.base.free b o e n hx)
  · obtain ⟨sl, e1⟩ := I.base.slot b o e n hb hx
    obtain ⟨sl', e2⟩ := slot b _ (neL b o e) hb (neC b o e hx) e1 (I.base.free b o e n hx)
    exact ⟨sl', e2⟩
  · obtain ⟨o', e1⟩ := I.base.there b o e hx
    exact free b o' (neC b o e hx) e1 (I.base.free b o e n hx)
  · obtain ⟨o', e1⟩ := I.base.there b o e hx
    exact there b o' (neC b o e hx) e1
  · obtain ⟨m1, e1⟩ := I.base.tbls b ps e
    obtain ⟨m2, e2⟩ := tbls b _ e1
    exact ⟨m1 ++ m2, by rw [e2, Array.append_assoc]⟩
  · obtain ⟨m, hn, hl⟩ := I.loc
    refine ⟨m, ns m hn, fun i x v e1 e2 e3 => ?_⟩
    obtain ⟨u, r, l⟩ := hl i x v e1 e2 e3
    refine ⟨u, r, ?_⟩
    rcases l with l | ⟨k, c, e, z⟩
    · exact .inl l
    · exact .inr ⟨k, c, e, cellK x c e _ z⟩
  · obtain ⟨v, z⟩ := I.cell x c e
    exact ⟨v, cellK x c e v z⟩
  · obtain ⟨m, ⟨o, _, _, ho, _⟩, _⟩ := I.loc
    exact free _ o (fun z => (hch _ z).2.1 rfl) ho I.free
  · obtain ⟨v, o, ho, hd⟩ := I.cell x c e
    exact free c o (fun z => (hch c z).2.2.1 x c e rfl) ho (I.freeC x c e)
  · obtain ⟨e, n, ne, nf, d⟩ := I.pin p hp
    have nch : p.1 ∉ ch := fun z => (hch p.1 z).2.2.2 p hp rfl
    exact ⟨keep p.1 p.2 ne nf nch e n, free p.1 p.2 nch e n, ne, nf, d⟩
theorem Inv.un {t' : Nat} (I : Inv X pins σ H s) (u : Un X.fs [] H H' s.heap h') (hok : HOk X.prog X.w H' h') : Inv X pins σ H' { s with heap := h', toks := t' } := by
  obtain ⟨m, ⟨o, es, ep, ho, r⟩, _⟩ := id I.loc
  obtain ⟨sl, hL⟩ := u.any ho I.free (by simp)
  exact I.step (g' := s.gens) (d' := s.drawn) (ch := []) (fun _ z => nomatch z) (fun b o _ hb _ e n => u.keep b o e n hb (by simp)) (fun b o _ hb _ e n => u.slot b o e n hb (by simp)) (fun b o _ e n => u.free b o e n (by simp)) (fun b o _ e => u.there b o e (by simp)) u.tups u.frzs u.tbls (fun m' hm => by
    obtain ⟨o', es', ep', ho', r'⟩ := hm
    rw [ho] at ho'; cases ho'
    exact ⟨_, es', ep', hL, r'⟩) hok I.bare
theorem Inv.call {g' : Array GenState} {t' : Nat} {d' : Drawn} {ch : List Addr} (I : Inv X pins σ H s) (u : Un (frs X.stack) ch H H' s.heap h') (hok : HOk X.prog X.w H' h') (hg : AllBare g')
    (hch : ∀ b ∈ ch, (b ∈ X.ex ∨ X.s₀.heap.objs.size ≤ b) ∧ b ≠ X.env.locals ∧ (∀ x c, X.env.cells.lookup x = some c → c ≠ b) ∧ ∀ p ∈ X.pn ++ pins, p.1 ≠ b) :
    Inv X pins σ H' { s with heap := h', gens := g', drawn := d', toks := t' } := by
  obtain ⟨m, ⟨o, es, ep, ho, r⟩, _⟩ := id I.loc
  obtain ⟨sl, hL⟩ := u.any ho I.free fun z => (hch _ z).2.1 rfl
  exact I.step (ch := ch) hch (fun b o hL hb hc e n => u.keep b o e n (fun z => (List.mem_cons.mp (I.stkSub b z)).elim hL hb) hc) (fun b o _ _ hc e n => u.any e n hc) (fun b o hc e n => u.free b o e n hc) (fun b o hc e => u.there b o e hc) u.tups u.frzs u.tbls (fun m' hm => by
    obtain ⟨o', es', ep', ho', r'⟩ := hm
    rw [ho] at ho'; cases ho'
    exact ⟨_, es', ep', hL, r'⟩) hok hg
theorem Inv.turned {t' : Nat} {it : Addr} (I : Inv X pins σ H s) (k : ∀ b o, b ≠ it → s.heap.get? b = some o → h'.get? b = some o) (hn : H it = none) (hL : it ≠ X.env.locals)
    (h1 : it ∈ X.ex ∨ X.s₀.heap.objs.size ≤ it) (h2 : ∀ x c, X.env.cells.lookup x = some c → c ≠ it) (h3 : ∀ p ∈ X.pn ++ pins, p.1 ≠ it) : Inv X pins σ H { s with heap := h', toks := t' } := by
  have nit : ∀ b u, H b = some u → b ≠ it := fun b u e z => by rw [z, hn] at e; cases e
  refine I.step (g' := s.gens) (d' := s.drawn) (ch := [it]) (fun b hb => ?_) (fun b o _ _ hc e _ => k b o (fun z => hc (by simp [z])) e) (fun b o _ _ hc e _ => ⟨o.slots, k b o (fun z => hc (by simp [z])) e⟩) (fun _ _ _ _ n => n)
    (fun b o hc e => ⟨o, k b o (fun z => hc (by simp [z])) e⟩) (fun _ _ e => e) (fun _ _ _ e => e) (fun b ps e => ⟨#[], by rw [e]; simp⟩) (fun m hm => ?_) (fun b u e => ?_) I.bare
  · have e : b = it := by simpa using hb
    subst e
    exact ⟨h1, hL, h2, h3⟩
  · obtain ⟨o, es, ep, ho, r⟩ := hm
    exact ⟨o, es, ep, k _ o (Ne.symm hL) ho, r⟩
  · refine (I.hok b u e).stay (fun c v hc q => k c v ?_ q) (fun _ q => q) fun _ _ q => q
    rcases hc with z | z
    · rw [z]; exact nit b u e
    · exact nit c _ z
theorem Inv.tok (I : Inv X pins σ H s) (t : Nat) : Inv X pins σ H { s with toks := t } := I.un (h' := s.heap) (t' := t) Un.refl I.hok
theorem Inv.kept {t' : Nat} (I : Inv X pins σ H s) (k : ∀ b u, s.heap.get? b = some u → h'.get? b = some u) : Inv X pins σ H { s with heap := h', toks := t' } := I.un (Un.kept k) (I.hok.kept k)
theorem Inv.laid {a : Addr} {o : HO} {t' : Nat} (I : Inv X pins σ H s) (k : ∀ b u, s.heap.get? b = some u → h'.get? b = some u) (hp : s.heap.objs.size ≤ a) (new : ObjOk X.prog X.w (upd H a o) h' a o) :
    Inv X pins σ (upd H a o) { s with heap := h', toks := t' } := I.un (Un.laid k hp (I.hok.fresh hp)) (I.hok.laid k hp new)
theorem Inv.write {x e : Addr} {o : HO} {t' : Nat} (I : Inv X pins σ H s) (mu : Mut (H x)) (he : e = x ∨ H e = some (.own x)) (k : ∀ b u, b ≠ e → s.heap.get? b = some u → h'.get? b = some u) (heo : ∃ u, h'.get? e = some u)
    (new : ObjOk X.prog X.w (upd H x o) h' x o) : Inv X pins σ (upd H x o) { s with heap := h', toks := t' } := I.un (Un.write mu he k heo) (I.hok.write mu he k heo new)
theorem Inv.pins_of {pins' : List (Addr × Obj)} (I : Inv X pins σ H s) (h : ∀ p ∈ pins', s.heap.get? p.1 = some p.2 ∧ H p.1 = none ∧ p.1 ≠ X.env.locals ∧ p.1 ∉ X.fs ∧ ∀ v, p.2.data ≠ .cell v) : Inv X pins' σ H s :=
  ⟨I.ok, I.os, I.bare, I.base, I.loc, I.cell, I.free, I.freeC, fun p hp => (List.mem_append.mp hp).elim (fun z => I.pin p (List.mem_append_left _ z)) (h p), I.hok, I.len⟩
theorem nodup_ix {N : List Str} (hN : N.Nodup) {i j : Nat} {x : Str} (a : N[i]? = some x) (b : N[j]? = some x) : i = j := by
  obtain ⟨h1, e1⟩ := List.getElem?_eq_some_iff.mp a
  obtain ⟨h2, e2⟩ := List.getElem?_eq_some_iff.mp b
  exact (List.getElem_inj hN).mp (e1.trans e2.symm)
theorem store_ok2 {M : Model} {A : Around} {E : Value → Shared → Prop} {i : Nat} {x : Str} {v : V} {u : Value} {Q : Unit → Shared → Prop} (I : Inv X pins σ H s) (hN : X.N.Nodup) (hi : X.N[i]? = some x) (hx : Loc X.env.scope x) (r : RelV v u)
    (h : ∀ s', Inv X pins (σ.set i (some v)) H s' → (∃ a, Heap.SameBut a s.heap s'.heap ∧ (a = X.env.locals ∨ X.env.cells.lookup x = some a)) → Q () s') (hf : X.fn x = true ∨ X.env.scope.names.lookup x = some .local := by first | exact .inl rfl | exact .inr rfl | assumption) : wpAny M A (storeName X.env x u) Q E s := by
  obtain ⟨m, hn, hl⟩ := id I.loc
  have hcls : (X.env.scope.kind == .class || (X.env.scope.kind == .module && X.env.locals != X.env.globals)) = false := by rw [I.ok.kind]; rfl
  have hiσ : i < σ.length := by rw [I.len]; exact (List.getElem?_eq_some_iff.mp hi).1
  have cne := I.cne
  have tracked : ∀ {a : Addr} {h' : Heap}, (∃ o, s.heap.get? a = some o ∧ H a = none) → Heap.SameBut a s.heap h' → HOk X.prog X.w H h' := fun {a h'} ha hs b ob e => by
    obtain ⟨_, _, hfree⟩ := ha
    refine (I.hok b ob e).stay (fun c w' hc q => (hs.2 c ?_).trans q) (fun _ q => q) fun _ _ q => q
    rintro rfl
    rcases hc with rfl | hc
    · rw [hfree] at e; cases e
    · rw [hfree] at hc; cases hc
  rcases hx with hk | hk
  · refine wpAny_storeName_local hk hn (fun h' hn' hs => ?_) hcls
    obtain ⟨oL, _, _, hoL, _⟩ := id hn
    refine h _ ⟨I.ok, I.os, I.bare, ⟨fun b o e n hb hx => ?_, fun b o e n hb hx => ?_, I.base.free, fun b o e hx => ?_, I.base.tups, I.base.frzs, I.base.tbls⟩, ⟨_, hn', fun j y v' e1 e2 e3 => ?_⟩, fun y c e => ?_, I.free, I.freeC, fun p hp => ?_, tracked ⟨oL, hoL, I.free⟩ hs, by simpa using I.len⟩ ⟨_, hs, .inl rfl⟩
    · exact (hs.2 b (Nat.ne_of_lt (Nat.lt_of_lt_of_le (Heap.lt_size e) I.ok.above))).trans (I.base.keep b o e n hb hx)
    · obtain ⟨sl, e1⟩ := I.base.slot b o e n hb hx
      exact ⟨sl, (hs.2 b (Nat.ne_of_lt (Nat.lt_of_lt_of_le (Heap.lt_size e) I.ok.above))).trans e1⟩
    · obtain ⟨o', e1⟩ := I.base.there b o e hx
      exact ⟨o', (hs.2 b (Nat.ne_of_lt (Nat.lt_of_lt_of_le (Heap.lt_size e) I.ok.above))).trans e1⟩
    · by_cases hj : j = i
      · subst hj
        rw [hi] at e1; cases e1
        rw [List.getElem?_set_self hiσ] at e2
        cases e2
        exact ⟨u, r, .inl ⟨hk, by simp⟩⟩
      · rw [List.getElem?_set_ne (Ne.symm hj)] at e2
        obtain ⟨u', r', q⟩ := hl j y v' e1 e2 e3
        refine ⟨u', r', ?_⟩
        rcases q with ⟨k, e⟩ | ⟨k, c, e, z⟩
        · refine .inl ⟨k, ?_⟩
          have : y ≠ x := fun e => hj (nodup_ix hN e1 (e ▸ hi))
          simp [this, e]
        · exact .inr ⟨k, c, e, z.sameBut hs (cne y c e)⟩
    · obtain ⟨w', z⟩ := I.cell y c e
      exact ⟨w', z.sameBut hs (cne y c e)⟩
    · obtain ⟨e, n, ne, nf, d⟩ := I.pin p hp
      exact ⟨(hs.2 p.1 ne).trans e, n, ne, nf, d⟩
  · have hfn : X.fn x = true := by
      rcases hf with z | z
      · exact z
      · rw [z] at hk; cases hk
    obtain ⟨c, hc⟩ := I.ok.has x (.inl hk)
    obtain ⟨w', z⟩ := I.cell x c hc
    refine wpAny_storeName_cell I.ok.kind hk hc z (fun h' hc' hs => ?_)
    obtain ⟨oc, hoc, hocd⟩ := id z
    refine h { s with heap := h' } ⟨I.ok, I.os, I.bare, ⟨fun b o e n hb hx => ?_, fun b o e n hb hx => ?_, I.base.free, fun b o e hx => ?_, I.base.tups, I.base.frzs, I.base.tbls⟩, ⟨m, hn.sameBut hs (Ne.symm (cne x c hc)), fun j y v' e1 e2 e3 => ?_⟩, fun y c' e => ?_, I.free, I.freeC, fun p hp => ?_, tracked ⟨oc, hoc, I.freeC x c hc⟩ hs, by simpa using I.len⟩ ⟨c, hs, .inr hc⟩
    · exact (hs.2 b (Nat.ne_of_lt (Nat.lt_of_lt_of_le (Heap.lt_size e) (I.ok.cab x c hfn hc)))).trans (I.base.keep b o e n hb hx)
    · obtain ⟨sl, e1⟩ := I.base.slot b o e n hb hx
      exact ⟨sl, (hs.2 b (Nat.ne_of_lt (Nat.lt_of_lt_of_le (Heap.lt_size e) (I.ok.cab x c hfn hc)))).trans e1⟩
    · obtain ⟨o', e1⟩ := I.base.there b o e hx
      exact ⟨o', (hs.2 b (Nat.ne_of_lt (Nat.lt_of_lt_of_le (Heap.lt_size e) (I.ok.cab x c hfn hc)))).trans e1⟩
    · by_cases hj : j = i
      · subst hj
        rw [hi] at e1; cases e1
        rw [List.getElem?_set_self hiσ] at e2
        cases e2
        exact ⟨u, r, .inr ⟨.inl hk, c, hc, hc'⟩⟩
      · rw [List.getElem?_set_ne (Ne.symm hj)] at e2
        obtain ⟨u', r', q⟩ := hl j y v' e1 e2 e3
        refine ⟨u', r', ?_⟩
        rcases q with q | ⟨k, c', e, z'⟩
        · exact .inl q
        · refine .inr ⟨k, c', e, z'.sameBut hs ?_⟩
          rintro rfl
          exact hj (nodup_ix hN e1 (I.ok.inj _ _ _ e hc ▸ hi))
    · by_cases hcc : c' = c
      · subst hcc; exact ⟨_, hc'⟩
      · obtain ⟨w2, z2⟩ := I.cell y c' e
        exact ⟨w2, z2.sameBut hs hcc⟩
    · obtain ⟨e, n, ne, nf, d⟩ := I.pin p hp
      refine ⟨(hs.2 p.1 ?_).trans e, n, ne, nf, d⟩
      intro q
      rw [q, hoc] at e
      have q' : oc = p.2 := Option.some.inj e
      exact d w' (by rw [← q']; exact hocd)
theorem store_ok {M : Model} {A : Around} {E : Value → Shared → Prop} {i : Nat} {x : Str} {v : V} {u : Value} {Q : Unit → Shared → Prop} (I : Inv X pins σ H s) (hN : X.N.Nodup) (hi : X.N[i]? = some x) (hx : Loc X.env.scope x) (r : RelV v u)
    (h : ∀ s', Inv X pins (σ.set i (some v)) H s' → Q () s') (hf : X.fn x = true ∨ X.env.scope.names.lookup x = some .local := by first | exact .inl rfl | exact .inr rfl | assumption) : wpAny M A (storeName X.env x u) Q E s :=
  store_ok2 I hN hi hx r (fun s' I' _ => h s' I') hf
theorem Inv.call' {s' : Shared} {ch : List Addr} (I : Inv X pins σ H s) (ho : s'.os = s.os) (u : Un (frs X.stack) ch H H' s.heap s'.heap) (hok : HOk X.prog X.w H' s'.heap) (hg : AllBare s'.gens)
    (hch : ∀ b ∈ ch, (b ∈ X.ex ∨ X.s₀.heap.objs.size ≤ b) ∧ b ≠ X.env.locals ∧ (∀ x c, X.env.cells.lookup x = some c → c ≠ b) ∧ ∀ p ∈ X.pn ++ pins, p.1 ≠ b) : Inv X pins σ H' s' := by
  obtain ⟨h', g', d', t', o'⟩ := s'
  have e : o' = s.os := ho
  subst e
  exact I.call (g' := g') (t' := t') (d' := d') u hok hg hch
end
abbrev XK := Value → Option Addr → Hp → Prop
abbrev St := List (Option V)
abbrev VK := V → Hp → Prop
abbrev TE := St → Hp → VK → Prop
abbrev TT := St → Hp → (Bool → Hp → Prop) → Prop
abbrev TA := St → Hp → (List V → Hp → Prop) → Prop
structure Ends where
  nx : St → Hp → Prop
  rt : VK
  bk : St → Hp → Prop := fun _ _ => False
  ct : St → Hp → Prop := fun _ _ => False
abbrev TS := Ends → St → Hp → Prop
def EP (X : Cx) (pins : List (Addr × Obj)) (σ : St) (Q : VK) (u : Value) (s' : Shared) : Prop := ∃ v H', Inv X pins σ H' s' ∧ RelV v u ∧ Q v H'
def TP (X : Cx) (pins : List (Addr × Obj)) (σ : St) (Q : Bool → Hp → Prop) (b : Bool) (s' : Shared) : Prop := ∃ H', Inv X pins σ H' s' ∧ Q b H'
def AP (X : Cx) (pins : List (Addr × Obj)) (σ : St) (Q : List V → Hp → Prop) (us : List Value) (s' : Shared) : Prop := ∃ vs H', Inv X pins σ H' s' ∧ Vals vs us ∧ Q vs H'
def SP (X : Cx) (pins : List (Addr × Obj)) (D : Ends) (f : Flow) (s' : Shared) : Prop :=
  match f with
  | .next => ∃ σ' H', Inv X pins σ' H' s' ∧ D.nx σ' H'
  | .brk => ∃ σ' H', Inv X pins σ' H' s' ∧ D.bk σ' H'
  | .cont => ∃ σ' H', Inv X pins σ' H' s' ∧ D.ct σ' H'
  | .ret u => ∃ v σ' H', Inv X pins σ' H' s' ∧ RelV v u ∧ D.rt v H'
def PE (X : Cx) (e : Expr) (t : TE) : Prop :=
  ∀ (pins : List (Addr × Obj)) (s : Shared) (σ : St) (H : Hp) (Q : VK), Inv X pins σ H s → t σ H Q → wpAny (model X.prog X.w) X.A (eval e X.env) (EP X pins σ Q) X.xe s
def PT (X : Cx) (e : Expr) (t : TT) : Prop :=
  ∀ (pins : List (Addr × Obj)) (s : Shared) (σ : St) (H : Hp) (Q : Bool → Hp → Prop), Inv X pins σ H s → t σ H Q → wpAny (model X.prog X.w) X.A (isTrue e X.env (eval e X.env)) (TP X pins σ Q) X.xe s
def PW (X : Cx) (e : Expr) (t : TT) : Prop :=
  ∀ (whole : Sem Value) (pins : List (Addr × Obj)) (s : Shared) (σ : St) (H : Hp) (Q : Bool → Hp → Prop), Inv X pins σ H s → t σ H Q → wpAny (model X.prog X.w) X.A (isTrue e X.env whole) (TP X pins σ Q) X.xe s
theorem PW.pt {X : Cx} {e : Expr} {t : TT} (h : PW X e t) : PT X e t := h _
def PA (X : Cx) (es : List Expr) (t : TA) : Prop :=
  ∀ (pos : Pos) (pins : List (Addr × Obj)) (s : Shared) (σ : St) (H : Hp) (Q : List V → Hp → Prop), Inv X pins σ H s → t σ H Q → wpAny (model X.prog X.w) X.A (spliced (backTo pos (starEach es X.env))) (AP X pins σ Q) X.xe s
def PS (X : Cx) (st : Stmt) (t : TS) : Prop :=
  ∀ (pins : List (Addr × Obj)) (s : Shared) (σ : St) (H : Hp) (D : Ends), Inv X pins σ H s → t D σ H → wpAny (model X.prog X.w) X.A (exec st X.env) (SP X pins D) X.xe s
def PSs (X : Cx) (st : List Stmt) (t : TS) : Prop :=
  ∀ (pins : List (Addr × Obj)) (s : Shared) (σ : St) (H : Hp) (D : Ends), Inv X pins σ H s → t D σ H → wpAny (model X.prog X.w) X.A (execs st X.env) (SP X pins D) X.xe s
theorem thn {α : Type} {t : Sem α} {Q Q' : α → Shared → Prop} {M : Model} {A : Around} {E : Value → Shared → Prop} {s : Shared} (h : wpAny M A t Q E s) (hQ : ∀ a s, Q a s → Q' a s) : wpAny M A t Q' E s := wpAny_mono h hQ fun _ _ x => x
end L2
namespace L2
open PySem PySem.Spec PyProof.Rows
section
variable {X : Cx}
def tVar (i : Nat) : TE := fun σ H Q => ∃ v, σ[i]? = some (some v) ∧ Q v H
def tC (v : V) : TE := fun _ H Q => Q v H
theorem pe_var {i : Nat} {x : Str} {pos : Pos} (hN : X.N[i]? = some x) (hv : Vis X.env.scope x) (hd : (x == ("__debug__" : Str)) = false := by decide) (hcd : (x == ("__classdict__" : Str)) = false := by decide) : PE X (.Name x pos) (tVar i) := by
  intro pins s σ H Q I h
  obtain ⟨v, e, h⟩ := h
  obtain ⟨m, hn, hl⟩ := I.loc
  obtain ⟨u, r, l⟩ := hl i x v hN e hv
  have fin : EP X pins σ Q u s := ⟨v, H, I, r, h⟩
  rcases l with ⟨hk, hm⟩ | ⟨hk, c, hc, hcell⟩
  · exact wpAny_Name (wpAny_loadName_local I.ok.kind hk hn hm fin) hd
  · rcases hk with hk | hk
    · exact wpAny_Name (wpAny_loadName_cell I.ok.kind hk hc hcell fin) hd
    · exact wpAny_Name (wpAny_loadName_free I.ok.kind hk hc hcell fin hcd) hd
theorem pe_int {i j pos} : PE X (.Constant (.int i) j pos) (tC (.int i)) := fun _ _ _ H _ I h => wpAny_Constant_int ⟨.int i, H, I.tok _, ⟨_, rfl⟩, h⟩
theorem pe_bl {b j pos} : PE X (.Constant (.bool b) j pos) (tC (.bl b)) := fun _ _ _ H _ I h => Constant_bool ⟨.bl b, H, I, rfl, h⟩
theorem pe_non {j pos} : PE X (.Constant .none j pos) (tC .non) := fun _ _ _ H _ I h => Constant_none ⟨.non, H, I, rfl, h⟩
theorem pe_str {x j pos} : PE X (.Constant (.str x) j pos) (tC (.str x)) := fun _ _ _ H _ I h => Calls.Constant_str ⟨.str x, H, I.tok _, ⟨_, rfl⟩, h⟩
def Gl (X : Cx) (x : Str) : Prop := X.env.kindOf x = some .globalImplicit
theorem ld_glob {E : Value → Shared → Prop} {pins : List (Addr × Obj)} {s : Shared} {σ : St} {H : Hp} {x : Str} {u : Value} {pos : Pos} {Q : Value → Shared → Prop} (I : Inv X pins σ H s) (hg : Gl X x) (hm : X.mg x = some u) (h : Q u s)
    (hd : (x == ("__debug__" : Str)) = false := by decide) : wpAny (model X.prog X.w) X.A (eval (.Name x pos) X.env) Q E s :=
  Calls.Name_function_global I.ok.kind hg (Calls.loadGlobal_global (by rw [I.ok.glob]; exact I.mod.glob.keeps I.bk) hm h) hd
theorem ld_blt {E : Value → Shared → Prop} {pins : List (Addr × Obj)} {s : Shared} {σ : St} {H : Hp} {x : Str} {u : Value} {pos : Pos} {Q : Value → Shared → Prop} (I : Inv X pins σ H s) (hg : Gl X x) (hm : X.mg x = none) (hv : bootBuiltins x = some u) (h : Q u s)
    (hn : x ≠ "__name__" := by decide) (hd : (x == ("__debug__" : Str)) = false := by decide) : wpAny (model X.prog X.w) X.A (eval (.Name x pos) X.env) Q E s := by
  obtain ⟨mb, h1, h2⟩ := I.mod.blt
  exact Calls.Name_function_global I.ok.kind hg (Calls.loadGlobal_builtin (by rw [I.ok.glob]; exact I.mod.glob.keeps I.bk) hm (by rw [I.ok.blt]; exact h1.keeps I.bk) ((h2 x hn).trans hv) h) hd
theorem pe_bltn {x : Str} {v : V} {u : Value} {pos : Pos} (hg : Gl X x) (hm : X.mg x = none) (hv : bootBuiltins x = some u) (r : RelV v u) (hn : x ≠ "__name__" := by decide) (hd : (x == ("__debug__" : Str)) = false := by decide) : PE X (.Name x pos) (tC v) :=
  fun _ _ _ H _ I h => ld_blt I hg hm hv ⟨v, H, I, r, h⟩ hn hd
variable {a b : Expr} {ta tb : TE} {pos : Pos}
def tB (t : TE) : TT := fun σ H Q => t σ H fun x H1 => ∃ c, x = .bl c ∧ Q c H1
theorem pt_val {e : Expr} {t : TE} (h : PE X e t) (he : ∀ whole, isTrue e X.env whole = (do let v ← whole; standAt e.pos; holding [v] (truthy v)) := by intro _; rfl) : PT X e (tB t) := by
  intro pins s σ H Q I hw
  refine isTrue_plain (thn (h pins s σ H _ I hw) fun v s1 ⟨x, H1, I1, r1, q1⟩ => ?_) (he _)
  obtain ⟨d, rfl, q⟩ := q1
  cases r1
  exact wpAny_truthy_bool ⟨H1, I1, q⟩
variable {tA tB' : TT} {rest : List Expr}
def tAnd (t u : TT) : TT := fun σ H Q => t σ H fun c H1 => if c = true then u σ H1 Q else Q false H1
def tOr (t u : TT) : TT := fun σ H Q => t σ H fun c H1 => if c = true then Q true H1 else u σ H1 Q
def tNot (t : TT) : TT := fun σ H Q => t σ H fun c H1 => Q (!c) H1
theorem pw_and1 (ha : PT X a tA) : PW X (.BoolOp .And [a] pos) tA := by
  intro wh pins s σ H Q I h
  refine isTrue_and (thn (ha pins s σ H Q I h) fun c s1 e => ?_)
  cases c with
  | true => exact isTrue_and_nil e
  | false => exact e
theorem pw_or1 (ha : PT X a tA) : PW X (.BoolOp .Or [a] pos) tA := by
  intro wh pins s σ H Q I h
  refine isTrue_or (thn (ha pins s σ H Q I h) fun c s1 e => ?_)
  cases c with
  | false => exact isTrue_or_nil e
  | true => exact e
theorem pw_and (ha : PT X a tA) (hb : PW X (.BoolOp .And (b :: rest) pos) tB') : PW X (.BoolOp .And (a :: b :: rest) pos) (tAnd tA tB') := by
  intro wh pins s σ H Q I h
  refine isTrue_and (thn (ha pins s σ H _ I h) fun c s1 ⟨H1, I1, q1⟩ => ?_)
  cases c with
  | true => exact hb wh pins s1 σ H1 Q I1 q1
  | false => exact ⟨H1, I1, q1⟩
theorem pw_or (ha : PT X a tA) (hb : PW X (.BoolOp .Or (b :: rest) pos) tB') : PW X (.BoolOp .Or (a :: b :: rest) pos) (tOr tA tB') := by
  intro wh pins s σ H Q I h
  refine isTrue_or (thn (ha pins s σ H _ I h) fun c s1 ⟨H1, I1, q1⟩ => ?_)
  cases c with
  | true => exact ⟨H1, I1, q1⟩
  | false => exact hb wh pins s1 σ H1 Q I1 q1
theorem pt_not (ha : PT X a tA) : PT X (.UnaryOp .Not a pos) (tNot tA) := by
  intro pins s σ H Q I h
  exact isTrue_not (ha pins s σ H (fun c H1 => Q (!c) H1) I h)
def tAndV (ta tb : TE) : TE := fun σ H Q => ta σ H fun x H1 => ∃ c, x = .bl c ∧ if c = true then tb σ H1 Q else Q (.bl false) H1
def tNotV (ta : TE) : TE := fun σ H Q => ta σ H fun x H1 => ∃ c, x = .bl c ∧ Q (.bl (!c)) H1
theorem pe_one {op} {t : TE} (h : PE X a t) : PE X (.BoolOp op [a] pos) t := fun pins s σ H Q I hw => BoolOp_one (h pins s σ H Q I hw)
theorem pe_and (ha : PE X a ta) (hb : PE X (.BoolOp .And (b :: rest) pos) tb) : PE X (.BoolOp .And (a :: b :: rest) pos) (tAndV ta tb) := by
  intro pins s σ H Q I h
  refine BoolOp_and (thn (ha pins s σ H _ I h) fun v s1 ⟨x, H1, I1, r1, q1⟩ => ?_)
  obtain ⟨c, rfl, q1⟩ := q1
  cases r1
  refine wpAny_truthy_bool ?_
  cases c with
  | true => exact hb pins s1 σ H1 Q I1 q1
  | false => exact ⟨.bl false, H1, I1, rfl, q1⟩
theorem pe_not (ha : PE X a ta) : PE X (.UnaryOp .Not a pos) (tNotV ta) := by
  intro pins s σ H Q I h
  refine UnaryOp_ (thn (ha pins s σ H _ I h) fun v s1 ⟨x, H1, I1, r1, q1⟩ => ?_)
  obtain ⟨c, rfl, q1⟩ := q1
  cases r1
  exact not_of (wpAny_truthy_bool ⟨.bl (!c), H1, I1, rfl, q1⟩)
def tIf (t : TT) (ta tb : TE) : TE := fun σ H Q => t σ H fun c H1 => if c = true then ta σ H1 Q else tb σ H1 Q
theorem pe_ifExp {c : Expr} (hc : PT X c tA) (ha : PE X a ta) (hb : PE X b tb) : PE X (.IfExp c a b pos) (tIf tA ta tb) := by
  intro pins s σ H Q I h
  refine wpAny_IfExp (thn (hc pins s σ H _ I h) fun d s1 ⟨H1, I1, q1⟩ => ?_)
  cases d with
  | true => exact ha pins s1 σ H1 Q I1 q1
  | false => exact hb pins s1 σ H1 Q I1 q1
end
end L2
namespace L2
open PySem PySem.Spec PyProof.Rows
def SqL (K : PySem.W.Frag) (H : Hp) (a : Addr) (xs : List V) : Prop :=
  Rd H a (.lst xs) ∨
    ∃ (o : Obj) (its : Array Value) (n : Nat), K.lookup a = some o ∧ o.cls = .type "list" ∧ o.dict = none ∧ o.data = .seq its n ∧ its.size ≤ sizeLine ∧ Vals xs its.toList
def SqT (K : PySem.W.Frag) (H : Hp) (a : Addr) (xs : List V) : Prop :=
  Rd H a (.tup xs) ∨
    ∃ (o : Obj) (its : Array Value) (n : Nat), K.lookup a = some o ∧ o.cls = .type "tuple" ∧ o.data = .seq its n ∧ its.size ≤ sizeLine ∧ Vals xs its.toList
def absV : Value → Option V
  | .none => some .non
  | .bool b => some (.bl b)
  | .int i _ => some (.int i)
  | .str x _ => some (.str x)
  | .bytes b _ => some (.byt b)
  | .float b _ => some (.flt b)
  | .ref a => some (.ref a)
  | .type n => some (.ty n)
  | _ => none
theorem RelV.abs {x : V} {u : Value} (r : RelV x u) : absV u = some x := by
  cases x with
  | non => cases r; rfl
  | bl _ => cases r; rfl
  | int _ => obtain ⟨t, rfl⟩ := r; rfl
  | str _ => obtain ⟨t, rfl⟩ := r; rfl
  | byt _ => obtain ⟨t, rfl⟩ := r; rfl
  | flt _ => obtain ⟨t, rfl⟩ := r; rfl
  | ref _ => cases r; rfl
  | ty _ => cases r; rfl
theorem RelV.inj {x y : V} {u : Value} (r : RelV x u) (q : RelV y u) : x = y := Option.some.inj (r.abs.symm.trans q.abs)
theorem Vals.inj : ∀ {xs ys : List V} {us : List Value}, Vals xs us → Vals ys us → xs = ys
  | _, _, _, .nil, .nil => rfl
  | _, _, _, .cons r t, .cons r' t' => by rw [r.inj r', Vals.inj t t']
section
variable {X : Cx} {pins : List (Addr × Obj)} {σ : St} {H : Hp} {s : Shared} {a : Addr} {xs ys : List V}
theorem SqL.of {K : PySem.W.Frag} (h : H a = some (.lst xs)) : SqL K H a xs := .inl (.inl h)
theorem SqT.of {K : PySem.W.Frag} (h : H a = some (.tup xs)) : SqT K H a xs := .inl (.inl h)
theorem Inv.list (I : Inv X pins σ H s) (h : SqL X.K H a xs) : ∃ its : List Value, Vals xs its ∧ PlainL s.heap a its.toArray ∧ xs.length ≤ sizeLine := by
  rcases h with h | ⟨o, its, n, hk, hc, hd, hs, hz, r⟩
  · obtain ⟨z, its, n, r, e⟩ := h.ok I.hok
    exact ⟨its, r, ⟨_, n, e, rfl, rfl, rfl⟩, z⟩
  · refine ⟨its.toList, r, ⟨o, n, I.kIn a o hk, hc, hd, by simpa using hs⟩, ?_⟩
    have e := r.length
    simp only [Array.length_toList] at e
    omega
theorem Inv.tuple (I : Inv X pins σ H s) (h : SqT X.K H a xs) : ∃ its : List Value, Vals xs its ∧ IsTup s.heap a its.toArray ∧ xs.length ≤ sizeLine := by
  rcases h with h | ⟨o, its, n, hk, hc, hs, hz, r⟩
  · obtain ⟨z, its, r, p⟩ := h.ok I.hok
    exact ⟨its, r, p.tup, z⟩
  · refine ⟨its.toList, r, ⟨o, I.kIn a o hk, hc, n, by simpa using hs⟩, ?_⟩
    have e := r.length
    simp only [Array.length_toList] at e
    omega
theorem Inv.list_inj (I : Inv X pins σ H s) (h : SqL X.K H a xs) (h' : SqL X.K H a ys) : xs = ys := by
  obtain ⟨its, r, ⟨o, n, e, _, _, d⟩, _⟩ := I.list h
  obtain ⟨its', r', ⟨o', n', e', _, _, d'⟩, _⟩ := I.list h'
  rw [e] at e'; cases e'
  rw [d] at d'
  injection d' with d1 _
  have : its = its' := by simpa using congrArg Array.toList d1
  subst this
  exact r.inj r'
theorem Inv.tuple_inj (I : Inv X pins σ H s) (h : SqT X.K H a xs) (h' : SqT X.K H a ys) : xs = ys := by
  obtain ⟨its, r, ⟨o, e, _, n, d⟩, _⟩ := I.tuple h
  obtain ⟨its', r', ⟨o', e', _, n', d'⟩, _⟩ := I.tuple h'
  rw [e] at e'; cases e'
  rw [d] at d'
  injection d' with d1 _
  have : its = its' := by simpa using congrArg Array.toList d1
  subst this
  exact r.inj r'
end
abbrev Cx.wish (X : Cx) (E : Value → Shared → Prop) : Cx := { X with xe := E }
abbrev Cx.nox (X : Cx) : Cx := X.wish fun _ _ => False
theorem Cx.Ok.wish {X : Cx} (ok : X.Ok) (E : Value → Shared → Prop) : (X.wish E).Ok :=
  ⟨ok.mod, ok.kind, ok.glob, ok.blt, ok.above, ok.inj, ok.has, ok.cab, ok.hd, ok.frames, ok.stk, ok.exf, ok.bs, ok.bsz, ok.noex, ok.exfs, ok.funs, ok.frf⟩
theorem Cx.Ok.unwish {X : Cx} {E : Value → Shared → Prop} (ok : (X.wish E).Ok) : X.Ok :=
  ⟨ok.mod, ok.kind, ok.glob, ok.blt, ok.above, ok.inj, ok.has, ok.cab, ok.hd, ok.frames, ok.stk, ok.exf, ok.bs, ok.bsz, ok.noex, ok.exfs, ok.funs, ok.frf⟩
section
variable {X : Cx} {pins : List (Addr × Obj)} {σ : St} {H : Hp} {s : Shared} {E : Value → Shared → Prop}
theorem Inv.wish (I : Inv X pins σ H s) (E : Value → Shared → Prop) : Inv (X.wish E) pins σ H s := ⟨I.ok.wish E, I.os, I.bare, I.base, I.loc, I.cell, I.free, I.freeC, I.pin, I.hok, I.len⟩
theorem Inv.unwish (I : Inv (X.wish E) pins σ H s) : Inv X pins σ H s := ⟨I.ok.unwish, I.os, I.bare, I.base, I.loc, I.cell, I.free, I.freeC, I.pin, I.hok, I.len⟩
theorem SP.unwish {D : Ends} {f : Flow} {s' : Shared} (h : SP (X.wish E) pins D f s') : SP X pins D f s' := by
  cases f with
  | next => obtain ⟨σ', H', I, q⟩ := h; exact ⟨σ', H', I.unwish, q⟩
  | brk => obtain ⟨σ', H', I, q⟩ := h; exact ⟨σ', H', I.unwish, q⟩
  | cont => obtain ⟨σ', H', I, q⟩ := h; exact ⟨σ', H', I.unwish, q⟩
  | ret u => obtain ⟨v, σ', H', I, r, q⟩ := h; exact ⟨v, σ', H', I.unwish, r, q⟩
theorem PSs.nox {st : List Stmt} {t : TS} (h : PSs X.nox st t) : PSs X st t := fun pins s σ H D I hw =>
  wpAny_mono (h pins s σ H D (I.wish _) hw) (fun _ _ q => q.unwish) fun _ _ z => False.elim z
end
section
variable {X : Cx} {st : Stmt} {rest : List Stmt} {t u : TS} {e : Expr} {te : TE} {pos : Pos}
def tNext : TS := fun D σ H => D.nx σ H
def tSeq (t u : TS) : TS := fun D σ H => t { D with nx := u D } σ H
theorem pss_nil : PSs X [] tNext := fun _ _ σ H _ I h => wpAny_execs_nil ⟨σ, H, I, h⟩
theorem pss_cons (h1 : PS X st t) (h2 : PSs X rest u) : PSs X (st :: rest) (tSeq t u) := by
  intro pins s σ H D I h
  refine wpAny_execs_cons (thn (h1 pins s σ H { D with nx := u D } I h) fun f s1 q => ?_)
  cases f with
  | next =>
    obtain ⟨σ', H', I', q⟩ := q
    exact h2 pins s1 σ' H' D I' q
  | ret v => exact q
  | brk => exact q
  | cont => exact q
theorem pss_one (h1 : PS X st t) : PSs X [st] t := by
  intro pins s σ H D I h
  refine wpAny_execs_cons (thn (h1 pins s σ H D I h) fun f s1 q => ?_)
  cases f with
  | next => exact wpAny_execs_nil q
  | ret v => exact q
  | brk => exact q
  | cont => exact q
theorem Inv.quiet {pins : List (Addr × Obj)} {σ : St} {H : Hp} {s : Shared} (I : Inv X pins σ H s) : interactive X.env = false := by simp [interactive, I.ok.kind]
def tDrop (te : TE) : TS := fun D σ H => te σ H fun _ H1 => D.nx σ H1
theorem ps_expr (he : PE X e te) (hs : swapsWith e none pos.line X.env = pure false := by rfl) : PS X (.Expr e pos) (tDrop te) := by
  intro pins s σ H D I h
  exact wpAny_Expr_any (thn (he pins s σ H _ I h) fun v s1 ⟨x, H1, I1, r1, q1⟩ => ⟨σ, H1, I1, q1⟩) I.quiet hs
def tRet (te : TE) : TS := fun D σ H => te σ H D.rt
theorem ps_ret (he : PE X e te) : PS X (.Return (some e) pos) (tRet te) := by
  intro pins s σ H D I h
  exact wpAny_Return_some (thn (he pins s σ H _ I h) fun v s1 ⟨x, H1, I1, r1, q1⟩ => ⟨x, σ, H1, I1, r1, q1⟩)
def tRetN : TS := fun D _ H => D.rt .non H
theorem ps_retN : PS X (.Return none pos) tRetN := fun _ _ σ H _ I h => wpAny_Return_none ⟨.non, σ, H, I, rfl, h⟩
def tIfS (c : TT) (t u : TS) : TS := fun D σ H => c σ H fun b H1 => if b = true then t D σ H1 else u D σ H1
theorem ps_if {c : Expr} {a b : List Stmt} {tc : TT} (hc : PT X c tc) (ha : PSs X a t) (hb : PSs X b u) : PS X (.If c a b pos) (tIfS tc t u) := by
  intro pins s σ H D I h
  refine wpAny_If (thn (hc pins s σ H _ I h) fun d s1 ⟨H1, I1, q1⟩ => ?_)
  cases d with
  | true => exact ha pins s1 σ H1 D I1 q1
  | false => exact hb pins s1 σ H1 D I1 q1
end
abbrev TG := V → St → Hp → (St → Hp → Prop) → Prop
abbrev TGs := List V → St → Hp → (St → Hp → Prop) → Prop
def PG (X : Cx) (target : Expr) (t : TG) : Prop :=
  ∀ (pins : List (Addr × Obj)) (s : Shared) (σ : St) (H : Hp) (v : V) (u : Value) (Q : St → Hp → Prop), Inv X pins σ H s → RelV v u → t v σ H Q →
    wpAny (model X.prog X.w) X.A (assign target X.env u) (fun _ s' => ∃ σ' H', Inv X pins σ' H' s' ∧ Q σ' H') X.xe s
def PGs (X : Cx) (ts : List Expr) (t : TGs) : Prop :=
  ∀ (pins : List (Addr × Obj)) (s : Shared) (σ : St) (H : Hp) (vs : List V) (us : List Value) (Q : St → Hp → Prop), Inv X pins σ H s → Vals vs us → t vs σ H Q →
    wpAny (model X.prog X.w) X.A (assignInOrder ((assignEach ts X.env).map (·.2)) us) (fun _ s' => ∃ σ' H', Inv X pins σ' H' s' ∧ Q σ' H') X.xe s
abbrev TSet := V → V → V → Hp → (Hp → Prop) → Prop
def PSet (X : Cx) (t : TSet) : Prop :=
  ∀ (pins : List (Addr × Obj)) (s : Shared) (σ : St) (H : Hp) (o i v : V) (ov iv u : Value) (Q : Hp → Prop), Inv X pins σ H s → RelV o ov → RelV i iv → RelV v u → t o i v H Q →
    wpAny (model X.prog X.w) X.A (setItem ov iv u) (fun _ s' => ∃ H', Inv X pins σ H' s' ∧ Q H') X.xe s
abbrev TIp := V → V → Hp → VK → Prop
def PIp (X : Cx) (op : Operator) (t : TIp) : Prop :=
  ∀ (pins : List (Addr × Obj)) (s : Shared) (σ : St) (H : Hp) (x y : V) (v u : Value) (Q : VK), Inv X pins σ H s → RelV x v → RelV y u → t x y H Q →
    wpAny (model X.prog X.w) X.A (inplaceOp op v u) (EP X pins σ Q) X.xe s
section
variable {X : Cx} {pos : Pos}
def gName (i : Nat) : TG := fun v σ H Q => Q (σ.set i (some v)) H
theorem pg_name {i : Nat} {x : Str} (hN : X.N.Nodup) (hi : X.N[i]? = some x) (hx : Loc X.env.scope x) (hf : X.fn x = true ∨ X.env.scope.names.lookup x = some .local := by first | exact .inl rfl | exact .inr rfl | assumption) : PG X (.Name x pos) (gName i) := by
  intro pins s σ H v u Q I r h
  exact wpAny_assign_Name (store_ok I hN hi hx r (fun s' I' => ⟨_, H, I', h⟩) hf)
def gNil : TGs := fun vs σ H Q => vs = [] ∧ Q σ H
def gCons (t : TG) (u : TGs) : TGs := fun vs σ H Q => ∃ v r, vs = v :: r ∧ t v σ H fun σ' H' => u r σ' H' Q
theorem pgs_nil : PGs X [] gNil := by
  intro pins s σ H vs us Q I r h
  obtain ⟨e, h⟩ := h
  subst e
  cases r
  exact assignInOrder_nil ⟨σ, H, I, h⟩
theorem pgs_cons {e : Expr} {es : List Expr} {t : TG} {u : TGs} (h1 : PG X e t) (h2 : PGs X es u)
    (hs : (assignEach (e :: es) X.env).map (·.2) = assign e X.env :: (assignEach es X.env).map (·.2) := by rfl) : PGs X (e :: es) (gCons t u) := by
  intro pins s σ H vs us Q I r h
  obtain ⟨v, vr, e1, h⟩ := h
  subst e1
  cases r with
  | cons r rr =>
    rw [hs]
    refine assignInOrder_cons (thn (h1 pins s σ H _ _ _ I r h) fun _ s1 ⟨σ1, H1, I1, q1⟩ => ?_)
    exact h2 pins s1 σ1 H1 _ _ Q I1 rr q1
def gTup (K : PySem.W.Frag) (n : Nat) (t : TGs) : TG := fun v σ H Q => ∃ a xs, v = .ref a ∧ SqT K H a xs ∧ xs.length = n ∧ t xs σ H Q
theorem pg_tup {es : List Expr} {k : Nat} {t : TGs} {n : Nat} (hc : X.calm = true) (h : PGs X es t)
    (hn : (assignEach es X.env).length = n := by rfl) (hst : (assignEach es X.env).findIdx? (·.1) = none := by rfl) : PG X (.Tuple es k pos) (gTup X.K n t) := by
  intro pins s σ H v u Q I r hw
  obtain ⟨a, xs, e1, hq, hl, hw⟩ := hw
  subst e1
  cases r
  obtain ⟨its, rv, ht, hz⟩ := I.tuple hq
  refine assign_Tuple_tuple (I.ok.hd hc) ht (by simp [hn, ← hl, rv.length]) hst fun h' hx => ?_
  have I1 : Inv X pins σ H { s with heap := h' } := I.kept (t' := s.toks) fun b o e => hx b o (Nat.ne_of_lt (Heap.lt_size e)) e
  exact h pins _ σ H xs _ Q I1 (by simpa using rv) hw
def gSub (to ti : TE) (t : TSet) : TG := fun v σ H Q => to σ H fun o H1 => ti σ H1 fun i H2 => t o i v H2 fun H3 => Q σ H3
theorem pg_sub {o i : Expr} {to ti : TE} {t : TSet} (ho : PE X o to) (hi : PE X i ti) (hs : PSet X t)
    (ha : ∀ v, assign (.Subscript o i pos) X.env v = (do
      let ov ← holding [v] (eval o X.env)
      let iv ← holding [v, ov] (eval i X.env)
      standAt pos
      holding [v, ov, iv] (setItem ov iv v)
      release [v, ov, iv] []) := by intro _; rfl) : PG X (.Subscript o i pos) (gSub to ti t) := by
  intro pins s σ H v u Q I r h
  rw [ha]
  refine wpAny_bind (wpAny_holding (thn (ho pins s σ H _ I h) fun ov s1 ⟨x, H1, I1, r1, q1⟩ => ?_))
  refine wpAny_bind (wpAny_holding (thn (hi pins s1 σ H1 _ I1 q1) fun iv s2 ⟨y, H2, I2, r2, q2⟩ => ?_))
  refine wpAny_bind (wpAny_standAt (wpAny_bind (wpAny_holding (thn (hs pins s2 σ H2 x y v ov iv u _ I2 r1 r2 r q2) fun _ s3 ⟨H3, I3, q3⟩ => ?_))))
  exact wpAny_release ⟨σ, H3, I3, q3⟩
def tAsg (te : TE) (g : TG) : TS := fun D σ H => te σ H fun x H1 => g x σ H1 D.nx
theorem ps_asg {tg e : Expr} {te : TE} {g : TG} (he : PE X e te) (hg : PG X tg g) (hs : swapsWithSole [tg] e pos.line X.env = pure false := by rfl) (hw : swappedStores [tg] e X.env = pure none := by rfl)
    (h1 : (assignEach [tg] X.env).map (·.2) = [assign tg X.env] := by rfl) : PS X (.Assign [tg] e pos) (tAsg te g) := by
  intro pins s σ H D I h
  refine wpAny_Assign_stores (thn (he pins s σ H _ I h) fun v s1 ⟨x, H1, I1, r1, q1⟩ => ?_) hs hw
  rw [h1]
  exact thn (hg pins s1 σ H1 x v _ I1 r1 q1) fun _ s2 q => q
theorem ps_set {i : Nat} {x : Str} {e : Expr} {te : TE} {pos' : Pos} (hN : X.N.Nodup) (hi : X.N[i]? = some x) (hx : Loc X.env.scope x) (he : PE X e te) (hs : swapsWith e (some (.Name x pos')) pos.line X.env = pure false := by rfl) (hf : X.fn x = true ∨ X.env.scope.names.lookup x = some .local := by first | exact .inl rfl | exact .inr rfl | assumption) :
    PS X (.Assign [.Name x pos'] e pos) (tAsg te (gName i)) := by
  intro pins s σ H D I h
  refine wpAny_Assign_Name (thn (he pins s σ H _ I h) fun v s1 ⟨y, H1, I1, r1, q1⟩ => ?_) hs
  exact store_ok I1 hN hi hx r1 (fun s2 I2 => ⟨_, H1, I2, q1⟩) hf
def tAug (i : Nat) (te : TE) (ti : TIp) : TS := fun D σ H => ∃ x, σ[i]? = some (some x) ∧ te σ H fun y H1 => ti x y H1 fun z H2 => D.nx (σ.set i (some z)) H2
theorem ps_aug {i : Nat} {x : Str} {e : Expr} {te : TE} {op : Operator} {ti : TIp} {pos' : Pos} (hN : X.N.Nodup) (hi : X.N[i]? = some x) (hx : Loc X.env.scope x) (he : PE X e te) (ho : PIp X op ti) (hf : X.fn x = true ∨ X.env.scope.names.lookup x = some .local := by first | exact .inl rfl | exact .inr rfl | assumption) :
    PS X (.AugAssign (.Name x pos') op e pos) (tAug i te ti) := by
  intro pins s σ H D I h
  obtain ⟨v, e1, h⟩ := h
  obtain ⟨m, hn, hl⟩ := I.loc
  have vis : Vis X.env.scope x := by rcases hx with k | k; exact .inl k; exact .inr (.inl k)
  obtain ⟨u, r, l⟩ := hl i x v hi e1 vis
  refine wpAny_AugAssign_Name ?_
  have go : wpAny (model X.prog X.w) X.A (eval e X.env) (fun w s₂ => wpAny (model X.prog X.w) X.A (inplaceOp op u w) (fun r s₃ => wpAny (model X.prog X.w) X.A (storeName X.env x r) (fun _ => SP X pins D .next) X.xe s₃) X.xe s₂) X.xe s := by
    refine thn (he pins s σ H _ I h) fun w s1 ⟨y, H1, I1, r1, q1⟩ => ?_
    refine thn (ho pins s1 σ H1 v y u w _ I1 r r1 q1) fun z s2 ⟨zv, H2, I2, r2, q2⟩ => ?_
    exact store_ok I2 hN hi hx r2 (fun s3 I3 => ⟨_, H2, I3, q2⟩) hf
  rcases l with ⟨hk, hm⟩ | ⟨hk, c, hc, hcell⟩
  · exact wpAny_loadName_local I.ok.kind hk hn hm go
  · rcases hk with hk | hk
    · exact wpAny_loadName_cell I.ok.kind hk hc hcell go
    · rcases hx with k | k
      · have : X.env.scope.names.lookup x = some .free := hk
        rw [k] at this; cases this
      · have : X.env.scope.names.lookup x = some .free := hk
        rw [k] at this; cases this
def ipI (f : Int → Int → Int) : TIp := fun x y H Q => ∃ i j, x = .int i ∧ y = .int j ∧ Q (.int (f i j)) H
theorem ip_add : PIp X .Add (ipI fun i j => i + j) := by
  intro pins s σ H x y v u Q I r1 r2 h
  obtain ⟨i, j, e1, e2, q⟩ := h
  subst e1; subst e2
  obtain ⟨t, rfl⟩ := r1
  obtain ⟨t', rfl⟩ := r2
  exact iadd_int ⟨.int _, H, I.tok _, ⟨_, rfl⟩, q⟩
end
section
variable {X : Cx} {pos : Pos}
def tWhile (c : TT) (tb : TS) : TS := fun D σ H => ∃ W : Nat → St → Hp → Prop, (∃ m, W m σ H) ∧ ∀ m σ H, W m σ H →
  c σ H fun b H1 => if b = true then ∃ N : St → Hp → Prop, (∀ σ' H', N σ' H' → ∃ m', m' < m ∧ W m' σ' H') ∧ tb { D with nx := N, ct := N, bk := D.nx } σ H1 else D.nx σ H1
theorem ps_while {c : Expr} {body : List Stmt} {tc : TT} {tb : TS} (hp : PassesOwn (model X.prog X.w) X.A X.env X.xe) (hc : PT X c tc) (hb : PSs X body tb) : PS X (.While c body [] pos) (tWhile tc tb) := by
  intro pins s σ H D I h
  obtain ⟨W, ⟨m0, w0⟩, turn⟩ := h
  refine wpAny_While (codeAny_whileLoop (fun n s' => ∃ σ' H', Inv X pins σ' H' s' ∧ W n σ' H') ?_ m0 ⟨σ, H, I, w0⟩)
  rintro n s1 ⟨σ1, H1, I1, w1⟩
  refine wpAny_passesOwn hp (thn (hc pins s1 σ1 H1 _ I1 (turn n σ1 H1 w1)) fun b s2 ⟨H2, I2, q2⟩ => ?_)
  cases b with
  | true =>
    obtain ⟨N, hN, q2⟩ := q2
    rw [if_pos rfl]
    refine wpAny_passesOwn hp (thn (hb pins s2 σ1 H2 _ I2 q2) fun f s3 q3 => ?_)
    cases f with
    | next =>
      obtain ⟨σ3, H3, I3, n3⟩ := q3
      obtain ⟨m', hm, w3⟩ := hN σ3 H3 n3
      exact ⟨m', hm, σ3, H3, I3, w3⟩
    | cont =>
      obtain ⟨σ3, H3, I3, n3⟩ := q3
      obtain ⟨m', hm, w3⟩ := hN σ3 H3 n3
      exact ⟨m', hm, σ3, H3, I3, w3⟩
    | brk => exact q3
    | ret v => exact q3
  | false =>
    rw [if_neg Bool.false_ne_true]
    exact wpAny_execs_nil ⟨σ1, H2, I2, q2⟩
end
structure It where
  go : Nat → Hp → Prop
  yld : Nat → Hp → V → Hp → Prop
  stop : Nat → Hp → Prop
def FpOk (X : Cx) (pins : List (Addr × Obj)) (H : Hp) (b : Addr) : Prop :=
  H b = none ∧ b ≠ X.env.locals ∧ b ∉ X.fs ∧ (b ∈ X.ex ∨ X.s₀.heap.objs.size ≤ b) ∧ (∀ x c, X.env.cells.lookup x = some c → c ≠ b) ∧ ∀ p ∈ X.pn ++ pins, p.1 ≠ b
theorem Inv.fpOk {X : Cx} {pins : List (Addr × Obj)} {σ : St} {H H' : Hp} {s : Shared} {b : Addr} (I : Inv X pins σ H s) (hb : s.heap.objs.size ≤ b) (hn : H' b = none) : FpOk X pins H' b := by
  refine ⟨hn, Nat.ne_of_gt (Nat.lt_of_lt_of_le I.lt hb), I.nofs hb, .inr (Nat.le_trans I.sz hb), fun x c e z => ?_, fun p hp z => ?_⟩
  · obtain ⟨v, q⟩ := I.cell x c e
    exact absurd (Nat.lt_of_lt_of_le q.lt (by rw [z]; exact hb)) (Nat.lt_irrefl _)
  · exact absurd (Nat.lt_of_lt_of_le (Heap.lt_size (I.pin p hp).1) (by rw [z]; exact hb)) (Nat.lt_irrefl _)
structure Turn (P : Program) (w : World) (K : PySem.W.Frag) (tg : Expr) (J : It) (fp : List Addr) (it : Addr) (tn : Nat → Heap → Prop) : Prop where
  mem : it ∈ fp
  obj : ∀ i h, tn i h → ∀ b ∈ fp, ∃ o, h.get? b = some o ∧ ∀ v, o.data ≠ .cell v
  keep : ∀ i h h', tn i h → (∀ b ∈ fp, ∀ o, h.get? b = some o → h'.get? b = some o) → tn i h'
  item : ∀ (X : Cx), X.prog = P → X.w = w → X.K = K → X.calm = true → ∀ (i : Nat) (pins : List (Addr × Obj)) (s : Shared) (σ : St) (H : Hp) (E : Value → Shared → Prop), Inv X pins σ H s → (∀ b ∈ fp, FpOk X pins H b) → tn i s.heap → J.go i H →
    wpAny (model P w) X.A (pyNext (.ref it)) (fun r s1 => ∃ u, r = some u ∧
      wpAny (model P w) X.A (letOwnedTupleGo tg (.ref it) u) (fun _ s2 => ∃ x H', Inv X pins σ H' s2 ∧ RelV x u ∧ J.yld i H x H' ∧ tn (i + 1) s2.heap ∧ ∀ b ∈ fp, H' b = none) E s1) E s
  done : ∀ (X : Cx), X.prog = P → X.w = w → X.K = K → X.calm = true → ∀ (i : Nat) (pins : List (Addr × Obj)) (s : Shared) (σ : St) (H : Hp) (E : Value → Shared → Prop), Inv X pins σ H s → (∀ b ∈ fp, FpOk X pins H b) → tn i s.heap → J.stop i H →
    wpAny (model P w) X.A (pyNext (.ref it)) (fun r s1 => r = none ∧ Inv X pins σ H s1) E s
  self : ∀ (A : Around) (i : Nat) (s : Shared) (Q : Value → Shared → Prop) (E : Value → Shared → Prop), tn i s.heap → Q (.ref it) s → wpAny (model P w) A (pyIter (.ref it)) Q E s
abbrev TI := St → Hp → (It → Hp → Prop) → Prop
def PIE (X : Cx) (pins : List (Addr × Obj)) (σ : St) (tg : Expr) (R : It → Hp → Prop) (itv : Value) (s2 : Shared) : Prop :=
  ∃ (it : Addr) (fp : List Addr) (tn : Nat → Heap → Prop) (J : It) (H' : Hp), itv = .ref it ∧ Inv X pins σ H' s2 ∧ Turn X.prog X.w X.K tg J fp it tn ∧ tn 0 s2.heap ∧ (∀ b ∈ fp, FpOk X pins H' b) ∧ R J H'
def PI (X : Cx) (tg iter : Expr) (wi : TI) : Prop :=
  ∀ (pins : List (Addr × Obj)) (s : Shared) (σ : St) (H : Hp) (R : It → Hp → Prop), Inv X pins σ H s → wi σ H R →
    wpAny (model X.prog X.w) X.A (eval iter X.env) (fun v s1 => wpAny (model X.prog X.w) X.A (pyIter v) (PIE X pins σ tg R) X.xe s1) X.xe s
theorem go_of {M : Model} {A : Around} {E : Value → Shared → Prop} {s : Shared} {tg : Expr} {it : Addr} {u : Value} {o : Obj} {n : String} {vs : Array Value} {Q : Unit → Shared → Prop} (ho : s.heap.get? it = some o) (hc : o.cls = .type n) (hd : o.data = .fields vs)
    (hn : ["enumerate", "zip", "dict_itemiterator", "dict_reverseitemiterator", "odict_iterator", "itertools.zip_longest", "itertools.pairwise"].contains n = false) (hQ : Q () s) : wpAny M A (letOwnedTupleGo tg (.ref it) u) Q E s := by
  unfold letOwnedTupleGo
  cases tg <;> first
    | exact wpAny_pure hQ
    | (cases u <;> first
        | exact wpAny_pure hQ
        | (refine wpAny_bind (wpAny_load ho ?_)
           rw [hc, hd]
           show wpAny M A (if (["enumerate", "zip", "dict_itemiterator", "dict_reverseitemiterator", "odict_iterator", "itertools.zip_longest", "itertools.pairwise"].contains n && vs[0]? == some (rawInt _)) = true then _ else _) Q E s
           rw [if_neg (by intro h; rw [hn, Bool.false_and] at h; cases h)]
           exact wpAny_pure hQ))
def Itl (K : PySem.W.Frag) (a : Addr) : It :=
  ⟨fun i H => ∃ xs x, SqL K H a xs ∧ xs[i]? = some x, fun i H x H' => H' = H ∧ ∀ xs, SqL K H a xs → xs[i]? = some x, fun i H => ∃ xs, SqL K H a xs ∧ xs.length ≤ i⟩
def Itt (K : PySem.W.Frag) (a : Addr) : It :=
  ⟨fun i H => ∃ xs x, SqT K H a xs ∧ xs[i]? = some x, fun i H x H' => H' = H ∧ ∀ xs, SqT K H a xs → xs[i]? = some x, fun i H => ∃ xs, SqT K H a xs ∧ xs.length ≤ i⟩
def Itr (lo : Int) (n : Nat) : It := ⟨fun i _ => i < n, fun i H x H' => H' = H ∧ x = .int (lo + i), fun i _ => n ≤ i⟩
theorem turn_list {P : Program} {w : World} {K : PySem.W.Frag} {tg : Expr} (a it : Addr) : Turn P w K tg (Itl K a) [it] it (fun i h => h.IsListIter it a i) where
  mem := by simp
  obj := fun i h st b hb => by
    have e : b = it := by simpa using hb
    subst e
    obtain ⟨o, e, c, d⟩ := st
    exact ⟨o, e, fun v z => by rw [d] at z; cases z⟩
  keep := fun i h h' st k => st.at fun o e => k it (by simp) o e
  item := by
    intro X hP hw hK hc i pins s σ H E I hf st hg
    subst hP hw hK
    obtain ⟨xs, x, hq, hx⟩ := hg
    obtain ⟨its, rv, p, hz⟩ := I.list hq
    obtain ⟨u, hu, ru⟩ := rv.get hx
    obtain ⟨f0, f1, f2, f3, f4, f5⟩ := hf it (by simp)
    refine wpAny_pyNext_list_item st p.isList (x := u) (by simpa using hu) fun h' st' sb => ?_
    have I1 : Inv X pins σ H { s with heap := h' } := I.turned (t' := s.toks) (fun b o hb e => (sb.2 b hb).trans e) f0 f1 f3 f4 f5
    obtain ⟨o, e, c, d⟩ := id st'
    exact ⟨u, rfl, go_of (s := { s with heap := h' }) e c d (by decide) ⟨x, H, I1, ru, ⟨rfl, fun ys hy => by rw [I.list_inj hy hq]; exact hx⟩, st', fun b hb => (hf b hb).1⟩⟩
  done := by
    intro X hP hw hK hc i pins s σ H E I hf st hg
    subst hP hw hK
    obtain ⟨xs, hq, hx⟩ := hg
    obtain ⟨its, rv, p, hz⟩ := I.list hq
    obtain ⟨f0, f1, f2, f3, f4, f5⟩ := hf it (by simp)
    have hl := rv.length
    exact wpAny_pyNext_list_end (I.ok.hd hc) st p.isList (by simp; omega) fun h' eb => ⟨rfl, I.turned (t' := s.toks) (fun b o hb e => eb b o hb e) f0 f1 f3 f4 f5⟩
  self := fun _ _ _ _ _ st h => wpAny_pyIter_listiter st h
theorem turn_tuple {P : Program} {w : World} {K : PySem.W.Frag} {tg : Expr} (a it : Addr) : Turn P w K tg (Itt K a) [it] it (fun i h => h.IsTupleIter it a i) where
  mem := by simp
  obj := fun i h st b hb => by
    have e : b = it := by simpa using hb
    subst e
    obtain ⟨o, e, c, d⟩ := st
    exact ⟨o, e, fun v z => by rw [d] at z; cases z⟩
  keep := fun i h h' st k => st.at fun o e => k it (by simp) o e
  item := by
    intro X hP hw hK hc i pins s σ H E I hf st hg
    subst hP hw hK
    obtain ⟨xs, x, hq, hx⟩ := hg
    obtain ⟨its, rv, p, hz⟩ := I.tuple hq
    obtain ⟨u, hu, ru⟩ := rv.get hx
    obtain ⟨f0, f1, f2, f3, f4, f5⟩ := hf it (by simp)
    refine wpAny_pyNext_tuple_item st (show s.heap.IsTuple a its.toArray from p) (x := u) (by simpa using hu) fun h' st' sb => ?_
    have I1 : Inv X pins σ H { s with heap := h' } := I.turned (t' := s.toks) (fun b o hb e => (sb.2 b hb).trans e) f0 f1 f3 f4 f5
    obtain ⟨o, e, c, d⟩ := id st'
    exact ⟨u, rfl, go_of (s := { s with heap := h' }) e c d (by decide) ⟨x, H, I1, ru, ⟨rfl, fun ys hy => by rw [I.tuple_inj hy hq]; exact hx⟩, st', fun b hb => (hf b hb).1⟩⟩
  done := by
    intro X hP hw hK hc i pins s σ H E I hf st hg
    subst hP hw hK
    obtain ⟨xs, hq, hx⟩ := hg
    obtain ⟨its, rv, p, hz⟩ := I.tuple hq
    obtain ⟨f0, f1, f2, f3, f4, f5⟩ := hf it (by simp)
    have hl := rv.length
    exact wpAny_pyNext_tuple_end (I.ok.hd hc) st (show s.heap.IsTuple a its.toArray from p) (by simp; omega) fun h' eb => ⟨rfl, I.turned (t' := s.toks) (fun b o hb e => eb b o hb e) f0 f1 f3 f4 f5⟩
  self := fun _ _ _ _ _ st h => wpAny_pyIter_tupleiter st h
theorem turn_range {P : Program} {w : World} {K : PySem.W.Frag} {tg : Expr} (it : Addr) (lo : Int) (n : Nat) : Turn P w K tg (Itr lo n) [it] it (fun i h => IsRangeIter h it (lo + (i : Nat) * 1) ((n : Int) - (i : Nat)) 1) where
  mem := by simp
  obj := fun i h st b hb => by
    have e : b = it := by simpa using hb
    subst e
    exact ⟨_, st, fun v z => by
      have z' : Data.fields _ = Data.cell v := z
      cases z'⟩
  keep := fun i h h' st k => k it (by simp) _ st
  item := by
    intro X hP hw hK hc i pins s σ H E I hf st hg
    subst hP hw hK
    obtain ⟨f0, f1, f2, f3, f4, f5⟩ := hf it (by simp)
    have W := Walks.range (prog := X.prog) (w := X.w) (I.ok.hd hc) it lo 1 n
    refine W.item i s _ _ hg st fun v h' tk hv st' kk => ?_
    obtain ⟨t, rfl⟩ := hv
    have I1 : Inv X pins σ H { s with heap := h', toks := tk } := I.turned (fun b o hb e => kk b o (by simpa using hb) e) f0 f1 f3 f4 f5
    refine ⟨_, rfl, go_of (s := { s with heap := h', toks := tk }) (n := "range_iterator") st' rfl rfl (by decide) ⟨.int (lo + i), H, I1, ⟨t, ?_⟩, ⟨rfl, rfl⟩, st', fun b hb => (hf b hb).1⟩⟩
    rw [Int.mul_one]
  done := by
    intro X hP hw hK hc i pins s σ H E I hf st hg
    subst hP hw hK
    obtain ⟨f0, f1, f2, f3, f4, f5⟩ := hf it (by simp)
    exact wpAny_pyNext_range_end (I.ok.hd hc) st (by have : n ≤ i := hg; omega) fun h' eb => ⟨rfl, I.turned (t' := s.toks) (fun b o hb e => eb b o hb e) f0 f1 f3 f4 f5⟩
  self := fun _ _ _ _ _ st h => wpAny_pyIter_rangeiter st h
end L2
namespace L2
open PySem PySem.Spec PyProof.Rows
section
variable {X : Cx} {tg : Expr}
def iList (K : PySem.W.Frag) (tl : TE) : TI := fun σ H R => tl σ H fun x H1 => ∃ a, x = .ref a ∧ (∃ xs, SqL K H1 a xs) ∧ R (Itl K a) H1
def iTup (K : PySem.W.Frag) (tl : TE) : TI := fun σ H R => tl σ H fun x H1 => ∃ a, x = .ref a ∧ (∃ xs, SqT K H1 a xs) ∧ R (Itt K a) H1
theorem pi_list {l : Expr} {tl : TE} (hl : PE X l tl) : PI X tg l (iList X.K tl) := by
  intro pins s σ H R I h
  refine thn (hl pins s σ H _ I h) fun v s1 ⟨x, H1, I1, r1, q1⟩ => ?_
  obtain ⟨a, e, ⟨xs, hq⟩, q⟩ := q1
  subst e
  cases r1
  obtain ⟨its, rv, p, hz⟩ := I1.list hq
  refine wpAny_pyIter_list p.isList ?_
  refine ⟨s1.heap.objs.size, [s1.heap.objs.size], _, _, H1, rfl, I1.kept (t' := s1.toks) fun b o e => Heap.get?_push_of_some _ e, turn_list a _, ⟨_, Heap.get?_push_size _ rfl, rfl, rfl⟩, fun b hb => ?_, q⟩
  have e : b = s1.heap.objs.size := by simpa using hb
  subst e
  exact I1.fpOk (Nat.le_refl _) (I1.hok.fresh (Nat.le_refl _))
theorem pi_tup {l : Expr} {tl : TE} (hl : PE X l tl) : PI X tg l (iTup X.K tl) := by
  intro pins s σ H R I h
  refine thn (hl pins s σ H _ I h) fun v s1 ⟨x, H1, I1, r1, q1⟩ => ?_
  obtain ⟨a, e, ⟨xs, hq⟩, q⟩ := q1
  subst e
  cases r1
  obtain ⟨its, rv, p, hz⟩ := I1.tuple hq
  refine wpAny_pyIter_tuple (show s1.heap.IsTuple a its.toArray from p) ?_
  refine ⟨s1.heap.objs.size, [s1.heap.objs.size], _, _, H1, rfl, I1.kept (t' := s1.toks) fun b o e => Heap.get?_push_of_some _ e, turn_tuple a _, ⟨_, Heap.get?_push_size _ rfl, rfl, rfl⟩, fun b hb => ?_, q⟩
  have e : b = s1.heap.objs.size := by simpa using hb
  subst e
  exact I1.fpOk (Nat.le_refl _) (I1.hok.fresh (Nat.le_refl _))
theorem range_it {pins : List (Addr × Obj)} {σ : St} {H : Hp} {s : Shared} {R : It → Hp → Prop} {E : Value → Shared → Prop} {lo hi : Int} {t u v : Tok} {tk : Nat} (I : Inv X pins σ H s) (h1 : -(2 ^ 62) ≤ lo) (h2 : lo < 2 ^ 62) (h3 : -(2 ^ 62) ≤ hi) (h4 : hi < 2 ^ 62)
    (q : R (Itr lo (hi - lo).toNat) H) : wpAny (model X.prog X.w) X.A (pyIter (.ref s.heap.objs.size)) (PIE X pins σ tg R) E { s with heap := s.heap.push { cls := .type "range", data := .fields #[.int lo t, .int hi u, .int 1 v] }, toks := tk } := by
  refine wpAny_pyIter_range (IsRange.new ..) (small_one h1 h2 h3 h4) ?_
  have I1 : Inv X pins σ H { s with heap := s.heap.push { cls := .type "range", data := .fields #[.int lo t, .int hi u, .int 1 v] }, toks := tk } := I.kept fun b o e => Heap.get?_push_of_some _ e
  refine ⟨(s.heap.push { cls := .type "range", data := .fields #[.int lo t, .int hi u, .int 1 v] }).objs.size, [(s.heap.push { cls := .type "range", data := .fields #[.int lo t, .int hi u, .int 1 v] }).objs.size], _, _, H, rfl,
    I1.kept (t' := tk) fun b o e => Heap.get?_push_of_some _ e, turn_range _ lo (hi - lo).toNat, ?_, fun b hb => ?_, q⟩
  · have e1 : lo + ((0 : Nat) : Int) * 1 = lo := by simp
    have e2 : (((hi - lo).toNat : Nat) : Int) - ((0 : Nat) : Int) = Builtin.Range.rangeSize lo hi 1 := by rw [rangeSize_one]; split <;> omega
    show IsRangeIter _ _ (lo + ((0 : Nat) : Int) * 1) ((((hi - lo).toNat : Nat) : Int) - ((0 : Nat) : Int)) 1
    rw [e1, e2]
    exact Heap.get?_push_size _ rfl
  · have e : b = (s.heap.push { cls := .type "range", data := .fields #[.int lo t, .int hi u, .int 1 v] }).objs.size := by simpa using hb
    subst e
    exact I1.fpOk (Nat.le_refl _) (I1.hok.fresh (Nat.le_refl _))
def iRng1 (ta : TA) : TI := fun σ H R => ta σ H fun vs H1 => ∃ j : Int, vs = [.int j] ∧ -(2 ^ 62) ≤ j ∧ j < 2 ^ 62 ∧ R (Itr 0 j.toNat) H1
theorem pi_range1 {a : Expr} {ta : TA} {p pos : Pos} (hg : Gl X "range") (hm : X.mg "range" = none) (ha : PA X [a] ta) (hs : starEach [a] X.env = [(false, eval a X.env)] := by rfl) : PI X tg (.Call (.Name "range" p) [a] [] pos) (iRng1 ta) := by
  intro pins s σ H R I h
  refine Call_ (ld_blt I hg hm boot_range (PyProof.Rows.callWith_type1 (thn (ha pos pins s σ H _ I h) fun us s1 ⟨vs, H1, I1, r1, q1⟩ => ?_) hs rfl))
  obtain ⟨j, e, q1, q2, q⟩ := q1
  subst e
  cases r1 with
  | cons r rr =>
    cases rr
    obtain ⟨t, rfl⟩ := r
    exact call_range_1 (range_it I1 (by omega) (by omega) q1 q2 (by simpa using q))
def tFor (wi : TI) (g : TG) (tb : TS) : TS := fun D σ H => wi σ H fun J H1 => ∃ W : Nat → Nat → St → Hp → Prop, (∃ m, W 0 m σ H1) ∧ ∀ i m σ H, W i m σ H →
  (J.stop i H ∧ D.nx σ H) ∨ (J.go i H ∧ ∃ N : St → Hp → Prop, (∀ σ' H', N σ' H' → ∃ m', m' < m ∧ W (i + 1) m' σ' H') ∧ ∀ x H', J.yld i H x H' → g x σ H' fun σ2 H2 => tb { D with nx := N, ct := N, bk := D.nx } σ2 H2)
def pinsAt (fp : List Addr) (h : Heap) : List (Addr × Obj) := fp.filterMap fun b => (h.get? b).map fun o => (b, o)
theorem mem_pinsAt {fp : List Addr} {h : Heap} {b : Addr} {o : Obj} (hb : b ∈ fp) (e : h.get? b = some o) : (b, o) ∈ pinsAt fp h := List.mem_filterMap.mpr ⟨b, hb, by rw [e]; rfl⟩
theorem of_pinsAt {fp : List Addr} {h : Heap} {p : Addr × Obj} (hp : p ∈ pinsAt fp h) : p.1 ∈ fp ∧ h.get? p.1 = some p.2 := by
  obtain ⟨b, hb, e⟩ := List.mem_filterMap.mp hp
  cases q : h.get? b with
  | none => rw [q] at e; cases e
  | some o =>
    rw [q] at e
    have e' : (b, o) = p := Option.some.inj e
    subst e'
    exact ⟨hb, q⟩
theorem Inv.pinned {pins : List (Addr × Obj)} {σ : St} {H : Hp} {s : Shared} {fp : List Addr} (I : Inv X pins σ H s) (hf : ∀ b ∈ fp, FpOk X pins H b) (ho : ∀ b ∈ fp, ∃ o, s.heap.get? b = some o ∧ ∀ v, o.data ≠ .cell v) : Inv X (pins ++ pinsAt fp s.heap) σ H s :=
  I.pins_of fun p hp => (List.mem_append.mp hp).elim (fun z => I.pin p (List.mem_append_right _ z)) fun z => by
    obtain ⟨hb, e⟩ := of_pinsAt z
    obtain ⟨f0, f1, f2, _⟩ := hf p.1 hb
    obtain ⟨o, e', d⟩ := ho p.1 hb
    rw [e] at e'; cases e'
    exact ⟨e, f0, f1, f2, d⟩
theorem Inv.unpinned {pins pl : List (Addr × Obj)} {σ : St} {H : Hp} {s : Shared} (I : Inv X (pins ++ pl) σ H s) : Inv X pins σ H s := I.pins_of fun p hp => I.pin p (List.mem_append_right _ (List.mem_append_left _ hp))
theorem ps_for {iter : Expr} {body : List Stmt} {wi : TI} {g : TG} {tb : TS} {pos : Pos} (hp : PassesOwn (model X.prog X.w) X.A X.env X.xe) (hc : X.calm = true) (hi : PI X tg iter wi) (hg : PG X tg g) (hb : PSs X body tb)
    (hs : ∀ x, foldedSetIterable iter X.env x = pure x := by intro _; rfl) : PS X (.For tg iter body [] pos) (tFor wi g tb) := by
  intro pins s σ H D I h
  refine wpAny_For (thn (hi pins s σ H _ I h) fun v s1 h1 => thn h1 fun itv s2 h2 => ?_) hs
  obtain ⟨it, fp, tn, J, H2, e, I2, T, st2, f2, W, ⟨m0, w0⟩, turn⟩ := h2
  subst e
  have stat : ∀ {H' : Hp}, (∀ b ∈ fp, H' b = none) → ∀ b ∈ fp, FpOk X pins H' b := fun hn b hb => ⟨hn b hb, (f2 b hb).2⟩
  refine codeAny_forLoop_any (fun n s' => ∃ i σ' H', Inv X pins σ' H' s' ∧ tn i s'.heap ∧ (∀ b ∈ fp, H' b = none) ∧ W i n σ' H') ?_ m0 ⟨0, σ, H2, I2, st2, fun b hb => (f2 b hb).1, w0⟩
  rintro n s3 ⟨i, σ3, H3, I3, st3, fr3, w3⟩
  rcases turn i n σ3 H3 w3 with ⟨stop, qn⟩ | ⟨go, N, hN, step⟩
  · refine wpAny_passesOwn hp (thn (T.done X rfl rfl rfl hc i pins s3 σ3 H3 X.xe I3 (stat fr3) st3 stop) fun r s4 ⟨hr, I4⟩ => ?_)
    subst hr
    exact wpAny_execs_nil ⟨σ3, H3, I4, qn⟩
  · refine wpAny_passesOwn hp (thn (T.item X rfl rfl rfl hc i pins s3 σ3 H3 X.xe I3 (stat fr3) st3 go) fun r s4 ⟨u, hr, h4⟩ => ?_)
    subst hr
    refine wpAny_passesOwn hp (thn h4 fun _ s5 ⟨x, H5, I5, r5, y5, st5, fr5⟩ => ?_)
    have I5' := I5.pinned (stat fr5) (T.obj _ _ st5)
    refine wpAny_passesOwn hp (thn (hg _ s5 σ3 H5 x u _ I5' r5 (step x H5 y5)) fun _ s6 ⟨σ6, H6, I6, q6⟩ => ?_)
    refine wpAny_passesOwn hp (thn (hb _ s6 σ6 H6 _ I6 q6) fun f s7 q7 => ?_)
    have again : ∀ {σ7 : St} {H7 : Hp}, Inv X (pins ++ pinsAt fp s5.heap) σ7 H7 s7 → N σ7 H7 → ∃ m, m < n ∧ ∃ i σ' H', Inv X pins σ' H' s7 ∧ tn i s7.heap ∧ (∀ b ∈ fp, H' b = none) ∧ W i m σ' H' := fun {σ7 H7} I7 n7 => by
      obtain ⟨m', hm, w7⟩ := hN σ7 H7 n7
      refine ⟨m', hm, i + 1, σ7, H7, I7.unpinned, T.keep _ _ _ st5 fun b hb o e => (I7.pin (b, o) (List.mem_append_right _ (List.mem_append_right _ (mem_pinsAt hb e)))).1, fun b hb => ?_, w7⟩
      obtain ⟨o, e, d⟩ := T.obj _ _ st5 b hb
      exact (I7.pin (b, o) (List.mem_append_right _ (List.mem_append_right _ (mem_pinsAt hb e)))).2.1
    cases f with
    | next => obtain ⟨σ7, H7, I7, n7⟩ := q7; exact again I7 n7
    | cont => obtain ⟨σ7, H7, I7, n7⟩ := q7; exact again I7 n7
    | brk => obtain ⟨σ7, H7, I7, q7⟩ := q7; exact ⟨σ7, H7, I7.unpinned, q7⟩
    | ret v => obtain ⟨x7, σ7, H7, I7, r7, q7⟩ := q7; exact ⟨x7, σ7, H7, I7.unpinned, r7, q7⟩
end
theorem for_list {K : PySem.W.Frag} {a : Addr} {xs : List V} {g : TG} {tb : TS} {D : Ends} {σ : St} {H : Hp} (Pv : Nat → St → Hp → Prop) (h0 : Pv 0 σ H) (hl : ∀ i σ H, i ≤ xs.length → Pv i σ H → SqL K H a xs)
    (hs : ∀ i x σ H, xs[i]? = some x → Pv i σ H → g x σ H fun σ2 H2 => tb { D with nx := Pv (i + 1), ct := Pv (i + 1), bk := D.nx } σ2 H2) (hd : ∀ σ H, Pv xs.length σ H → D.nx σ H) :
    ∃ W : Nat → Nat → St → Hp → Prop, (∃ m, W 0 m σ H) ∧ ∀ i m σ H, W i m σ H →
      ((Itl K a).stop i H ∧ D.nx σ H) ∨ ((Itl K a).go i H ∧ ∃ N : St → Hp → Prop, (∀ σ' H', N σ' H' → ∃ m', m' < m ∧ W (i + 1) m' σ' H') ∧ ∀ x H', (Itl K a).yld i H x H' → g x σ H' fun σ2 H2 => tb { D with nx := N, ct := N, bk := D.nx } σ2 H2) := by
  refine ⟨fun i m σ H => m = xs.length - i ∧ i ≤ xs.length ∧ Pv i σ H, ⟨xs.length, by simp, Nat.zero_le _, h0⟩, ?_⟩
  rintro i m σ H ⟨rfl, hi, p⟩
  have q := hl i σ H hi p
  by_cases hlt : i < xs.length
  · refine .inr ⟨⟨xs, xs[i], q, by simp [hlt]⟩, Pv (i + 1), fun σ' H' p' => ⟨xs.length - (i + 1), by omega, rfl, hlt, p'⟩, fun x H' y => ?_⟩
    obtain ⟨e, y⟩ := y
    subst e
    exact hs i x σ _ (y xs q) p
  · have e : i = xs.length := by omega
    subst e
    exact .inl ⟨⟨xs, q, Nat.le_refl _⟩, hd σ H p⟩
theorem for_tup {K : PySem.W.Frag} {a : Addr} {xs : List V} {g : TG} {tb : TS} {D : Ends} {σ : St} {H : Hp} (Pv : Nat → St → Hp → Prop) (h0 : Pv 0 σ H) (hl : ∀ i σ H, i ≤ xs.length → Pv i σ H → SqT K H a xs)
    (hs : ∀ i x σ H, xs[i]? = some x → Pv i σ H → g x σ H fun σ2 H2 => tb { D with nx := Pv (i + 1), ct := Pv (i + 1), bk := D.nx } σ2 H2) (hd : ∀ σ H, Pv xs.length σ H → D.nx σ H) :
    ∃ W : Nat → Nat → St → Hp → Prop, (∃ m, W 0 m σ H) ∧ ∀ i m σ H, W i m σ H →
      ((Itt K a).stop i H ∧ D.nx σ H) ∨ ((Itt K a).go i H ∧ ∃ N : St → Hp → Prop, (∀ σ' H', N σ' H' → ∃ m', m' < m ∧ W (i + 1) m' σ' H') ∧ ∀ x H', (Itt K a).yld i H x H' → g x σ H' fun σ2 H2 => tb { D with nx := N, ct := N, bk := D.nx } σ2 H2) := by
  refine ⟨fun i m σ H => m = xs.length - i ∧ i ≤ xs.length ∧ Pv i σ H, ⟨xs.length, by simp, Nat.zero_le _, h0⟩, ?_⟩
  rintro i m σ H ⟨rfl, hi, p⟩
  have q := hl i σ H hi p
  by_cases hlt : i < xs.length
  · refine .inr ⟨⟨xs, xs[i], q, by simp [hlt]⟩, Pv (i + 1), fun σ' H' p' => ⟨xs.length - (i + 1), by omega, rfl, hlt, p'⟩, fun x H' y => ?_⟩
    obtain ⟨e, y⟩ := y
    subst e
    exact hs i x σ _ (y xs q) p
  · have e : i = xs.length := by omega
    subst e
    exact .inl ⟨⟨xs, q, Nat.le_refl _⟩, hd σ H p⟩
theorem for_range {lo : Int} {n : Nat} {g : TG} {tb : TS} {D : Ends} {σ : St} {H : Hp} (Pv : Nat → St → Hp → Prop) (h0 : Pv 0 σ H)
    (hs : ∀ i σ H, i < n → Pv i σ H → g (.int (lo + i)) σ H fun σ2 H2 => tb { D with nx := Pv (i + 1), ct := Pv (i + 1), bk := D.nx } σ2 H2) (hd : ∀ σ H, Pv n σ H → D.nx σ H) :
    ∃ W : Nat → Nat → St → Hp → Prop, (∃ m, W 0 m σ H) ∧ ∀ i m σ H, W i m σ H →
      ((Itr lo n).stop i H ∧ D.nx σ H) ∨ ((Itr lo n).go i H ∧ ∃ N : St → Hp → Prop, (∀ σ' H', N σ' H' → ∃ m', m' < m ∧ W (i + 1) m' σ' H') ∧ ∀ x H', (Itr lo n).yld i H x H' → g x σ H' fun σ2 H2 => tb { D with nx := N, ct := N, bk := D.nx } σ2 H2) := by
  refine ⟨fun i m σ H => m = n - i ∧ i ≤ n ∧ Pv i σ H, ⟨n, by simp, Nat.zero_le _, h0⟩, ?_⟩
  rintro i m σ H ⟨rfl, hi, p⟩
  by_cases hlt : i < n
  · refine .inr ⟨hlt, Pv (i + 1), fun σ' H' p' => ⟨n - (i + 1), by omega, rfl, hlt, p'⟩, fun x H' y => ?_⟩
    obtain ⟨e, y⟩ := y
    subst e y
    exact hs i σ _ hlt p
  · have e : i = n := by omega
    subst e
    exact .inl ⟨Nat.le_refl _, hd σ H p⟩
end L2
namespace L2
open PySem PySem.Spec PyProof.Rows
abbrev R2 := V → V → Hp → VK → Prop
def OpR (X : Cx) (f : Value → Value → Sem Value) (r : R2) : Prop :=
  ∀ (pins : List (Addr × Obj)) (s : Shared) (σ : St) (H : Hp) (x y : V) (v u : Value) (Q : VK), Inv X pins σ H s → RelV x v → RelV y u → r x y H Q →
    wpAny (model X.prog X.w) X.A (f v u) (EP X pins σ Q) X.xe s
def UnR (X : Cx) (f : Value → Sem Value) (r : V → Hp → VK → Prop) : Prop :=
  ∀ (pins : List (Addr × Obj)) (s : Shared) (σ : St) (H : Hp) (x : V) (v : Value) (Q : VK), Inv X pins σ H s → RelV x v → r x H Q →
    wpAny (model X.prog X.w) X.A (f v) (EP X pins σ Q) X.xe s
def CallR (X : Cx) (f : Value) (r : List V → Hp → VK → Prop) : Prop :=
  ∀ (pins : List (Addr × Obj)) (s : Shared) (σ : St) (H : Hp) (xs : List V) (us : List Value) (Q : VK), Inv X pins σ H s → Vals xs us → r xs H Q →
    wpAny (model X.prog X.w) X.A (call f us) (EP X pins σ Q) X.xe s
def tOp (r : R2) (ta tb : TE) : TE := fun σ H Q => ta σ H fun x H1 => tb σ H1 fun y H2 => r x y H2 Q
def tUn (r : V → Hp → VK → Prop) (ta : TE) : TE := fun σ H Q => ta σ H fun x H1 => r x H1 Q
def rI (C : Int → Int → Prop) (g : Int → Int → V) : R2 := fun x y H Q => ∃ i j, x = .int i ∧ y = .int j ∧ C i j ∧ Q (g i j) H
def rI0 (g : Int → Int → V) : R2 := fun x y H Q => ∃ i j, x = .int i ∧ y = .int j ∧ Q (g i j) H
def rU (g : Int → V) : V → Hp → VK → Prop := fun x H Q => ∃ i, x = .int i ∧ Q (g i) H
section
variable {X : Cx} {a b c : Expr} {ta tb tc : TE} {pos : Pos}
theorem binT (ha : PE X a ta) (hb : PE X b tb) {pins : List (Addr × Obj)} {s : Shared} {σ : St} {H : Hp} {R : V → V → Hp → Prop} (I : Inv X pins σ H s)
    (h : ta σ H fun x H1 => tb σ H1 fun y H2 => R x y H2) {Q : Value → Shared → Prop} {f : Value → Value → Sem Value}
    (hf : ∀ v u s2 x y H2, Inv X pins σ H2 s2 → RelV x v → RelV y u → R x y H2 → wpAny (model X.prog X.w) X.A (f v u) Q X.xe s2) :
    wpAny (model X.prog X.w) X.A (eval a X.env) (fun v s₁ => wpAny (model X.prog X.w) X.A (eval b X.env) (fun u s₂ => wpAny (model X.prog X.w) X.A (f v u) Q X.xe s₂) X.xe s₁) X.xe s := by
  refine thn (ha pins s σ H _ I h) fun v s1 ⟨x, H1, I1, r1, q1⟩ => ?_
  refine thn (hb pins s1 σ H1 _ I1 q1) fun u s2 ⟨y, H2, I2, r2, q2⟩ => ?_
  exact hf v u s2 x y H2 I2 r1 r2 q2
theorem pe_op {op : Operator} {r : R2} (ho : OpR X (binaryOp op) r) (ha : PE X a ta) (hb : PE X b tb) : PE X (.BinOp a op b pos) (tOp r ta tb) := by
  intro pins s σ H Q I h
  exact wpAny_BinOp (binT ha hb I h fun v u s2 x y H2 I2 rx ry q => ho pins s2 σ H2 x y v u Q I2 rx ry q)
theorem pe_un {op : UnaryOp} {r : V → Hp → VK → Prop} (ho : UnR X (unaryOp op) r) (ha : PE X a ta) : PE X (.UnaryOp op a pos) (tUn r ta) := by
  intro pins s σ H Q I h
  exact UnaryOp_ (thn (ha pins s σ H _ I h) fun v s1 ⟨x, H1, I1, r1, q1⟩ => ho pins s1 σ H1 x v Q I1 r1 q1)
theorem opI {f : Value → Value → Sem Value} {C : Int → Int → Prop} {g : Int → Int → Int}
    (rule : ∀ (i j : Int) (t u : Tok) (s : Shared) (Q : Value → Shared → Prop) (E : Value → Shared → Prop), C i j → Q (.int (g i j) s.toks) { s with toks := s.toks + 1 } → wpAny (model X.prog X.w) X.A (f (.int i t) (.int j u)) Q E s) :
    OpR X f (rI C fun i j => .int (g i j)) := by
  intro pins s σ H x y v u Q I rx ry h
  obtain ⟨i, j, rfl, rfl, hc, q⟩ := h
  obtain ⟨t, rfl⟩ := rx
  obtain ⟨t', rfl⟩ := ry
  exact rule i j t t' s _ _ hc ⟨.int (g i j), H, I.tok _, ⟨_, rfl⟩, q⟩
theorem opI0 {f : Value → Value → Sem Value} {g : Int → Int → Int}
    (rule : ∀ (i j : Int) (t u : Tok) (s : Shared) (Q : Value → Shared → Prop) (E : Value → Shared → Prop), Q (.int (g i j) s.toks) { s with toks := s.toks + 1 } → wpAny (model X.prog X.w) X.A (f (.int i t) (.int j u)) Q E s) :
    OpR X f (rI0 fun i j => .int (g i j)) := by
  intro pins s σ H x y v u Q I rx ry h
  obtain ⟨i, j, rfl, rfl, q⟩ := h
  obtain ⟨t, rfl⟩ := rx
  obtain ⟨t', rfl⟩ := ry
  exact rule i j t t' s _ _ ⟨.int (g i j), H, I.tok _, ⟨_, rfl⟩, q⟩
theorem opB0 {f : Value → Value → Sem Value} {g : Int → Int → Bool}
    (rule : ∀ (i j : Int) (t u : Tok) (s : Shared) (Q : Value → Shared → Prop) (E : Value → Shared → Prop), Q (.bool (g i j)) s → wpAny (model X.prog X.w) X.A (f (.int i t) (.int j u)) Q E s) :
    OpR X f (rI0 fun i j => .bl (g i j)) := by
  intro pins s σ H x y v u Q I rx ry h
  obtain ⟨i, j, rfl, rfl, q⟩ := h
  obtain ⟨t, rfl⟩ := rx
  obtain ⟨t', rfl⟩ := ry
  exact rule i j t t' s _ _ ⟨.bl (g i j), H, I, rfl, q⟩
def CDiv (i j : Int) : Prop := 0 < j ∧ j < 1073741824
def CPow (i j : Int) : Prop := 0 ≤ j ∧ j ≤ 1000000 ∧ i.natAbs < 2 ^ 64
def CMul (i j : Int) : Prop := (-(2 ^ 64) < i ∧ i < 2 ^ 64) ∨ (-(2 ^ 64) < j ∧ j < 2 ^ 64)
theorem CMul.ok {i j : Int} (h : CMul i j) : IntMulOk i j := by
  rcases h with ⟨h1, h2⟩ | ⟨h1, h2⟩
  · exact .of_left (intBits_le_64 h1 h2)
  · exact .of_right (intBits_le_64 h1 h2)
theorem op_add : OpR X (binaryOp .Add) (rI0 fun i j => .int (i + j)) := opI0 fun _ _ _ _ _ _ _ q => add_int q
theorem op_sub : OpR X (binaryOp .Sub) (rI0 fun i j => .int (i - j)) := opI0 fun _ _ _ _ _ _ _ q => sub_int q
theorem op_mul : OpR X (binaryOp .Mult) (rI CMul fun i j => .int (i * j)) := opI fun _ _ _ _ _ _ _ hc q => mul_int q hc.ok
theorem op_fdiv : OpR X (binaryOp .FloorDiv) (rI CDiv fun i j => .int (i / j)) := opI fun i j _ _ _ _ _ hc q => by
  have h1 : (0 : Int) < j := hc.1
  have h2 : j < 1073741824 := hc.2
  exact floordiv_int (by omega) (by rw [Int.fdiv_eq_ediv_of_nonneg i (by omega)]; exact q) (.inl (PyProof.noPylong_small (by omega)))
theorem op_mod : OpR X (binaryOp .Mod) (rI (fun _ j => 0 < j) fun i j => .int (i % j)) := opI fun i j _ _ _ _ _ hc q => by
  have h1 : (0 : Int) < j := hc
  exact mod_int' (by omega) (by rw [Int.fmod_eq_emod_of_nonneg i (by omega)]; exact q)
theorem op_pow : OpR X (binaryOp .Pow) (rI CPow fun i j => .int (i ^ j.toNat)) := opI fun _ _ _ _ _ _ _ hc q => pow_int_small hc.1 hc.2.1 hc.2.2 q
theorem unI {f : Value → Sem Value} {g : Int → Int}
    (rule : ∀ (i : Int) (t : Tok) (s : Shared) (Q : Value → Shared → Prop) (E : Value → Shared → Prop), Q (.int (g i) s.toks) { s with toks := s.toks + 1 } → wpAny (model X.prog X.w) X.A (f (.int i t)) Q E s) :
    UnR X f (rU fun i => .int (g i)) := by
  intro pins s σ H x v Q I rx h
  obtain ⟨i, rfl, q⟩ := h
  obtain ⟨t, rfl⟩ := rx
  exact rule i t s _ _ ⟨.int (g i), H, I.tok _, ⟨_, rfl⟩, q⟩
theorem un_neg : UnR X (unaryOp .USub) (rU fun i => .int (-i)) := unI fun _ _ _ _ _ q => neg_int q
end
def scal : V → V → Bool
  | .non, .non => true | .non, .int _ => true | .int _, .non => true | .non, .bl _ => true | .bl _, .non => true | .non, .str _ => true | .str _, .non => true
  | .int _, .int _ => true | .bl _, .bl _ => true | .str _, .str _ => true | .byt _, .byt _ => true
  | .int _, .str _ => true | .str _, .int _ => true | .bl _, .str _ => true | .str _, .bl _ => true
  | _, _ => false
def rEq : R2 := fun x y H Q => scal x y = true ∧ Q (.bl (decide (x = y))) H
def rNe : R2 := fun x y H Q => scal x y = true ∧ Q (.bl (!decide (x = y))) H
theorem dec_int {i j : Int} : decide (V.int i = V.int j) = (i == j) := by
  rw [Bool.eq_iff_iff]
  simp
theorem dec_bl {i j : Bool} : decide (V.bl i = V.bl j) = (i == j) := by
  rw [Bool.eq_iff_iff]
  simp
theorem dec_str {i j : Str} : decide (V.str i = V.str j) = (i == j) := by
  rw [Bool.eq_iff_iff]
  simp
theorem dec_byt {i j : Array UInt8} : decide (V.byt i = V.byt j) = (i.toList == j.toList) := by
  rw [Bool.eq_iff_iff]
  cases i
  cases j
  simp
section
variable {X : Cx} {a b c : Expr} {ta tb tc : TE} {pos : Pos}
theorem fin_bl {pins : List (Addr × Obj)} {σ : St} {H : Hp} {s : Shared} {Q : VK} {k k' : Bool} (I : Inv X pins σ H s) (q : Q (.bl k) H) (e : k = k') : EP X pins σ Q (.bool k') s := by
  subst e
  exact ⟨.bl k, H, I, rfl, q⟩
theorem op_eq : OpR X (compareOp .Eq) rEq := by
  intro pins s σ H x y v u Q I rx ry h
  obtain ⟨hs, q⟩ := h
  cases x with
  | non =>
    cases rx
    cases y with
    | non => cases ry; exact PySem.EqNone.eq_none_none (fin_bl I q (by simp))
    | bl j => cases ry; exact PySem.EqNone.eq_none_bool (fin_bl I q (by simp))
    | int j => obtain ⟨t', rfl⟩ := ry; exact PySem.EqNone.eq_none_int (fin_bl I q (by simp))
    | str j => obtain ⟨t', rfl⟩ := ry; exact PySem.EqNone.eq_none_str (fin_bl I q (by simp))
    | _ => exact absurd (show false = true from hs) Bool.false_ne_true
  | bl i =>
    cases rx
    cases y with
    | non => cases ry; exact PySem.EqNone.eq_bool_none (fin_bl I q (by simp))
    | bl j => cases ry; exact eq_bool (fin_bl I q dec_bl)
    | str j => obtain ⟨t', rfl⟩ := ry; exact PySem.EqMixed.eq_bool_str (fin_bl I q (by simp))
    | _ => exact absurd (show false = true from hs) Bool.false_ne_true
  | int i =>
    obtain ⟨t, rfl⟩ := rx
    cases y with
    | non => cases ry; exact PySem.EqNone.eq_int_none (fin_bl I q (by simp))
    | int j => obtain ⟨t', rfl⟩ := ry; exact eq_int (fin_bl I q dec_int)
    | str j => obtain ⟨t', rfl⟩ := ry; exact PySem.EqMixed.eq_int_str (fin_bl I q (by simp))
    | _ => exact absurd (show false = true from hs) Bool.false_ne_true
  | str i =>
    obtain ⟨t, rfl⟩ := rx
    cases y with
    | non => cases ry; exact PySem.EqNone.eq_str_none (fin_bl I q (by simp))
    | bl j => cases ry; exact PySem.EqMixed.eq_str_bool (fin_bl I q (by simp))
    | int j => obtain ⟨t', rfl⟩ := ry; exact PySem.EqMixed.eq_str_int (fin_bl I q (by simp))
    | str j => obtain ⟨t', rfl⟩ := ry; exact eq_str (fin_bl I q dec_str)
    | _ => exact absurd (show false = true from hs) Bool.false_ne_true
  | byt i =>
    obtain ⟨t, rfl⟩ := rx
    cases y with
    | byt j => obtain ⟨t', rfl⟩ := ry; exact PySem.W.eq_bytes (fin_bl I q dec_byt)
    | _ => exact absurd (show false = true from hs) Bool.false_ne_true
  | _ => cases y <;> exact absurd (show false = true from hs) Bool.false_ne_true
theorem op_ne : OpR X (compareOp .NotEq) rNe := by
  intro pins s σ H x y v u Q I rx ry h
  obtain ⟨hs, q⟩ := h
  cases x with
  | non =>
    cases rx
    cases y with
    | non => cases ry; exact PySem.EqNone.ne_none_none (fin_bl I q (by simp))
    | bl j => cases ry; exact PySem.EqNone.ne_none_bool (fin_bl I q (by simp))
    | int j => obtain ⟨t', rfl⟩ := ry; exact PySem.EqNone.ne_none_int (fin_bl I q (by simp))
    | str j => obtain ⟨t', rfl⟩ := ry; exact PySem.EqNone.ne_none_str (fin_bl I q (by simp))
    | _ => exact absurd (show false = true from hs) Bool.false_ne_true
  | bl i =>
    cases rx
    cases y with
    | non => cases ry; exact PySem.EqNone.ne_bool_none (fin_bl I q (by simp))
    | bl j => cases ry; exact ne_bool (fin_bl I q (congrArg not dec_bl))
    | str j => obtain ⟨t', rfl⟩ := ry; exact PySem.EqMixed.ne_bool_str (fin_bl I q (by simp))
    | _ => exact absurd (show false = true from hs) Bool.false_ne_true
  | int i =>
    obtain ⟨t, rfl⟩ := rx
    cases y with
    | non => cases ry; exact PySem.EqNone.ne_int_none (fin_bl I q (by simp))
    | int j => obtain ⟨t', rfl⟩ := ry; exact ne_int (fin_bl I q (congrArg not dec_int))
    | str j => obtain ⟨t', rfl⟩ := ry; exact PySem.EqMixed.ne_int_str (fin_bl I q (by simp))
    | _ => exact absurd (show false = true from hs) Bool.false_ne_true
  | str i =>
    obtain ⟨t, rfl⟩ := rx
    cases y with
    | non => cases ry; exact PySem.EqNone.ne_str_none (fin_bl I q (by simp))
    | bl j => cases ry; exact PySem.EqMixed.ne_str_bool (fin_bl I q (by simp))
    | int j => obtain ⟨t', rfl⟩ := ry; exact PySem.EqMixed.ne_str_int (fin_bl I q (by simp))
    | str j => obtain ⟨t', rfl⟩ := ry; exact ne_str (fin_bl I q (congrArg not dec_str))
    | _ => exact absurd (show false = true from hs) Bool.false_ne_true
  | byt i =>
    obtain ⟨t, rfl⟩ := rx
    cases y with
    | byt j => obtain ⟨t', rfl⟩ := ry; exact PySem.W.ne_bytes (fin_bl I q (congrArg not dec_byt))
    | _ => exact absurd (show false = true from hs) Bool.false_ne_true
  | _ => cases y <;> exact absurd (show false = true from hs) Bool.false_ne_true
theorem op_lt : OpR X (compareOp .Lt) (rI0 fun i j => .bl (decide (i < j))) := opB0 fun _ _ _ _ _ _ _ q => lt_int q
theorem op_gt : OpR X (compareOp .Gt) (rI0 fun i j => .bl (decide (j < i))) := opB0 fun _ _ _ _ _ _ _ q => gt_int q
theorem op_notN : OpR X (compareOp .IsNot) (fun x y H Q => y = .non ∧ Q (.bl (!decide (x = .non))) H) := by
  intro pins s σ H x y v u Q I rx ry h
  obtain ⟨rfl, q⟩ := h
  cases ry
  refine isnot_none_gen (fin_bl I q ?_)
  cases x <;> first
    | (cases rx; rfl)
    | (obtain ⟨t, rfl⟩ := rx; rfl)
theorem OpR.or {f : Value → Value → Sem Value} {r r' : R2} (h : OpR X f r) (h' : OpR X f r') : OpR X f (fun x y H Q => r x y H Q ∨ r' x y H Q) := by
  intro pins s σ H x y v u Q I rx ry q
  rcases q with q | q
  · exact h pins s σ H x y v u Q I rx ry q
  · exact h' pins s σ H x y v u Q I rx ry q
theorem pe_cmpR {op : CmpOp} {r : R2} (ho : OpR X (compareOp op) r) (ha : PE X a ta) (hb : PE X b tb) (hm : behindInMarks op b = false) : PE X (.Compare a [op] [b] pos) (tOp r ta tb) := by
  intro pins s σ H Q I h
  exact wpAny_Compare1 (binT ha hb I h fun v u s2 x y H2 I2 rx ry q => ho pins s2 σ H2 x y v u Q I2 rx ry q) hm
def tTest (t : TE) : TT := fun σ H Q => t σ H fun x H' => ∃ k, x = .bl k ∧ Q k H'
theorem pt_cmpR {op : CmpOp} {r : R2} (ho : OpR X (compareOp op) r) (ha : PE X a ta) (hb : PE X b tb) (hm : behindInMarks op b = false) : PT X (.Compare a [op] [b] pos) (tTest (tOp r ta tb)) := by
  intro pins s σ H Q I h
  refine wpAny_isTrue_Compare1 (thn (ha pins s σ H _ I h) fun v s1 ⟨x, H1, I1, r1, q1⟩ => thn (hb pins s1 σ H1 _ I1 q1) fun u s2 ⟨y, H2, I2, r2, q2⟩ =>
    thn (ho pins s2 σ H2 x y v u _ I2 r1 r2 q2) fun c s3 ⟨z, H3, I3, r3, k, e, q3⟩ => ?_) hm
  subst e
  cases r3
  exact wpAny_truthy_bool ⟨H3, I3, q3⟩
theorem line63 : (sizeLine : Nat) < 2 ^ 63 := by rw [sizeLine_eq]; decide
theorem op_add_str : OpR X (binaryOp .Add) (fun x y H Q => ∃ i j, x = .str i ∧ y = .str j ∧ i.length + j.length ≤ sizeLine ∧ Q (.str (i ++ j)) H) := by
  intro pins s σ H x y v u Q I rx ry h
  obtain ⟨i, j, rfl, rfl, hz, q⟩ := h
  obtain ⟨t, rfl⟩ := rx
  obtain ⟨t', rfl⟩ := ry
  exact add_str (fun t' tk => ⟨.str (i ++ j), H, I.tok _, ⟨_, rfl⟩, q⟩) hz
theorem vals1 {x : V} {us : List Value} (r : Vals [x] us) : ∃ u, us = [u] ∧ RelV x u := by
  cases r with
  | cons r1 r2 => cases r2; exact ⟨_, rfl, r1⟩
theorem vals2 {x y : V} {us : List Value} (r : Vals [x, y] us) : ∃ u w', us = [u, w'] ∧ RelV x u ∧ RelV y w' := by
  cases r with
  | cons r1 r2 =>
    cases r2 with
    | cons r3 r4 => cases r4; exact ⟨_, _, rfl, r1, r3⟩
theorem call_int1 : CallR X (.type "int") (fun xs H Q => (∃ i, xs = [.int i] ∧ Q (.int i) H) ∨ ∃ k, xs = [.bl k] ∧ Q (.int (if k then 1 else 0)) H) := by
  intro pins s σ H xs us Q I r h
  rcases h with ⟨i, rfl, q⟩ | ⟨k, rfl, q⟩
  · obtain ⟨u, rfl, t, rfl⟩ := vals1 r
    exact call_int_int ⟨.int i, H, I, ⟨_, rfl⟩, q⟩
  · obtain ⟨u, rfl, r1⟩ := vals1 r
    cases r1
    exact call_int_bool ⟨.int (if k then 1 else 0), H, I.tok _, ⟨_, rfl⟩, q⟩
def LenV (K : PySem.W.Frag) (x : V) (H : Hp) (n : Nat) : Prop :=
  match x with
  | .str y => y.length ≤ sizeLine ∧ n = y.length
  | .byt y => y.size ≤ sizeLine ∧ n = y.size
  | .ref p => (∃ xs, SqL K H p xs ∧ n = xs.length) ∨ ∃ xs, SqT K H p xs ∧ n = xs.length
  | _ => False
theorem call_len : CallR X (.builtin "len") (fun xs H Q => ∃ x n, xs = [x] ∧ LenV X.K x H n ∧ Q (.int n) H) := by
  intro pins s σ H xs us Q I r h
  obtain ⟨x, n, rfl, e, q⟩ := h
  obtain ⟨u, rfl, rx⟩ := vals1 r
  have hl := line63
  have hs : sizeLine = 16777216 := sizeLine_eq
  cases x with
  | str y =>
    obtain ⟨t, rfl⟩ := rx
    obtain ⟨hy, e'⟩ : y.length ≤ sizeLine ∧ n = y.length := e
    subst e'
    exact len_str (by omega) ⟨.int _, H, I.tok _, ⟨_, rfl⟩, q⟩
  | byt y =>
    obtain ⟨t, rfl⟩ := rx
    obtain ⟨hy, e'⟩ : y.size ≤ sizeLine ∧ n = y.size := e
    subst e'
    exact PySem.W.len_bytes (by omega) ⟨.int _, H, I.tok _, ⟨_, rfl⟩, q⟩
  | ref p =>
    cases rx
    have e' : (∃ xs, SqL X.K H p xs ∧ n = xs.length) ∨ ∃ xs, SqT X.K H p xs ∧ n = xs.length := e
    rcases e' with ⟨xs, hx, e'⟩ | ⟨xs, hx, e'⟩
    · subst e'
      obtain ⟨its, r', pl, hz⟩ := I.list hx
      have hlen := r'.length
      exact Calls.call_len_list pl.isList (by simp only [List.size_toArray]; omega) ⟨.int xs.length, H, I.tok _, ⟨_, by simp only [List.size_toArray]; rw [hlen]⟩, q⟩
    · subst e'
      obtain ⟨its, r', pl, hz⟩ := I.tuple hx
      have hlen := r'.length
      exact len_tuple pl (by simp only [List.size_toArray]; omega) ⟨.int xs.length, H, I.tok _, ⟨_, by simp only [List.size_toArray]; rw [hlen]⟩, q⟩
  | _ => exact (show False from e).elim
end
end L2
namespace L2
open PySem PySem.Spec PyProof.Rows
structure ObjM (h : Heap) (x dx C : Addr) (mA : Str → Option Value) : Prop where
  obj : h.get? x = some (PySem.W.instObj C dx)
  ns : h.Ns1 dx mA
  ne : dx ≠ x
theorem lookIn_ns {h : Heap} {dx : Addr} {mA : Str → Option Value} (n : h.Ns1 dx mA) : ∃ od, h.get? dx = some od ∧ ∀ name, PySem.W.lookIn name od = some (mA name) := by
  obtain ⟨o, es, ep, ho, hd, hk, _, hm⟩ := n
  refine ⟨o, ho, fun name => ?_⟩
  have e := hm name
  unfold nsFind findBy at e
  rw [← Array.find?_toList] at e
  unfold PySem.W.lookIn
  rw [hd]
  dsimp only
  split
  · rename_i y q
    rw [q] at e
    exact congrArg some e
  · rename_i q
    rw [q] at e
    have a : es.toList.any (·.refKey) = false := by
      rw [List.any_eq_false]
      intro y hy
      obtain ⟨z, t, hkey⟩ := hk y (Array.mem_toList_iff.mp hy)
      simp [DictEntry.refKey, hkey]
    have a' : ¬ es.toList.any (·.refKey) = true := by rw [a]; exact Bool.false_ne_true
    rw [if_neg a']
    exact congrArg some e
theorem ObjM.look {h : Heap} {x dx C : Addr} {mA : Str → Option Value} (I : ObjM h x dx C mA) : ∃ od, PySem.W.InstAt h x (PySem.W.instObj C dx) C (some od) ∧ ∀ name, PySem.W.lookIn name od = some (mA name) :=
  let ⟨od, ho, hl⟩ := lookIn_ns I.ns
  ⟨od, ⟨I.obj, rfl, rfl, ho⟩, hl⟩
section
variable {prog : Program} {w : World} {A : Around} {E : Value → Shared → Prop} {s : Shared} {K : PySem.W.Frag} {x dx C f : Addr} {mA : Str → Option Value} {name : Str} {v : Value}
theorem get_map {expr : Bool} {Q : Value → Shared → Prop} (X : K.In s.heap) (I : ObjM s.heap x dx C mA) (hg : PySem.W.plainGet K C name = true) (hh : PySem.W.hasDictIn K C = true)
    (ha : PySem.W.findIn K (.ref C) name = some none) (hv : mA name = some v) (hv' : PySem.W.handedIn v = true) (h : Q v { s with toks := s.toks + 1 }) :
    wpAny (model prog w) A (getAttr (.ref x) name expr) Q E s := by
  obtain ⟨od, J, hl⟩ := I.look
  exact PySem.W.get_value X J (PySem.W.plainGet_of hg).1 (PySem.W.findObj_own hh ha rfl (by rw [hl, hv])) hv' h
theorem get_meth {pl : Sem Bool} {Q : Value × List Value → Shared → Prop} (X : K.In s.heap) (I : ObjM s.heap x dx C mA) (hg : PySem.W.plainGet K C name = true)
    (hf : PySem.W.findIn K (.ref C) name = some (some (.ref f))) (ht : PySem.W.isFn K (.ref f) = true) (hv : mA name = none) (h : Q (.ref f, [.ref x]) s) :
    wpAny (model prog w) A (getMethod (.ref x) name pl) Q E s := by
  obtain ⟨od, J, hl⟩ := I.look
  exact PySem.W.method_fn X J (PySem.W.plainGet_of hg).1 (PySem.W.plainGet_of hg).2 hf (beq_iff_eq.mp ht) (by show (PySem.W.lookIn name od).map (·.isSome) = some false; rw [hl, hv]; rfl) h
theorem set_map {ns : List Str} {Q : Unit → Shared → Prop} (X : K.In s.heap) (I : ObjM s.heap x dx C mA)
    (hs : PySem.W.findIn K (.ref C) "__setattr__" = some (some (.builtin "object.__setattr__"))) (hp : PySem.W.plainOver K C = true) (ht : PySem.W.takerIn K C name = some none) (hh : PySem.W.hasDictIn K C = true)
    (hw : PySem.Within mA ns) (hsz : ns.length ≤ sizeLine)
    (h : ∀ h', ObjM h' x dx C (fun y => if y = name then some v else mA y) → Heap.SameBut dx s.heap h' → Q () { s with heap := h', toks := s.toks + 2 }) :
    wpAny (model prog w) A (setAttr (.ref x) name v) Q E s := by
  obtain ⟨od, J, hl⟩ := I.look
  refine PySem.W.set_plain X J hs (PySem.W.osa_open (s := { s with toks := s.toks + 1 }) (r := none) X J hp ht fun b => ?_)
  obtain ⟨cd, hc, hd'⟩ := PySem.W.any_some hh
  have hx : s.heap.get? x = some ⟨.ref C, some dx, .plain, #[]⟩ := I.obj
  refine wpAny_bind (wpAny_pure (wpAny_bind (wpAny_bind (wpAny_loadPart hx (wpAny_bind (PySem.W.Looks.here (s := { s with toks := s.toks + 1 }) (PySem.W.looks_clsIn X hc) ?_))))))
  rw [hd']
  refine wpAny_pure (a := some dx) (wpAny_bind (wpAny_pure (wpAny_bind ?_)))
  refine wpAny_nsSet1 (s := { s with toks := s.toks + 1 }) I.ns fun h' hn2 hs2 => ?_
  obtain ⟨oD, esD, epD, hoD, hdD, hcD⟩ := hn2.count (PySem.Within.cons name v hw)
  refine wpAny_bind (wpAny_lookBehind hoD (by rw [hdD]; exact pastItsLine_dict (Nat.le_trans hcD (by rw [List.length_cons]; omega))) ?_)
  exact wpAny_pure (h _ ⟨(hs2.2 _ (Ne.symm I.ne)).trans I.obj, hn2, I.ne⟩ hs2)
theorem make_map {R : Result → Shared → Prop} {vs : List Value} {kw : List (Str × Value)} (X : K.In s.heap) (hm : PySem.W.makesIn K C = true)
    (hi : PySem.W.findIn K (.ref C) "__init__" = some (some (.ref f))) (hf : PySem.W.typeIn K (.ref f) = some (.type "function"))
    (h : codeAny (model prog w) (A.under (.builtin "type.__call__" ⟨.ref C :: vs, kw⟩)) (.call (.ref f) ⟨.ref (s.heap.objs.size + 1) :: vs, kw⟩) (PySem.W.InitBack (s.heap.objs.size + 1) R)
      { s with heap := (s.heap.push PySem.W.emptyDict).push (PySem.W.instObj C s.heap.objs.size) }) :
    codeAny (model prog w) A (.call (.ref C) ⟨vs, kw⟩) R s := by
  obtain ⟨hh, g, d, t, os⟩ := s
  exact PySem.W.make_core (PySem.W.makes_of X hm) (PySem.W.looks_findIn X hi) (fun self => PySem.W.bind_fn X self hf) (.inl rfl) h
end
def putF (f : Str) (v : V) : List (Str × V) → List (Str × V)
  | [] => [(f, v)]
  | (g, x) :: r => if g = f then (g, v) :: r else (g, x) :: putF f v r
theorem lookup_putF (f g : Str) (v : V) : ∀ fs : List (Str × V), (putF f v fs).lookup g = if g = f then some v else fs.lookup g
  | [] => by
    show List.lookup g [(f, v)] = _
    by_cases h : g = f
    · have hb : (g == f) = true := beq_iff_eq.mpr h
      simp only [List.lookup, hb, if_pos h]
    · have hb : (g == f) = false := beq_eq_false_iff_ne.mpr h
      simp only [List.lookup, hb, if_neg h]
  | (k, x) :: r => by
    have ih := lookup_putF f g v r
    rw [show putF f v ((k, x) :: r) = (if k = f then (k, v) :: r else (k, x) :: putF f v r) from rfl]
    by_cases hk : k = f
    · rw [if_pos hk]
      by_cases h : g = k
      · have hb : (g == k) = true := beq_iff_eq.mpr h
        simp only [List.lookup, hb, if_pos (h.trans hk)]
      · have hb : (g == k) = false := beq_eq_false_iff_ne.mpr h
        simp only [List.lookup, hb, if_neg (fun e : g = f => h (e.trans hk.symm))]
    · rw [if_neg hk]
      by_cases h : g = k
      · have hb : (g == k) = true := beq_iff_eq.mpr h
        simp only [List.lookup, hb, if_neg (fun e : g = f => hk (h.symm.trans e))]
      · have hb : (g == k) = false := beq_eq_false_iff_ne.mpr h
        simp only [List.lookup, hb]
        exact ih
theorem keys_putF (f : Str) (v : V) : ∀ fs : List (Str × V), f ∈ (putF f v fs).map (·.1) ∧ ∀ g, g ∈ fs.map (·.1) → g ∈ (putF f v fs).map (·.1)
  | [] => ⟨by simp [putF], fun g h => by simp at h⟩
  | (k, x) :: r => by
    obtain ⟨i1, i2⟩ := keys_putF f v r
    rw [show putF f v ((k, x) :: r) = (if k = f then (k, v) :: r else (k, x) :: putF f v r) from rfl]
    by_cases hk : k = f
    · rw [if_pos hk]
      subst hk
      exact ⟨by simp, fun g h => by simpa using h⟩
    · rw [if_neg hk]
      refine ⟨?_, fun g h => ?_⟩
      · rw [List.map_cons]
        exact List.mem_cons_of_mem _ i1
      · rw [List.map_cons] at h ⊢
        rcases List.mem_cons.mp h with e | e
        · exact List.mem_cons.mpr (.inl e)
        · exact List.mem_cons_of_mem _ (i2 g e)
theorem length_putF (f : Str) (v : V) : ∀ fs : List (Str × V), (putF f v fs).length ≤ fs.length + 1
  | [] => by simp [putF]
  | (k, x) :: r => by
    have ih := length_putF f v r
    rw [show putF f v ((k, x) :: r) = (if k = f then (k, v) :: r else (k, x) :: putF f v r) from rfl]
    by_cases hk : k = f
    · rw [if_pos hk, List.length_cons, List.length_cons]; omega
    · rw [if_neg hk, List.length_cons, List.length_cons]; omega
theorem RelO.some_of {v : V} {o : Option Value} (r : RelO (some v) o) : ∃ u, o = some u ∧ RelV v u := by
  cases o with
  | none => exact (show False from r).elim
  | some u => exact ⟨u, rfl, r⟩
theorem RelO.none_of {o : Option Value} (r : RelO none o) : o = none := by
  cases o with
  | none => rfl
  | some u => exact (show False from r).elim
theorem handed_of {v : V} {u : Value} (r : RelV v u) : PySem.W.handedIn u = true := by
  cases v with
  | non => cases (show u = Value.none from r); rfl
  | bl b => cases (show u = Value.bool b from r); rfl
  | int i => obtain ⟨t, e⟩ := (show ∃ t, u = Value.int i t from r); cases e; rfl
  | str x => obtain ⟨t, e⟩ := (show ∃ t, u = Value.str x t from r); cases e; rfl
  | byt b => obtain ⟨t, e⟩ := (show ∃ t, u = Value.bytes b t from r); cases e; rfl
  | flt b => obtain ⟨t, e⟩ := (show ∃ t, u = Value.float b t from r); cases e; rfl
  | ref a => cases (show u = Value.ref a from r); rfl
  | ty n => cases (show u = Value.type n from r); rfl
section
variable {P : Program} {w : World} {H H' : Hp} {h h' : Heap} {a C dx : Addr} {fs fs' : List (Str × V)}
theorem ins_get (hok : HOk P w H h) (e : H a = some (.ins C dx fs)) : ∃ mA, ObjM h a dx C mA ∧ (∀ f, RelO (fs.lookup f) (mA f)) ∧ PySem.Within mA (fs.map (·.1)) ∧ fs.length ≤ 1000 ∧ H dx = some (.own a) := by
  obtain ⟨d, z, ne, ob, mA, n, r, q⟩ := (show ObjOk P w H h a (.ins C dx fs) from hok a _ e)
  exact ⟨mA, ⟨ob, n, ne⟩, r, q, z, d⟩
end
structure Cls (K : PySem.W.Frag) (C : Addr) : Prop where
  pg : PySem.W.plainGet K C Str.empty = true
  hd : PySem.W.hasDictIn K C = true
  po : PySem.W.plainOver K C = true
  sa : PySem.W.findIn K (.ref C) "__setattr__" = some (some (.builtin "object.__setattr__"))
theorem Cls.get {K : PySem.W.Frag} {C : Addr} (c : Cls K C) (f : Str) : PySem.W.plainGet K C f = true := c.pg
def NoAttr (K : PySem.W.Frag) (C : Addr) (f : Str) : Prop := PySem.W.findIn K (.ref C) f = some none
theorem NoAttr.taker {K : PySem.W.Frag} {C : Addr} {f : Str} (n : NoAttr K C f) : PySem.W.takerIn K C f = some none := by
  unfold PySem.W.takerIn
  rw [show PySem.W.findIn K (.ref C) f = some none from n]
  rfl
structure Meth (K : PySem.W.Frag) (C : Addr) (m : Str) (f : Addr) : Prop where
  at_ : PySem.W.findIn K (.ref C) m = some (some (.ref f))
  fn : PySem.W.isFn K (.ref f) = true
  kp : PySem.W.keepIn K (.ref f) = true
section
variable {X : Cx} {pins : List (Addr × Obj)} {σ : St} {H : Hp} {s : Shared} {a C dx : Addr} {fs : List (Str × V)} {f : Str} {v : V} {A : Around} {E : Value → Shared → Prop}
theorem getattr_ok {b : Bool} {Q : Value → Shared → Prop} (I : Inv X pins σ H s) (e : H a = some (.ins C dx fs)) (c : Cls X.K C) (n : NoAttr X.K C f) (l : fs.lookup f = some v)
    (h : ∀ u s', Inv X pins σ H s' → RelV v u → Q u s') : wpAny (model X.prog X.w) A (getAttr (.ref a) f b) Q E s := by
  obtain ⟨mA, O, r, _, _, _⟩ := ins_get I.hok e
  obtain ⟨u, hu, ru⟩ := RelO.some_of (v := v) (o := mA f) (by rw [← l]; exact r f)
  exact get_map I.kIn O (c.get f) c.hd n hu (handed_of ru) (h u _ (I.tok _) ru)
theorem getmeth_ok {m : Str} {g : Addr} {pl : Sem Bool} {Q : Value × List Value → Shared → Prop} (I : Inv X pins σ H s) (e : H a = some (.ins C dx fs)) (c : Cls X.K C) (k : Meth X.K C m g) (l : fs.lookup m = none)
    (h : Q (.ref g, [.ref a]) s) : wpAny (model X.prog X.w) A (getMethod (.ref a) m pl) Q E s := by
  obtain ⟨mA, O, r, _, _, _⟩ := ins_get I.hok e
  have hn : mA m = none := RelO.none_of (by rw [← l]; exact r m)
  exact get_meth I.kIn O (c.get m) k.at_ k.fn hn h
theorem setattr_ok {y : V} {u : Value} {Q : Unit → Shared → Prop} (I : Inv X pins σ H s) (e : H a = some (.ins C dx fs)) (c : Cls X.K C) (n : NoAttr X.K C f) (hl : fs.length < 1000) (ry : RelV y u)
    (h : ∀ s', Inv X pins σ (upd H a (.ins C dx (putF f y fs))) s' → Q () s') : wpAny (model X.prog X.w) A (setAttr (.ref a) f u) Q E s := by
  obtain ⟨mA, O, r, wi, _, ho⟩ := ins_get I.hok e
  have hz : (fs.map (·.1)).length ≤ sizeLine := by rw [List.length_map, sizeLine_eq]; omega
  refine set_map I.kIn O c.sa c.po n.taker c.hd wi hz fun h' O' sb => h _ ?_
  have hd : ∃ o, h'.get? dx = some o := let ⟨o, _, _, e', _⟩ := O'.ns; ⟨o, e'⟩
  refine I.write (x := a) (e := dx) (by rw [e]; exact True.intro) (.inr ho) (fun b q hb z => (sb.2 b hb).trans z) hd ?_
  refine ⟨by rw [upd_ne O.ne]; exact ho, ?_, O.ne, O'.obj, _, O'.ns, fun g => ?_, fun g hg => ?_⟩
  · have := length_putF f y fs; omega
  · show RelO ((putF f y fs).lookup g) (if g = f then some u else mA g)
    rw [lookup_putF]
    by_cases q : g = f
    · rw [if_pos q, if_pos q]; exact ry
    · rw [if_neg q, if_neg q]; exact r g
  · by_cases q : g = f
    · rw [q]; exact (keys_putF f y fs).1
    · refine (keys_putF f y fs).2 g (wi g fun z => hg ?_)
      show (if g = f then some u else mA g) = none
      rw [if_neg q]; exact z
theorem Inv.made (I : Inv X pins σ H s) : Inv X pins σ (upd (upd H s.heap.objs.size (.own (s.heap.objs.size + 1))) (s.heap.objs.size + 1) (.ins C s.heap.objs.size []))
    { s with heap := (s.heap.push PySem.W.emptyDict).push (PySem.W.instObj C s.heap.objs.size) } := by
  have e1 : (s.heap.push PySem.W.emptyDict).get? s.heap.objs.size = some PySem.W.emptyDict := Heap.get?_push_size s.heap rfl
  have e2 : ((s.heap.push PySem.W.emptyDict).push (PySem.W.instObj C s.heap.objs.size)).get? (s.heap.objs.size + 1) = some (PySem.W.instObj C s.heap.objs.size) := by
    have := Heap.get?_push_size (s.heap.push PySem.W.emptyDict) (o := PySem.W.instObj C s.heap.objs.size) rfl
    rwa [Heap.size_push] at this
  have e3 : (s.heap.push PySem.W.emptyDict).Ns s.heap.objs.size (fun _ => none) := ⟨PySem.W.emptyDict, #[], _, e1, rfl, (fun e he => absurd he (by simp)), fun _ => rfl⟩
  have I1 := I.laid (a := s.heap.objs.size) (o := .own (s.heap.objs.size + 1)) (h' := s.heap.push PySem.W.emptyDict) (t' := s.toks) (fun b u q => Heap.get?_push_of_some _ q) (Nat.le_refl _) ⟨_, e1⟩
  refine I1.laid (a := s.heap.objs.size + 1) (o := .ins C s.heap.objs.size []) (t' := s.toks) (fun b u q => Heap.get?_push_of_some _ q) (Nat.le_of_eq (Heap.size_push _ _)) ?_
  have ne : s.heap.objs.size ≠ s.heap.objs.size + 1 := Nat.ne_of_lt (Nat.lt_succ_self _)
  refine ⟨by rw [upd_ne ne, upd_same], Nat.zero_le _, ne, e2, fun _ => none, (Heap.Ns1.of_empty e3).at fun o q => Heap.get?_push_of_some _ q, fun _ => True.intro, fun y hy => absurd rfl hy⟩
theorem attr_of {prog : Program} {w : World} {env : Env} {e : Expr} {f : Str} {pos : Pos} {s : Shared} {Q : Value → Shared → Prop} (hb : attributeBase e f env (eval e env) = eval e env)
    (h : wpAny (model prog w) A (eval e env) (fun o s₁ => wpAny (model prog w) A (getAttr o f true) Q E s₁) E s) : wpAny (model prog w) A (eval (.Attribute e f pos) env) Q E s :=
  Attribute_any_ h (by rw [arm_eval_Attribute, hb])
end
def tFld (K : PySem.W.Frag) (ta : TE) (f : Str) : TE := fun σ H Q => ta σ H fun x H1 => ∃ a C dx fs v, x = .ref a ∧ H1 a = some (.ins C dx fs) ∧ Cls K C ∧ NoAttr K C f ∧ fs.lookup f = some v ∧ Q v H1
def sFld (K : PySem.W.Frag) (ta tv : TE) (f : Str) : TS := fun D σ H => tv σ H fun y H1 => ta σ H1 fun x H2 => ∃ a C dx fs, x = .ref a ∧ H2 a = some (.ins C dx fs) ∧ Cls K C ∧ NoAttr K C f ∧ fs.length < 1000 ∧
  D.nx σ (upd H2 a (.ins C dx (putF f y fs)))
section
variable {X : Cx} {o e value : Expr} {f : Str} {pos pos' tpos : Pos} {ta tv : TE}
theorem pe_fld (he : PE X e ta) (hb : attributeBase e f X.env (eval e X.env) = eval e X.env) : PE X (.Attribute e f pos) (tFld X.K ta f) := by
  intro pins s σ H Q I h
  refine attr_of hb (thn (he pins s σ H _ I h) fun u s1 ⟨x, H1, I1, rx, a, C, dx, fs, v, ex, ea, c, n, l, q⟩ => ?_)
  subst ex
  obtain rfl : u = Value.ref a := rx
  exact getattr_ok I1 ea c n l fun u' s2 I2 ru => ⟨v, H1, I2, ru, q⟩
theorem ps_fld (ha : PE X o ta) (hv : PE X value tv) (hs : swapsWith value (some (.Attribute o f pos')) pos.line X.env = pure false) : PS X (.Assign [.Attribute o f pos'] value pos) (sFld X.K ta tv f) := by
  intro pins s σ H D I h
  refine plainObj_wpAny_Assign_Attribute (thn (hv pins s σ H _ I h) fun u s1 ⟨y, H1, I1, ry, q⟩ => thn (ha pins s1 σ H1 _ I1 q) fun ov s2 ⟨x, H2, I2, rx, a, C, dx, fs, ex, ea, c, n, l, q2⟩ => ?_) hs
  subst ex
  obtain rfl : ov = Value.ref a := rx
  exact setattr_ok I2 ea c n l ry fun s3 I3 => ⟨σ, _, I3, q2⟩
end
section
variable {X : Cx} {pins : List (Addr × Obj)} {σ : St} {H : Hp} {s : Shared} {A : Around} {E : Value → Shared → Prop} {Q : Value → Shared → Prop} {c : Value} {b : Bool}
end
end L2
namespace L2
open PySem PySem.Spec PyProof.Rows
structure Room (k : Nat) (A : Around) : Prop where
  hd : A.handled = none
  dp : A.depth + 3 * k + 5 < recursionLimit
  un : A.units + 16 * k + 200 < cLine
theorem Room.mono {j k : Nat} {A : Around} (r : Room k A) (h : j ≤ k) : Room j A := ⟨r.hd, by have := r.dp; omega, by have := r.un; omega⟩
theorem Room.deeper {k : Nat} {A : Around} (r : Room (k + 1) A) (env : Env) : Room k (A.deeper env) :=
  ⟨r.hd, by have := r.dp; show A.depth + 1 + 3 * k + 5 < _; omega, by have := r.un; show A.units + 3 + 16 * k + 200 < _; omega⟩
theorem make_depth {A : Around} {C : Addr} {us : List Value} {kw : List (Str × Value)} : (A.under (.builtin "type.__call__" ⟨.ref C :: us, kw⟩)).depth = A.depth + 1 := by
  first | rfl | simp [Around.under, Code.weight, Code.isCreation, Code.isGuard, Code.isCaller, Code.frames, Code.isFrame, guardIds]
theorem make_units {A : Around} {C : Addr} {us : List Value} {kw : List (Str × Value)} : (A.under (.builtin "type.__call__" ⟨.ref C :: us, kw⟩)).units = A.units + 1 := by
  first | rfl | simp [Around.under, Code.cUnits, Code.frames, Code.isFrame]
theorem Room.make {k : Nat} {A : Around} (r : Room (k + 1) A) (C : Addr) (us : List Value) (kw : List (Str × Value)) : Room k (A.under (.builtin "type.__call__" ⟨.ref C :: us, kw⟩)) :=
  ⟨r.hd, by have := r.dp; rw [make_depth]; omega, by have := r.un; rw [make_units]; omega⟩
theorem Room.depth {k : Nat} {A : Around} (r : Room k A) : A.depth < recursionLimit := by have := r.dp; omega
theorem Room.units {k : Nat} {A : Around} (r : Room k A) : A.units + 64 < cLine := by have := r.un; omega
theorem Room.units0 {k : Nat} {A : Around} (r : Room k A) : A.units < cLine := by have := r.un; omega
def tNil : TA := fun _ H Q => Q [] H
def tCons (ta : TE) (tr : TA) : TA := fun σ H Q => ta σ H fun x H1 => tr σ H1 fun xs H2 => Q (x :: xs) H2
section
variable {X : Cx} {e : Expr} {es : List Expr} {te : TE} {t : TA} {pos : Pos}
theorem pa_nil : PA X [] tNil := fun _ _ _ _ H Q I h => Calls.spliced_nil ⟨[], H, I, .nil, h⟩
theorem pa_cons (ha : PE X e te) (hr : PA X es t) (hs : starEach (e :: es) X.env = (false, eval e X.env) :: starEach es X.env := by rfl) : PA X (e :: es) (tCons te t) := by
  intro pos pins s σ H Q I h
  rw [hs]
  show wpAny _ _ (spliced ((false, eval e X.env) :: backTo pos (starEach es X.env))) _ _ s
  refine Calls.spliced_cons (thn (ha pins s σ H _ I h) fun u s1 ⟨x, H1, I1, r1, q1⟩ => ?_)
  exact thn (hr pos pins s1 σ H1 _ I1 q1) fun us s2 ⟨xs, H2, I2, r2, q2⟩ => ⟨x :: xs, H2, I2, .cons r1 r2, q2⟩
def tTup (t : TA) : TE := fun σ H Q => t σ H fun xs H1 => xs.length ≤ sizeLine ∧ ∀ p, H1 p = none → Q (.ref p) (upd H1 p (.tup xs))
def tLst (t : TA) : TE := fun σ H Q => t σ H fun xs H1 => xs.length ≤ sizeLine ∧ ∀ p, H1 p = none → Q (.ref p) (upd H1 p (.lst xs))
theorem pe_tup {x1} (h : PA X es t) : PE X (.Tuple es x1 pos) (tTup t) := by
  intro pins s σ H Q I hq
  refine wpAny_Tuple_spliced (thn (h pos pins s σ H _ I hq) fun us s1 ⟨xs, H1, I1, r, z, q⟩ => ⟨by rw [← r.length]; exact z, ?_⟩)
  have hf : H1 s1.heap.objs.size = none := I1.hok.fresh (Nat.le_refl _)
  refine ⟨.ref s1.heap.objs.size, upd H1 s1.heap.objs.size (.tup xs), I1.laid (t' := s1.toks) (fun b u e => Heap.get?_push_of_some _ e) (Nat.le_refl _) ?_, rfl, q _ hf⟩
  exact ⟨z, us, r, ⟨_, Heap.get?_push_size _ rfl, ⟨rfl, rfl⟩, _, rfl⟩⟩
theorem pe_lst (h : PA X es t) : PE X (.List es pos) (tLst t) := by
  intro pins s σ H Q I hq
  refine wpAny_List_spliced (thn (h pos pins s σ H _ I hq) fun us s1 ⟨xs, H1, I1, r, z, q⟩ => ⟨by rw [← r.length]; exact z, ?_⟩)
  have hf : H1 s1.heap.objs.size = none := I1.hok.fresh (Nat.le_refl _)
  refine ⟨.ref s1.heap.objs.size, upd H1 s1.heap.objs.size (.lst xs), I1.laid (t' := s1.toks) (fun b u e => Heap.get?_push_of_some _ e) (Nat.le_refl _) ?_, rfl, q _ hf⟩
  exact ⟨z, us, 0, r, Heap.get?_push_size _ rfl⟩
end
abbrev Sp := List V → Hp → VK → XK → Prop
abbrev CXT := List Env → Hp → Shared → XK → Value → Shared → Prop
structure Env0 (P : Program) (w : World) (K : PySem.W.Frag) (mg : Str → Option Value) (base : Heap) (A : Around) (outer : List Env) (s : Shared) (H : Hp) : Prop where
  frames : A.frames = some outer
  mod : Mod K mg base
  bs : ∀ b o, base.get? b = some o → s.heap.get? b = some o ∧ H b = none
  bsz : base.objs.size ≤ s.heap.objs.size
  funs : s.heap.FunFrames base outer
  frf : ∀ b ∈ frs outer, H b = none
  hok : HOk P w H s.heap
  bare : AllBare s.gens
def CE (outer : List Env) (P : Program) (w : World) (H : Hp) (s : Shared) (Q : VK) (u : Value) (s' : Shared) : Prop :=
  ∃ v H', s'.os = s.os ∧ AllBare s'.gens ∧ Un (frs outer) [] H H' s.heap s'.heap ∧ HOk P w H' s'.heap ∧ RelV v u ∧ Q v H'
def CR (CX : CXT) (outer : List Env) (P : Program) (w : World) (H : Hp) (s : Shared) (Q : VK) (E : XK) (r : Result) (s' : Shared) : Prop :=
  match r with
  | .ok (.ret u) => CE outer P w H s Q u s'
  | .ok _ => False
  | .error e => CX outer H s E e s'
structure FnOk (P : Program) (w : World) (K : PySem.W.Frag) (mg : Str → Option Value) (base : Heap) (CX : CXT) (k : Nat) (f : Addr) (fd : FuncData) (ps : List Str) (sp : Sp) : Prop where
  len : ∀ vs H Q E, sp vs H Q E → vs.length = ps.length
  run : ∀ (A : Around) (outer : List Env) (s : Shared) (H : Hp) (args : Args) (us : List Value) (vs : List V) (Q : VK) (E : XK), Room k A → Env0 P w K mg base A outer s H → BindsTo s fd args (ps.zip us) → Vals vs us → sp vs H Q E →
    codeAny (model P w) A (.call (.ref f) args) (CR CX outer P w H s Q E) s
theorem Env0.make {P : Program} {w : World} {K : PySem.W.Frag} {mg : Str → Option Value} {base : Heap} {A : Around} {outer : List Env} {s : Shared} {H : Hp} (e : Env0 P w K mg base A outer s H) (C : Addr) (us : List Value) (kw : List (Str × Value)) :
    Env0 P w K mg base (A.under (.builtin "type.__call__" ⟨.ref C :: us, kw⟩)) outer s H := ⟨by first | exact e.frames | (simpa [Around.under, Code.envs, Code.isFrame, pushEnvs] using e.frames), e.mod, e.bs, e.bsz, e.funs, e.frf, e.hok, e.bare⟩
section
variable {X : Cx} {pins : List (Addr × Obj)} {σ : St} {H : Hp} {s s' : Shared}
theorem Inv.env0 (I : Inv X pins σ H s) : Env0 X.prog X.w X.K X.mg X.base X.A X.stack s H :=
  ⟨I.ok.frames, I.ok.mod, I.bs, Nat.le_trans I.ok.bsz I.sz, I.stack, I.stkFree, I.hok, I.bare⟩
theorem Inv.after {Q : VK} {u : Value} (I : Inv X pins σ H s) (h : CE X.stack X.prog X.w H s Q u s') : EP X pins σ Q u s' := by
  obtain ⟨v, H', os, bare, un, hok, r, q⟩ := h
  obtain ⟨hh, g, d, t, os'⟩ := s'
  obtain rfl : os' = s.os := os
  exact ⟨v, H', I.call (h' := hh) (g' := g) (d' := d) (t' := t) (ch := []) un hok bare (fun b z => absurd z (by simp)), r, q⟩
end
def tCall (sp : Sp) (dvs : List V) (E : XK) (t : TA) : TE := fun σ H Q => t σ H fun vs H1 => sp (vs ++ dvs) H1 Q E
def tMeth (C : Addr) (m : Str) (sp : Sp) (dvs : List V) (E : XK) (ta : TE) (t : TA) : TE := fun σ H Q => ta σ H fun x H1 => ∃ a dx fs, x = .ref a ∧ H1 a = some (.ins C dx fs) ∧ fs.lookup m = none ∧
  t σ H1 fun vs H2 => sp (x :: (vs ++ dvs)) H2 Q E
def tMake (C : Addr) (sp : Sp) (dvs : List V) (E : XK) (t : TA) : TE := fun σ H Q => t σ H fun vs H1 => ∀ x dx, H1 x = none → H1 dx = none → dx ≠ x →
  sp (.ref x :: (vs ++ dvs)) (upd (upd H1 dx (.own x)) x (.ins C dx [])) (fun v H2 => v = .non ∧ Q (.ref x) H2) E
def Binds (K : PySem.W.Frag) (fd : FuncData) (ps : List Str) (ds : List Value) : Prop :=
  ∀ (s : Shared) (us : List Value), K.In s.heap → (us ++ ds).length = ps.length → BindsTo s fd ⟨us, []⟩ (ps.zip (us ++ ds))
theorem Binds.all {K : PySem.W.Frag} {fd : FuncData} {ps : List Str} (h : ∀ us : List Value, us.length = ps.length → bindArgs fd ⟨us, []⟩ = pure (ps.zip us)) : Binds K fd ps [] := fun s us _ hl => by
  rw [List.append_nil] at hl ⊢
  exact .of_eq (h us hl)
def Passes (CX : CXT) (X : Cx) (E : XK) : Prop := ∀ (pins : List (Addr × Obj)) (σ : St) (H : Hp) (s : Shared) (e : Value) (s' : Shared), Inv X pins σ H s → CX X.stack H s E e s' → X.xe e s'
section
variable {X : Cx} {CX : CXT} {k : Nat} {f C : Addr} {fd : FuncData} {ps : List Str} {sp : Sp} {dvs : List V} {ds : List Value} {E : XK} {x m : Str} {p pos apos : Pos} {e o : Expr} {es : List Expr} {ta : TE} {t : TA}
theorem run_fn {pins : List (Addr × Obj)} {σ : St} {H : Hp} {s : Shared} {Q : VK} {us : List Value} {vs : List V} (F : FnOk X.prog X.w X.K X.mg X.base CX k f fd ps sp) (hr : Room k X.A) (hb : Binds X.K fd ps ds) (hd : Vals dvs ds) (hx : Passes CX X E)
    (I : Inv X pins σ H s) (r : Vals vs us) (h : sp (vs ++ dvs) H Q E) : wpAny (model X.prog X.w) X.A (call (.ref f) us) (EP X pins σ Q) X.xe s := by
  have r2 : Vals (vs ++ dvs) (us ++ ds) := r.append hd
  have hl : (us ++ ds).length = ps.length := by rw [← r2.length]; exact F.len _ _ _ _ h
  refine wpAny_call (codeAny_mono (F.run X.A X.stack s H ⟨us, []⟩ (us ++ ds) (vs ++ dvs) Q E hr I.env0 (hb s us I.kIn hl) r2 h) fun r s' hq => ?_)
  cases r with
  | error e => exact hx pins σ H s e s' I hq
  | ok fl =>
    cases fl with
    | ret u => exact I.after hq
    | next => exact False.elim hq
    | brk => exact False.elim hq
    | cont => exact False.elim hq
theorem pe_call (F : FnOk X.prog X.w X.K X.mg X.base CX k f fd ps sp) (hr : Room k X.A) (hg : Gl X x) (hm : X.mg x = some (.ref f)) (hk : PySem.W.keepIn X.K (.ref f) = true) (hb : Binds X.K fd ps ds) (hd : Vals dvs ds) (hx : Passes CX X E)
    (ha : PA X (e :: es) t) (hdb : (x == ("__debug__" : Str)) = false := by decide) (he : starEach (e :: es) X.env = (false, eval e X.env) :: starEach es X.env := by rfl) (hpl : (backTo pos (starEach es X.env)).any (·.1) = false := by rfl) :
    PE X (.Call (.Name x p) (e :: es) [] pos) (tCall sp dvs E t) := by
  intro pins s σ H Q I h
  refine wpAny_Call_Name_kw (ld_glob I hg hm ?_ hdb)
  refine PySem.W.callWith_K (h₀ := X.base) I.ok.mod.kin hk (thn (ha pos pins s σ H _ I h) fun us s1 ⟨vs, H1, I1, r, q⟩ => ⟨I1.kIn, ?_⟩) he hpl
  exact run_fn F hr hb hd hx I1 r q
theorem pe_meth {pl : Sem Bool} (he : PE X o ta) (c : Cls X.K C) (hm : Meth X.K C m f) (F : FnOk X.prog X.w X.K X.mg X.base CX k f fd ps sp) (hr : Room k X.A) (hb : Binds X.K fd ps ds) (hd : Vals dvs ds) (hx : Passes CX X E) (ha : PA X (e :: es) t)
    (hst : starEach (e :: es) X.env = (false, eval e X.env) :: starEach es X.env := by rfl) (hpl : (backTo pos (starEach es X.env)).any (·.1) = false := by rfl)
    (ht : eval (.Call (.Attribute o m apos) (e :: es) [] pos) X.env = (do
      let ov ← eval o X.env
      standAt apos.atName
      let (f, first) ← holding [ov] (getMethod ov m pl)
      callWith pos f first (backTo pos (starEach (e :: es) X.env)) (backToKw pos (keywordEach [] X.env))) := by rfl) :
    PE X (.Call (.Attribute o m apos) (e :: es) [] pos) (tMeth C m sp dvs E ta t) := by
  intro pins s σ H Q I h
  refine PySem.W.methodCall_KW (pl := pl) (thn (he pins s σ H _ I h) fun u s1 ⟨x, H1, I1, rx, a, dx, fs, ex, ea, l, q⟩ => ?_) ht
  subst ex
  obtain rfl : u = Value.ref a := rx
  refine getmeth_ok I1 ea c hm l ?_
  refine PySem.W.callWith_K (first := [.ref a]) (h₀ := X.base) I.ok.mod.kin hm.kp (thn (ha pos pins s1 σ H1 _ I1 q) fun us s2 ⟨vs, H2, I2, r, q2⟩ => ⟨I2.kIn, ?_⟩) hst hpl
  exact run_fn (us := .ref a :: us) (vs := .ref a :: vs) F hr hb hd hx I2 (.cons rfl r) q2
theorem pe_meth0 {pl : Sem Bool} (he : PE X o ta) (c : Cls X.K C) (hm : Meth X.K C m f) (F : FnOk X.prog X.w X.K X.mg X.base CX k f fd ps sp) (hr : Room k X.A) (hb : Binds X.K fd ps ds) (hd : Vals dvs ds) (hx : Passes CX X E)
    (ht : eval (.Call (.Attribute o m apos) [] [] pos) X.env = (do
      let ov ← eval o X.env
      standAt apos.atName
      let (f, first) ← holding [ov] (getMethod ov m pl)
      callWith pos f first (backTo pos (starEach [] X.env)) (backToKw pos (keywordEach [] X.env))) := by rfl) :
    PE X (.Call (.Attribute o m apos) [] [] pos) (tMeth C m sp dvs E ta tNil) := by
  intro pins s σ H Q I h
  refine PySem.W.methodCall_KW (pl := pl) (thn (he pins s σ H _ I h) fun u s1 ⟨x, H1, I1, rx, a, dx, fs, ex, ea, l, q⟩ => ?_) ht
  subst ex
  obtain rfl : u = Value.ref a := rx
  refine getmeth_ok I1 ea c hm l ?_
  exact PySem.W.callWith_K0 (first := [.ref a]) I1.kIn hm.kp (run_fn (us := [.ref a]) (vs := [.ref a]) F hr hb hd hx I1 (.cons rfl .nil) q)
structure Mk (K : PySem.W.Frag) (C f : Addr) : Prop where
  makes : PySem.W.makesIn K C = true
  init : PySem.W.findIn K (.ref C) "__init__" = some (some (.ref f))
  fn : PySem.W.isFn K (.ref f) = true
  kp : PySem.W.keepIn K (.ref C) = true
theorem run_make {pins : List (Addr × Obj)} {σ : St} {H : Hp} {s : Shared} {Q : VK} {us : List Value} {vs : List V} (M : Mk X.K C f) (F : FnOk X.prog X.w X.K X.mg X.base CX k f fd ps sp) (hr : Room (k + 1) X.A) (hb : Binds X.K fd ps ds) (hd : Vals dvs ds)
    (hx : Passes CX X E) (I : Inv X pins σ H s) (r : Vals vs us)
    (h : ∀ x dx, H x = none → H dx = none → dx ≠ x → sp (.ref x :: (vs ++ dvs)) (upd (upd H dx (.own x)) x (.ins C dx [])) (fun v H2 => v = .non ∧ Q (.ref x) H2) E) :
    wpAny (model X.prog X.w) X.A (call (.ref C) us) (EP X pins σ Q) X.xe s := by
  have hq := h (s.heap.objs.size + 1) s.heap.objs.size (I.hok.fresh (Nat.le_succ _)) (I.hok.fresh (Nat.le_refl _)) (Nat.ne_of_lt (Nat.lt_succ_self _))
  have I2 := Inv.made (C := C) I
  have r2 : Vals (V.ref (s.heap.objs.size + 1) :: (vs ++ dvs)) (Value.ref (s.heap.objs.size + 1) :: (us ++ ds)) := .cons rfl (r.append hd)
  have hl : (Value.ref (s.heap.objs.size + 1) :: us ++ ds).length = ps.length := by
    have e := r2.length
    rw [F.len _ _ _ _ hq] at e
    exact e.symm
  refine wpAny_call (make_map (f := f) I.kIn M.makes M.init (beq_iff_eq.mp M.fn) (codeAny_mono (F.run _ X.stack _ _ ⟨Value.ref (s.heap.objs.size + 1) :: us, []⟩ (Value.ref (s.heap.objs.size + 1) :: (us ++ ds)) _ _ E (hr.make C us [])
    (I2.env0.make C us []) (hb _ (Value.ref (s.heap.objs.size + 1) :: us) I2.kIn hl) r2 hq) fun r s' hq' => ?_))
  cases r with
  | error e => exact hx pins σ _ _ e s' I2 hq'
  | ok fl =>
    cases fl with
    | ret u =>
      obtain ⟨v, H', I3, rv, ev, q3⟩ := I2.after hq'
      subst ev
      exact ⟨rv, ⟨V.ref (s.heap.objs.size + 1), H', I3, rfl, q3⟩⟩
    | next => exact False.elim hq'
    | brk => exact False.elim hq'
    | cont => exact False.elim hq'
theorem pe_make (M : Mk X.K C f) (F : FnOk X.prog X.w X.K X.mg X.base CX k f fd ps sp) (hr : Room (k + 1) X.A) (hg : Gl X x) (hm : X.mg x = some (.ref C)) (hb : Binds X.K fd ps ds) (hd : Vals dvs ds) (hx : Passes CX X E)
    (ha : PA X (e :: es) t) (hdb : (x == ("__debug__" : Str)) = false := by decide) (he : starEach (e :: es) X.env = (false, eval e X.env) :: starEach es X.env := by rfl) (hpl : (backTo pos (starEach es X.env)).any (·.1) = false := by rfl) :
    PE X (.Call (.Name x p) (e :: es) [] pos) (tMake C sp dvs E t) := by
  intro pins s σ H Q I h
  refine wpAny_Call_Name_kw (ld_glob I hg hm ?_ hdb)
  refine PySem.W.callWith_K (h₀ := X.base) I.ok.mod.kin M.kp (thn (ha pos pins s σ H _ I h) fun us s1 ⟨vs, H1, I1, r, q⟩ => ⟨I1.kIn, ?_⟩) he hpl
  exact run_make M F hr hb hd hx I1 r q
end
section
variable {X : Cx} {CX : CXT} {k : Nat} {f C : Addr} {fd : FuncData} {ps ks : List Str} {sp : Sp} {E : XK} {x m : Str} {p pos apos kpos : Pos} {e o : Expr} {es : List Expr} {kws : List Keyword} {te ta : TE} {t tk : TA} {nm : Option Str}
variable {g : List Value → List Value → List Value} {gV : List V → List V → List V}
end
structure FnScope (N P : List Str) (sc : Scope) : Prop where
  kind : sc.kind = .function
  co : sc.isCoroutine = false
  gen : sc.isGenerator = false
  nd : N.Nodup
  pre : N.take P.length = P
  par : ∀ x ∈ P, sc.names.lookup x = some .local ∨ sc.names.lookup x = some .cell
  nofree : ∀ y ∈ sc.names, y.2 ≠ .free
theorem bindL_out {kindOf : Str → Option NameKind} {x : Str} : ∀ {binds : List (Str × Value)} {m : Str → Option Value}, (∀ v, (x, v) ∉ binds) → bindL kindOf binds m x = m x
  | [], _, _ => rfl
  | (n, v) :: r, m, h => by
    unfold bindL
    rw [bindL_out fun w hw => h w (List.mem_cons_of_mem _ hw)]
    split
    · have : x ≠ n := by rintro rfl; exact h v List.mem_cons_self
      simp [this]
    · rfl
theorem bindC_out {kindOf : Str → Option NameKind} {x : Str} : ∀ {binds : List (Str × Value)} {m : Str → Option Value}, (∀ v, (x, v) ∉ binds) → bindC kindOf binds m x = m x
  | [], _, _ => rfl
  | (n, v) :: r, m, h => by
    unfold bindC
    rw [bindC_out fun w hw => h w (List.mem_cons_of_mem _ hw)]
    split
    · rfl
    · have : x ≠ n := by rintro rfl; exact h v List.mem_cons_self
      simp [this]
theorem bindL_get {kindOf : Str → Option NameKind} {x : Str} {v : Value} : ∀ {P : List Str} {vs : List Value} {i : Nat} {m : Str → Option Value}, P.Nodup → P[i]? = some x → vs[i]? = some v → kindOf x = some .local →
    bindL kindOf (P.zip vs) m x = some v
  | [], _, _, _, _, h, _, _ => by simp at h
  | _ :: _, [], _, _, _, _, h, _ => by simp at h
  | p :: P, w :: vs, 0, m, nd, h1, h2, hk => by
    simp at h1 h2; subst h1; subst h2
    show bindL kindOf ((p, w) :: P.zip vs) m p = _
    unfold bindL
    rw [bindL_out fun v hv => (List.nodup_cons.mp nd).1 (List.of_mem_zip hv).1, if_pos hk]
    simp
  | p :: P, w :: vs, i + 1, m, nd, h1, h2, hk => by
    show bindL kindOf ((p, w) :: P.zip vs) m x = _
    unfold bindL
    exact bindL_get (i := i) (List.nodup_cons.mp nd).2 (by simpa using h1) (by simpa using h2) hk
theorem bindC_get {kindOf : Str → Option NameKind} {x : Str} {v : Value} : ∀ {P : List Str} {vs : List Value} {i : Nat} {m : Str → Option Value}, P.Nodup → P[i]? = some x → vs[i]? = some v → kindOf x ≠ some .local →
    bindC kindOf (P.zip vs) m x = some v
  | [], _, _, _, _, h, _, _ => by simp at h
  | _ :: _, [], _, _, _, _, h, _ => by simp at h
  | p :: P, w :: vs, 0, m, nd, h1, h2, hk => by
    simp at h1 h2; subst h1; subst h2
    show bindC kindOf ((p, w) :: P.zip vs) m p = _
    unfold bindC
    rw [bindC_out fun v hv => (List.nodup_cons.mp nd).1 (List.of_mem_zip hv).1, if_neg hk]
    simp
  | p :: P, w :: vs, i + 1, m, nd, h1, h2, hk => by
    show bindC kindOf ((p, w) :: P.zip vs) m x = _
    unfold bindC
    exact bindC_get (i := i) (List.nodup_cons.mp nd).2 (by simpa using h1) (by simpa using h2) hk
def start (N : List Str) (vs : List V) : St := vs.map some ++ List.replicate (N.length - vs.length) none
def cxOf (CX : CXT) (P : Program) (w : World) (K : PySem.W.Frag) (mg : Str → Option Value) (base : Heap) (N : List Str) (qual : Str) (scope : Scope) (f : Addr) (cd : Value) (A : Around) (outer : List Env) (s : Shared) (H : Hp) (E : XK) : Cx where
  prog := P
  w := w
  K := K
  mg := mg
  base := base
  A := A.deeper (envOfC qual scope s.heap.objs.size f cd)
  N := N
  s₀ := s
  H₀ := H
  env := envOfC qual scope s.heap.objs.size f cd
  outer := outer
  stack := envOfC qual scope s.heap.objs.size f cd :: outer
  ex := []
  calm := true
  fn := fun _ => true
  pn := []
  xe := fun e s' => wpAny (model P w) (A.deeper (envOfC qual scope s.heap.objs.size f cd)) (leaving (envOfC qual scope s.heap.objs.size f cd) e) (fun _ s'' => CX outer H s E e s'') (fun e' s'' => CX outer H s E e' s'') s'
theorem cell_has {sc : Scope} {n : Nat} {x : Str} (h : sc.names.lookup x = some .cell) : ∃ c, (cellsFrom n sc.names []).lookup x = some c := by
  have q := PySem.W.cellsFrom_some sc.names n [] (.inl h)
  exact Option.isSome_iff_exists.mp q
theorem inv_start {CX : CXT} {P : Program} {w : World} {K : PySem.W.Frag} {mg : Str → Option Value} {base : Heap} {N ps : List Str} {qual : Str} {scope : Scope} {f : Addr} {cd : Value} {A : Around} {outer : List Env} {s s1 : Shared} {H : Hp} {E : XK} {us : List Value} {vs : List V}
    (S : FnScope N ps scope) (hd : A.handled = none) (e0 : Env0 P w K mg base A outer s H) (hl : vs.length = ps.length) (r : Vals vs us)
    (x : InCallC s s.heap.objs.size (bindL (envOfC qual scope s.heap.objs.size f cd).kindOf (ps.zip us) fun _ => none) (cellsFrom (s.heap.objs.size + 1) scope.names []) (bindC (envOfC qual scope s.heap.objs.size f cd).kindOf (ps.zip us) fun _ => none) s1) :
    Inv (cxOf CX P w K mg base N qual scope f cd A outer s H E) [] (start N vs) H s1 := by
  have hpl : ps.length ≤ N.length := by have := congrArg List.length S.pre; rw [List.length_take] at this; omega
  obtain ⟨h1, tk, rfl, hk⟩ := x.done
  have noA : ∀ b : Addr, b ∉ (cxOf CX P w K mg base N qual scope f cd A outer s H E).ex := fun b z => absurd (show b ∈ ([] : List Addr) from z) (by simp)
  refine ⟨⟨e0.mod, S.kind, rfl, rfl, Nat.le_refl _, fun y z c h1 h2 => ?_, fun y hy => ?_, fun y c _ h => ?_, fun _ => hd, Around.frames_deeper e0.frames, .inr ⟨rfl, rfl⟩, fun b z => absurd z (noA b), e0.bs, e0.bsz, fun b _ _ => noA b, fun b z => absurd z (noA b), e0.funs, e0.frf⟩,
    rfl, e0.bare, Un.kept hk, ⟨_, x.toInCall.ns, fun i y v h1 h2 h3 => ?_⟩, fun y c h => ⟨_, x.cell y c h⟩, e0.hok.fresh (Nat.le_refl _), fun y c h => ?_, fun p hp => absurd (show p ∈ ([] : List (Addr × Obj)) from hp) (by simp), e0.hok.kept hk, ?_⟩
  · exact name_of_addr x.apart (PySem.mem_of_lookup h1) (PySem.mem_of_lookup h2)
  · have hy : scope.names.lookup y = some .cell ∨ scope.names.lookup y = some .free := hy
    rcases hy with hy | hy
    · exact cell_has hy
    · exact absurd rfl (S.nofree _ (PySem.mem_of_lookup hy))
  · exact Nat.le_of_lt (x.above y c (PySem.mem_of_lookup h))
  · have hi : i < vs.length := by
      unfold start at h2
      by_cases hi : i < vs.length
      · exact hi
      · rw [List.getElem?_append_right (by simpa using hi)] at h2
        rw [List.getElem?_replicate] at h2
        split at h2 <;> cases h2
    have ha : vs[i]? = some v := by
      unfold start at h2
      rw [List.getElem?_append_left (by simpa using hi), List.getElem?_map] at h2
      cases e : vs[i]? with
      | none => rw [e] at h2; cases h2
      | some a => rw [e] at h2; cases h2; rfl
    obtain ⟨u, hu, rv⟩ := r.get ha
    have hp : ps[i]? = some y := by
      rw [← S.pre, List.getElem?_take_of_lt (by omega)]; exact h1
    have ndP : ps.Nodup := by rw [← S.pre]; exact S.nd.sublist (List.take_sublist _ _)
    refine ⟨u, rv, ?_⟩
    rcases S.par y (List.mem_of_getElem? hp) with k | k
    · exact .inl ⟨k, bindL_get ndP hp hu k⟩
    · obtain ⟨c, e⟩ := cell_has (n := s.heap.objs.size + 1) k
      refine .inr ⟨.inl k, c, e, ?_⟩
      have q := x.cell y c e
      rw [bindC_get ndP hp hu (by show scope.names.lookup y ≠ _; rw [k]; decide)] at q
      exact q
  · exact e0.hok.fresh (Nat.le_of_lt (x.above y c (PySem.mem_of_lookup h)))
  · unfold start
    show _ = N.length
    rw [List.length_append, List.length_map, List.length_replicate]
    omega
theorem fn_of {CX : CXT} {P : Program} {w : World} {K : PySem.W.Frag} {mg : Str → Option Value} {base : Heap} {k : Nat} {f : Addr} {name qual : Str} {params : Arguments} {body : List Stmt} {scope : Scope} {dV kV doc pm cdv ct oc : Value} {an od : Option Addr}
    {osl : Array (Option Value)} {N ps : List Str} {sp : Sp} (lk : K.lookup f = some ⟨oc, od, .func (PySem.W.fnOf name qual params body scope dV kV doc pm an cdv ct), osl⟩) (hcd : PySem.W.codeIn K cdv qual = true) (S : FnScope N ps scope)
    (len : ∀ vs H Q E, sp vs H Q E → vs.length = ps.length)
    (hbody : ∀ (A : Around) (outer : List Env) (s : Shared) (H : Hp) (vs : List V) (Q : VK) (E : XK), Room k (A.deeper (envOfC qual scope s.heap.objs.size f cdv)) → sp vs H Q E →
      ∃ t, PSs (cxOf CX P w K mg base N qual scope f cdv A outer s H E) body t ∧ t { nx := fun _ H' => Q .non H', rt := Q } (start N vs) H) :
    FnOk P w K mg base CX (k + 1) f (PySem.W.fnOf name qual params body scope dV kV doc pm an cdv ct) ps sp := by
  refine ⟨len, fun A outer s H args us vs Q E hr e0 hb r hsp => ?_⟩
  have hl := len _ _ _ _ hsp
  have KX : K.In s.heap := e0.mod.kin.keeps fun b o e => (e0.bs b o e).1
  have lim : s.heap.NoLimit := e0.mod.nolimit.keeps fun b o e => (e0.bs b o e).1
  have hkind : ∀ y ∈ ps.zip us, scope.names.lookup y.1 = some .local ∨ (scope.names.lookup y.1 = some .cell ∧ ((cellsFrom (s.heap.objs.size + 1) scope.names []).lookup y.1).isSome = true) := fun ⟨n, v⟩ hy => by
    rcases S.par n (List.of_mem_zip hy).1 with q | q
    · exact .inl q
    · exact .inr ⟨q, PySem.W.cellsFrom_some _ _ _ (.inl q)⟩
  refine codeAny_call_function hr.depth (KX _ _ lk) rfl S.co S.gen rfl (PySem.W.codeRec_of KX hcd) (hb _ _ _ _ ?_)
  refine wpAny_newFunctionEnv_cells S.kind hkind fun env he s1 x => ?_
  subst he
  refine ⟨lim.keeps x.toInCall.keep, codeAny_func ?_⟩
  obtain ⟨t, ht, hq⟩ := hbody A outer s H vs Q E (hr.deeper _) hsp
  have I : Inv (cxOf CX P w K mg base N qual scope f cdv A outer s H E) [] (start N vs) H s1 := inv_start S hr.hd e0 hl r x
  refine wpAny_mono (ht [] s1 (start N vs) H _ I hq) (fun fl s' hs => ?_) fun e s' hs => hs
  have fin : ∀ {σ' : St} {H' : Hp} {v : V} {u : Value}, Inv (cxOf CX P w K mg base N qual scope f cdv A outer s H E) [] σ' H' s' → RelV v u → Q v H' → CE outer P w H s Q u s' :=
    fun {σ' H' v u} J rv q => ⟨v, H', J.os, J.bare, J.base, J.hok, rv, q⟩
  cases fl with
  | ret u =>
    obtain ⟨v, σ', H', J, rv, q⟩ := hs
    exact fin J rv q
  | next =>
    obtain ⟨σ', H', J, q⟩ := hs
    exact fin (v := V.non) (u := Value.none) J rfl q
  | brk =>
    obtain ⟨_, _, _, q⟩ := hs
    exact False.elim q
  | cont =>
    obtain ⟨_, _, _, q⟩ := hs
    exact False.elim q
end L2
namespace L2
open PySem PySem.Spec PyProof.Rows
section
variable {X : Cx} {x : Str} {p pos : Pos} {e : Expr} {es : List Expr} {t : TA} {id T : String} {r : List V → Hp → VK → Prop}
def tCB (r : List V → Hp → VK → Prop) (t : TA) : TE := fun σ H Q => t σ H fun vs H1 => r vs H1 Q
theorem pe_callB (hc : CallR X (.builtin id) r) (hg : Gl X x) (hm : X.mg x = none) (hv : bootBuiltins x = some (.builtin id)) (ha : PA X (e :: es) t) (hn : x ≠ "__name__" := by decide) (hdb : (x == ("__debug__" : Str)) = false := by decide)
    (he : starEach (e :: es) X.env = (false, eval e X.env) :: starEach es X.env := by rfl) (hpl : (backTo pos (starEach es X.env)).any (·.1) = false := by rfl) : PE X (.Call (.Name x p) (e :: es) [] pos) (tCB r t) := by
  intro pins s σ H Q I h
  refine wpAny_Call_Name_kw (ld_blt I hg hm hv ?_ hn hdb)
  exact PyProof.Rows.callWith_builtin1 (thn (ha pos pins s σ H _ I h) fun us s1 ⟨vs, H1, I1, r1, q1⟩ => hc pins s1 σ H1 vs us Q I1 r1 q1) he hpl
theorem pe_callTy (hc : CallR X (.type T) r) (hg : Gl X x) (hm : X.mg x = none) (hv : bootBuiltins x = some (.type T)) (ha : PA X (e :: es) t) (hn : x ≠ "__name__" := by decide) (hdb : (x == ("__debug__" : Str)) = false := by decide)
    (he : starEach (e :: es) X.env = (false, eval e X.env) :: starEach es X.env := by rfl) (hpl : (backTo pos (starEach es X.env)).any (·.1) = false := by rfl) : PE X (.Call (.Name x p) (e :: es) [] pos) (tCB r t) := by
  intro pins s σ H Q I h
  refine wpAny_Call_Name_kw (ld_blt I hg hm hv ?_ hn hdb)
  exact PyProof.Rows.callWith_type1 (thn (ha pos pins s σ H _ I h) fun us s1 ⟨vs, H1, I1, r1, q1⟩ => hc pins s1 σ H1 vs us Q I1 r1 q1) he hpl
end
end L2
namespace HT
open PySem PyProof.Rows
section
open PySem.SeqAt
open PySem.AutoSeq1 (wpAny_loadPart')
open PySem.MeetsSeq PySem.MeetsSeq2 PySem.MeetsSeq3
end
section
variable {prog : Program} {w : World} {A : Around} {E : Value → Shared → Prop} {s : Shared}
theorem cat_tup {t b : Addr} {vs ws : List Value} {Q : Value → Shared → Prop} (ht : IsTup s.heap t vs.toArray) (hb : IsTup s.heap b ws.toArray) (hv : vs ≠ [])
    (h1 : ws = [] → Q (.ref t) s) (h2 : ws ≠ [] → Q (.ref s.heap.objs.size) { s with heap := s.heap.push { cls := .type "tuple", data := .seq (vs ++ ws).toArray } })
    (hsz : vs.length + ws.length ≤ sizeLine) : wpAny (model prog w) A (binaryOp .Add (.ref t) (.ref b)) Q E s := by
  obtain ⟨⟨cls, dd, data, sl⟩, ho, hc, n, hd⟩ := id ht
  obtain ⟨⟨cls2, dd2, data2, sl2⟩, ho2, hc2, n2, hd2⟩ := id hb
  simp only at hc hd hc2 hd2
  subst hc hd hc2 hd2
  have e : vs.toArray ++ ws.toArray = (vs ++ ws).toArray := by simp
  by_cases hw : ws = []
  · exact concat_meets ⟨_, ho, rfl⟩ ⟨_, ho2, rfl⟩ noFill_tuple_add seq_tuple_add PySem.F.slot_tuple_add PySem.F.entry_tuple_add (PySem.F.args_tuple_add_2 _ _)
      (tuple_addW1 t b vs.toArray ws.toArray n n2 dd dd2 sl sl2 (by simpa using hv) (by simp [hw])) ⟨ho, ho2, h1 hw⟩
  · refine concat_meets ⟨_, ho, rfl⟩ ⟨_, ho2, rfl⟩ noFill_tuple_add seq_tuple_add PySem.F.slot_tuple_add PySem.F.entry_tuple_add (PySem.F.args_tuple_add_2 _ _)
      (tuple_addW2 t b vs.toArray ws.toArray n n2 dd dd2 sl sl2 (by simpa using hv) (by simpa using hw) (by rw [List.size_toArray, List.size_toArray]; exact hsz)) ⟨ho, ho2, ?_⟩
    rw [e]
    exact h2 hw
def sIx (n d : Nat) : Option Int → Nat
  | none => d
  | some v => if v < 0 then (v + (n : Int)).toNat else min v.toNat n
theorem sIx_none (n d : Nat) : sIx n d none = d := rfl
theorem sIx_nat (n d k : Nat) : sIx n d (some (k : Int)) = min k n := by
  show (if (k : Int) < 0 then ((k : Int) + (n : Int)).toNat else min (k : Int).toNat n) = min k n
  rw [if_neg (by omega), Int.toNat_natCast]
theorem sIx_le (n d : Nat) (hd : d ≤ n) (o : Option Int) : sIx n d o ≤ n := by
  cases o with
  | none => exact hd
  | some v =>
    show (if v < 0 then (v + (n : Int)).toNat else min v.toNat n) ≤ n
    by_cases hv : v < 0
    · rw [if_pos hv]; omega
    · rw [if_neg hv]; exact Nat.min_le_right _ _
theorem clip_eq (v : Int) (n d : Nat) : (if v < 0 then max (v + (n : Int)) 0 else min v (n : Int)) = ((sIx n d (some v) : Nat) : Int) := by
  show (if v < 0 then max (v + (n : Int)) 0 else min v (n : Int)) = (((if v < 0 then (v + (n : Int)).toNat else min v.toNat n) : Nat) : Int)
  by_cases hv : v < 0
  · simp only [if_pos hv]; omega
  · simp only [if_neg hv]; omega
theorem adjust_gen (lo hi : Option Int) (n : Nat) : Builtin.Slice.sliceAdjust lo hi 1 (n : Int) = (((sIx n 0 lo : Nat) : Int), ((sIx n n hi : Nat) : Int)) := by
  have h1 : ¬ ((1 : Int) < 0) := by omega
  unfold Builtin.Slice.sliceAdjust
  simp only [h1, if_false]
  refine Prod.ext ?_ ?_
  · cases lo with
    | none => rfl
    | some v => exact clip_eq v n 0
  · cases hi with
    | none => rfl
    | some v => exact clip_eq v n n
theorem places_gen (i j : Nat) : Builtin.Slice.slicePlaces (i : Int) (j : Int) 1 = j - i := by
  unfold Builtin.Slice.slicePlaces
  have h1 : (1 : Int) > 0 := by omega
  simp only [h1, if_true, Int.ediv_one]
  split <;> omega
theorem slicePart_ {v : Value} {o : Option Int} {Q : Option Int → Shared → Prop} (p : IsPart v o) (h : Q o s) : wpAny (model prog w) A (Builtin.Slice.slicePartIndex v) Q E s := by
  cases p with
  | none => exact slicePart_none h
  | int i t => exact slicePart_int h
theorem sliceApplied_gen {sl : Addr} {vl vu : Value} {lo hi : Option Int} {n : Nat} {Q : Int × Int × Nat → Shared → Prop} (hs : s.heap.IsSliceOf sl vl vu .none) (pl : IsPart vl lo) (pu : IsPart vu hi)
    (h : Q (((sIx n 0 lo : Nat) : Int), 1, sIx n n hi - sIx n 0 lo) s) : wpAny (model prog w) A (Builtin.Slice.sliceApplied (.ref sl) (pure (n : Int))) Q E s := by
  obtain ⟨os, hos, hcs, hds⟩ := id hs
  unfold Builtin.Slice.sliceApplied Builtin.Slice.sliceFields
  refine wpAny_bind (wpAny_bind (wpAny_field hos hds (x := vl) rfl (wpAny_bind (wpAny_field hos hds (x := vu) rfl (wpAny_bind (wpAny_field hos hds (x := .none) rfl (wpAny_pure ?_)))))))
  refine wpAny_bind (slicePart_none ?_)
  show wpAny _ _ (if ((1 : Int) == 0) = true then _ else _) _ _ s
  rw [if_neg (by decide)]
  refine wpAny_bind (slicePart_ pl (wpAny_bind (slicePart_ pu (wpAny_bind (wpAny_pure ?_)))))
  show wpAny _ _ (match Builtin.Slice.sliceAdjust lo hi 1 (n : Int) with | (lo, hi) => pure (lo, (1 : Int), Builtin.Slice.slicePlaces lo hi 1)) _ _ s
  rw [adjust_gen lo hi n]
  show wpAny _ _ (pure (((sIx n 0 lo : Nat) : Int), (1 : Int), Builtin.Slice.slicePlaces ((sIx n 0 lo : Nat) : Int) ((sIx n n hi : Nat) : Int) 1)) _ _ s
  rw [places_gen]
  exact wpAny_pure h
theorem pick_gen (xs : Array Value) (i k : Nat) : ((List.range k).filterMap fun (m : Nat) => xs[((i : Int) + (m : Int) * 1).toNat]?).toArray = ((xs.toList.drop i).take k).toArray := by
  have e : (fun (m : Nat) => xs[((i : Int) + (m : Int) * 1).toNat]?) = fun m => xs[i + m]? := by
    funext m
    have : ((i : Int) + (m : Int) * 1).toNat = i + m := by omega
    rw [this]
  rw [e]
  have := pick_run xs i k
  rw [List.filterMap_map] at this
  have e2 : ((fun x => xs[x]?) ∘ fun x => i + x) = fun m => xs[i + m]? := rfl
  rw [e2] at this
  rw [this]
theorem getItem_tuple_cut {t sl : Addr} {items : Array Value} {vl vu : Value} {lo hi : Option Int} {Q : Value → Shared → Prop} (ht : IsTup s.heap t items) (hs : s.heap.IsSliceOf sl vl vu .none) (pl : IsPart vl lo) (pu : IsPart vu hi)
    (hw : ¬ (sIx items.size 0 lo = 0 ∧ sIx items.size items.size hi = items.size))
    (h : Q (.ref s.heap.objs.size) { s with heap := s.heap.push { cls := .type "tuple", data := .seq ((items.toList.drop (sIx items.size 0 lo)).take (sIx items.size items.size hi - sIx items.size 0 lo)).toArray } })
    (hsz : items.size ≤ sizeLine) : wpAny (model prog w) A (getItem (.ref t) (.ref sl)) Q E s := by
  have htake : sizeOk (.seq ((items.toList.drop (sIx items.size 0 lo)).take (sIx items.size items.size hi - sIx items.size 0 lo)).toArray) := by
    show ((items.toList.drop (sIx items.size 0 lo)).take (sIx items.size items.size hi - sIx items.size 0 lo)).toArray.size ≤ sizeLine
    rw [List.size_toArray, List.length_take, List.length_drop, Array.length_toList]
    omega
  have hj : sIx items.size items.size hi ≤ items.size := sIx_le _ _ (Nat.le_refl _) hi
  obtain ⟨os, hos, hcs, hds⟩ := id hs
  have hTs : s.TypeIs (.ref sl) "slice" := ⟨os, hos, hcs⟩
  unfold getItem
  try with_reducible refine wpAny_holding ?_
  first | refine wpAny_bind (wpAny_pure ?_) | skip
  refine wpAny_bind (wpAny_sequenceKey ht.typeIs (by decide) ?_)
  refine wpAny_bind (wpAny_callSpecial?_slot (name := Str.ofString "__getitem__") ht.typeIs PyProof.Rows.slot_tuple_getitem
    (wpAny_call_entry PyProof.Rows.slot_tuple_getitem ht.typeIs entry_tuple_getitem ?_ (args_tuple_getitem _ _)))
  show wpAny _ _ (Builtin.Tuple.tupleItemsOf (.ref t) >>= _) _ _ s
  refine wpAny_bind (tupleItemsOf_ ht ?_)
  refine wpAny_bind (wpAny_typeOf hTs ?_)
  rw [if_pos (by decide)]
  refine wpAny_bind (sliceApplied_gen hs pl pu ?_)
  have hno : ¬ ((((sIx items.size 0 lo : Nat) : Int) == 0 && (1 : Int) == 1 && (sIx items.size items.size hi - sIx items.size 0 lo) == items.size) = true) := by
    intro q
    rw [Bool.and_eq_true, Bool.and_eq_true] at q
    have q1 : ((sIx items.size 0 lo : Nat) : Int) = 0 := eq_of_beq q.1.1
    have q2 : sIx items.size items.size hi - sIx items.size 0 lo = items.size := eq_of_beq q.2
    exact hw ⟨by omega, by omega⟩
  show wpAny _ _ (if (((sIx items.size 0 lo : Nat) : Int) == 0 && (1 : Int) == 1 && (sIx items.size items.size hi - sIx items.size 0 lo) == items.size) = true then _ else _) _ _ s
  rw [if_neg hno, pick_gen]
  first
    | exact wpAny_bind (m := Builtin.Tuple.tupleExact _) (wpAny_newObj_type (wpAny_pure ⟨_, rfl, wpAny_pure h⟩) htake)
    | exact wpAny_bind (m := Builtin.Tuple.tupleExact _) (wpAny_newObj_type (wpAny_bind (wpAny_pure (wpAny_pure ⟨_, rfl, wpAny_pure h⟩))) htake)
    | exact wpAny_bind (wpAny_bind (m := Builtin.Tuple.tupleExact _) (wpAny_newObj_type (wpAny_pure (wpAny_pure ⟨_, rfl, wpAny_pure h⟩)) htake))
    | exact wpAny_bind (wpAny_bind (m := Builtin.Tuple.tupleExact _) (wpAny_newObj_type (wpAny_pure ⟨_, rfl, wpAny_pure h⟩) htake))
end
end HT
namespace L2
open PySem PySem.Spec PyProof.Rows
abbrev TO := St → Hp → (Option Int → Hp → Prop) → Prop
def PO (X : Cx) (e : Option Expr) (t : TO) : Prop :=
  ∀ (pins : List (Addr × Obj)) (s : Shared) (σ : St) (H : Hp) (Q : Option Int → Hp → Prop), Inv X pins σ H s → t σ H Q →
    wpAny (model X.prog X.w) X.A (evalPart e X.env) (fun u s' => ∃ o H', Inv X pins σ H' s' ∧ IsPart u o ∧ Q o H') X.xe s
def tNoPart : TO := fun _ H Q => Q none H
def tPart (t : TE) : TO := fun σ H Q => t σ H fun x H1 => ∃ i, x = .int i ∧ Q (some i) H1
section
variable {X : Cx} {e : Expr} {te : TE} {lo hi : Option Expr} {tl th : TO} {pos p2 : Pos}
theorem po_none : PO X none tNoPart := by
  intro pins s σ H Q I h
  rw [evalPart_none]
  exact wpAny_pure ⟨none, H, I, .none, h⟩
theorem po_some (h : PE X e te) : PO X (some e) (tPart te) := by
  intro pins s σ H Q I hw
  rw [evalPart_some]
  refine thn (h pins s σ H _ I hw) fun u s1 ⟨x, H1, I1, r1, q1⟩ => ?_
  obtain ⟨i, rfl, q⟩ := q1
  obtain ⟨t, rfl⟩ := r1
  exact ⟨some i, H1, I1, .int i t, q⟩
def SlR (X : Cx) (r : V → Option Int → Option Int → Hp → VK → Prop) : Prop :=
  ∀ (pins : List (Addr × Obj)) (s : Shared) (σ : St) (H : Hp) (x : V) (v vl vu : Value) (lo hi : Option Int) (sl : Addr) (Q : VK), Inv X pins σ H s → RelV x v → s.heap.IsSliceOf sl vl vu .none → IsPart vl lo → IsPart vu hi → r x lo hi H Q →
    ∃ T id, typeLookup (.type T) "__getitem__" = pure (some (.builtin id)) ∧ s.TypeIs v T ∧ wpAny (model X.prog X.w) X.A (getItem v (.ref sl)) (EP X pins σ Q) X.xe s
theorem SlR.or {r r' : V → Option Int → Option Int → Hp → VK → Prop} (h : SlR X r) (h' : SlR X r') : SlR X (fun x lo hi H Q => r x lo hi H Q ∨ r' x lo hi H Q) := by
  intro pins s σ H x v vl vu lo hi sl Q I rx hs pl pu q
  rcases q with q | q
  · exact h pins s σ H x v vl vu lo hi sl Q I rx hs pl pu q
  · exact h' pins s σ H x v vl vu lo hi sl Q I rx hs pl pu q
def tSl (r : V → Option Int → Option Int → Hp → VK → Prop) (te : TE) (tl th : TO) : TE := fun σ H Q => te σ H fun x H1 => tl σ H1 fun l H2 => th σ H2 fun u H3 => r x l u H3 Q
theorem pe_slice {r : V → Option Int → Option Int → Hp → VK → Prop} (hr : SlR X r) (he : PE X e te) (hl : PO X lo tl) (hu : PO X hi th) : PE X (.Subscript e (.Slice lo hi none p2) pos) (tSl r te tl th) := by
  intro pins s σ H Q I h
  refine Subscript_ (thn (he pins s σ H _ I h) fun v s1 ⟨x, H1, I1, r1, q1⟩ => ?_)
  refine wpAny_Slice (thn (hl pins s1 σ H1 _ I1 q1) fun vl s2 ⟨l, H2, I2, pl, q2⟩ => thn (hu pins s2 σ H2 _ I2 q2) fun vu s3 ⟨u, H3, I3, pu, q3⟩ => ?_)
  rw [evalPart_none]
  refine wpAny_pure ?_
  have I4 : Inv X pins σ H3 { s3 with heap := s3.heap.push { cls := .type "slice", data := .fields #[vl, vu, .none] } } := I3.kept (t' := s3.toks) fun b ob q => Heap.get?_push_of_some _ q
  obtain ⟨T, id, hT, ht, hg⟩ := hr pins { s3 with heap := s3.heap.push { cls := .type "slice", data := .fields #[vl, vu, .none] } } σ H3 x v vl vu l u s3.heap.objs.size Q I4 r1 (Heap.IsSliceOf.new ..) pl pu q3
  show wpAny (model X.prog X.w) X.A (subscriptTail e (.Slice lo hi none p2) v (.ref s3.heap.objs.size)) (EP X pins σ Q) X.xe { s3 with heap := s3.heap.push { cls := .type "slice", data := .fields #[vl, vu, .none] } }
  exact tail_any (ops := [.ref s3.heap.objs.size, v]) ht hT hg (by with_unfolding_all rfl)
def cutV (xs : List V) (lo hi : Option Int) : List V := (xs.drop (HT.sIx xs.length 0 lo)).take (HT.sIx xs.length xs.length hi - HT.sIx xs.length 0 lo)
theorem cutV_length (xs : List V) (lo hi : Option Int) : (cutV xs lo hi).length ≤ xs.length := by
  unfold cutV
  rw [List.length_take, List.length_drop]
  omega
def rSlT (K : PySem.W.Frag) : V → Option Int → Option Int → Hp → VK → Prop := fun x lo hi H Q => ∃ a xs, x = .ref a ∧ SqT K H a xs ∧
  ¬ (HT.sIx xs.length 0 lo = 0 ∧ HT.sIx xs.length xs.length hi = xs.length) ∧ ∀ p, H p = none → Q (.ref p) (upd H p (.tup (cutV xs lo hi)))
theorem sl_tup : SlR X (rSlT X.K) := by
  intro pins s σ H x v vl vu lo hi sl Q I rx hs pl pu h
  obtain ⟨a, xs, rfl, hx, hw, q⟩ := h
  cases rx
  obtain ⟨its, r, ht, hz⟩ := I.tuple hx
  have hlen : its.toArray.size = xs.length := by rw [List.size_toArray]; exact r.length.symm
  refine ⟨"tuple", _, PyProof.Rows.slot_tuple_getitem.lookup, ht.typeIs, ?_⟩
  refine HT.getItem_tuple_cut ht hs pl pu (by rw [hlen]; exact hw) ?_ (by rw [hlen]; exact hz)
  rw [hlen]
  refine ⟨.ref s.heap.objs.size, _, I.laid (t' := s.toks) (o := .tup (cutV xs lo hi)) (fun b ob q => Heap.get?_push_of_some _ q) (Nat.le_refl _) ?_, rfl, q _ (I.hok.fresh (Nat.le_refl _))⟩
  exact ⟨Nat.le_trans (cutV_length xs lo hi) hz, _, (r.drop (HT.sIx xs.length 0 lo)).take (HT.sIx xs.length xs.length hi - HT.sIx xs.length 0 lo), IsTupN.new _ _⟩
def rCatT (K : PySem.W.Frag) : R2 := fun x y H Q => ∃ a b xs ys, x = .ref a ∧ y = .ref b ∧ SqT K H a xs ∧ SqT K H b ys ∧ xs ≠ [] ∧ xs.length + ys.length ≤ sizeLine ∧
  (ys = [] → Q (.ref a) H) ∧ (ys ≠ [] → ∀ p, H p = none → Q (.ref p) (upd H p (.tup (xs ++ ys))))
theorem Vals.nil_iff {xs : List V} {us : List Value} (r : Vals xs us) : us = [] ↔ xs = [] := by
  cases r with
  | nil => simp
  | cons _ _ => simp
theorem op_catT : OpR X (binaryOp .Add) (rCatT X.K) := by
  intro pins s σ H x y v u Q I rx ry h
  obtain ⟨a, b, xs, ys, rfl, rfl, ha, hb, hx, hz, q1, q2⟩ := h
  cases rx
  cases ry
  obtain ⟨its, r1, p1, _⟩ := I.tuple ha
  obtain ⟨its2, r2, p2, _⟩ := I.tuple hb
  refine HT.cat_tup p1 p2 (fun z => hx (r1.nil_iff.mp z)) (fun z => ⟨.ref a, H, I, rfl, q1 (r2.nil_iff.mp z)⟩) (fun z => ?_) (by rw [← r1.length, ← r2.length]; exact hz)
  refine ⟨.ref s.heap.objs.size, _, I.laid (t' := s.toks) (o := .tup (xs ++ ys)) (fun b ob q => Heap.get?_push_of_some _ q) (Nat.le_refl _) ?_, rfl, q2 (fun w => z (r2.nil_iff.mpr w)) _ (I.hok.fresh (Nat.le_refl _))⟩
  exact ⟨by rw [List.length_append]; exact hz, _, r1.append r2, IsTupN.new _ _⟩
end
end L2
namespace L2
open PySem PySem.Spec PyProof.Rows
def ixN (n : Nat) (i : Int) : Option Nat := if 0 ≤ i then (if i < n then some i.toNat else none) else if -(n : Int) ≤ i then some (i + n).toNat else none
def atI {α : Type} (xs : List α) (i : Int) : Option α := (ixN xs.length i).bind fun j => xs[j]?
theorem ixN_seq {n : Nat} {i : Int} {j : Nat} (h : ixN n i = some j) : seqIndex? i n = some j ∧ j < n ∧ -(n : Int) ≤ i ∧ i < n := by
  unfold ixN at h
  by_cases h0 : 0 ≤ i
  · rw [if_pos h0] at h
    by_cases h1 : i < n
    · rw [if_pos h1] at h
      have e : i.toNat = j := Option.some.inj h
      exact ⟨by rw [seqIndex_of h0 h1, e], by omega, by omega, h1⟩
    · rw [if_neg h1] at h; cases h
  · rw [if_neg h0] at h
    by_cases h1 : -(n : Int) ≤ i
    · rw [if_pos h1] at h
      have e : (i + n).toNat = j := Option.some.inj h
      exact ⟨by rw [seqIndex_neg (by omega) h1, e], by omega, h1, by omega⟩
    · rw [if_neg h1] at h; cases h
theorem atI_get {α : Type} {xs : List α} {i : Int} {v : α} (h : atI xs i = some v) : ∃ j, seqIndex? i xs.length = some j ∧ xs[j]? = some v ∧ j < xs.length ∧ -(xs.length : Int) ≤ i ∧ i < xs.length := by
  unfold atI at h
  cases e : ixN xs.length i with
  | none => rw [e] at h; cases h
  | some j =>
    rw [e] at h
    obtain ⟨h1, h2, h3, h4⟩ := ixN_seq e
    exact ⟨j, h1, h, h2, h3, h4⟩
def PlainIx (b : Expr) : Prop := ∀ o i, subscripted b false o i = operate [o, i] (getItem o i)
def IxR (X : Cx) (r : R2) : Prop :=
  ∀ (value slice : Expr) (pins : List (Addr × Obj)) (s : Shared) (σ : St) (H : Hp) (x y : V) (v u : Value) (Q : VK), Inv X pins σ H s → RelV x v → RelV y u → r x y H Q →
    subscripted slice false v u = operate [v, u] (getItem v u) → wpAny (model X.prog X.w) X.A (subscriptTail value slice v u) (EP X pins σ Q) X.xe s
def MtR (X : Cx) (id : String) (r : V → List V → Hp → VK → Prop) : Prop :=
  ∀ (pins : List (Addr × Obj)) (s : Shared) (σ : St) (H : Hp) (x : V) (xs : List V) (v : Value) (us : List Value) (Q : VK), Inv X pins σ H s → RelV x v → Vals xs us → r x xs H Q →
    wpAny (model X.prog X.w) X.A (call (.builtin id) (v :: us)) (EP X pins σ Q) X.xe s
section
variable {X : Cx} {a b : Expr} {ta tb : TE} {pos : Pos}
theorem IxR.or {r r' : R2} (h : IxR X r) (h' : IxR X r') : IxR X (fun x y H Q => r x y H Q ∨ r' x y H Q) := by
  intro value slice pins s σ H x y v u Q I rx ry q hs
  rcases q with q | q
  · exact h value slice pins s σ H x y v u Q I rx ry q hs
  · exact h' value slice pins s σ H x y v u Q I rx ry q hs
theorem pe_ix {r : R2} (hr : IxR X r) (ha : PE X a ta) (hb : PE X b tb) (hs : PlainIx b) : PE X (.Subscript a b pos) (tOp r ta tb) := by
  intro pins s σ H Q I h
  exact Subscript_ (binT ha hb I h fun v u s2 x y H2 I2 rx ry q => hr a b pins s2 σ H2 x y v u Q I2 rx ry q (hs _ _))
def rIxL (K : PySem.W.Frag) : R2 := fun x y H Q => ∃ p xs i v, x = .ref p ∧ y = .int i ∧ SqL K H p xs ∧ atI xs i = some v ∧ Q v H
def rIxT (K : PySem.W.Frag) : R2 := fun x y H Q => ∃ p xs i v, x = .ref p ∧ y = .int i ∧ SqT K H p xs ∧ atI xs i = some v ∧ Q v H
def rIxS : R2 := fun x y H Q => ∃ z i c, x = .str z ∧ y = .int i ∧ z.length ≤ sizeLine ∧ atI z.cps.toList i = some c ∧ Q (.str ⟨#[c]⟩) H
theorem ix_list : IxR X (rIxL X.K) := by
  intro value slice pins s σ H x y v u Q I rx ry h hs
  obtain ⟨p, xs, i, z, rfl, rfl, hq, he, q⟩ := h
  cases rx
  obtain ⟨t, rfl⟩ := ry
  obtain ⟨its, r, pl, hz⟩ := I.list hq
  obtain ⟨j, h1, h2, h3, h4, h5⟩ := atI_get he
  obtain ⟨w, ew, rw'⟩ := r.get h2
  have hl := r.length
  have hn := line63
  have fin : EP X pins σ Q w s := ⟨z, H, I, rw', q⟩
  by_cases h0 : 0 ≤ i
  · have hj : i.toNat = j := by
      rw [seqIndex_of h0 h5] at h1
      exact Option.some.inj h1
    exact item_listR pl.isList h0 (by omega) (by rw [hj]; simpa using ew) fin hs
  · have hj : (i + (its.toArray.size : Int)).toNat = j := by
      rw [seqIndex_neg (by omega) h4] at h1
      rw [List.size_toArray, ← hl]
      exact Option.some.inj h1
    exact subscriptTail_builtinR (x := w) pl.isList.typeIs slot_list_getitem.lookup
      (wpAny_getItem_list_neg (Q := fun r s' => r = w ∧ EP X pins σ Q r s') pl.isList (by omega) (by rw [List.size_toArray] <;> omega) (by omega) (by rw [hj]; simpa using ew) ⟨rfl, fin⟩) hs
theorem ix_tup : IxR X (rIxT X.K) := by
  intro value slice pins s σ H x y v u Q I rx ry h hs
  obtain ⟨p, xs, i, z, rfl, rfl, hq, he, q⟩ := h
  cases rx
  obtain ⟨t, rfl⟩ := ry
  obtain ⟨its, r, pl, hz⟩ := I.tuple hq
  obtain ⟨j, h1, h2, h3, h4, h5⟩ := atI_get he
  obtain ⟨w, ew, rw'⟩ := r.get h2
  have hl := r.length
  have hn := line63
  have fin : EP X pins σ Q w s := ⟨z, H, I, rw', q⟩
  exact subscriptTail_builtinR (x := w) pl.typeIs slot_tuple_getitem.lookup
    (getItem_tuple (j := j) (Q := fun r s' => r = w ∧ EP X pins σ Q r s') pl (by omega) (by omega) (by rw [List.size_toArray, ← hl]; exact h1) (by simpa using ew) ⟨rfl, fin⟩) hs
theorem ix_str : IxR X rIxS := by
  intro value slice pins s σ H x y v u Q I rx ry h hs
  obtain ⟨z, i, c, rfl, rfl, hz, he, q⟩ := h
  obtain ⟨t, rfl⟩ := rx
  obtain ⟨t', rfl⟩ := ry
  obtain ⟨j, h1, h2, h3, h4, h5⟩ := atI_get he
  have hl : z.cps.toList.length = z.length := by simp [Str.length]
  rw [hl] at h1 h4 h5
  have hn := line63
  exact tail_any (typeIs_str s z t) slot_str_getitem.lookup (getItem_str (c := c) (by
    have e1 : decide (i < -(2 ^ 63 : Int)) = false := decide_eq_false (by omega)
    have e2 : decide (i ≥ 2 ^ 63) = false := decide_eq_false (by omega)
    rw [e1, e2, Bool.or_false]) (by rw [h1]; simpa using h2) ⟨.str ⟨#[c]⟩, H, I.tok _, ⟨_, rfl⟩, q⟩) hs
def rIx (K : PySem.W.Frag) : R2 := fun x y H Q => rIxL K x y H Q ∨ rIxT K x y H Q ∨ rIxS x y H Q
theorem ix_seq : IxR X (rIx X.K) := ix_list.or (ix_tup.or ix_str)
theorem mapSeq_set (its : List Value) (n j : Nat) (u : Value) : Obj.mapSeq (·.setIfInBounds j u) { cls := .type "list", data := .seq its.toArray n } = { cls := .type "list", data := .seq (its.set j u).toArray n } := by
  simp [Obj.mapSeq]
theorem Inv.lst {pins : List (Addr × Obj)} {σ : St} {H : Hp} {s : Shared} {p : Addr} {xs : List V} (I : Inv X pins σ H s) (h : H p = some (.lst xs)) :
    ∃ (its : List Value) (n : Nat), Vals xs its ∧ s.heap.get? p = some { cls := .type "list", data := .seq its.toArray n } ∧ xs.length ≤ sizeLine := by
  obtain ⟨z, its, n, r, e⟩ := I.hok p _ h
  exact ⟨its, n, r, e, z⟩
theorem Inv.lstUpd {pins : List (Addr × Obj)} {σ : St} {H : Hp} {s : Shared} {p : Addr} {xs ys : List V} {its its' : List Value} {n n' : Nat} {f : Obj → Obj} (I : Inv X pins σ H s) (h : H p = some (.lst xs))
    (ho : s.heap.get? p = some { cls := .type "list", data := .seq its.toArray n }) (hf : f { cls := .type "list", data := .seq its.toArray n } = { cls := .type "list", data := .seq its'.toArray n' }) (r : Vals ys its') (hz : ys.length ≤ sizeLine) (t : Nat) :
    Inv X pins σ (upd H p (.lst ys)) { s with heap := s.heap.update p f, toks := t } := by
  have e : (s.heap.update p f).get? p = some { cls := .type "list", data := .seq its'.toArray n' } := by
    rw [Heap.get?_update_self f ho (by rw [hf] <;> rfl), hf]
  refine I.write (x := p) (e := p) (by rw [h]; trivial) (.inl rfl) (fun b u hb q => (Heap.get?_update_other _ _ (Ne.symm hb)).trans q) ⟨_, e⟩ ?_
  exact ⟨hz, its', n', r, e⟩
def rSetL : V → V → V → Hp → (Hp → Prop) → Prop := fun o i v H Q => ∃ p xs k j, o = .ref p ∧ i = .int k ∧ H p = some (.lst xs) ∧ ixN xs.length k = some j ∧ Q (upd H p (.lst (xs.set j v)))
theorem set_list : PSet X rSetL := by
  intro pins s σ H o i v ov iv u Q I ro ri rv h
  obtain ⟨p, xs, k, j, rfl, rfl, hp, hj, q⟩ := h
  cases ro
  obtain ⟨t, rfl⟩ := ri
  obtain ⟨its, n, r, ho, hz⟩ := I.lst hp
  obtain ⟨h1, h2, h3, h4⟩ := ixN_seq hj
  have hl := r.length
  have hn := line63
  have I' : Inv X pins σ (upd H p (.lst (xs.set j v))) { s with heap := s.heap.update p (Obj.mapSeq (·.setIfInBounds j u)) } :=
    I.lstUpd hp ho (mapSeq_set its n j u) (r.set rv j) (by rw [List.length_set]; exact hz) s.toks
  by_cases h0 : 0 ≤ k
  · have hk : k.toNat = j := by
      rw [seqIndex_of h0 h4] at h1
      exact Option.some.inj h1
    exact PySem.W.ki_setAt ho h0 (by omega) (by rw [List.size_toArray, ← hl]; exact h4) (by rw [hk]; exact ⟨_, I', q⟩)
  · have hk : (k + (its.toArray.size : Int)).toNat = j := by
      rw [seqIndex_neg (by omega) h3] at h1
      rw [List.size_toArray, ← hl]
      exact Option.some.inj h1
    exact PySem.W.ki_setBack ho (by omega) (by rw [List.size_toArray, ← hl]; exact h3) (by omega) (by rw [hk]; exact ⟨_, I', q⟩)
theorem slice_bounds (lo hi : Option Int) (n : Nat) : (sliceBounds lo hi none n).1 = ((HT.sIx n 0 lo : Nat) : Int) ∧ (sliceBounds lo hi none n).2.1 = ((HT.sIx n n hi : Nat) : Int) ∧ (sliceBounds lo hi none n).2.2 = 1 := by
  refine ⟨?_, ?_, rfl⟩
  · cases lo with
    | none => simp [sliceBounds, HT.sIx]
    | some i =>
      simp only [sliceBounds, HT.sIx, Option.getD_none, show (1 : Int) > 0 by decide, if_true]
      by_cases h : i < 0
      · simp only [h, if_true] <;> omega
      · simp only [h, if_false] <;> omega
  · cases hi with
    | none => simp [sliceBounds, HT.sIx]
    | some i =>
      simp only [sliceBounds, HT.sIx, Option.getD_none, show (1 : Int) > 0 by decide, if_true]
      by_cases h : i < 0
      · simp only [h, if_true] <;> omega
      · simp only [h, if_false] <;> omega
theorem slicePick_cut (its : List Value) (lo hi : Option Int) : slicePick its.toArray lo hi none = ((its.drop (HT.sIx its.length 0 lo)).take (HT.sIx its.length its.length hi - HT.sIx its.length 0 lo)).toArray := by
  obtain ⟨h1, h2, h3⟩ := slice_bounds lo hi its.toArray.size
  unfold slicePick
  rw [h1, h2, h3]
  simp only [sliceRange_one, pick_run, List.size_toArray] <;> rfl
def rSlL (K : PySem.W.Frag) : V → Option Int → Option Int → Hp → VK → Prop := fun x lo hi H Q => ∃ a xs, x = .ref a ∧ SqL K H a xs ∧ ∀ p, H p = none → Q (.ref p) (upd H p (.lst (cutV xs lo hi)))
theorem sl_list : SlR X (rSlL X.K) := by
  intro pins s σ H x v vl vu lo hi sl Q I rx hs pl pu h
  obtain ⟨a, xs, rfl, hx, q⟩ := h
  cases rx
  obtain ⟨its, r, ht, hz⟩ := I.list hx
  have hlen := r.length
  refine ⟨"list", _, slot_list_getitem.lookup, ht.isList.typeIs, ?_⟩
  refine wpAny_getItem_list_slice ht.isList hs pl pu .none (by simp) ?_ (by rw [List.size_toArray] <;> omega)
  rw [slicePick_cut, ← hlen]
  refine ⟨.ref s.heap.objs.size, _, I.laid (t' := s.toks) (o := .lst (cutV xs lo hi)) (fun b ob q => Heap.get?_push_of_some _ q) (Nat.le_refl _) ?_, rfl, q _ (I.hok.fresh (Nat.le_refl _))⟩
  exact ⟨Nat.le_trans (cutV_length xs lo hi) hz, _, 0, (r.drop (HT.sIx xs.length 0 lo)).take (HT.sIx xs.length xs.length hi - HT.sIx xs.length 0 lo), Heap.get?_push_size _ rfl⟩
def flatV : V → Bool
  | .non => true
  | .bl _ => true
  | .int _ => true
  | .str _ => true
  | _ => false
def eqV : V → V → Bool
  | .non, .non => true
  | .bl a, .bl b => a == b
  | .bl a, .int b => (if a then 1 else 0) == b
  | .int a, .bl b => a == (if b then 1 else 0)
  | .int a, .int b => a == b
  | .str a, .str b => a == b
  | _, _ => false
theorem eqAt_V {A : Around} {s : Shared} {y x : V} {u v : Value} (ry : RelV y u) (rx : RelV x v) (fy : flatV y = true) (fx : flatV x = true) : SeqAt.EqAt A s u v (eqV y x) := by
  cases y with
  | non =>
    cases ry
    cases x with
    | non => cases rx; exact SeqAt.EqAt.same _
    | bl b => cases rx; exact SeqAt.EqAt.none_bool b
    | int b => obtain ⟨t, rfl⟩ := rx; exact SeqAt.EqAt.none_int b t
    | str b => obtain ⟨t, rfl⟩ := rx; exact SeqAt.EqAt.none_str b t
    | _ => exact absurd (show false = true from fx) Bool.false_ne_true
  | bl a =>
    cases ry
    cases x with
    | non => cases rx; exact SeqAt.EqAt.bool_none a
    | bl b => cases rx; exact SeqAt.EqAt.bool_bool a b
    | int b => obtain ⟨t, rfl⟩ := rx; exact SeqAt.EqAt.bool_int a b t
    | str b => obtain ⟨t, rfl⟩ := rx; exact SeqAt.EqAt.bool_str a b t
    | _ => exact absurd (show false = true from fx) Bool.false_ne_true
  | int a =>
    obtain ⟨t', rfl⟩ := ry
    cases x with
    | non => cases rx; exact SeqAt.EqAt.int_none a t'
    | bl b => cases rx; exact SeqAt.EqAt.int_bool a t' b
    | int b => obtain ⟨t, rfl⟩ := rx; exact SeqAt.EqAt.int_int a t' b t
    | str b => obtain ⟨t, rfl⟩ := rx; exact SeqAt.EqAt.int_str a t' b t
    | _ => exact absurd (show false = true from fx) Bool.false_ne_true
  | str a =>
    obtain ⟨t', rfl⟩ := ry
    cases x with
    | non => cases rx; exact SeqAt.EqAt.str_none a t'
    | bl b => cases rx; exact SeqAt.EqAt.str_bool a t' b
    | int b => obtain ⟨t, rfl⟩ := rx; exact SeqAt.EqAt.str_int a t' b t
    | str b => obtain ⟨t, rfl⟩ := rx; exact SeqAt.EqAt.str_str a t' b t
    | _ => exact absurd (show false = true from fx) Bool.false_ne_true
  | _ => exact absurd (show false = true from fy) Bool.false_ne_true
def eqU (x : V) (u : Value) : Bool := match u with
  | .none => eqV .non x
  | .bool b => eqV (.bl b) x
  | .int i _ => eqV (.int i) x
  | .str z _ => eqV (.str z) x
  | _ => false
theorem eqU_of {x y : V} {u : Value} (r : RelV y u) (f : flatV y = true) : eqU x u = eqV y x := by
  cases y with
  | non => cases r; rfl
  | bl b => cases r; rfl
  | int i => obtain ⟨t, rfl⟩ := r; rfl
  | str z => obtain ⟨t, rfl⟩ := r; rfl
  | _ => exact absurd (show false = true from f) Bool.false_ne_true
theorem any_eqU {x : V} : ∀ {xs : List V} {us : List Value}, Vals xs us → xs.all flatV = true → us.any (eqU x) = xs.any fun y => eqV y x
  | _, _, .nil, _ => rfl
  | y :: xs, u :: us, .cons r t, f => by
    rw [List.all_cons, Bool.and_eq_true] at f
    rw [List.any_cons, List.any_cons, eqU_of r f.1, any_eqU t f.2]
theorem mem_eqAt {A : Around} {s : Shared} {x : V} {v : Value} (rx : RelV x v) (fx : flatV x = true) : ∀ {xs : List V} {us : List Value}, Vals xs us → xs.all flatV = true → ∀ u ∈ us, SeqAt.EqAt A s u v (eqU x u)
  | _, _, .nil, _ => fun u hu => by cases hu
  | y :: xs, u :: us, .cons r t, f => fun u' hu => by
    rw [List.all_cons, Bool.and_eq_true] at f
    rcases List.mem_cons.mp hu with rfl | hu
    · rw [eqU_of r f.1]; exact eqAt_V r rx f.1 fx
    · exact mem_eqAt rx fx t f.2 u' hu
def inV (x : V) (xs : List V) : Bool := xs.any fun y => eqV y x
def rIn (K : PySem.W.Frag) (neg : Bool) : R2 := fun x y H Q => ∃ p xs, y = .ref p ∧ (SqL K H p xs ∨ SqT K H p xs) ∧ flatV x = true ∧ xs.all flatV = true ∧ Q (.bl (if neg then !inV x xs else inV x xs)) H
theorem op_in_seq : OpR X (compareOp .In) (rIn X.K false) := by
  intro pins s σ H x y v u Q I rx ry h
  obtain ⟨p, xs, rfl, hq, fx, fs, q⟩ := h
  cases ry
  rcases hq with hq | hq
  · obtain ⟨its, r, pl, hz⟩ := I.list hq
    refine SeqAt.in_listAt (eqU x) pl.isList (fun w hw => mem_eqAt rx fx r fs w (by simpa using hw)) ⟨.bl _, H, I, rfl, ?_⟩
    rw [show its.toArray.any (eqU x) = its.any (eqU x) by simp, any_eqU r fs]
    exact q
  · obtain ⟨its, r, pl, hz⟩ := I.tuple hq
    refine SeqAt.in_tupleAt (eqU x) pl (fun w hw => mem_eqAt rx fx r fs w (by simpa using hw)) ⟨.bl _, H, I, rfl, ?_⟩
    rw [show its.toArray.any (eqU x) = its.any (eqU x) by simp, any_eqU r fs]
    exact q
theorem op_notIn_seq : OpR X (compareOp .NotIn) (rIn X.K true) := by
  intro pins s σ H x y v u Q I rx ry h
  obtain ⟨p, xs, rfl, hq, fx, fs, q⟩ := h
  cases ry
  rcases hq with hq | hq
  · obtain ⟨its, r, pl, hz⟩ := I.list hq
    refine SeqAt.notIn_listAt (eqU x) pl.isList (fun w hw => mem_eqAt rx fx r fs w (by simpa using hw)) ⟨.bl _, H, I, rfl, ?_⟩
    rw [show its.toArray.any (eqU x) = its.any (eqU x) by simp, any_eqU r fs]
    exact q
  · obtain ⟨its, r, pl, hz⟩ := I.tuple hq
    refine SeqAt.notIn_tupleAt (eqU x) pl (fun w hw => mem_eqAt rx fx r fs w (by simpa using hw)) ⟨.bl _, H, I, rfl, ?_⟩
    rw [show its.toArray.any (eqU x) = its.any (eqU x) by simp, any_eqU r fs]
    exact q
theorem call_list_of : CallR X (.type "list") (fun xs H Q => ∃ p ys, xs = [.ref p] ∧ (SqL X.K H p ys ∨ SqT X.K H p ys) ∧ ∀ l, H l = none → Q (.ref l) (upd H l (.lst ys))) := by
  intro pins s σ H xs us Q I r h
  obtain ⟨p, ys, rfl, hq, q⟩ := h
  obtain ⟨u, rfl, rx⟩ := vals1 r
  cases rx
  have fin : ∀ (its : List Value), Vals ys its → ys.length ≤ sizeLine → ∀ (h' : Heap) (c' : Nat), (∀ b o', s.heap.get? b = some o' → h'.get? b = some o') →
      h'.get? s.heap.objs.size = some { cls := .type "list", dict := none, data := .seq its.toArray c', slots := #[] } → EP X pins σ Q (.ref s.heap.objs.size) { s with heap := h' } := fun its r' hz h' c' kp e =>
    ⟨.ref s.heap.objs.size, _, I.laid (t' := s.toks) kp (Nat.le_refl _) (show ObjOk X.prog X.w _ h' _ (.lst ys) from ⟨hz, its, c', r', e⟩), rfl, q _ (I.hok.fresh (Nat.le_refl _))⟩
  rcases hq with hq | hq
  · obtain ⟨its, r', pl, hz⟩ := I.list hq
    have hlen := r'.length
    obtain ⟨o, ho, hc, n, hd⟩ := pl.isList
    exact call_list_seq p (.inl rfl) ho hc hd (fun h' c' kp e => fin its r' hz h' c' kp e) (by simp only [List.size_toArray] <;> omega)
  · obtain ⟨its, r', pl, hz⟩ := I.tuple hq
    have hlen := r'.length
    obtain ⟨o, ho, hc, n, hd⟩ := pl
    exact call_list_seq p (.inr rfl) ho hc hd (fun h' c' kp e => fin its r' hz h' c' kp e) (by simp only [List.size_toArray] <;> omega)
theorem call_tuple_of : CallR X (.type "tuple") (fun xs H Q => ∃ p ys, xs = [.ref p] ∧ ((SqL X.K H p ys ∧ ∀ l, H l = none → Q (.ref l) (upd H l (.tup ys))) ∨ (SqT X.K H p ys ∧ Q (.ref p) H))) := by
  intro pins s σ H xs us Q I r h
  obtain ⟨p, ys, rfl, h⟩ := h
  obtain ⟨u, rfl, rx⟩ := vals1 r
  cases rx
  rcases h with ⟨hq, q⟩ | ⟨hq, q⟩
  · obtain ⟨its, r', pl, hz⟩ := I.list hq
    have hlen := r'.length
    refine call_tuple_list pl.isList (fun h' kp => ?_) (by simp only [List.size_toArray] <;> omega)
    have I1 : Inv X pins σ H { s with heap := h' } := I.kept (t' := s.toks) kp
    have I2 : Inv X pins σ (upd H h'.objs.size (.tup ys)) { s with heap := h'.push { cls := .type "tuple", data := .seq its.toArray } } :=
      I1.laid (t' := s.toks) (fun b o e => Heap.get?_push_of_some _ e) (Nat.le_refl _) (show ObjOk X.prog X.w _ _ _ (.tup ys) from ⟨hz, its, r', IsTupN.new _ _⟩)
    exact ⟨.ref h'.objs.size, _, I2, rfl, q _ (I1.hok.fresh (Nat.le_refl _))⟩
  · obtain ⟨its, r', pl, hz⟩ := I.tuple hq
    exact call_tuple_same pl ⟨.ref p, H, I, rfl, q⟩
def tyV (K : PySem.W.Frag) (T : String) (x : V) (H : Hp) : Prop := match x with
  | .str _ => T = "str"
  | .int _ => T = "int"
  | .ref p => (T = "list" ∧ ∃ xs, SqL K H p xs) ∨ (T = "tuple" ∧ ∃ o, K.lookup p = some o ∧ o.cls = .type "tuple" ∧ o.dict = none) ∨
      (T = "dict" ∧ ((∃ kvs, H p = some (.dK kvs)) ∨ ∃ kvs, H p = some (.dT kvs))) ∨ (T = "set" ∧ ∃ S n, H p = some (.set S n))
  | _ => False
theorem tyV_is {pins : List (Addr × Obj)} {σ : St} {H : Hp} {s : Shared} {T : String} {x : V} {v : Value} (I : Inv X pins σ H s) (r : RelV x v) (ty : tyV X.K T x H) :
    s.TypeIs v T ∧ ∀ a, v = .ref a → ∃ ob, s.heap.get? a = some ob ∧ ob.dict = none := by
  cases x with
  | str z =>
    obtain ⟨t, rfl⟩ := r
    cases (show T = "str" from ty)
    exact ⟨typeIs_str s z t, fun _ e => nomatch e⟩
  | int i =>
    obtain ⟨t, rfl⟩ := r
    cases (show T = "int" from ty)
    exact ⟨typeIs_int s i t, fun _ e => nomatch e⟩
  | ref p =>
    cases r
    rcases ty with ⟨rfl, xs, hq⟩ | ⟨rfl, o, hk, hc, hd⟩ | ⟨rfl, hk⟩ | ⟨rfl, S, n, hk⟩
    · obtain ⟨its, _, pl, _⟩ := I.list hq
      refine ⟨pl.isList.typeIs, fun a e => ?_⟩
      cases e
      obtain ⟨o, n, e, c, hd, _⟩ := pl
      exact ⟨o, e, hd⟩
    · refine ⟨⟨o, I.kIn p o hk, hc⟩, fun a e => ?_⟩
      cases e
      exact ⟨o, I.kIn _ o hk, hd⟩
    · have z : ∃ o, s.heap.get? p = some o ∧ o.ExactDict := by
        rcases hk with ⟨kvs, hk⟩ | ⟨kvs, hk⟩
        · obtain ⟨_, _, _, _, o, _, _, e, ex, _⟩ := I.hok p _ hk
          exact ⟨o, e, ex⟩
        · obtain ⟨_, _, _, _, o, _, _, e, ex, _⟩ := I.hok p _ hk
          exact ⟨o, e, ex⟩
      obtain ⟨o, e, ex⟩ := z
      refine ⟨⟨o, e, ex.1⟩, fun a e2 => ?_⟩
      cases e2
      exact ⟨o, e, ex.2.1⟩
    · obtain ⟨o, _, _, _, e, ex, _⟩ := I.hok p _ hk
      refine ⟨⟨o, e, ex.1⟩, fun a e2 => ?_⟩
      cases e2
      exact ⟨o, e, ex.2.1⟩
  | _ => exact False.elim ty
def tBM0 (K : PySem.W.Frag) (T : String) (r : V → List V → Hp → VK → Prop) (to : TE) : TE := fun σ H Q => to σ H fun x H1 => tyV K T x H1 ∧ r x [] H1 Q
def tBM (K : PySem.W.Frag) (T : String) (r : V → List V → Hp → VK → Prop) (to : TE) (t : TA) : TE := fun σ H Q => to σ H fun x H1 => tyV K T x H1 ∧ t σ H1 fun xs H2 => r x xs H2 Q
variable {o e : Expr} {es : List Expr} {to : TE} {t : TA} {name : Str} {apos cpos : Pos} {T id : String} {r : V → List V → Hp → VK → Prop}
theorem pe_bm0 (pa : PlainAttrs T) (slot : Slot T name id) (hty : typeOf (.builtin id) = pure (.type "method_descriptor")) (hm : MtR X id r) (ho : PE X o to)
    (hbase : attributeBase o name X.env (eval o X.env) = eval o X.env := by rfl) (hline : (apos.endLine == cpos.line) = true := by rfl) : PE X (.Call (.Attribute o name apos) [] [] cpos) (tBM0 X.K T r to) := by
  intro pins s σ H Q I h
  refine wpAny_Call_method0_late hbase hline (thn (ho pins s σ H _ I h) fun v s1 ⟨x, H1, I1, r1, ty, q1⟩ => ?_)
  obtain ⟨h1, h2⟩ := tyV_is I1 r1 ty
  exact ⟨T, id, pa, slot, hty, h1, h2, Calls.callWith_builtin rfl (PySem.evalArgs_none (hm pins s1 σ H1 x [] v [] Q I1 r1 .nil q1))⟩
theorem pe_bm (pa : PlainAttrs T) (slot : Slot T name id) (hty : typeOf (.builtin id) = pure (.type "method_descriptor")) (hm : MtR X id r) (ho : PE X o to) (ha : PA X (e :: es) t)
    (hbase : attributeBase o name X.env (eval o X.env) = eval o X.env := by rfl)
    (hfew : ((backTo cpos (starEach (e :: es) X.env)).all (fun x => !x.1) && (backToKw cpos (keywordEach [] X.env)).all (fun x => x.1.isSome)
      && decide ((e :: es).length + ([] : List Keyword).length + (if ([] : List Keyword).isEmpty then 0 else 1) < 30)) = true := by rfl)
    (hline : (apos.endLine == cpos.line) = true := by rfl) (hs : starEach (e :: es) X.env = (false, eval e X.env) :: starEach es X.env := by rfl) (hplain : (backTo cpos (starEach es X.env)).any (·.1) = false := by rfl) :
    PE X (.Call (.Attribute o name apos) (e :: es) [] cpos) (tBM X.K T r to t) := by
  intro pins s σ H Q I h
  refine wpAny_Call_method_late hbase hfew hline rfl (thn (ho pins s σ H _ I h) fun v s1 ⟨x, H1, I1, r1, ty, q1⟩ => ?_)
  obtain ⟨h1, h2⟩ := tyV_is I1 r1 ty
  refine ⟨T, id, pa, slot, hty, h1, h2, ?_⟩
  have hA := ha cpos pins s1 σ H1 _ I1 q1
  rw [hs] at hA ⊢
  refine Calls.callWith_builtin (by show (false || (backTo cpos (starEach es X.env)).any (·.1)) = false; rw [hplain] <;> rfl) (Calls.evalArgs_plain ?_)
  exact thn hA fun us s2 ⟨vs, H2, I2, r2, q2⟩ => hm pins s2 σ H2 x vs v us Q I2 r1 r2 q2
/- xs.append(e), list.index on a module's tuple .. are MtR facts of 06m -/
end
end L2
namespace L2
open PySem PySem.Spec PyProof.Rows
def MtM (X : Cx) (id : String) (r : V → List V → Hp → VK → Prop) : Prop :=
  ∀ (pins : List (Addr × Obj)) (s : Shared) (σ : St) (H : Hp) (x : V) (xs : List V) (v : Value) (us : List Value) (Q : VK), Inv X pins σ H s → RelV x v → Vals xs us → r x xs H Q →
    wpAny (model X.prog X.w) X.A (call (.builtin id) (v :: us)) (EP X pins σ Q) X.xe s
theorem Vals.one : ∀ {x : V} {us : List Value}, Vals [x] us → ∃ u, us = [u] ∧ RelV x u
  | _, _, .cons r .nil => ⟨_, rfl, r⟩
theorem Vals.zero : ∀ {us : List Value}, Vals [] us → us = []
  | _, .nil => rfl
theorem Vals.dropLast {xs : List V} {us : List Value} (h : Vals xs us) : Vals xs.dropLast us.dropLast := by
  induction h with
  | nil => exact .nil
  | cons r t ih =>
    cases t with
    | nil => exact .nil
    | cons q t' => exact .cons r ih
theorem Vals.rep {xs : List V} {us : List Value} (h : Vals xs us) : ∀ k : Nat, Vals (List.replicate k xs).flatten (List.replicate k us).flatten
  | 0 => .nil
  | k + 1 => by
    rw [List.replicate_succ, List.replicate_succ, List.flatten_cons, List.flatten_cons]
    exact Vals.append h (Vals.rep h k)
theorem erase_last {α : Type} (l : List α) : l.eraseIdx (l.length - 1) = l.dropLast := by
  induction l with
  | nil => rfl
  | cons a r ih =>
    cases r with
    | nil => rfl
    | cons b r =>
      have e : (a :: b :: r).length - 1 = ((b :: r).length - 1) + 1 := by
        have h1 : (a :: b :: r).length = r.length + 2 := rfl
        have h2 : (b :: r).length = r.length + 1 := rfl
        omega
      rw [e, List.eraseIdx_cons_succ, ih]
      all_goals rfl
theorem foldl_rep (its : List Value) : ∀ (k : Nat) (acc : List Value),
    List.foldl (fun x1 x2 => x1 ++ x2) acc.toArray (List.replicate k its.toArray) = (acc ++ (List.replicate k its).flatten).toArray
  | 0, acc => by simp
  | k + 1, acc => by
    have e : acc.toArray ++ its.toArray = (acc ++ its).toArray := by simp
    have e2 : (acc ++ its) ++ (List.replicate k its).flatten = acc ++ (List.replicate (k + 1) its).flatten := by
      rw [List.replicate_succ, List.flatten_cons, List.append_assoc]
    rw [← e2, ← foldl_rep its k (acc ++ its), ← e, List.replicate_succ, List.foldl_cons]
section
variable {X : Cx} {pins : List (Addr × Obj)} {σ : St} {H : Hp} {s : Shared} {l b : Addr} {xs ys zs : List V}
theorem Inv.lset {its its' : List Value} {n : Nat} {f : Array Value → Array Value} {t' : Nat} (I : Inv X pins σ H s) (hH : H l = some (.lst xs))
    (e : s.heap.get? l = some { cls := .type "list", data := .seq its.toArray n }) (hf : f its.toArray = its'.toArray) (hv : Vals ys its') (hz : ys.length ≤ sizeLine) :
    Inv X pins σ (upd H l (.lst ys)) { s with heap := s.heap.update l (Obj.mapSeq f), toks := t' } := by
  have q := PySem.IsL.update e f
  rw [hf] at q
  refine I.write (x := l) (e := l) (by rw [hH]; exact trivial) (.inl rfl) (fun b' u hb hu => (Heap.get?_update_other s.heap (Obj.mapSeq f) (Ne.symm hb)).trans hu) ⟨_, q⟩ ?_
  exact ⟨hz, its', _, hv, q⟩
theorem Inv.lnew {its : List Value} {t' : Nat} (I : Inv X pins σ H s) (hv : Vals ys its) (hz : ys.length ≤ sizeLine) :
    Inv X pins σ (upd H s.heap.objs.size (.lst ys)) { s with heap := s.heap.push { cls := .type "list", data := .seq its.toArray }, toks := t' } :=
  I.laid (fun _ _ q => Heap.get?_push_of_some _ q) (Nat.le_refl _) ⟨hz, its, 0, hv, Heap.get?_push_size _ rfl⟩
theorem Inv.fresh (I : Inv X pins σ H s) : H s.heap.objs.size = none := I.hok.fresh (Nat.le_refl _)
theorem Inv.lstM (I : Inv X pins σ H s) (hH : H l = some (.lst xs)) : xs.length ≤ sizeLine ∧ ∃ (its : List Value) (n : Nat), Vals xs its ∧ xs.length = its.length ∧ s.heap.get? l = some { cls := .type "list", data := .seq its.toArray n } := by
  obtain ⟨z, its, n, r, e⟩ := I.hok l _ hH
  exact ⟨z, its, n, r, r.length, e⟩
end
section
variable {X : Cx}
def rAppend : V → List V → Hp → VK → Prop := fun x vs H Q => ∃ l xs y, x = .ref l ∧ vs = [y] ∧ H l = some (.lst xs) ∧ xs.length < sizeLine ∧ Q .non (upd H l (.lst (xs ++ [y])))
theorem mt_append : MtM X "list.append" rAppend := by
  intro pins s σ H x vs v us Q I rx rv h
  obtain ⟨l, xs, y, rfl, rfl, hH, hz, q⟩ := h
  cases rx
  obtain ⟨u, rfl, ru⟩ := rv.one
  obtain ⟨z, its, n, r, hl, e⟩ := I.lstM hH
  refine call_meets F.slot_list_append ⟨_, e, rfl⟩ F.entry_list_append (F.args_list_append_2 _ _) (PySem.list_append l its.toArray n u (by rw [List.size_toArray]; omega)) ⟨e, ?_⟩
  refine ⟨.non, _, I.lset (its' := its ++ [u]) hH e (by simp) (r.append (.cons ru .nil)) ?_, rfl, q⟩
  rw [List.length_append, List.length_singleton]
  omega
def rPop : V → List V → Hp → VK → Prop := fun x vs H Q => ∃ l xs y, x = .ref l ∧ vs = [] ∧ H l = some (.lst xs) ∧ xs[xs.length - 1]? = some y ∧ Q y (upd H l (.lst xs.dropLast))
theorem mt_pop : MtM X "list.pop" rPop := by
  intro pins s σ H x vs v us Q I rx rv h
  obtain ⟨l, xs, y, rfl, rfl, hH, hy, q⟩ := h
  cases rx
  have hus := rv.zero
  subst hus
  obtain ⟨z, its, n, r, hl, e⟩ := I.lstM hH
  obtain ⟨u, hu, ru⟩ := r.get hy
  have hy' : its.toArray[its.toArray.size - 1]? = some u := by
    show its.toArray[its.length - 1]? = some u
    rw [← Array.getElem?_toList, ← hl]
    exact hu
  refine call_meets F.slot_list_pop ⟨_, e, rfl⟩ F.entry_list_pop (F.args_list_pop_1 _) (MeetsSeq.list_pop_last l its.toArray n u hy' (by rw [List.size_toArray]; omega)) ⟨e, ?_⟩
  refine ⟨y, _, I.lset (its' := its.dropLast) hH e ?_ r.dropLast ?_, ru, q⟩
  · show its.toArray.eraseIdxIfInBounds (its.toArray.size - 1) = its.dropLast.toArray
    rw [List.size_toArray, List.eraseIdxIfInBounds_toArray, erase_last]
  · rw [List.length_dropLast]
    omega
def rCat : R2 := fun x y H Q => ∃ l b xs zs, x = .ref l ∧ y = .ref b ∧ H l = some (.lst xs) ∧ H b = some (.lst zs) ∧ xs.length + zs.length ≤ sizeLine ∧ ∀ p, H p = none → Q (.ref p) (upd H p (.lst (xs ++ zs)))
theorem op_cat : OpR X (binaryOp .Add) rCat := by
  intro pins s σ H x y v u Q I rx ry h
  obtain ⟨l, b, xs, zs, rfl, rfl, hH, hB, hz, q⟩ := h
  cases rx
  cases ry
  obtain ⟨z, its, n, r, hl, e⟩ := I.lstM hH
  obtain ⟨z2, its2, n2, r2, hl2, e2⟩ := I.lstM hB
  refine PySem.P.add_list e e2 ?_ (by rw [List.size_toArray, List.size_toArray]; omega)
  have ea : its.toArray ++ its2.toArray = (its ++ its2).toArray := by simp
  rw [ea]
  exact ⟨.ref _, _, I.lnew (t' := s.toks) (r.append r2) (by rw [List.length_append]; omega), rfl, q _ I.fresh⟩
theorem len_rep {α : Type} (xs : List α) (k : Nat) : (List.replicate k xs).flatten.length = k * xs.length := by
  induction k with
  | zero => simp
  | succ k ih => rw [List.replicate_succ, List.flatten_cons, List.length_append, ih, Nat.succ_mul, Nat.add_comm]
end
section
variable {prog : Program} {w : World} {A : Around} {E : Value → Shared → Prop} {s : Shared}
set_option maxRecDepth 100000 in
end
section
variable {X : Cx}
end
end L2
namespace Att
open PySem PySem.W PySem.Calls PyProof.Rows
theorem ints_of_wellAll {P : Params} {h : Heap} : ∀ (ns : List Int) (vs : List Value), WellAll P h vs (ns.map WData.int) → IntsAre vs ns := by
  intro ns
  induction ns with
  | nil =>
    intro vs w
    rw [List.map_nil] at w
    cases w
    exact .nil
  | cons n ns ih =>
    intro vs w
    rw [List.map_cons] at w
    cases w with
    | cons a b =>
      cases a
      exact .cons _ _ (ih _ b)
theorem script_of {l : OpenLaw} {n : Nat} (hn : l.most = some n) {P : Params} {h : Heap} {args : List WData} {vals : List Value}
    (hpre : l.row.toRowW.claim.pre args = true) (hwl : WellAll P h vals args) :
    ∃ a vs ns, vals = [Value.ref a] ∧ args = [WData.list (ns.map WData.int)] ∧ h.get? a = some { cls := .type "list", data := .seq vs.toArray } ∧ IntsAre vs ns ∧ ns.length ≤ n := by
  have hsh : WShape.hasAll [] args [.list .int] = true := (pre_splitW hpre).1
  have hc : l.pre.holds [] { args := args } = true := (pre_splitW hpre).2
  obtain ⟨d, r, rfl, h1, h2⟩ := hasAllW_cons hsh
  obtain rfl := hasAllW_nil h2
  obtain ⟨xs, rfl, h3⟩ := hasW_list h1
  obtain ⟨ns, rfl⟩ := items_int h3
  have hlen : ns.length ≤ n := by
    unfold OpenLaw.pre at hc
    have h4 : (WTm.not (.lt (.lit (.int (n : Int))) (.len (.arg 0)))).holds [] { args := [.list (ns.map .int)] } = true := by
      have h4 := (holds_andW hc).1
      rw [hn] at h4
      exact h4
    have h5 := condW_of h4 (w_not (w_lt w_lit (w_len_list (w_arg rfl))))
    rw [List.length_map] at h5
    refine Nat.le_of_not_lt fun q => ?_
    have q' : (n : Int) < ((ns.length : Nat) : Int) := by omega
    first
      | (rw [decide_eq_true q'] at h5; exact absurd h5 (by decide))
      | (simp at h5; omega)
  cases hwl with
  | cons w1 w2 =>
    cases w2
    cases w1 with
    | list ho hall => exact ⟨_, _, ns, rfl, rfl, ho, ints_of_wellAll ns _ hall, hlen⟩
theorem post_true (l : OpenLaw) (args : List WData) : l.row.toRowW.claim.post args (.bool true) args = true :=
  postW_of (r := l.row.toRowW) (X := (true == true))
    (show WShape.has [] (.bool true) .bool = true by first | rfl | decide | simp [WShape.has, WShape.arms, WShape.armsAll])
    (show (WTm.eq .res (.lit (.bool true))).value [] { args := args, res := some (.bool true), after := args } = some (.bool (true == true)) from w_eq_bool (w_res rfl) w_lit) rfl
theorem attach_call {l : OpenLaw} {n : Nat} {q : Program} {loose : List Str} {XP : (Str → Option Value) → Heap → Prop} {YP : World → Heap → Prop} {d : DefRec}
    (hn : l.most = some n) (hdf : d.params.defaults = [])
    (call : ∀ (w : World) (s₀ s₁ : Shared) (mg mb : Str → Option Value) (fa : Addr) (o : Obj) (pm cd doc : Value) (a : Addr) (vs : List Value) (ns : List Int),
      Ground q loose [] XP w s₀ mg mb s₁.heap → YP w s₁.heap →
      s₁.heap.get? fa = some o → o.data = .func (docDef d.name d.params d.body d.scope pm cd doc) → s₁.heap.CodeRec cd d.name → mg d.name = some (.ref fa) →
      s₁.heap.get? a = some { cls := .type "list", data := .seq vs.toArray } → IntsAre vs ns → ns.length ≤ n → s₁.gens = #[] →
      codeAny (model l.prog w) callerA (.call (.ref fa) ⟨[.ref a], []⟩) (fun r s' => r = .ok (.ret (.bool true)) ∧ OldK s₁.heap s'.heap ∧ s'.os = s₁.os ∧ AllBare s'.gens) s₁) :
    WalkO q loose XP YP l.row.toRowW d [] (fun f vs => PySem.call f vs) := by
  intro w s₀ s₁ mg mb G Y fa o pm cd doc dV kV ho hd hcd hD hmg hg args vals as hpre hlay hrd hwl hlo
  obtain rfl : dV = .none := Dflts.none hD hdf
  obtain rfl : kV = .none := Dflts.noKw hD
  obtain ⟨a, vs, ns, rfl, rfl, hobj, hints, hlen⟩ := script_of hn hpre hwl
  refine enter_call (codeAny_mono (call w s₀ s₁ mg mb fa o pm cd doc a vs ns G Y ho (fd_plain hd) hcd hmg hobj hints hlen hg) fun r s' hq => ?_)
  obtain ⟨rfl, h2, h3, h4⟩ := hq
  exact ⟨.inl ⟨.bool true, .bool true, [], rfl, fun _ => rfl, .bool true, post_true l _, fun _ => ⟨List.Pairwise.nil, fun _ hm => (nomatch hm)⟩⟩, h2, h3, h4⟩
section
variable {prog : Program} {w : World} {A : Around} {E : Value → Shared → Prop} {s : Shared} {K : Frag}
end
end Att
namespace L2
open PySem PySem.Spec PyProof.Rows
theorem vals_ints : ∀ {vs : List Value} {ns : List Int}, IntsAre vs ns → Vals (ns.map V.int) vs
  | _, _, .nil => .nil
  | _, _, .cons n t h => .cons ⟨t, rfl⟩ (vals_ints h)
def Only (H : Hp) : Prop := ∀ b, H b = none ∨ ∃ o xs, H b = some (.frz o (.lst xs))
theorem law_call {P : Program} {w : World} {K : PySem.W.Frag} {mg mb : Str → Option Value} {CX : CXT} {k : Nat} {fa a : Addr} {fd : FuncData} {x : Str} {sp : Sp} {s₁ : Shared} {vs : List Value} {ns : List Int}
    (KX : K.In s₁.heap) (hns : s₁.heap.Ns mainGlobals mg) (hb : s₁.heap.Ns builtinsNs mb) (hbb : ∀ x : Str, x ≠ "__name__" → mb x = bootBuiltins x) (hlim : s₁.heap.NoLimit) (hg : s₁.gens = #[])
    (ha : s₁.heap.get? a = some { cls := .type "list", data := .seq vs.toArray }) (hi : IntsAre vs ns) (hl : ns.length ≤ sizeLine) (hr : Room k callerA)
    (F : ∀ base : Heap, K.In base → base.Ns mainGlobals mg → FnOk P w K mg base CX k fa fd [x] sp) (hbind : ∀ (s : Shared) (u : Value), BindsTo s fd ⟨[u], []⟩ [(x, u)])
    (hsp : ∀ H : Hp, Only H → SqL K H a (ns.map V.int) → sp [.ref a] H (fun v _ => v = .bl true) fun _ _ _ => False)
    (hCX : ∀ H e s', CX [] H s₁ (fun _ _ _ => False) e s' → False) :
    codeAny (model P w) callerA (.call (.ref fa) ⟨[.ref a], []⟩) (fun r s' => r = .ok (.ret (.bool true)) ∧ OldK s₁.heap s'.heap ∧ s'.os = s₁.os ∧ AllBare s'.gens) s₁ := by
  have rv := vals_ints hi
  have lenV := hi.length
  have core : ∀ H : Hp, Only H → SqL K H a (ns.map V.int) → HOk P w H s₁.heap → (∀ b, H b ≠ none → b = a) → (H a ≠ none → K.lookup a = none) →
      codeAny (model P w) callerA (.call (.ref fa) ⟨[.ref a], []⟩) (fun r s' => r = .ok (.ret (.bool true)) ∧ OldK s₁.heap s'.heap ∧ s'.os = s₁.os ∧ AllBare s'.gens) s₁ := by
    intro H hO hS hok hA hK
    have base_of : ∀ {b : Addr} {o : Obj}, s₁.heap.get? b = some o → H b = none → (hidT s₁.heap H).get? b = some o := fun e n => hidT_get e n
    have noA : ∀ {b : Addr} {o : Obj} {es : Array DictEntry} {ep : Nat}, s₁.heap.get? b = some o → o.data = .dict es ep → H b = none := fun {b o es ep} e d => by
      cases q : H b with
      | none => rfl
      | some u =>
        have e' : b = a := hA b (by rw [q]; simp)
        subst e'
        rw [ha] at e; cases e
        have d' : Data.seq vs.toArray _ = Data.dict es ep := d
        cases d'
    have nsK : ∀ {b : Addr} {m : Str → Option Value}, s₁.heap.Ns b m → (hidT s₁.heap H).Ns b m := fun {b m} ⟨o, es, ep, e, d, r⟩ => ⟨o, es, ep, base_of e (noA e d), d, r⟩
    have hKb : K.In (hidT s₁.heap H) := fun b o e => base_of (KX b o e) (by
      cases q : H b with
      | none => rfl
      | some u =>
        have e' : b = a := hA b (by rw [q]; simp)
        subst e'
        rw [hK (by rw [q]; simp)] at e; cases e)
    have hM : Mod K mg (hidT s₁.heap H) := ⟨hKb, nsK hns, ⟨mb, nsK hb, hbb⟩, let ⟨mc, h1, h2⟩ := hlim; ⟨mc, nsK h1, h2⟩⟩
    have e0 : Env0 P w K mg (hidT s₁.heap H) callerA [] s₁ H := ⟨rfl, hM, fun b o e => of_hidT e, Nat.le_of_eq (hidT_size _ _), trivial, fun b hb => absurd (show b ∈ ([] : List Addr) from hb) (by simp), hok, .of_eq hg⟩
    refine codeAny_mono ((F _ hKb (nsK hns)).run callerA [] s₁ H ⟨[.ref a], []⟩ [.ref a] [.ref a] _ _ hr e0 (hbind s₁ (.ref a)) (.cons rfl .nil) (hsp H hO hS)) fun r s' h => ?_
    cases r with
    | error e => exact (hCX H e s' h).elim
    | ok fl =>
      cases fl with
      | next => exact False.elim h
      | brk => exact False.elim h
      | cont => exact False.elim h
      | ret u =>
        obtain ⟨v, H', os, bare, un, hok', r', q⟩ := h
        have q' : v = .bl true := q
        subst q'
        obtain rfl : u = Value.bool true := r'
        refine ⟨rfl, OldK.of_keep fun b o e => ?_, os, bare⟩
        cases q : H b with
        | none => exact un.keep b o e q (by intro z; exact absurd (show b ∈ ([] : List Addr) from z) (by simp)) (by simp)
        | some u =>
          rcases hO b with z | ⟨ob, xs, z⟩
          · rw [q] at z; cases z
          · have z2 := un.frzs b ob _ z
            obtain ⟨e1, _⟩ := hok b _ z
            obtain ⟨e2, _⟩ := hok' b _ z2
            rw [e] at e1; cases e1
            exact e2
  cases hk : K.lookup a with
  | some o =>
    have e := KX a o hk
    rw [ha] at e
    cases e
    refine core (fun _ => none) (fun _ => .inl rfl) (.inr ⟨_, vs.toArray, _, hk, rfl, rfl, rfl, by rw [List.size_toArray, lenV]; exact hl, by simpa using rv⟩) (fun b u z => by have z' : (none : Option HO) = some u := z; cases z') (fun b z => absurd rfl z) fun z => absurd rfl z
  | none =>
    refine core (fun b => if b = a then some (.frz { cls := .type "list", data := .seq vs.toArray } (.lst (ns.map V.int))) else none) (fun b => ?_) (.inl (.inr ⟨{ cls := .type "list", data := .seq vs.toArray }, if_pos rfl⟩)) (fun b u z => ?_) (fun b z => ?_) fun _ => hk
    · by_cases hb : b = a
      · exact .inr ⟨_, _, if_pos hb⟩
      · exact .inl (if_neg hb)
    · by_cases hb : b = a
      · have z' := (if_pos hb).symm.trans z
        cases z'
        subst hb
        exact ⟨ha, by rw [List.length_map]; exact hl, vs, _, rv, ha⟩
      · have z' := (if_neg hb).symm.trans z
        cases z'
    · by_cases hb : b = a
      · exact hb
      · exact absurd (if_neg hb) z
end L2
namespace L2
open PySem PySem.Spec PyProof.Rows
theorem walk_of {l : PySem.W.OpenLaw} {n k : Nat} {q : Program} {loose : List Str} {XP : (Str → Option Value) → Heap → Prop} {YP : World → Heap → Prop} {d : DefRec} {K : Params → PySem.W.Frag} {CX : World → CXT} {sp : World → Sp} {x : Str}
    (hn : l.most = some n) (hn2 : n ≤ sizeLine) (hdf : d.params.defaults = []) (hr : Room k callerA)
    (hY : ∀ (w : World) (h : Heap), YP w h → (K w.params).In h)
    (F : ∀ (w : World) (mg : Str → Option Value) (fa : Addr) (h : Heap), (K w.params).In h → h.Ns mainGlobals mg → mg d.name = some (.ref fa) →
      ∃ fd : FuncData, (∀ (s : Shared) (u : Value), BindsTo s fd ⟨[u], []⟩ [(x, u)]) ∧
        ∀ base : Heap, (K w.params).In base → base.Ns mainGlobals mg → FnOk l.prog w (K w.params) mg base (CX w) k fa fd [x] (sp w))
    (hsp : ∀ (w : World) (H : Hp) (a : Addr) (ns : List Int), ns.length ≤ n → Only H → SqL (K w.params) H a (ns.map V.int) → sp w [.ref a] H (fun v _ => v = .bl true) fun _ _ _ => False)
    (hCX : ∀ (w : World) (H : Hp) (s : Shared) (e : Value) (s' : Shared), CX w [] H s (fun _ _ _ => False) e s' → False) :
    PySem.W.WalkO q loose XP YP l.row.toRowW d [] (fun f vs => PySem.call f vs) := by
  refine Att.attach_call hn hdf fun w s₀ s₁ mg mb fa o pm cd doc a vs ns G Y ho hd hcd hmg hobj hints hlen hg => ?_
  have KX := hY w _ Y
  obtain ⟨fd, hb, hF⟩ := F w mg fa _ KX G.T.g hmg
  exact law_call KX G.T.g G.T.b G.T.builtins G.T.nolimit hg hobj hints (Nat.le_trans hlen hn2) hr hF hb (fun H hO hS => hsp w H a ns hlen hO hS) fun H e s' => hCX w H s₁ e s'
end L2
/- THE LAST THEOREM (shape; LID, My.* are yours):
   My.Adr: a structure of the addresses that your layer names (classes, functions); My.Txt K t: a structure (Prop) of the equations over K;
   My.txt_mk : {K} {implicit addresses ..} (e1 : nsIn K mainGlobals "law" = some (some (.ref f))) (e2 : K.lookup f = some ⟨oc, od, .func (fnOf "law" "law" params body scope dV kV doc pm an cdv ct), sl⟩) (e3 : codeIn K cdv "law" = true) .. : ∃ t, My.Txt K t
set_option maxRecDepth 100000 in
set_option maxHeartbeats 0 in
theorem PySem.Challenge.cw_LID_holds : PySem.Challenge.rw_LID.Holds := by
  w_on; o_law; k_head; (case hw => w_witness2)
  k_fill
  refine L2.walk_of (l := PySem.Challenge.rw_LID) (n := 63) (k := 40) (x := "script") (CX := fun w => ..) (sp := fun _ => My.sp_law) rfl (by decide) rfl ⟨rfl, by decide, by decide⟩ (fun w h Y => PySem.W.kIn_of Y) ?F ?S ?C
  case F =>
    intro w mg fa h KX G hmg
    have T : ∃ t, My.Txt (L2.KOf KX) t := by
      dsimp only [L2.KOf]                          -- K must stand as «<heap const> w.params» for k_is
      refine' My.txt_mk ?e1 ?e2 ?e3 ..
      (case e1 => PySem.W.k_is)                    -- in the order: a name -> its address -> its object -> its parts
      (case e2 => PySem.W.k_is)
      ..
    obtain ⟨t, T⟩ := T
    have e0 := hmg.symm.trans (PySem.W.mg_of KX G T.law)
    cases e0                                       -- fa is the law's own address
    exact ⟨_, fun s u => .of_eq rfl, fun base kb nb => My.law_fn T kb nb⟩     -- if «.of_eq rfl» comes too early: refine' ⟨_, ?b, fun base kb nb => My.law_fn T kb nb⟩; exact fun s u => .of_eq rfl
  case S => exact fun w H a ns hl hO hS => ..
  case C => exact ..
(the tactic k_is has no namespace: write k_is) -/
namespace L2
open PySem PySem.Spec PyProof.Rows
def defArgs (s : Stmt) : Arguments := match s with
  | .FunctionDef _ a _ _ _ _ _ _ _ _ => a
  | _ => { posonlyargs := [], args := [], vararg := none, kwonlyargs := [], kw_defaults := [], kwarg := none, defaults := [] }
def defBody (s : Stmt) : List Stmt := match s with
  | .FunctionDef _ _ b _ _ _ _ _ _ _ => b
  | _ => []
def defScope (s : Stmt) : Scope := match s with
  | .FunctionDef _ _ _ _ _ _ sc _ _ _ => sc
  | _ => { kind := .function, names := [], isGenerator := false, isCoroutine := false }
abbrev CX0 : CXT := fun _ _ _ _ _ _ => False
abbrev E0 : XK := fun _ _ _ => False
theorem pass0 {X : Cx} : Passes CX0 X E0 := fun _ _ _ _ _ _ _ h => h.elim
structure Fun (K : PySem.W.Frag) (x qual : Str) (st : Stmt) (f : Addr) (fd : FuncData) : Prop where
  ex : ∃ (oc : Value) (od : Option Addr) (kV doc pm : Value) (an : Option Addr) (cdv ct : Value) (osl : Array (Option Value)),
    fd = PySem.W.fnOf x qual (defArgs st) (defBody st) (defScope st) .none kV doc pm an cdv ct ∧ K.lookup f = some ⟨oc, od, .func fd, osl⟩ ∧ PySem.W.codeIn K cdv qual = true
  kp : PySem.W.keepIn K (.ref f) = true
section
variable {P : Program} {w : World} {K : PySem.W.Frag} {mg : Str → Option Value} {base : Heap}
theorem Fun.ok {x qual : Str} {st : Stmt} {f : Addr} {fd : FuncData} {N ps : List Str} {k : Nat} {sp : Sp} (F : Fun K x qual st f fd) (S : FnScope N ps (defScope st)) (len : ∀ vs H Q E, sp vs H Q E → vs.length = ps.length)
    (hbody : ∀ (cdv : Value) (A : Around) (outer : List Env) (s : Shared) (H : Hp) (vs : List V) (Q : VK) (E : XK), Room k (A.deeper (envOfC qual (defScope st) s.heap.objs.size f cdv)) → sp vs H Q E →
      ∃ t, PSs (cxOf CX0 P w K mg base N qual (defScope st) f cdv A outer s H E).nox (defBody st) t ∧ t { nx := fun _ H' => Q .non H', rt := Q } (start N vs) H) : FnOk P w K mg base CX0 (k + 1) f fd ps sp := by
  obtain ⟨oc, od, kV, doc, pm, an, cdv, ct, osl, rfl, lk, hcd⟩ := F.ex
  refine fn_of lk hcd S len fun A outer s H vs Q E hr hsp => ?_
  obtain ⟨t, h, q⟩ := hbody cdv A outer s H vs Q E hr hsp
  exact ⟨t, h.nox, q⟩
theorem Fun.binds {x qual : Str} {st : Stmt} {f : Addr} {fd : FuncData} {ps : List Str} (F : Fun K x qual st f fd)
    (h : ∀ (kV doc pm : Value) (an : Option Addr) (cdv ct : Value) (us : List Value), us.length = ps.length → bindArgs (PySem.W.fnOf x qual (defArgs st) (defBody st) (defScope st) .none kV doc pm an cdv ct) ⟨us, []⟩ = pure (ps.zip us)) : Binds K fd ps [] := by
  obtain ⟨oc, od, kV, doc, pm, an, cdv, ct, osl, rfl, lk, hcd⟩ := F.ex
  exact .all (h kV doc pm an cdv ct)
theorem fun_mk {x qual : Str} {st : Stmt} {f : Addr} {oc : Value} {od an : Option Addr} {osl : Array (Option Value)} {kV doc pm cdv ct : Value} (l : K.lookup f = some ⟨oc, od, .func (PySem.W.fnOf x qual (defArgs st) (defBody st) (defScope st) .none kV doc pm an cdv ct), osl⟩)
    (c : PySem.W.codeIn K cdv qual = true) (k : PySem.W.keepIn K (.ref f) = true) : Fun K x qual st f (PySem.W.fnOf x qual (defArgs st) (defBody st) (defScope st) .none kV doc pm an cdv ct) := ⟨⟨oc, od, kV, doc, pm, an, cdv, ct, osl, rfl, l, c⟩, k⟩
end
theorem hu_of {A : Around} {k : Nat} (hr : Room k A) : A.units + 1 < cLine := Nat.lt_of_le_of_lt (Nat.add_le_add_left (by decide : 1 ≤ 64) _) hr.units
section
variable {X : Cx}
theorem pv (i : Nat) {x : Str} {pos : Pos} (hN : X.N[i]? = some x := by rfl) (hv : Vis X.env.scope x := by first | exact Or.inl rfl | exact Or.inr (Or.inl rfl) | exact Or.inr (Or.inr rfl)) (hd : (x == ("__debug__" : Str)) = false := by decide)
    (hcd : (x == ("__classdict__" : Str)) = false := by decide) : PE X (.Name x pos) (tVar i) := pe_var hN hv hd hcd
end
theorem iteF {A B : Prop} (h : B) : if false = true then A else B := by
  rw [if_neg Bool.false_ne_true]
  exact h
theorem iteT {A B : Prop} (h : A) : if true = true then A else B := by
  rw [if_pos rfl]
  exact h
def Same (H H' : Hp) : Prop := ∀ b o, H b = some o → H' b = some o
theorem Same.refl (H : Hp) : Same H H := fun _ _ h => h
theorem Same.trans {H H1 H2 : Hp} (a : Same H H1) (b : Same H1 H2) : Same H H2 := fun c o h => b c o (a c o h)
theorem Same.free {H H' : Hp} (e : Same H H') {l : Addr} (h : H' l = Option.none) : H l = Option.none := by
  cases q : H l with
  | none => rfl
  | some o =>
    rw [e l o q] at h
    cases h
end L2
end
section
set_option Elab.async false
set_option linter.all false
set_option maxRecDepth 100000
set_option maxHeartbeats 4000000
namespace L2
open PySem PySem.Spec PyProof.Rows
section
variable {prog : Program} {w : World} {A : Around} {R : Result → Shared → Prop} {s : Shared}
theorem compLoop_own {elt target iter : Expr} {ifs : List Expr} {scope : Scope} {pos : Pos} {it acc : Value} {env : Env} (I : Nat → Shared → Prop)
    (turn : ∀ n s, I n s → wpAny (model prog w) A (pyNext it) (fun r s₁ => match r with
      | none => R (.ok .next) s₁
      | some v => wpAny (model prog w) A (letOwnedTupleGo target it v) (fun _ s₁ => wpAny (model prog w) A (assign target env v) (fun _ s₂ =>
          wpAny (model prog w) A (forIn ifs true fun c r => if r = true then do let ok ← isTrue c env (eval c env); pure (ForInStep.yield ok) else pure (ForInStep.yield r)) (fun ok s₃ =>
            if ok = true then wpAny (model prog w) A (eval elt env) (fun x s₄ =>
              wpAny (model prog w) A (call (.builtin "list.append") [acc, x]) (fun _ s₅ => ∃ m, m < n ∧ I m s₅) (fun _ _ => False) s₄) (fun _ _ => False) s₃
            else ∃ m, m < n ∧ I m s₃) (fun _ _ => False) s₂) (fun _ _ => False) s₁) (fun _ _ => False) s₁) (fun _ _ => False) s)
    (n : Nat) (h : I n s) :
    codeAny (model prog w) A (.compLoop (.ListComp elt [⟨target, iter, ifs, 0⟩] scope pos) 0 it acc env) R s := by
  refine codeAny_loop rfl I (fun n s hI => ?_) n h
  show wpAny _ A ((compTurn (.ListComp elt [⟨target, iter, ifs, 0⟩] scope pos) 0 it acc env).onRaise (fun x => do noteFrame x env; theTreesLotGoes x)) _ _ s
  refine wpAny_noted ?_
  rw [compTurn_list]
  refine wpAny_bind (wpAny_standAt (wpAny_bind (wpAny_mono (turn n s hI) (fun r s₁ h₁ => ?_) fun _ _ h' => h'.elim)))
  cases r with
  | none => exact wpAny_pure h₁
  | some v =>
    refine wpAny_bind (wpAny_mono h₁ (fun _ s₁' h₁' => ?_) fun _ _ h' => h'.elim)
    refine wpAny_bind (wpAny_mono h₁' (fun _ s₂ h₂ => wpAny_bind (wpAny_mono h₂ (fun ok s₃ h₃ => ?_) fun _ _ h' => h'.elim)) fun _ _ h' => h'.elim)
    cases ok with
    | false => exact wpAny_pure ⟨rfl, h₃⟩
    | true =>
      exact wpAny_bind (wpAny_bind (wpAny_mono h₃ (fun x s₄ h₄ => wpAny_bind (wpAny_mono h₄ (fun _ s₅ h₅ => wpAny_pure (wpAny_pure ⟨rfl, h₅⟩)) fun _ _ h' => h'.elim)) fun _ _ h' => h'.elim))
end
theorem closure_go {env : Env} {f : Str × NameKind → List (Str × Addr) → Sem (ForInStep (List (Str × Addr)))}
    (hf : ∀ n k cs, f (n, k) cs = if (k == NameKind.free) = true then (do let c ← cellOf env n; pure (.yield ((n, c) :: cs))) else pure (.yield cs)) :
    ∀ (names : List (Str × NameKind)) (cs : List (Str × Addr)), (∀ x ∈ names, x.2 = NameKind.free → ∃ c, env.cells.lookup x.1 = some c) → (∀ n c, cs.lookup n = some c → env.cells.lookup n = some c) →
      ∃ cl, (forIn names cs f : Sem (List (Str × Addr))) = pure cl ∧ (∀ n c, cl.lookup n = some c → env.cells.lookup n = some c) ∧ (∀ n, (cs.lookup n).isSome = true → (cl.lookup n).isSome = true) ∧ ∀ x ∈ names, x.2 = NameKind.free → (cl.lookup x.1).isSome = true
  | [], cs, _, h2 => ⟨cs, rfl, h2, fun _ h => h, fun _ h => nomatch h⟩
  | (n, k) :: r, cs, h1, h2 => by
    have h1r : ∀ x ∈ r, x.2 = NameKind.free → ∃ c, env.cells.lookup x.1 = some c := fun x hx => h1 x (List.mem_cons_of_mem _ hx)
    rw [List.forIn_cons, hf]
    by_cases hk : k = NameKind.free
    · subst hk
      obtain ⟨c, hc⟩ := h1 (n, NameKind.free) List.mem_cons_self rfl
      have h2' : ∀ m d, ((n, c) :: cs).lookup m = some d → env.cells.lookup m = some d := fun m d hd => by
        rw [List.lookup_cons] at hd
        cases e : (m == n) with
        | true =>
          rw [e] at hd
          have : m = n := by simpa using e
          rw [this]; cases hd; exact hc
        | false => rw [e] at hd; exact h2 m d hd
      obtain ⟨cl, e1, e2, e3, e4⟩ := closure_go hf r ((n, c) :: cs) h1r h2'
      refine ⟨cl, ?_, e2, fun m hm => e3 m ?_, fun x hx hk => ?_⟩
      · rw [← e1]
        have ec : cellOf env n = pure c := by unfold cellOf; rw [hc]
        rw [ec]
        rfl
      · rw [List.lookup_cons]
        cases e : (m == n) with
        | true => rfl
        | false => exact hm
      · rcases List.mem_cons.mp hx with rfl | hx
        · exact e3 n (by rw [List.lookup_cons, beq_self_eq_true]; rfl)
        · exact e4 x hx hk
    · have hb : (k == NameKind.free) = false := by simpa using hk
      obtain ⟨cl, e1, e2, e3, e4⟩ := closure_go hf r cs h1r h2
      refine ⟨cl, ?_, e2, e3, fun x hx hk' => ?_⟩
      · rw [← e1, hb]
        rfl
      · rcases List.mem_cons.mp hx with rfl | hx
        · exact absurd hk' hk
        · exact e4 x hx hk'
theorem closure_of {scope : Scope} {env : Env} (h1 : ∀ x ∈ scope.names, x.2 = NameKind.free → ∃ c, env.cells.lookup x.1 = some c) :
    ∃ cl, closureFor scope env = pure cl ∧ (∀ n c, cl.lookup n = some c → env.cells.lookup n = some c) ∧ ∀ x ∈ scope.names, x.2 = NameKind.free → (cl.lookup x.1).isSome = true := by
  obtain ⟨cl, e1, e2, _, e4⟩ := closure_go (env := env) (f := fun (x : Str × NameKind) cs => if (x.2 == NameKind.free) = true then (do let c ← cellOf env x.1; pure (.yield ((x.1, c) :: cs))) else pure (.yield cs)) (fun _ _ _ => rfl) scope.names [] h1 (fun _ _ h => nomatch h)
  refine ⟨cl, Eq.trans (show closureFor scope env = ((forIn scope.names ([] : List (Str × Addr)) fun (x : Str × NameKind) cs => if (x.2 == NameKind.free) = true then (do let c ← cellOf env x.1; pure (.yield ((x.1, c) :: cs))) else pure (.yield cs)) >>= fun cs => pure cs) from rfl) ?_, e2, e4⟩
  rw [e1]
  all_goals rfl
theorem lookup_relabel {env : Env} {x : Str} : ∀ (names : List (Str × NameKind)),
    (names.map fun (n, k) => if (k == NameKind.free && env.scope.kind == .function && env.kindOf n == some .cell) then (n, NameKind.cell) else (n, k)).lookup x =
      (names.lookup x).map fun k => if (k == NameKind.free && env.scope.kind == .function && env.kindOf x == some .cell) then NameKind.cell else k
  | [] => rfl
  | (n, k) :: r => by
    have ih := lookup_relabel (env := env) (x := x) r
    show List.lookup x ((if (k == NameKind.free && env.scope.kind == .function && env.kindOf n == some .cell) = true then (n, NameKind.cell) else (n, k)) :: _) = _
    cases hx : x == n with
    | true =>
      have e : x = n := by simpa using hx
      subst e
      by_cases hc : (k == NameKind.free && env.scope.kind == .function && env.kindOf x == some .cell) = true
      · rw [if_pos hc]; simp only [List.lookup_cons, hx, Option.map_some, if_pos hc]
      · rw [if_neg hc]; simp only [List.lookup_cons, hx, Option.map_some, if_neg hc]
    | false =>
      by_cases hc : (k == NameKind.free && env.scope.kind == .function && env.kindOf n == some .cell) = true
      · rw [if_pos hc]; simp only [List.lookup_cons, hx]; exact ih
      · rw [if_neg hc]; simp only [List.lookup_cons, hx]; exact ih
theorem rel_free {scope : Scope} {env : Env} {x : Str} (hcell : ∀ y ∈ scope.names, y.2 ≠ NameKind.cell) (h : (relabel scope env).names.lookup x = some .cell ∨ (relabel scope env).names.lookup x = some .free) : scope.names.lookup x = some .free := by
  have e : (relabel scope env).names.lookup x = _ := lookup_relabel (env := env) (x := x) scope.names
  rw [e] at h
  cases q : scope.names.lookup x with
  | none => rw [q] at h; rcases h with h | h <;> cases h
  | some k =>
    rw [q] at h
    by_cases hk : k = NameKind.free
    · rw [hk]
    · have hb : (k == NameKind.free) = false := by simpa using hk
      simp only [Option.map_some, hb, Bool.false_and, Bool.false_eq_true, if_false] at h
      rcases h with h | h
      · cases h; exact absurd rfl (hcell _ (PySem.mem_of_lookup q))
      · exact h
theorem rel_any {scope : Scope} {env : Env} {x : Str} (h : (relabel scope env).names.lookup x ≠ none) : scope.names.lookup x ≠ none := by
  have e : (relabel scope env).names.lookup x = _ := lookup_relabel (env := env) (x := x) scope.names
  intro q
  rw [e, q] at h
  exact h rfl
structure CompOk (sc : Scope) (N : List Str) (scope : Scope) (NY : List Str) (js : List Nat) : Prop where
  kind : scope.kind = .function
  cell : ∀ y ∈ scope.names, y.2 ≠ NameKind.cell
  names : ∀ x ∈ scope.names, x.2 = NameKind.local → scope.names.lookup x.1 = some .local
  free : ∀ x ∈ scope.names, x.2 = NameKind.free → sc.names.lookup x.1 = some .cell ∨ sc.names.lookup x.1 = some .free
  pre : NY.take N.length = N
  cap : ∀ p ∈ N.zipIdx, js.contains p.2 = true ∨ scope.names.lookup p.1 = none ∨ scope.names.lookup p.1 = some .free
def emS (js : List Nat) (k : Nat) (σ : St) : St := js.foldl (fun s j => s.set j none) σ ++ List.replicate k none
theorem clear_len : ∀ (js : List Nat) (σ : St), (js.foldl (fun s j => s.set j none) σ).length = σ.length
  | [], _ => rfl
  | j :: r, σ => by rw [List.foldl_cons, clear_len r, List.length_set]
theorem clear_get : ∀ (js : List Nat) (σ : St) (i : Nat) (v : V), (js.foldl (fun s j => s.set j none) σ)[i]? = some (some v) → σ[i]? = some (some v) ∧ js.contains i = false
  | [], σ, i, v, h => ⟨h, rfl⟩
  | j :: r, σ, i, v, h => by
    rw [List.foldl_cons] at h
    obtain ⟨h1, h2⟩ := clear_get r _ i v h
    by_cases e : j = i
    · subst e
      by_cases hj : j < σ.length
      · rw [List.getElem?_set_self hj] at h1; cases h1
      · rw [List.getElem?_eq_none (by rw [List.length_set]; omega)] at h1; cases h1
    · rw [List.getElem?_set_ne e] at h1
      refine ⟨h1, ?_⟩
      rw [List.contains_cons, h2]
      have : (i == j) = false := by simpa using fun z => e z.symm
      rw [this]; rfl
theorem emS_get {js : List Nat} {k : Nat} {σ : St} {i : Nat} {v : V} (h : (emS js k σ)[i]? = some (some v)) : σ[i]? = some (some v) ∧ js.contains i = false := by
  unfold emS at h
  by_cases hi : i < σ.length
  · rw [List.getElem?_append_left (by rw [clear_len]; exact hi)] at h
    exact clear_get js σ i v h
  · rw [List.getElem?_append_right (by rw [clear_len]; omega), List.getElem?_replicate] at h
    split at h <;> cases h
theorem emS_len {js : List Nat} {k : Nat} {σ : St} : (emS js k σ).length = σ.length + k := by
  unfold emS
  rw [List.length_append, clear_len, List.length_replicate]
def cxComp (X : Cx) (NY : List Str) (scope : Scope) (cl : List (Str × Addr)) (C : Addr) (s₀ : Shared) (H₀ : Hp) (fp : List Addr) : Cx :=
  { X with N := NY, s₀ := s₀, H₀ := H₀, env := compEnvC scope cl C X.env, outer := X.stack, ex := fp, fn := fun _ => false, pn := [], xe := fun _ _ => False }
def PIfs (X : Cx) (ifs : List Expr) (t : TT) : Prop :=
  ∀ (pins : List (Addr × Obj)) (s : Shared) (σ : St) (H : Hp) (Q : Bool → Hp → Prop), Inv X pins σ H s → t σ H Q →
    wpAny (model X.prog X.w) X.A (forIn ifs true fun c r => if r = true then do let ok ← isTrue c X.env (eval c X.env); pure (ForInStep.yield ok) else pure (ForInStep.yield r)) (TP X pins σ Q) X.xe s
def tYes : TT := fun _ H Q => Q true H
theorem pif_nil {X : Cx} : PIfs X [] tYes := fun _ _ _ H _ I h => wpAny_tests_nil ⟨H, I, h⟩
def sApp (D : Addr) (tc : TT) (te : TE) : TS := fun E σ H => tc σ H fun b H1 => if b = true then te σ H1 fun y H2 => ∃ ys, H2 D = some (.lst ys) ∧ ys.length < sizeLine ∧ E.nx σ (upd H2 D (.lst (ys ++ [y]))) else E.nx σ H1
def tComp (js : List Nat) (k : Nat) (wi : TI) (g : TG) (tc : TT) (te : TE) : TE := fun σ H Q => wi σ H fun J H1 => ∀ D, H1 D = none →
  ∃ W : Nat → Nat → St → Hp → Prop, (∃ m, W 0 m (emS js k σ) (upd H1 D (.lst []))) ∧ ∀ i m σ H, W i m σ H →
    (J.stop i H ∧ Q (.ref D) H) ∨ (J.go i H ∧ ∃ N : St → Hp → Prop, (∀ σ' H', N σ' H' → ∃ m', m' < m ∧ W (i + 1) m' σ' H') ∧ ∀ x H', J.yld i H x H' → g x σ H' fun σ2 H2 => sApp D tc te { nx := N, rt := fun _ _ => False, ct := N, bk := fun _ H' => Q (.ref D) H' } σ2 H2)
section
variable {X : Cx} {pins : List (Addr × Obj)} {σ : St} {H2 : Hp} {s₂ : Shared} {N NY : List Str} {sc scope : Scope} {cl : List (Str × Addr)} {C : Addr} {fp : List Addr} {js : List Nat} {k : Nat}
theorem comp_ok (I2 : Inv X pins σ H2 s₂) (hf : ∀ b ∈ fp, FpOk X pins H2 b) (hfl : ∀ b ∈ fp, ∃ o, s₂.heap.get? b = some o) (hkind : scope.kind = .function) (hcell : ∀ y ∈ scope.names, y.2 ≠ NameKind.cell)
    (hcl1 : ∀ n c, cl.lookup n = some c → X.env.cells.lookup n = some c) (hcl2 : ∀ x ∈ scope.names, x.2 = NameKind.free → (cl.lookup x.1).isSome = true) (hC : s₂.heap.objs.size ≤ C) :
    (cxComp X NY scope cl C s₂ H2 fp).Ok where
  mod := I2.ok.mod
  kind := hkind
  glob := I2.ok.glob
  blt := I2.ok.blt
  above := hC
  inj := fun x y c h1 h2 => I2.ok.inj x y c (hcl1 x c h1) (hcl1 y c h2)
  has := fun x hx => by
    have e : scope.names.lookup x = some .free := rel_free (env := X.env) hcell hx
    exact Option.isSome_iff_exists.mp (hcl2 (x, .free) (PySem.mem_of_lookup e) rfl)
  cab := fun _ _ h _ => nomatch h
  hd := I2.ok.hd
  frames := I2.ok.frames
  stk := .inl rfl
  exf := fun b hb => by
    obtain ⟨o, ho⟩ := hfl b hb
    exact ⟨Nat.ne_of_lt (Nat.lt_of_lt_of_le (Heap.lt_size ho) hC), fun x c h => (hf b hb).2.2.2.2.1 x c (hcl1 x c h)⟩
  bs := I2.bs
  bsz := Nat.le_trans I2.ok.bsz I2.sz
  noex := fun b o e hb => by
    rcases (hf b hb).2.2.2.1 with z | z
    · exact I2.ok.noex b o e z
    · exact absurd (Nat.lt_of_lt_of_le (Heap.lt_size e) (Nat.le_trans I2.ok.bsz z)) (Nat.lt_irrefl _)
  exfs := fun b hb z => by
    rcases List.mem_cons.mp (I2.stkSub b z) with e | e
    · exact (hf b hb).2.1 e
    · exact (hf b hb).2.2.1 e
  funs := I2.stack
  frf := I2.stkFree
variable {elt iter target : Expr} {ifs : List Expr} {pos : Pos} {it : Addr} {tn : Nat → Heap → Prop} {J : It} {g : TG} {tc : TT} {te : TE} {Q : VK} {RR : Value → Addr → Result → Shared → Prop} {E : Value → Shared → Prop}
theorem comp_block (ok : CompOk sc N scope NY js) (hsc : X.env.scope = sc) (hN : X.N = N) (hk : NY.length = N.length + k) (hc : X.calm = true) (I2 : Inv X pins σ H2 s₂) (T : Turn X.prog X.w X.K target J fp it tn) (st2 : tn 0 s₂.heap) (f2 : ∀ b ∈ fp, FpOk X pins H2 b)
    (hcl1 : ∀ n c, cl.lookup n = some c → X.env.cells.lookup n = some c) (hcl2 : ∀ x ∈ scope.names, x.2 = NameKind.free → (cl.lookup x.1).isSome = true)
    (hg : ∀ cl C s₀ H₀ fp, PG (cxComp X NY scope cl C s₀ H₀ fp) target g) (hi : ∀ cl C s₀ H₀ fp, PIfs (cxComp X NY scope cl C s₀ H₀ fp) ifs tc) (he : ∀ cl C s₀ H₀ fp, PE (cxComp X NY scope cl C s₀ H₀ fp) elt te)
    (loop : ∀ D, H2 D = none →
      ∃ W : Nat → Nat → St → Hp → Prop, (∃ m, W 0 m (emS js k σ) (upd H2 D (.lst []))) ∧ ∀ i m σ H, W i m σ H →
        (J.stop i H ∧ Q (.ref D) H) ∨ (J.go i H ∧ ∃ N : St → Hp → Prop, (∀ σ' H', N σ' H' → ∃ m', m' < m ∧ W (i + 1) m' σ' H') ∧ ∀ x H', J.yld i H x H' → g x σ H' fun σ2 H2 => sApp D tc te { nx := N, rt := fun _ _ => False, ct := N, bk := fun _ H' => Q (.ref D) H' } σ2 H2))
    (hRR : ∀ D C H' s' m, s'.heap.Ns C m → Inv X pins σ H' s' → H' C = none → C ≠ X.env.locals → X.s₀.heap.objs.size ≤ C → (∀ x c, X.env.cells.lookup x = some c → c ≠ C) → (∀ p ∈ X.pn ++ pins, p.1 ≠ C) → D ≠ C → Q (.ref D) H' → RR (.ref D) C (.ok .next) s') :
    wpAny (model X.prog X.w) X.A (newList []) (fun acc s₃ => wpAny (model X.prog X.w) X.A (newFunctionEnv scope X.env.globals cl [] X.env.qual none .none (some X.env)) (fun cenv s₄ =>
      codeAny (model X.prog X.w) X.A (.compStart (.ListComp elt [⟨target, iter, ifs, 0⟩] scope pos) 0 (.ref it) acc { cenv with scope := relabel scope X.env }) (RR acc cenv.locals) s₄) E s₃) E s₂ := by
  refine wpAny_newObj_type (wpAny_newFunctionEnv ok.cell (by intro y hy; simp at hy) (fun h₁ hns₁ hsb₁ => ?_) ok.kind)
  dsimp only at hns₁ hsb₁ ⊢
  generalize hG : s₂.heap.push { cls := .type "list", dict := none, data := .seq ([] : List Value).toArray } = G at hns₁ hsb₁ ⊢
  have hC : G.objs.size = s₂.heap.objs.size + 1 := by rw [← hG, Heap.size_push]
  have hDC : s₂.heap.objs.size ≠ G.objs.size := by rw [hC]; exact Nat.ne_of_lt (Nat.lt_succ_self _)
  have hCle : s₂.heap.objs.size ≤ G.objs.size := by rw [hC]; exact Nat.le_succ _
  have below : ∀ b, b < s₂.heap.objs.size → b ≠ G.objs.size := fun b hb => by rw [hC]; exact Nat.ne_of_lt (Nat.lt_succ_of_lt hb)
  have old : ∀ b o, s₂.heap.get? b = some o → h₁.get? b = some o := fun b o e => hsb₁.extBut b o (below b (Heap.lt_size e)) (Heap.get?_push_of_some _ (hG ▸ Heap.get?_push_of_some _ e))
  have hacc : h₁.get? s₂.heap.objs.size = some { cls := .type "list", dict := none, data := .seq ([] : List Value).toArray } := hsb₁.extBut _ _ hDC (Heap.get?_push_of_some _ (hG ▸ Heap.get?_push_size _ rfl))
  have hfl : ∀ b ∈ fp, ∃ o, s₂.heap.get? b = some o := fun b hb => let ⟨o, ho, _⟩ := T.obj 0 _ st2 b hb; ⟨o, ho⟩
  have fD : H2 s₂.heap.objs.size = none := I2.hok.fresh (Nat.le_refl _)
  have fC : H2 G.objs.size = none := I2.hok.fresh hCle
  have I4 : Inv (cxComp X NY scope cl G.objs.size s₂ H2 fp) [] (emS js k σ) (upd H2 s₂.heap.objs.size (.lst [])) { s₂ with heap := h₁, toks := s₂.toks + ([] : List (Str × Value)).length } := by
    refine ⟨comp_ok I2 f2 hfl ok.kind ok.cell hcl1 hcl2 hCle, rfl, I2.bare, Un.laid old (Nat.le_refl _) fD, ⟨_, hns₁, fun i y v h1 h2 h3 => ?_⟩, fun x c h => ?_, ?_, fun x c h => ?_, fun p hp => absurd (show p ∈ ([] : List (Addr × Obj)) from hp) (by simp), I2.hok.laid old (Nat.le_refl _) ⟨Nat.zero_le _, [], 0, .nil, hacc⟩, ?_⟩
    · obtain ⟨e1, e2⟩ := emS_get h2
      have hi : i < N.length := by
        have := (List.getElem?_eq_some_iff.mp e1).1
        rw [I2.len, hN] at this; exact this
      have hy : N[i]? = some y := by
        rw [← ok.pre, List.getElem?_take_of_lt hi]; exact h1
      have hz : (y, i) ∈ N.zipIdx := by
        rw [List.mem_zipIdx_iff_getElem?]; exact hy
      have nn : scope.names.lookup y ≠ none := rel_any (env := X.env) (x := y) (by
        rcases h3 with z | z | z
        · intro q; rw [show (relabel scope X.env).names.lookup y = _ from z] at q; cases q
        · intro q; rw [show (relabel scope X.env).names.lookup y = _ from z] at q; cases q
        · intro q; rw [show (relabel scope X.env).names.lookup y = _ from z] at q; cases q)
      have hfr : scope.names.lookup y = some .free := by
        rcases ok.cap (y, i) hz with z | z | z
        · rw [e2] at z; cases z
        · exact absurd z nn
        · exact z
      have hX := ok.free (y, .free) (PySem.mem_of_lookup hfr) rfl
      rw [← hsc] at hX
      obtain ⟨m, hn, hl⟩ := I2.loc
      obtain ⟨u, ru, lk⟩ := hl i y v (by rw [hN]; exact hy) e1 (by
        rcases hX with z | z
        · exact .inr (.inl z)
        · exact .inr (.inr z))
      refine ⟨u, ru, ?_⟩
      rcases lk with ⟨lk, _⟩ | ⟨_, c, hc1, hc2⟩
      · have lk : X.env.scope.names.lookup y = some .local := lk
        rcases hX with z | z <;> · rw [z] at lk; cases lk
      · have hs := hcl2 (y, .free) (PySem.mem_of_lookup hfr) rfl
        obtain ⟨c', hc'⟩ := Option.isSome_iff_exists.mp hs
        have e3 := hcl1 y c' hc'
        rw [hc1] at e3; cases e3
        refine .inr ⟨?_, c, hc', hc2.keeps old⟩
        show (relabel scope X.env).names.lookup y = some .cell ∨ (relabel scope X.env).names.lookup y = some .free
        have e : (relabel scope X.env).names.lookup y = _ := lookup_relabel (env := X.env) (x := y) scope.names
        rw [e, hfr, Option.map_some]
        split
        · exact .inl rfl
        · exact .inr rfl
    · obtain ⟨v, q⟩ := I2.cell x c (hcl1 x c h)
      exact ⟨v, q.keeps old⟩
    · show upd H2 s₂.heap.objs.size (.lst []) G.objs.size = none
      rw [upd_ne (Ne.symm hDC)]; exact fC
    · have q := I2.freeC x c (hcl1 x c h)
      obtain ⟨v, o, ho, _⟩ := I2.cell x c (hcl1 x c h)
      show upd H2 s₂.heap.objs.size (.lst []) c = none
      rw [upd_ne (Nat.ne_of_lt (Heap.lt_size ho))]; exact q
    · show (emS js k σ).length = NY.length
      rw [emS_len, I2.len, hN, hk]
  have st4 : tn 0 h₁ := T.keep _ _ _ st2 fun b _ o e => old b o e
  obtain ⟨W, ⟨m0, w0⟩, turn⟩ := loop s₂.heap.objs.size fD
  have stat : ∀ {H' : Hp}, (∀ b ∈ fp, H' b = none) → ∀ b ∈ fp, FpOk (cxComp X NY scope cl G.objs.size s₂ H2 fp) [] H' b := fun hn b hb => by
    obtain ⟨o, ho⟩ := hfl b hb
    refine ⟨hn b hb, below b (Heap.lt_size ho), fun z => ?_, .inl hb, fun x c h => (f2 b hb).2.2.2.2.1 x c (hcl1 x c h), fun p hp => absurd (show p ∈ ([] : List (Addr × Obj)) from hp) (by simp)⟩
    rcases List.mem_cons.mp (I2.stkSub b z) with e | e
    · exact (f2 b hb).2.1 e
    · exact (f2 b hb).2.2.1 e
  have go : ∀ s₄ : Shared, s₄ = { s₂ with heap := h₁, toks := s₂.toks + ([] : List (Str × Value)).length } →
      codeAny (model X.prog X.w) X.A (.compLoop (.ListComp elt [⟨target, iter, ifs, 0⟩] scope pos) 0 (.ref it) (.ref s₂.heap.objs.size) (compEnvC scope cl G.objs.size X.env)) (RR (.ref s₂.heap.objs.size) G.objs.size) s₄ := by
    rintro s₄ rfl
    refine compLoop_own (fun n s' => ∃ i σ' H', Inv (cxComp X NY scope cl G.objs.size s₂ H2 fp) [] σ' H' s' ∧ tn i s'.heap ∧ (∀ b ∈ fp, H' b = none) ∧ W i n σ' H') ?_ m0
      ⟨0, _, _, I4, st4, fun b hb => by
        obtain ⟨o, ho⟩ := hfl b hb
        rw [upd_ne (Nat.ne_of_lt (Heap.lt_size ho))]; exact (f2 b hb).1, w0⟩
    rintro n s3 ⟨i, σ3, H3, I3, st3, fr3, w3⟩
    rcases turn i n σ3 H3 w3 with ⟨stop, qn⟩ | ⟨go, Nx, hNx, step⟩
    · refine thn (T.done (cxComp X NY scope cl G.objs.size s₂ H2 fp) rfl rfl rfl hc i [] s3 σ3 H3 _ I3 (stat fr3) st3 stop) fun r s5 ⟨hr, I5⟩ => ?_
      subst hr
      have IX : Inv X pins σ H3 s5 := I2.call' (ch := fp) I5.os I5.base I5.hok I5.bare fun b hb => ⟨(f2 b hb).2.2.2.1, (f2 b hb).2.1, (f2 b hb).2.2.2.2.1, (f2 b hb).2.2.2.2.2⟩
      obtain ⟨m, hm, _⟩ := I5.loc
      refine hRR _ _ H3 s5 m hm IX I5.free (fun z => ?_) (Nat.le_trans I2.sz hCle) (fun x c h z => ?_) (fun p hp z => ?_) hDC qn
      · have := I2.lt; rw [← z] at this; exact Nat.lt_irrefl _ (Nat.lt_of_lt_of_le this hCle)
      · obtain ⟨v, o, ho, _⟩ := I2.cell x c h
        have := Heap.lt_size ho; rw [z] at this; exact Nat.lt_irrefl _ (Nat.lt_of_lt_of_le this hCle)
      · have := Heap.lt_size (I2.pin p hp).1; rw [z] at this; exact Nat.lt_irrefl _ (Nat.lt_of_lt_of_le this hCle)
    · refine thn (T.item (cxComp X NY scope cl G.objs.size s₂ H2 fp) rfl rfl rfl hc i [] s3 σ3 H3 _ I3 (stat fr3) st3 go) fun r s5 ⟨u, hr, h5⟩ => ?_
      subst hr
      refine thn h5 fun _ s6 ⟨x, H6, I6, r6, y6, st6, fr6⟩ => ?_
      have I6' := I6.pinned (stat fr6) (T.obj _ _ st6)
      have again : ∀ {σ7 : St} {H7 : Hp} {s7 : Shared}, Inv (cxComp X NY scope cl G.objs.size s₂ H2 fp) ([] ++ pinsAt fp s6.heap) σ7 H7 s7 → Nx σ7 H7 → ∃ m, m < n ∧ ∃ i σ' H', Inv (cxComp X NY scope cl G.objs.size s₂ H2 fp) [] σ' H' s7 ∧ tn i s7.heap ∧ (∀ b ∈ fp, H' b = none) ∧ W i m σ' H' := fun {σ7 H7 s7} I7 n7 => by
        obtain ⟨m', hm, w7⟩ := hNx σ7 H7 n7
        refine ⟨m', hm, i + 1, σ7, H7, I7.unpinned, T.keep _ _ _ st6 fun b hb o e => (I7.pin (b, o) (List.mem_append_right _ (List.mem_append_right _ (mem_pinsAt hb e)))).1, fun b hb => ?_, w7⟩
        obtain ⟨o, e, d⟩ := T.obj _ _ st6 b hb
        exact (I7.pin (b, o) (List.mem_append_right _ (List.mem_append_right _ (mem_pinsAt hb e)))).2.1
      refine thn (hg cl G.objs.size s₂ H2 fp _ s6 σ3 H6 x u _ I6' r6 (step x H6 y6)) fun _ s7 ⟨σ7, H7, I7, q7⟩ => ?_
      refine thn (hi cl G.objs.size s₂ H2 fp _ s7 σ7 H7 _ I7 q7) fun ok s8 ⟨H8, I8, q8⟩ => ?_
      cases ok with
      | false =>
        rw [if_neg Bool.false_ne_true] at q8 ⊢
        exact again I8 q8
      | true =>
        rw [if_pos rfl] at q8 ⊢
        refine thn (he cl G.objs.size s₂ H2 fp _ s8 σ7 H8 _ I8 q8) fun y s9 ⟨z, H9, I9, r9, ys, hD, hz, n9⟩ => ?_
        refine thn (mt_append (X := cxComp X NY scope cl G.objs.size s₂ H2 fp) _ s9 σ7 H9 (.ref s₂.heap.objs.size) [z] (.ref s₂.heap.objs.size) [y] (fun _ H' => H' = upd H9 s₂.heap.objs.size (.lst (ys ++ [z]))) I9 rfl (.cons r9 .nil) ⟨_, ys, z, rfl, rfl, hD, hz, rfl⟩) fun _ s10 ⟨_, H10, I10, _, q10⟩ => ?_
        subst q10
        exact again I10 n9
  exact codeAny_compStart_list (go _ rfl) (T.self _ 0 _ _ _ st4 (go _ rfl))
theorem pe_comp {wi : TI} (ok : CompOk sc N scope NY js) (hsc : X.env.scope = sc) (hN : X.N = N) (hk : NY.length = N.length + k) (hc : X.calm = true) (hit : PI X target iter wi)
    (hg : ∀ cl C s₀ H₀ fp, PG (cxComp X NY scope cl C s₀ H₀ fp) target g) (hi : ∀ cl C s₀ H₀ fp, PIfs (cxComp X NY scope cl C s₀ H₀ fp) ifs tc) (he : ∀ cl C s₀ H₀ fp, PE (cxComp X NY scope cl C s₀ H₀ fp) elt te)
    (hs : ∀ x, foldedSetIterable iter X.env x = pure x := by intro _; rfl) : PE X (.ListComp elt [⟨target, iter, ifs, 0⟩] scope pos) (tComp js k wi g tc te) := by
  intro pins s σ H Q I h
  obtain ⟨cl, hclos, hcl1, hcl2⟩ := closure_of (scope := scope) (env := X.env) fun x hx hf => I.ok.has x.1 (by
    have := ok.free x hx hf
    rw [← hsc] at this
    exact this)
  rw [eval_ListComp]
  refine wpAny_comprehension_free (use := none) rfl hs hclos ok.kind ok.names (thn (hit pins s σ H _ I h) fun xv s₁ h₁ => thn h₁ fun itv s₂ h₂ => ?_)
  obtain ⟨it, fp, tn, J, H2, rfl, I2, T, st2, f2, loop⟩ := h₂
  refine comp_block (RR := fun acc C => compPost (model X.prog X.w) X.A X.xe none (EP X pins σ Q) acc C) (Q := Q) ok hsc hN hk hc I2 T st2 f2 hcl1 hcl2 hg hi he loop ?_
  intro D C H' s' m hm IX fC c1 c2 c3 c4 _ q
  exact ⟨m, hm, fun h' hs' => ⟨.ref D, H', IX.turned (t' := s'.toks) (fun b o hb e => (hs'.2 b hb).trans e) fC c1 (.inr c2) c3 c4, rfl, q⟩⟩
theorem ps_comp {wi : TI} {i : Nat} {y : Str} {py spos : Pos} (ok : CompOk sc N scope NY js) (hsc : X.env.scope = sc) (hN : X.N = N) (hk : NY.length = N.length + k) (hc : X.calm = true) (hit : PI X target iter wi)
    (hg : ∀ cl C s₀ H₀ fp, PG (cxComp X NY scope cl C s₀ H₀ fp) target g) (hi : ∀ cl C s₀ H₀ fp, PIfs (cxComp X NY scope cl C s₀ H₀ fp) ifs tc) (he : ∀ cl C s₀ H₀ fp, PE (cxComp X NY scope cl C s₀ H₀ fp) elt te)
    (nd : X.N.Nodup) (hy : X.N[i]? = some y) (hl : Loc X.env.scope y) (hsw : swapsWith (.ListComp elt [⟨target, iter, ifs, 0⟩] scope pos) (some (.Name y py)) spos.line X.env = pure true)
    (hs : ∀ x, foldedSetIterable iter X.env x = pure x := by intro _; rfl) (hf : X.fn y = true ∨ X.env.scope.names.lookup y = some .local := by first | exact .inl rfl | exact .inr rfl | assumption) :
    PS X (.Assign [.Name y py] (.ListComp elt [⟨target, iter, ifs, 0⟩] scope pos) spos) (tAsg (tComp js k wi g tc te) (gName i)) := by
  intro pins s σ H D I h
  obtain ⟨cl, hclos, hcl1, hcl2⟩ := closure_of (scope := scope) (env := X.env) fun x hx hf => I.ok.has x.1 (by
    have := ok.free x hx hf
    rw [← hsc] at this
    exact this)
  rw [exec_Assign_Name_used _ _ _ _ hsw]
  refine wpAny_bind (wpAny_standAt (wpAny_bind ?_))
  show wpAny _ X.A (do let _ ← comprehension (.ListComp elt [⟨target, iter, ifs, 0⟩] scope pos) scope X.env _ (newList []) false (eval iter X.env) (some (assign (.Name y py) X.env))) _ _ s
  refine wpAny_bind (wpAny_mono (wpAny_comprehension_free (use := some (assign (.Name y py) X.env)) (Q := fun _ s' => SP X pins D .next s') rfl hs hclos ok.kind ok.names
    (thn (hit pins s σ H _ I h) fun xv s₁ h₁ => thn h₁ fun itv s₂ h₂ => ?_)) (fun _ s' hq => wpAny_pure (wpAny_pure hq)) fun _ _ e => e)
  obtain ⟨it, fp, tn, J, H2, rfl, I2, T, st2, f2, loop⟩ := h₂
  refine comp_block (RR := fun acc C => compPost (model X.prog X.w) X.A X.xe (some (assign (.Name y py) X.env)) (fun _ s' => SP X pins D .next s') acc C) (Q := fun x H1 => gName i x σ H1 D.nx) ok hsc hN hk hc I2 T st2 f2 hcl1 hcl2 hg hi he loop ?_
  intro Da C H' s' m hm IX fC c1 c2 c3 c4 _ q
  show wpAny _ X.A (assign (.Name y py) X.env (.ref Da)) _ _ _
  refine wpAny_assign_Name (store_ok2 IX nd hy hl (v := .ref Da) rfl (fun s2 IY ⟨a, sb, ha⟩ => ?_) hf)
  have hne : C ≠ a := by
    rcases ha with rfl | ha
    · exact c1
    · exact fun z => c3 y a ha z.symm
  exact ⟨m, hm.sameBut sb hne, fun h' hs' => ⟨_, H', IY.turned (t' := s2.toks) (fun b o hb e => (hs'.2 b hb).trans e) fC c1 (.inr c2) c3 c4, q⟩⟩
end
end L2
end
section
set_option Elab.async false
set_option linter.all false
set_option maxRecDepth 100000
set_option maxHeartbeats 4000000
namespace L2
open PySem PySem.Spec PyProof.Rows
section
variable {X : Cx} {pins : List (Addr × Obj)} {σ : St} {H : Hp} {s : Shared} {h' : Heap}
end
section
variable {X : Cx} {elts : List Expr} {k : Nat} {tpos : Pos}
end
section
variable {X : Cx} {elts : List Expr} {k : Nat} {tpos : Pos}
end
end L2
namespace PySem
open Sem (wp)
open Builtin MeetsSeq MeetsSeq2 MeetsSeq3
theorem noFill_tuple_mul : fillsNumberSlot (.type "tuple") "mul" = pure false :=
  fillsNumberSlot_seq (id := "tuple.__mul__") (r := some (.builtin "tuple.__rmul__")) F.slot_tuple_mul.lookup (by decide +kernel) F.slot_tuple_rmul.lookup (by decide +kernel)
theorem repeat_tuple : seqRepeat? (.type "tuple") = pure (some (.builtin "tuple.__mul__")) := by
  unfold seqRepeat?
  rw [seqSlot_of (T := "tuple") (name := "__mul__") (id := "tuple.__mul__") F.slot_tuple_mul.lookup (by decide +kernel), seqSlot_of (T := "tuple") (name := "__rmul__") (id := "tuple.__rmul__") F.slot_tuple_rmul.lookup (by decide +kernel)]
  rfl
theorem int_rmul_tuple (a : Int) (t : Tok) (l : Addr) (items : Array Value) (n : Nat) (dd : Option Addr) (sl : Array (Option Value)) :
    Meets (Builtin.«int.__rmul__» ⟨[.int a t, .ref l], []⟩) (fun _ R s => s.heap.get? l = some { cls := .type "tuple", dict := dd, data := .seq items n, slots := sl } ∧ R (.ok (.ret Value.notImplemented)) s) :=
  .of_wp fun prog w A R s h => by obtain ⟨hp, g, d, tk, os⟩ := s; obtain ⟨hl, h⟩ := h; wp_walk; exact ⟨_, rfl, h⟩
theorem tuple_mul_many (l : Addr) (items : Array Value) (n : Nat) (dd : Option Addr) (sl : Array (Option Value)) (x : Int) (u : Tok) (hlo : -(2 ^ 63) ≤ x) (hhi : x < 2 ^ 63) (he : items.isEmpty = false) (h1 : ¬ x = 1) (hp : 0 < x) (hsz : items.size * x.toNat ≤ sizeLine) :
    Meets (Builtin.«tuple.__mul__» ⟨[.ref l, .int x u], []⟩) (fun _ R s => s.heap.get? l = some { cls := .type "tuple", dict := dd, data := .seq items n, slots := sl } ∧
      R (.ok (.ret (Value.ref s.heap.objs.size))) { s with heap := s.heap.push { cls := Value.type "tuple", data := Data.seq (List.foldl (fun x1 x2 => x1 ++ x2) #[] (List.replicate x.toNat items)) }, toks := s.toks }) :=
  .of_wp fun prog w A R s h => by
    obtain ⟨hp, g, d, tk, os⟩ := s; obtain ⟨hl, h⟩ := h
    have z1 : (decide (x < -(2 ^ 63)) || decide (x ≥ 2 ^ 63)) = false := by simp; omega
    have z2 : (items.isEmpty || x == 1) = false := by simp [he, h1]
    have z3 : (decide (x ≤ 0) || items.isEmpty) = false := by simp [he]; omega
    have ex : (items.size : Int) * x = ((items.size * x.toNat : Nat) : Int) := by
      rw [Int.natCast_mul]; congr 1; omega
    have z4 : ¬ ((items.size : Int) * x > (2 ^ 63 - 1) / 8) := by
      rw [ex]
      have : (sizeLine : Nat) ≤ (2 ^ 63 - 1) / 8 := by decide
      omega
    have z5 : Tuple.tupleTooMany ((items.size : Int) * x) = false := by
      unfold Tuple.tupleTooMany
      rw [ex]
      exact decide_eq_false (by omega)
    have z6 : (List.foldl (fun (x1 x2 : Array Value) => x1 ++ x2) #[] (List.replicate x.toNat items)).size ≤ sizeLine := by
      have e := AutoListH.size_joined items x.toNat #[]
      rw [e, Nat.mul_comm]
      simpa using hsz
    wp_walk
    refine wpAny_ite_false (by rw [z1]; rfl) ?_
    wp_walk using AutoSeq1.wpAny_loadPart' hl
    refine wpAny_ite_false (decide_eq_false z4) ?_
    wp_walk
    refine wpAny_ite_false (by rw [z5]; rfl) ?_
    wp_walk
    exact ⟨_, rfl, h⟩
theorem tuple_mul_one (l : Addr) (items : Array Value) (n : Nat) (dd : Option Addr) (sl : Array (Option Value)) (u : Tok) :
    Meets (Builtin.«tuple.__mul__» ⟨[.ref l, .int 1 u], []⟩) (fun _ R s => s.heap.get? l = some { cls := .type "tuple", dict := dd, data := .seq items n, slots := sl } ∧ R (.ok (.ret (Value.ref l))) s) :=
  .of_wp fun prog w A R s h => by
    obtain ⟨hp, g, d, tk, os⟩ := s; obtain ⟨hl, h⟩ := h
    have z2 : (items.isEmpty || (1 : Int) == 1) = true := by simp
    wp_walk using AutoSeq1.wpAny_loadPart' hl
    first | exact ⟨_, rfl, h⟩ | trace_state
theorem tuple_mul_none (l : Addr) (items : Array Value) (n : Nat) (dd : Option Addr) (sl : Array (Option Value)) (u : Tok) (he : items.isEmpty = false) :
    Meets (Builtin.«tuple.__mul__» ⟨[.ref l, .int 0 u], []⟩) (fun _ R s => s.heap.get? l = some { cls := .type "tuple", dict := dd, data := .seq items n, slots := sl } ∧
      R (.ok (.ret (Value.ref s.heap.objs.size))) { s with heap := s.heap.push { cls := Value.type "tuple", data := Data.seq #[] }, toks := s.toks }) :=
  .of_wp fun prog w A R s h => by
    obtain ⟨hp, g, d, tk, os⟩ := s; obtain ⟨hl, h⟩ := h
    have z2 : (items.isEmpty || (0 : Int) == 1) = false := by simp [he]
    have z3 : (decide ((0 : Int) ≤ 0) || items.isEmpty) = true := by simp
    wp_walk using AutoSeq1.wpAny_loadPart' hl
    first | exact ⟨_, rfl, h⟩ | trace_state
end PySem
namespace L2
open PySem PySem.Spec PyProof.Rows
section
variable {X : Cx}
def rRepT (K : PySem.W.Frag) : R2 := fun x y H Q => ∃ (l : Addr) (k : Nat) (xs : List V), x = .ref l ∧ y = .int (k : Nat) ∧ SqT K H l xs ∧ xs ≠ [] ∧ xs.length * k ≤ sizeLine ∧ (k = 1 → Q (.ref l) H) ∧
  (k ≠ 1 → ∀ p, H p = none → Q (.ref p) (upd H p (.tup (List.replicate k xs).flatten)))
theorem op_repT : OpR X (binaryOp .Mult) (rRepT X.K) := by
  intro pins s σ H x y v u Q I rx ry h
  obtain ⟨l, k, xs, rfl, rfl, hq, hne, hz, q1, q2⟩ := h
  cases rx
  obtain ⟨t, rfl⟩ := ry
  obtain ⟨its, r, ⟨⟨cls, dd, data, sl⟩, e, hc, n, hd⟩, hl⟩ := I.tuple hq
  simp only at hc hd
  subst hc hd
  have hlen := r.length
  have he : its.toArray.isEmpty = false := by
    cases its with
    | nil => simp at hlen; exact absurd hlen hne
    | cons a r' => rfl
  have hs : its.toArray.size * k ≤ sizeLine := by rw [List.size_toArray, ← hlen]; exact hz
  have road : wpAny (model X.prog X.w) X.A (call (.builtin "tuple.__mul__") [.ref l, .int (k : Nat) t]) (EP X pins σ Q) X.xe s → wpAny (model X.prog X.w) X.A (binaryOp .Mult (.ref l) (.int (k : Nat) t)) (EP X pins σ Q) X.xe s := fun hcall =>
    wpAny_binaryOp_repeat_ref (T := "tuple") (U := "int") (by decide) ⟨_, e, rfl⟩ (fun s' => typeIs_int s' k t) noFill_tuple_mul F.fills_int_mul F.slot_int_rmul repeat_tuple F.slot_int_index.lookup
      (call_meets F.slot_int_rmul (typeIs_int s k t) F.entry_int_rmul (F.args_int_rmul_2 _ _) (int_rmul_tuple k t l its.toArray n dd sl) ⟨e, rfl, ⟨_, e, rfl⟩, hcall⟩)
  refine road ?_
  by_cases h1 : k = 1
  · subst h1
    exact call_meets F.slot_tuple_mul ⟨_, e, rfl⟩ F.entry_tuple_mul (F.args_tuple_mul_2 _ _) (tuple_mul_one l its.toArray n dd sl t) ⟨e, ⟨.ref l, H, I, rfl, q1 rfl⟩⟩
  · have hn : H s.heap.objs.size = none := I.hok.fresh (Nat.le_refl _)
    by_cases h0 : k = 0
    · subst h0
      refine call_meets F.slot_tuple_mul ⟨_, e, rfl⟩ F.entry_tuple_mul (F.args_tuple_mul_2 _ _) (tuple_mul_none l its.toArray n dd sl t he) ⟨e, ⟨.ref s.heap.objs.size, _, ?_, rfl, q2 h1 _ hn⟩⟩
      exact I.laid (t' := s.toks) (fun b o e => Heap.get?_push_of_some _ e) (Nat.le_refl _) ⟨Nat.zero_le _, [], .nil, ⟨_, Heap.get?_push_size _ rfl, ⟨rfl, rfl⟩, _, rfl⟩⟩
    · have hk64 : (k : Int) < 2 ^ 63 := by
        have h3 : 1 ≤ its.toArray.size := by
          cases its with
          | nil => simp at he
          | cons a r' => simp
        have h4 : k ≤ its.toArray.size * k := Nat.le_mul_of_pos_left k h3
        have h5 : (sizeLine : Nat) < 2 ^ 63 := by decide
        omega
      refine call_meets F.slot_tuple_mul ⟨_, e, rfl⟩ F.entry_tuple_mul (F.args_tuple_mul_2 _ _) (tuple_mul_many l its.toArray n dd sl k t (by omega) hk64 he (by omega) (by omega) (by simpa using hs)) ⟨e, ?_⟩
      have f0 := foldl_rep its k []
      rw [List.nil_append] at f0
      have ek : ((k : Nat) : Int).toNat = k := by simp
      rw [ek, f0]
      refine ⟨.ref s.heap.objs.size, _, ?_, rfl, q2 h1 _ hn⟩
      refine I.laid (t' := s.toks) (fun b o e => Heap.get?_push_of_some _ e) (Nat.le_refl _) ⟨?_, (List.replicate k its).flatten, r.rep k, ⟨_, Heap.get?_push_size _ rfl, ⟨rfl, rfl⟩, _, rfl⟩⟩
      rw [len_rep, Nat.mul_comm]; exact hz
theorem call_divmodW : CallR X (.builtin "divmod") (fun xs H Q => ∃ i j, xs = [.int i, .int j] ∧ (0 < j ∧ j < 2 ^ 64) ∧ ∀ p, H p = none → Q (.ref p) (upd H p (.tup [.int (i / j), .int (i % j)]))) := by
  intro pins s σ H xs us Q I r h
  obtain ⟨i, j, rfl, ⟨h1, h2⟩, q⟩ := h
  obtain ⟨u, w', rfl, ⟨t, rfl⟩, ⟨t', rfl⟩⟩ := vals2 r
  have hb : j.natAbs.log2 < 9000 := by
    have h3 : j.natAbs.log2 < 64 := (Nat.log2_lt (by omega)).mpr (by omega)
    omega
  refine divmod_int (by omega) ?_ (.inl (PyProof.noPylong_of_log2 hb))
  rw [Int.fdiv_eq_ediv_of_nonneg i (by omega), Int.fmod_eq_emod_of_nonneg i (by omega)]
  have hn : H s.heap.objs.size = none := I.hok.fresh (Nat.le_refl _)
  refine ⟨.ref s.heap.objs.size, _, ?_, rfl, q _ hn⟩
  refine I.laid (fun b o e => Heap.get?_push_of_some _ e) (Nat.le_refl _) ⟨by simp only [List.length_cons, List.length_nil]; rw [sizeLine_eq]; decide, [.int (i / j) s.toks, .int (i % j) (s.toks + 1)], .cons ⟨_, rfl⟩ (.cons ⟨_, rfl⟩ .nil), ?_⟩
  exact ⟨_, Heap.get?_push_size s.heap rfl, ⟨rfl, rfl⟩, 0, rfl⟩
inductive IsiV (K : PySem.W.Frag) (H : Hp) : V → String → Bool → Prop where
  | int_int (i : Int) : IsiV K H (.int i) "int" true
  | int_bool (i : Int) : IsiV K H (.int i) "bool" false
  | int_tuple (i : Int) : IsiV K H (.int i) "tuple" false
  | str_tuple (x : Str) : IsiV K H (.str x) "tuple" false
  | tup_tuple {a : Addr} {xs : List V} (h : SqT K H a xs) : IsiV K H (.ref a) "tuple" true
  | lst_list {a : Addr} {xs : List V} (h : SqL K H a xs) : IsiV K H (.ref a) "list" true
  | str_str (x : Str) : IsiV K H (.str x) "str" true
  | bl_bool (b : Bool) : IsiV K H (.bl b) "bool" true
theorem call_isi : CallR X (.builtin "isinstance") (fun xs H Q => ∃ x T b, xs = [x, .ty T] ∧ IsiV X.K H x T b ∧ Q (.bl b) H) := by
  intro pins s σ H xs us Q I r h
  obtain ⟨x, T, b, rfl, hi, q⟩ := h
  obtain ⟨u, w', rfl, r1, r2⟩ := vals2 r
  cases r2
  cases hi with
  | int_int i => obtain ⟨t, rfl⟩ := r1; exact IsiPair.int_int ⟨.bl true, H, I, rfl, q⟩
  | int_bool i => obtain ⟨t, rfl⟩ := r1; exact IsiPair.int_bool ⟨.bl false, H, I.tok _, rfl, q⟩
  | int_tuple i => obtain ⟨t, rfl⟩ := r1; exact IsiPair.int_tuple ⟨.bl false, H, I.tok _, rfl, q⟩
  | str_tuple z => obtain ⟨t, rfl⟩ := r1; exact IsiPair.str_tuple ⟨.bl false, H, I.tok _, rfl, q⟩
  | tup_tuple hs =>
    cases r1
    obtain ⟨its, rv, ⟨o, e, hc, _⟩, hz⟩ := I.tuple hs
    exact IsiPair.tuple_tuple e hc ⟨.bl true, H, I, rfl, q⟩
  | lst_list hs =>
    cases r1
    obtain ⟨its, rv, pl, hz⟩ := I.list hs
    obtain ⟨o, e, hc, _⟩ := pl.isList
    exact IsiPair.list_list e hc ⟨.bl true, H, I, rfl, q⟩
  | str_str z => obtain ⟨t, rfl⟩ := r1; exact IsiPair.str_str ⟨.bl true, H, I, rfl, q⟩
  | bl_bool z => cases r1; exact IsiPair.bool_bool ⟨.bl true, H, I, rfl, q⟩
theorem all_ix (bs : List Bool) : (List.range bs.length).all (fun i => (bs[i]?).getD false) = bs.all id := by
  rw [Bool.eq_iff_iff, List.all_eq_true, List.all_eq_true]
  constructor
  · intro h b hb
    obtain ⟨i, hi, e⟩ := List.mem_iff_getElem.mp hb
    have := h i (List.mem_range.mpr hi)
    rw [List.getElem?_eq_getElem hi, Option.getD_some, e] at this
    exact this
  · intro h i hi
    have hi := List.mem_range.mp hi
    rw [List.getElem?_eq_getElem hi, Option.getD_some]
    exact h _ (List.getElem_mem hi)
end
section
variable {X : Cx}
end
section
variable {X : Cx}
def eqVs (xs ys : List V) : Bool := (List.range (min xs.length ys.length)).all (fun j => eqV ((xs[j]?).getD .non) ((ys[j]?).getD .non)) && xs.length == ys.length
def rEqT (K : PySem.W.Frag) (neg : Bool) : R2 := fun x y H Q => ∃ p q xs ys, x = .ref p ∧ y = .ref q ∧ SqT K H p xs ∧ SqT K H q ys ∧ xs.all flatV = true ∧ ys.all flatV = true ∧ Q (.bl (if neg then !eqVs xs ys else eqVs xs ys)) H
theorem at_eq {A : Around} {s : Shared} {xs ys : List V} {us vs : List Value} (r1 : Vals xs us) (r2 : Vals ys vs) (f1 : xs.all flatV = true) (f2 : ys.all flatV = true) :
    ∀ j (h1 : j < us.toArray.size) (h2 : j < vs.toArray.size), SeqAt.EqAt A s us.toArray[j] vs.toArray[j] (eqV ((xs[j]?).getD .non) ((ys[j]?).getD .non)) := by
  intro j h1 h2
  have l1 := r1.length
  have l2 := r2.length
  rw [List.size_toArray] at h1 h2
  have j1 : j < xs.length := by omega
  have j2 : j < ys.length := by omega
  obtain ⟨u, hu, ru⟩ := r1.get (List.getElem?_eq_getElem j1)
  obtain ⟨v, hv, rv⟩ := r2.get (List.getElem?_eq_getElem j2)
  have eu : us.toArray[j] = u := by
    have := List.getElem?_eq_getElem h1
    rw [hu] at this
    simpa using (Option.some.inj this).symm
  have ev : vs.toArray[j] = v := by
    have := List.getElem?_eq_getElem h2
    rw [hv] at this
    simpa using (Option.some.inj this).symm
  rw [eu, ev, List.getElem?_eq_getElem j1, List.getElem?_eq_getElem j2, Option.getD_some, Option.getD_some]
  exact eqAt_V ru rv (List.all_eq_true.mp f1 _ (List.getElem_mem j1)) (List.all_eq_true.mp f2 _ (List.getElem_mem j2))
theorem op_eqT (hu : X.A.units < cLine) : OpR X (compareOp .Eq) (rEqT X.K false) := by
  intro pins s σ H x y v u Q I rx ry h
  obtain ⟨p, q, xs, ys, rfl, rfl, h1, h2, f1, f2, qq⟩ := h
  cases rx
  cases ry
  obtain ⟨us, r1, t1, _⟩ := I.tuple h1
  obtain ⟨vs, r2, t2, _⟩ := I.tuple h2
  refine SeqAt.eq_tupleAt (show s.heap.IsTuple p us.toArray from t1) (show s.heap.IsTuple q vs.toArray from t2) hu (at_eq r1 r2 f1 f2) ⟨.bl (eqVs xs ys), H, I, ?_, qq⟩
  show Value.bool _ = Value.bool _
  unfold eqVs
  rw [List.size_toArray, List.size_toArray, r1.length, r2.length]
def rEqTS (K : PySem.W.Frag) : R2 := fun x y H Q => ∃ p xs z, x = .ref p ∧ y = .str z ∧ SqT K H p xs ∧ Q (.bl false) H
theorem op_eqTS (hu : X.A.units < cLine) : OpR X (compareOp .Eq) (rEqTS X.K) := by
  intro pins s σ H x y v u Q I rx ry h
  obtain ⟨p, xs, z, rfl, rfl, h1, qq⟩ := h
  cases rx
  obtain ⟨t, rfl⟩ := ry
  obtain ⟨us, r1, t1, _⟩ := I.tuple h1
  exact SeqAt.RcAt.tuple_str z t (show s.heap.IsTuple p us.toArray from t1) hu X.prog X.w X.xe _ ⟨.bl false, H, I, rfl, qq⟩
theorem op_neT (hu : X.A.units < cLine) : OpR X (compareOp .NotEq) (rEqT X.K true) := by
  intro pins s σ H x y v u Q I rx ry h
  obtain ⟨p, q, xs, ys, rfl, rfl, h1, h2, f1, f2, qq⟩ := h
  cases rx
  cases ry
  obtain ⟨us, r1, t1, _⟩ := I.tuple h1
  obtain ⟨vs, r2, t2, _⟩ := I.tuple h2
  refine SeqAt.RcNeAt.tuples (show s.heap.IsTuple p us.toArray from t1) (show s.heap.IsTuple q vs.toArray from t2) hu (at_eq r1 r2 f1 f2) X.prog X.w X.xe _ ⟨.bl (!eqVs xs ys), H, I, ?_, qq⟩
  show Value.bool _ = Value.bool _
  unfold eqVs
  rw [List.size_toArray, List.size_toArray, r1.length, r2.length]
end
section
variable {X : Cx}
def rEqL (K : PySem.W.Frag) (neg : Bool) : R2 := fun x y H Q => ∃ p q xs ys, x = .ref p ∧ y = .ref q ∧ SqL K H p xs ∧ SqL K H q ys ∧ xs.all flatV = true ∧ ys.all flatV = true ∧ Q (.bl (if neg then !eqVs xs ys else eqVs xs ys)) H
theorem eqVs_len {xs ys : List V} (h : xs.length = ys.length) : eqVs xs ys = (List.range xs.length).all (fun j => eqV ((xs[j]?).getD .non) ((ys[j]?).getD .non)) := by
  unfold eqVs; rw [← h, Nat.min_self]; simp
theorem eqVs_ne {xs ys : List V} (h : ¬ xs.length = ys.length) : eqVs xs ys = false := by
  unfold eqVs; rw [Bool.and_eq_false_iff]; right; simpa using h
theorem op_eqL (hu : X.A.units < cLine) : OpR X (compareOp .Eq) (rEqL X.K false) := by
  intro pins s σ H x y v u Q I rx ry h
  obtain ⟨p, q, xs, ys, rfl, rfl, h1, h2, f1, f2, qq⟩ := h
  cases rx
  cases ry
  obtain ⟨us, r1, t1, _⟩ := I.list h1
  obtain ⟨vs, r2, t2, _⟩ := I.list h2
  have l1 := r1.length
  have l2 := r2.length
  by_cases c : xs.length = ys.length
  · refine SeqAt.eq_listAt t1.isList t2.isList (by rw [List.size_toArray, List.size_toArray]; omega) hu (at_eq r1 r2 f1 f2) ⟨.bl (eqVs xs ys), H, I, ?_, qq⟩
    show Value.bool _ = Value.bool _
    rw [eqVs_len c, List.size_toArray, l1]
  · refine SeqAt.eq_list_lengthsAt t1.isList t2.isList (by rw [List.size_toArray, List.size_toArray]; simp; omega) hu ⟨.bl (eqVs xs ys), H, I, ?_, qq⟩
    show Value.bool _ = Value.bool _
    rw [eqVs_ne c]
theorem op_neL (hu : X.A.units < cLine) : OpR X (compareOp .NotEq) (rEqL X.K true) := by
  intro pins s σ H x y v u Q I rx ry h
  obtain ⟨p, q, xs, ys, rfl, rfl, h1, h2, f1, f2, qq⟩ := h
  cases rx
  cases ry
  obtain ⟨us, r1, t1, _⟩ := I.list h1
  obtain ⟨vs, r2, t2, _⟩ := I.list h2
  have l1 := r1.length
  have l2 := r2.length
  by_cases c : xs.length = ys.length
  · refine SeqAt.RcNeAt.lists t1.isList t2.isList (by rw [List.size_toArray, List.size_toArray]; omega) hu (at_eq r1 r2 f1 f2) X.prog X.w X.xe _ ⟨.bl (!eqVs xs ys), H, I, ?_, qq⟩
    show Value.bool _ = Value.bool _
    rw [eqVs_len c, List.size_toArray, l1]
  · refine SeqAt.RcNeAt.lists_lengths t1.isList t2.isList (by rw [List.size_toArray, List.size_toArray]; simp; omega) hu X.prog X.w X.xe _ ⟨.bl (!eqVs xs ys), H, I, ?_, qq⟩
    show Value.bool _ = Value.bool _
    rw [eqVs_ne c]; rfl
end
section
variable {prog : Program} {w : World} {A : Around} {E : Value → Shared → Prop}
theorem draw_listU {it t : Addr} {items : Array Value} (hne : t ≠ it) : ∀ (n i : Nat) (s : Shared) (Q : List Value → Shared → Prop), s.heap.IsListIter it t i → s.heap.IsList t items → i + n ≤ items.size →
    (∀ h' : Heap, h'.IsListIter it t (i + n) → Heap.SameBut it s.heap h' → Q ((items.toList.drop i).take n) { s with heap := h' }) → wpAny (model prog w) A (draw (.ref it) n) Q E s
  | 0, i, s, Q, hit, _, _, hQ => by
    show wpAny _ _ (pure []) Q E s
    exact wpAny_pure (by simpa using hQ s.heap hit (Heap.SameBut.refl ..))
  | n + 1, i, s, Q, hit, ht, hle, hQ => by
    have hlt : i < items.size := by omega
    show wpAny _ _ (pyNext (.ref it) >>= _) Q E s
    refine wpAny_bind (wpAny_pyNext_list_item hit ht (x := items[i]) (by simp [hlt]) fun h₁ hit₁ hs₁ => ?_)
    refine wpAny_bind (wpAny_holding (draw_listU hne n (i + 1) _ _ hit₁ (ht.extBut hs₁.extBut hne) (by omega) fun h₂ hit₂ hs₂ => wpAny_pure ?_))
    have hd : items.toList.drop i = items[i] :: items.toList.drop (i + 1) := by simp [List.drop_eq_getElem_cons, hlt]
    have := hQ h₂ (by rw [show i + (n + 1) = i + 1 + n by omega]; exact hit₂) (hs₁.trans hs₂)
    rw [hd, List.take_succ_cons] at this
    exact this
theorem unpackItems_listU {s : Shared} {t : Addr} {items : Array Value} {Q : List Value → Shared → Prop} (hh : A.handled = none) (ht : s.heap.IsList t items)
    (hQ : ∀ h' : Heap, Heap.ExtBut s.heap.objs.size s.heap h' → Q items.toList { s with heap := h' }) : wpAny (model prog w) A (unpackItems (.ref t) items.size none) Q E s := by
  have hlt : t ≠ s.heap.objs.size := by obtain ⟨o, ho, _⟩ := ht; exact Nat.ne_of_lt (Heap.lt_size ho)
  unfold unpackItems
  refine wpAny_bind ?_
  · unfold notIterableAtAll
    refine wpAny_bind (wpAny_specialOf ht.typeIs slot_list_iter.lookup ?_)
    refine wpAny_pure ?_
    simp only [Bool.false_eq_true, if_false]
    refine wpAny_bind (wpAny_holding (wpAny_pyIter_list ht ?_))
    refine wpAny_bind (wpAny_holding (draw_listU hlt items.size 0 _ _ ⟨_, Heap.get?_push_size _ rfl, rfl, rfl⟩ (ht.push _) (by omega) fun h₁ hit₁ hs₁ => ?_))
    have hall : List.take items.size (List.drop 0 items.toList) = items.toList := by
      rw [List.drop_zero]; exact List.take_of_length_le (by simp)
    rw [hall]
    rw [if_neg (by simp)]
    have ht₁ : h₁.IsList t items := (ht.push _).extBut hs₁.extBut hlt
    refine wpAny_bind (wpAny_holding (wpAny_pyNext_list_end hh hit₁ ht₁ (by simp) fun h₂ he₂ => ?_))
    simp only [Option.isSome_none, Bool.false_eq_true, if_false]
    refine wpAny_pure (hQ h₂ fun b o hb e => he₂ b o hb (hs₁.extBut b o hb (Heap.get?_push_of_some _ e)))
end
section
variable {X : Cx} {pos : Pos}
def gTupL (K : PySem.W.Frag) (n : Nat) (t : TGs) : TG := fun v σ H Q => ∃ a xs, v = .ref a ∧ SqL K H a xs ∧ xs.length = n ∧ t xs σ H Q
theorem pg_tupL {es : List Expr} {k : Nat} {t : TGs} {n : Nat} (hc : X.calm = true) (h : PGs X es t)
    (hn : (assignEach es X.env).length = n := by rfl) (hst : (assignEach es X.env).findIdx? (·.1) = none := by rfl) : PG X (.Tuple es k pos) (gTupL X.K n t) := by
  intro pins s σ H v u Q I r hw
  obtain ⟨a, xs, e1, hq, hl, hw⟩ := hw
  subst e1
  cases r
  obtain ⟨its, rv, ht, hz⟩ := I.list hq
  rw [assign_Tuple]
  refine wpAny_bind (wpAny_standAt ?_)
  unfold unpack
  have e : (assignEach es X.env).length = its.toArray.size := by simp [hn, ← hl, rv.length]
  rw [e, hst]
  refine wpAny_bind (wpAny_holding (unpackItems_listU (I.ok.hd hc) ht.isList fun h' hx => ?_))
  have I1 : Inv X pins σ H { s with heap := h' } := I.kept (t' := s.toks) fun b o e => hx b o (Nat.ne_of_lt (Heap.lt_size e)) e
  exact h pins _ σ H xs _ Q I1 (by simpa using rv) hw
end
end L2
end
section
set_option Elab.async false
set_option linter.all false
set_option maxRecDepth 100000
set_option maxHeartbeats 4000000
namespace L2
open PySem PySem.Spec PyProof.Rows
def rStr2 : R2 := fun x y H Q => ∃ i j, x = .str i ∧ y = .str j ∧ i.length + j.length ≤ sizeLine ∧ Q (.str (i ++ j)) H
def rPlus (K : PySem.W.Frag) : R2 := fun x y H Q => rI0 (fun i j => .int (i + j)) x y H Q ∨ (rStr2 x y H Q ∨ (rCat x y H Q ∨ rCatT K x y H Q))
def rSub2 : R2 := rI0 fun i j => .int (i - j)
def rTimes (K : PySem.W.Frag) : R2 := fun x y H Q => rI CMul (fun i j => .int (i * j)) x y H Q ∨ rRepT K x y H Q
def rMod2 : R2 := rI (fun _ j => 0 < j) fun i j => .int (i % j)
def rFdiv2 : R2 := rI CDiv fun i j => .int (i / j)
def rPow2 : R2 := rI CPow fun i j => .int (i ^ j.toNat)
def rEqG (K : PySem.W.Frag) : R2 := fun x y H Q => rEq x y H Q ∨ (rEqT K false x y H Q ∨ (rEqTS K x y H Q ∨ rEqL K false x y H Q))
def rNeG (K : PySem.W.Frag) : R2 := fun x y H Q => rNe x y H Q ∨ (rEqT K true x y H Q ∨ rEqL K true x y H Q)
def rLt2 : R2 := rI0 fun i j => .bl (decide (i < j))
def rGt2 : R2 := rI0 fun i j => .bl (decide (j < i))
def rNotN : R2 := fun x y H Q => y = .non ∧ Q (.bl (!decide (x = .non))) H
def rNeg : V → Hp → VK → Prop := rU fun i => .int (-i)
def rSl (K : PySem.W.Frag) : V → Option Int → Option Int → Hp → VK → Prop := fun x lo hi H Q => rSlL K x lo hi H Q ∨ rSlT K x lo hi H Q
def rLen (K : PySem.W.Frag) : List V → Hp → VK → Prop := fun xs H Q => ∃ x n, xs = [x] ∧ LenV K x H n ∧ Q (.int n) H
def rDivmod : List V → Hp → VK → Prop := fun xs H Q => ∃ i j, xs = [.int i, .int j] ∧ (0 < j ∧ j < 2 ^ 64) ∧ ∀ p, H p = none → Q (.ref p) (upd H p (.tup [.int (i / j), .int (i % j)]))
def rIsi (K : PySem.W.Frag) : List V → Hp → VK → Prop := fun xs H Q => ∃ x T b, xs = [x, .ty T] ∧ IsiV K H x T b ∧ Q (.bl b) H
def rInt1 : List V → Hp → VK → Prop := fun xs H Q => (∃ i, xs = [.int i] ∧ Q (.int i) H) ∨ ∃ k, xs = [.bl k] ∧ Q (.int (if k then 1 else 0)) H
def rListOf (K : PySem.W.Frag) : List V → Hp → VK → Prop := fun xs H Q => ∃ p ys, xs = [.ref p] ∧ (SqL K H p ys ∨ SqT K H p ys) ∧ ∀ l, H l = none → Q (.ref l) (upd H l (.lst ys))
def rTupleOf (K : PySem.W.Frag) : List V → Hp → VK → Prop := fun xs H Q => ∃ p ys, xs = [.ref p] ∧ ((SqL K H p ys ∧ ∀ l, H l = none → Q (.ref l) (upd H l (.tup ys))) ∨ (SqT K H p ys ∧ Q (.ref p) H))
def iSeq (K : PySem.W.Frag) (tl : TE) : TI := fun σ H R => iList K tl σ H R ∨ iTup K tl σ H R
section
variable {X : Cx}
theorem op_plus : OpR X (binaryOp .Add) (rPlus X.K) := op_add.or (op_add_str.or (op_cat.or op_catT))
theorem op_times : OpR X (binaryOp .Mult) (rTimes X.K) := op_mul.or op_repT
theorem op_eqG (hu : X.A.units < cLine) : OpR X (compareOp .Eq) (rEqG X.K) := op_eq.or ((op_eqT hu).or ((op_eqTS hu).or (op_eqL hu)))
theorem op_neG (hu : X.A.units < cLine) : OpR X (compareOp .NotEq) (rNeG X.K) := op_ne.or ((op_neT hu).or (op_neL hu))
theorem sl_seq : SlR X (rSl X.K) := sl_list.or sl_tup
theorem pi_seq {tg l : Expr} {tl : TE} (hl : PE X l tl) : PI X tg l (iSeq X.K tl) := by
  intro pins s σ H R I h
  rcases h with h | h
  · exact pi_list hl pins s σ H R I h
  · exact pi_tup hl pins s σ H R I h
end
structure Callee (P : Program) (w : World) (K : PySem.W.Frag) (mg : Str → Option Value) (base : Heap) (x : Str) (ps : List Str) (k : Nat) (sp : Sp) : Prop where
  ex : ∃ (f : Addr) (fd : FuncData), mg x = some (.ref f) ∧ PySem.W.keepIn K (.ref f) = true ∧ Binds K fd ps [] ∧ FnOk P w K mg base CX0 k f fd ps sp
theorem pe_fn {X : Cx} {x : Str} {ps : List Str} {k : Nat} {sp : Sp} {e : Expr} {es : List Expr} {t : TA} {p pos : Pos} (c : Callee X.prog X.w X.K X.mg X.base x ps k sp) (hr : Room k X.A) (hg : Gl X x) (ha : PA X (e :: es) t)
    (hdb : (x == ("__debug__" : Str)) = false := by decide) (he : starEach (e :: es) X.env = (false, eval e X.env) :: starEach es X.env := by rfl) (hpl : (backTo pos (starEach es X.env)).any (·.1) = false := by rfl) :
    PE X (.Call (.Name x p) (e :: es) [] pos) (tCall sp [] E0 t) := by
  obtain ⟨f, fd, hm, hk, hb, F⟩ := c.ex
  exact pe_call F hr hg hm hk hb .nil pass0 ha hdb he hpl
structure Blt (mg : Str → Option Value) : Prop where
  len_ : mg "len" = none
  range_ : mg "range" = none
  divmod_ : mg "divmod" = none
  max_ : mg "max" = none
  min_ : mg "min" = none
  sum_ : mg "sum" = none
  all_ : mg "all" = none
  isinstance_ : mg "isinstance" = none
  int_ : mg "int" = none
  bool_ : mg "bool" = none
  list_ : mg "list" = none
  tuple_ : mg "tuple" = none
  enumerate_ : mg "enumerate" = none
  zip_ : mg "zip" = none
  sorted_ : mg "sorted" = none
  set_ : mg "set" = none
  dict_ : mg "dict" = none
  str_ : mg "str" = none
  any_ : mg "any" = none
  reversed_ : mg "reversed" = none
  abs_ : mg "abs" = none
def But (a : Addr) (H H' : Hp) : Prop := ∀ b o, b ≠ a → H b = some o → H' b = some o
theorem But.refl (a : Addr) (H : Hp) : But a H H := fun _ _ _ h => h
theorem But.trans {a : Addr} {H H1 H2 : Hp} (x : But a H H1) (y : But a H1 H2) : But a H H2 := fun c o n h => y c o n (x c o n h)
theorem But.upd_at {a : Addr} {H : Hp} {o : HO} : But a H (upd H a o) := fun b u n h => by rw [upd_ne n]; exact h
theorem But.new {a p : Addr} {H H1 : Hp} {o : HO} (x : But a H H1) (hp : H1 p = none) : But a H (upd H1 p o) := fun b u n h => by
  rw [upd_ne (ne_of_none (x b u n h) hp)]; exact x b u n h
theorem Same.new {p : Addr} {H H1 : Hp} {o : HO} (x : Same H H1) (hp : H1 p = none) : Same H (upd H1 p o) := fun b u h => by
  rw [upd_ne (ne_of_none (x b u h) hp)]; exact x b u h
theorem But.free {a p : Addr} {H H' : Hp} (x : But a H H') (n : p ≠ a) (h : H' p = none) : H p = none := by
  cases q : H p with
  | none => rfl
  | some o => rw [x p o n q] at h; cases h
theorem comp_range {js : List Nat} {k : Nat} {lo : Int} {n : Nat} {g : TG} {tc : TT} {te : TE} {R : Hp → Prop} {σ : St} {H : Hp} {D : Addr} (Pv : Nat → St → Hp → Prop) (h0 : Pv 0 (emS js k σ) (upd H D (.lst [])))
    (hs : ∀ i σ H, i < n → Pv i σ H → g (.int (lo + i)) σ H fun σ2 H2 => sApp D tc te { nx := Pv (i + 1), rt := fun _ _ => False, ct := Pv (i + 1), bk := fun _ H' => R H' } σ2 H2) (hd : ∀ σ H, Pv n σ H → R H) :
    ∃ W : Nat → Nat → St → Hp → Prop, (∃ m, W 0 m (emS js k σ) (upd H D (.lst []))) ∧ ∀ i m σ H, W i m σ H →
      ((Itr lo n).stop i H ∧ R H) ∨ ((Itr lo n).go i H ∧ ∃ N : St → Hp → Prop, (∀ σ' H', N σ' H' → ∃ m', m' < m ∧ W (i + 1) m' σ' H') ∧ ∀ x H', (Itr lo n).yld i H x H' → g x σ H' fun σ2 H2 => sApp D tc te { nx := N, rt := fun _ _ => False, ct := N, bk := fun _ H' => R H' } σ2 H2) :=
  for_range (D := { nx := fun _ H' => R H', rt := fun _ _ => False }) Pv h0 hs hd
theorem comp_list {js : List Nat} {k : Nat} {K : PySem.W.Frag} {a : Addr} {xs : List V} {g : TG} {tc : TT} {te : TE} {R : Hp → Prop} {σ : St} {H : Hp} {D : Addr} (Pv : Nat → St → Hp → Prop) (h0 : Pv 0 (emS js k σ) (upd H D (.lst []))) (hl : ∀ i σ H, i ≤ xs.length → Pv i σ H → SqL K H a xs)
    (hs : ∀ i x σ H, xs[i]? = some x → Pv i σ H → g x σ H fun σ2 H2 => sApp D tc te { nx := Pv (i + 1), rt := fun _ _ => False, ct := Pv (i + 1), bk := fun _ H' => R H' } σ2 H2) (hd : ∀ σ H, Pv xs.length σ H → R H) :
    ∃ W : Nat → Nat → St → Hp → Prop, (∃ m, W 0 m (emS js k σ) (upd H D (.lst []))) ∧ ∀ i m σ H, W i m σ H →
      ((Itl K a).stop i H ∧ R H) ∨ ((Itl K a).go i H ∧ ∃ N : St → Hp → Prop, (∀ σ' H', N σ' H' → ∃ m', m' < m ∧ W (i + 1) m' σ' H') ∧ ∀ x H', (Itl K a).yld i H x H' → g x σ H' fun σ2 H2 => sApp D tc te { nx := N, rt := fun _ _ => False, ct := N, bk := fun _ H' => R H' } σ2 H2) :=
  for_list (D := { nx := fun _ H' => R H', rt := fun _ _ => False }) Pv h0 hl hs hd
theorem comp_tup {js : List Nat} {k : Nat} {K : PySem.W.Frag} {a : Addr} {xs : List V} {g : TG} {tc : TT} {te : TE} {R : Hp → Prop} {σ : St} {H : Hp} {D : Addr} (Pv : Nat → St → Hp → Prop) (h0 : Pv 0 (emS js k σ) (upd H D (.lst []))) (hl : ∀ i σ H, i ≤ xs.length → Pv i σ H → SqT K H a xs)
    (hs : ∀ i x σ H, xs[i]? = some x → Pv i σ H → g x σ H fun σ2 H2 => sApp D tc te { nx := Pv (i + 1), rt := fun _ _ => False, ct := Pv (i + 1), bk := fun _ H' => R H' } σ2 H2) (hd : ∀ σ H, Pv xs.length σ H → R H) :
    ∃ W : Nat → Nat → St → Hp → Prop, (∃ m, W 0 m (emS js k σ) (upd H D (.lst []))) ∧ ∀ i m σ H, W i m σ H →
      ((Itt K a).stop i H ∧ R H) ∨ ((Itt K a).go i H ∧ ∃ N : St → Hp → Prop, (∀ σ' H', N σ' H' → ∃ m', m' < m ∧ W (i + 1) m' σ' H') ∧ ∀ x H', (Itt K a).yld i H x H' → g x σ H' fun σ2 H2 => sApp D tc te { nx := N, rt := fun _ _ => False, ct := N, bk := fun _ H' => R H' } σ2 H2) :=
  for_tup (D := { nx := fun _ H' => R H', rt := fun _ _ => False }) Pv h0 hl hs hd
end L2
end
section
set_option Elab.async false
set_option linter.all false
set_option maxRecDepth 100000
set_option maxHeartbeats 4000000
namespace Bg
open PySem L2
def Tp (H H' : Hp) : Prop := ∀ p xs, H p = some (.tup xs) → H' p = some (.tup xs)
theorem Tp.refl (H : Hp) : Tp H H := fun _ _ h => h
theorem Tp.trans {H H1 H2 : Hp} (x : Tp H H1) (y : Tp H1 H2) : Tp H H2 := fun p xs h => y p xs (x p xs h)
theorem Tp.of_same {H H' : Hp} (x : Same H H') : Tp H H' := fun p xs h => x p _ h
theorem Tp.of_but {a : Addr} {ys : List V} {H H' : Hp} (x : But a H H') (ha : H a = some (.lst ys)) : Tp H H' := fun p xs h => x p _ (by rintro rfl; rw [h] at ha; cases ha) h
theorem Tp.new {p : Addr} {H H1 : Hp} {o : HO} (x : Tp H H1) (hp : H1 p = none) : Tp H (upd H1 p o) := fun b xs h => by
  rw [upd_ne (ne_of_none (x b xs h) hp)]; exact x b xs h
theorem Tp.lst {p : Addr} {H H1 : Hp} {ys : List V} {o : HO} (x : Tp H H1) (hp : H1 p = some (.lst ys)) : Tp H (upd H1 p o) := fun b xs h => by
  have h1 := x b xs h
  rw [upd_ne (by rintro rfl; rw [h1] at hp; cases hp)]; exact h1
structure AllAt {α : Type} (R : V → α → Prop) (vs : List V) (rs : List α) : Prop where
  len : vs.length = rs.length
  at_ : ∀ (i : Nat) v r, vs[i]? = some v → rs[i]? = some r → R v r
theorem AllAt.nil {α : Type} {R : V → α → Prop} : AllAt R [] [] := ⟨rfl, fun i v r h => by simp at h⟩
theorem AllAt.imp {α : Type} {R R' : V → α → Prop} {vs : List V} {rs : List α} (h : AllAt R vs rs) (f : ∀ v r, R v r → R' v r) : AllAt R' vs rs := ⟨h.len, fun i v r a b => f v r (h.at_ i v r a b)⟩
theorem AllAt.snoc {α : Type} {R : V → α → Prop} {vs : List V} {rs : List α} {v : V} {r : α} (h : AllAt R vs rs) (q : R v r) : AllAt R (vs ++ [v]) (rs ++ [r]) := by
  refine ⟨by simp [h.len], fun i w t a b => ?_⟩
  by_cases hi : i < vs.length
  · rw [List.getElem?_append_left hi] at a
    rw [List.getElem?_append_left (by rw [← h.len]; exact hi)] at b
    exact h.at_ i w t a b
  · rw [List.getElem?_append_right (by omega)] at a
    rw [List.getElem?_append_right (by rw [← h.len]; omega)] at b
    have e : i - vs.length = 0 := by
      have := (List.getElem?_eq_some_iff.mp a).1
      simp at this; omega
    rw [e] at a
    rw [← h.len, e] at b
    simp at a b
    rw [← a, ← b]; exact q
theorem AllAt.set {α : Type} {R : V → α → Prop} {vs : List V} {rs : List α} {j : Nat} {v : V} {r : α} (h : AllAt R vs rs) (q : R v r) : AllAt R (vs.set j v) (rs.set j r) := by
  refine ⟨by simp [h.len], fun i w t a b => ?_⟩
  by_cases e : j = i
  · subst e
    have hj : j < vs.length := by have := (List.getElem?_eq_some_iff.mp a).1; rw [List.length_set] at this; exact this
    rw [List.getElem?_set_self hj] at a
    rw [List.getElem?_set_self (by rw [← h.len]; exact hj)] at b
    cases a; cases b; exact q
  · rw [List.getElem?_set_ne e] at a b
    exact h.at_ i w t a b
theorem AllAt.get {α : Type} {R : V → α → Prop} {vs : List V} {rs : List α} (h : AllAt R vs rs) {i : Nat} (hi : i < rs.length) : ∃ v r, vs[i]? = some v ∧ rs[i]? = some r ∧ R v r := by
  have h1 : i < vs.length := by rw [h.len]; exact hi
  exact ⟨vs[i], rs[i], List.getElem?_eq_getElem h1, List.getElem?_eq_getElem hi, h.at_ i _ _ (List.getElem?_eq_getElem h1) (List.getElem?_eq_getElem hi)⟩
theorem AllAt.of_v {α : Type} {R : V → α → Prop} {vs : List V} {rs : List α} (h : AllAt R vs rs) {i : Nat} {v : V} (e : vs[i]? = some v) : ∃ r, rs[i]? = some r ∧ R v r := by
  have h1 := (List.getElem?_eq_some_iff.mp e).1
  obtain ⟨v', r, e1, e2, q⟩ := h.get (i := i) (by rw [← h.len]; exact h1)
  rw [e] at e1; cases e1
  exact ⟨r, e2, q⟩
def ScrAt (K : PySem.W.Frag) (H : Hp) (a : Addr) (ns : List Int) : Prop :=
  (∃ o, H a = some (.frz o (.lst (ns.map V.int)))) ∨ ∃ (o : Obj) (its : Array Value) (n : Nat), K.lookup a = some o ∧ o.cls = .type "list" ∧ o.dict = none ∧ o.data = .seq its n ∧ its.size ≤ sizeLine ∧ Vals (ns.map V.int) its.toList
theorem ScrAt.sq {K : PySem.W.Frag} {H : Hp} {a : Addr} {ns : List Int} (h : ScrAt K H a ns) : SqL K H a (ns.map V.int) := by
  rcases h with ⟨o, h⟩ | h
  · exact .inl (.inr ⟨o, h⟩)
  · exact .inr h
def Fz (H H' : Hp) : Prop := ∀ p o u, H p = some (.frz o u) → H' p = some (.frz o u)
theorem Fz.of_but {a : Addr} {ys : List V} {H H' : Hp} (x : But a H H') (ha : H a = some (.lst ys)) : Fz H H' := fun p o u h => x p _ (by rintro rfl; rw [h] at ha; cases ha) h
theorem Fz.of_same {H H' : Hp} (x : Same H H') : Fz H H' := fun p o u h => x p _ h
theorem ScrAt.mono {K : PySem.W.Frag} {H H' : Hp} {a : Addr} {ns : List Int} (h : ScrAt K H a ns) (f : Fz H H') : ScrAt K H' a ns := by
  rcases h with ⟨o, h⟩ | h
  · exact .inl ⟨o, f _ _ _ h⟩
  · exact .inr h
def Stt (K : PySem.W.Frag) (H : Hp) (st : Addr) (k : Nat) : Prop := ∃ scr ns c, H st = some (.lst [.ref scr, .int (k : Nat), .int c]) ∧ ScrAt K H scr ns ∧ ns.length ≤ 63
theorem Stt.lst {K : PySem.W.Frag} {H : Hp} {st : Addr} {k : Nat} (h : Stt K H st k) : ∃ ys, H st = some (.lst ys) := by
  obtain ⟨scr, ns, c, e, _⟩ := h; exact ⟨_, e⟩
theorem Stt.mono {K : PySem.W.Frag} {H H' : Hp} {a st : Addr} {k : Nat} {ys : List V} (h : Stt K H st k) (x : But a H H') (ha : H a = some (.lst ys)) (n : st ≠ a) : Stt K H' st k := by
  obtain ⟨scr, ns, c, e, q, l⟩ := h
  exact ⟨scr, ns, c, x _ _ n e, q.mono (.of_but x ha), l⟩
theorem Stt.same {K : PySem.W.Frag} {H H' : Hp} {st : Addr} {k : Nat} (h : Stt K H st k) (x : Same H H') : Stt K H' st k := by
  obtain ⟨scr, ns, c, e, q, l⟩ := h
  exact ⟨scr, ns, c, x _ _ e, q.mono (.of_same x), l⟩
theorem Stt.new {K : PySem.W.Frag} {H : Hp} {st p : Addr} {o : HO} {k : Nat} (h : Stt K H st k) (hp : H p = none) : Stt K (upd H p o) st k := h.same ((Same.refl H).new hp)
def sp_draw (K : PySem.W.Frag) : Sp := fun vs H Q _ => ∃ (st : Addr) (m : Int) (k : Nat), vs = [.ref st, .int m] ∧ Stt K H st k ∧ k ≤ 1000000 ∧ 0 < m ∧ m < 2 ^ 64 ∧
  ∀ (d : Int) (H' : Hp), 0 ≤ d → d < m → Stt K H' st (k + 1) → But st H H' → Q (.int d) H'
def sp_worth (K : PySem.W.Frag) : Sp := fun vs H Q _ => ∃ (st : Addr) (k : Nat), vs = [.ref st] ∧ Stt K H st k ∧ k ≤ 900000 ∧
  ∀ (z : Int) (k' : Nat) (H' : Hp), 0 ≤ z → z < 2 ^ 64 → Stt K H' st k' → k' ≤ k + 4 → But st H H' → Q (.int z) H'
def signs : List Str := ["+", "-", "*", "<", "="]
def intsV (ns : List Nat) : List V := ns.map fun n => V.int (n : Nat)
def sp_law (K : PySem.W.Frag) : Sp := fun vs H Q _ => ∃ (scr : Addr) (ns : List Int), vs = [.ref scr] ∧ ScrAt K H scr ns ∧ ns.length ≤ 63 ∧ ∀ H', Q (.bl true) H'
abbrev k_draw : Nat := 0
abbrev K_draw : Nat := 1
abbrev k_worth : Nat := 1
abbrev K_worth : Nat := 2
end Bg
end
section
set_option Elab.async false
set_option linter.all false
set_option maxRecDepth 100000
set_option maxHeartbeats 4000000
namespace Bg
open PySem L2
theorem if_dec {c : Prop} [Decidable c] {A B : Prop} (h1 : c → A) (h2 : ¬ c → B) : if decide c = true then A else B := by
  by_cases h : c
  · rw [decide_eq_true h]; exact iteT (h1 h)
  · rw [decide_eq_false h]; exact iteF (h2 h)
theorem if_not {c : Prop} [Decidable c] {A B : Prop} (h1 : ¬ c → A) (h2 : c → B) : if (!decide c) = true then A else B := by
  by_cases h : c
  · rw [decide_eq_true h]; exact iteF (h2 h)
  · rw [decide_eq_false h]; exact iteT (h1 h)
theorem if_bl {b : Bool} {A B : Prop} (h1 : b = true → A) (h2 : b = false → B) : if b = true then A else B := by
  cases b with
  | true => exact iteT (h1 rfl)
  | false => exact iteF (h2 rfl)
theorem atI_of {α : Type} {xs : List α} {i : Int} {v : α} (h0 : 0 ≤ i) (e : xs[i.toNat]? = some v) : atI xs i = some v := by
  have h1 := (List.getElem?_eq_some_iff.mp e).1
  unfold atI ixN
  rw [if_pos h0, if_pos (by omega)]
  exact e
theorem ixL {K : PySem.W.Frag} {p : Addr} {xs : List V} {i : Int} {v : V} {H : Hp} {Q : VK} (h : SqL K H p xs) (h0 : 0 ≤ i) (e : xs[i.toNat]? = some v) (q : Q v H) : rIx K (.ref p) (.int i) H Q :=
  .inl ⟨p, xs, i, v, rfl, rfl, h, atI_of h0 e, q⟩
theorem ixT {K : PySem.W.Frag} {p : Addr} {xs : List V} {i : Int} {v : V} {H : Hp} {Q : VK} (h : H p = some (.tup xs)) (h0 : 0 ≤ i) (e : xs[i.toNat]? = some v) (q : Q v H) : rIx K (.ref p) (.int i) H Q :=
  .inr (.inl ⟨p, xs, i, v, rfl, rfl, SqT.of h, atI_of h0 e, q⟩)
theorem ixS {K : PySem.W.Frag} {z : Str} {i : Int} {c : Nat} {H : Hp} {Q : VK} (hz : z.length ≤ sizeLine) (h0 : 0 ≤ i) (e : z.cps.toList[i.toNat]? = some c) (q : Q (.str ⟨#[c]⟩) H) : rIx K (.str z) (.int i) H Q :=
  .inr (.inr ⟨z, i, c, rfl, rfl, hz, atI_of h0 e, q⟩)
theorem setL {p : Addr} {xs : List V} {i : Int} {v : V} {H : Hp} {Q : Hp → Prop} (h : H p = some (.lst xs)) (h0 : 0 ≤ i) (h1 : i.toNat < xs.length) (q : Q (upd H p (.lst (xs.set i.toNat v)))) : rSetL (.ref p) (.int i) v H Q := by
  refine ⟨p, xs, i, i.toNat, rfl, rfl, h, ?_, q⟩
  unfold ixN
  rw [if_pos h0, if_pos (by omega)]
theorem smallL {n : Nat} (h : n ≤ 100000) : n < sizeLine := Nat.lt_of_le_of_lt h (by decide)
theorem intsV_get {ns : List Nat} {i : Nat} {n : Nat} (h : ns[i]? = some n) : (intsV ns)[i]? = some (.int (n : Nat)) := by
  unfold intsV; rw [List.getElem?_map, h]; rfl
theorem intsV_len (ns : List Nat) : (intsV ns).length = ns.length := by unfold intsV; rw [List.length_map]
theorem app_yes {D : Addr} {te : TE} {E : Ends} {σ : St} {H : Hp} (h : te σ H fun y H2 => ∃ ys, H2 D = some (.lst ys) ∧ ys.length < sizeLine ∧ E.nx σ (upd H2 D (.lst (ys ++ [y])))) : sApp D tYes te E σ H := by
  unfold sApp tYes
  dsimp only
  rw [if_pos rfl]
  exact h
theorem no {x y : V} {A B : Prop} (h : ¬ x = y) (q : B) : if decide (x = y) = true then A else B := if_dec (fun z => absurd z h) fun _ => q
theorem yes {x : V} {A B : Prop} (q : A) : if decide (x = x) = true then A else B := if_dec (fun _ => q) fun z => absurd rfl z
theorem if_t {b : Bool} {A B : Prop} (e : b = true) (q : A) : if b = true then A else B := by rw [e]; exact iteT q
theorem if_f {b : Bool} {A B : Prop} (e : b = false) (q : B) : if b = true then A else B := by rw [e]; exact iteF q
theorem cut_take (xs : List V) (c : Nat) : cutV xs none (some (c : Int)) = xs.take c := by
  unfold cutV
  rw [HT.sIx_none, HT.sIx_nat, List.drop_zero, Nat.sub_zero, ← List.take_eq_take_min]
theorem But.past {a l : Addr} {H H1 H2 : Hp} (x : But a H H1) (hl : H l = none) (y : But l H1 H2) : But a H H2 := fun c u n h => y c u (ne_of_none h hl) (x c u n h)
end Bg
end
section
set_option Elab.async false
set_option linter.all false
set_option maxRecDepth 100000
set_option maxHeartbeats 4000000
namespace Bg
open PySem L2
section
variable (f : Nat → Nat) (p : Nat → Bool)
def itr : Nat → Nat → Nat
  | 0, n => n
  | k + 1, n => itr k (f n)
theorem itr_add : ∀ a b n, itr f (a + b) n = itr f b (itr f a n)
  | 0, b, n => by rw [Nat.zero_add]; rfl
  | a + 1, b, n => by rw [Nat.succ_add]; exact itr_add a b (f n)
theorem itr_succ (k n : Nat) : itr f (k + 1) n = f (itr f k n) := by rw [itr_add f k 1 n]; rfl
theorem itr_fix {n : Nat} (h : f n = n) : ∀ k, itr f k n = n
  | 0 => rfl
  | k + 1 => by show itr f k (f n) = n; rw [h]; exact itr_fix h k
variable {f p}
theorem itr_stop (hf : ∀ n, p n = false → f n = n) {k n : Nat} (h : p (itr f k n) = false) (m : Nat) : itr f (k + m) n = itr f k n := by
  rw [itr_add, itr_fix f (hf _ h)]
theorem itr_sil (hf : ∀ n, p n = false → f n = n) {m n : Nat} (h : p (itr f m n) = true) {k : Nat} (hk : k ≤ m) : p (itr f k n) = true := by
  cases q : p (itr f k n) with
  | true => rfl
  | false =>
    have e := itr_stop hf q (m - k)
    rw [Nat.add_sub_cancel' hk] at e
    rw [e, q] at h; cases h
theorem itr_round (hf : ∀ n, p n = false → f n = n) {i j n : Nat} (hij : i < j) (e : itr f i n = itr f j n) (h : ∀ k, k < j → p (itr f k n) = true) : ∀ k, p (itr f k n) = true := by
  intro k
  induction k using Nat.strongRecOn with
  | ind k ih =>
    by_cases hk : k < j
    · exact h k hk
    · have e2 : itr f k n = itr f (i + (k - j)) n := by
        rw [itr_add f i, e, ← itr_add f j, Nat.add_sub_cancel' (Nat.le_of_not_lt hk)]
      rw [e2]
      exact ih _ (by omega)
theorem pigeon : ∀ (L : Nat) (g : Nat → Nat), (∀ k, k ≤ L → g k < L) → ∃ i j, i < j ∧ j ≤ L ∧ g i = g j
  | 0, g, h => absurd (h 0 (Nat.le_refl _)) (by omega)
  | L + 1, g, h => by
    by_cases hx : ∃ i, i < L + 1 ∧ g i = g (L + 1)
    · obtain ⟨i, hi, e⟩ := hx
      exact ⟨i, L + 1, hi, Nat.le_refl _, e⟩
    · have hne : ∀ i, i < L + 1 → g i ≠ g (L + 1) := fun i hi e => hx ⟨i, hi, e⟩
      have hb := h (L + 1) (Nat.le_refl _)
      have key : ∀ k, k ≤ L → (if g k = L then g (L + 1) else g k) < L := fun k hk => by
        have h1 := h k (by omega)
        have h2 := hne k (by omega)
        by_cases e : g k = L
        · rw [if_pos e]
          have h3 : g (L + 1) ≠ L := fun z => h2 (by rw [e, z])
          omega
        · rw [if_neg e]; omega
      obtain ⟨i, j, hij, hj, e⟩ := pigeon L (fun k => if g k = L then g (L + 1) else g k) key
      refine ⟨i, j, hij, by omega, ?_⟩
      by_cases e1 : g i = L
      · by_cases e2 : g j = L
        · rw [e1, e2]
        · simp only [if_pos e1, if_neg e2] at e
          exact absurd e.symm (hne j (by omega))
      · by_cases e2 : g j = L
        · simp only [if_neg e1, if_pos e2] at e
          exact absurd e (hne i (by omega))
        · simp only [if_neg e1, if_neg e2] at e
          exact e
theorem itr_ever (hf : ∀ n, p n = false → f n = n) {L n : Nat} (cl : ∀ n, n < L → p n = true → f n < L) (hn : n < L) (h : p (itr f L n) = true) : ∀ k, p (itr f k n) = true := by
  have inn : ∀ k, k ≤ L → itr f k n < L := by
    intro k
    induction k with
    | zero => intro _; exact hn
    | succ k ih =>
      intro hk
      rw [itr_succ]
      exact cl _ (ih (by omega)) (itr_sil hf h (by omega))
  obtain ⟨i, j, hij, hj, e⟩ := pigeon L (fun k => itr f k n) inn
  exact itr_round hf hij e fun k hk => itr_sil hf h (by omega)
end
inductive CRow where
  | num (z : Int)
  | op (s : Str) (i j : Int)
  | keep (i : Int)
  | say (i : Int)
  | jump (to : Int)
  | test (i to : Int)
  | call (k : Int) (as : List Int)
  | give (i : Int)
def cword : CRow → Str
  | .num _ => "num" | .op _ _ _ => "op" | .keep _ => "keep" | .say _ => "say" | .jump _ => "jump" | .test _ _ => "test" | .call _ _ => "call" | .give _ => "give"
def CRowAt (H : Hp) (v : V) : CRow → Prop
  | .num z => ∃ p, v = .ref p ∧ H p = some (.tup [.str "num", .int z])
  | .op s i j => ∃ p, v = .ref p ∧ H p = some (.tup [.str "op", .str s, .int i, .int j])
  | .keep i => ∃ p, v = .ref p ∧ H p = some (.tup [.str "keep", .int i])
  | .say i => ∃ p, v = .ref p ∧ H p = some (.tup [.str "say", .int i])
  | .jump to => ∃ p, v = .ref p ∧ H p = some (.tup [.str "jump", .int to])
  | .test i to => ∃ p, v = .ref p ∧ H p = some (.tup [.str "test", .int i, .int to])
  | .call k as => ∃ p q, v = .ref p ∧ H p = some (.tup [.str "call", .int k, .ref q]) ∧ H q = some (.tup (as.map V.int))
  | .give i => ∃ p, v = .ref p ∧ H p = some (.tup [.str "give", .int i])
theorem CRowAt.mono {H H' : Hp} {v : V} {r : CRow} (h : CRowAt H v r) (t : Tp H H') : CRowAt H' v r := by
  cases r with
  | num z => obtain ⟨p, e, h⟩ := h; exact ⟨p, e, t _ _ h⟩
  | op s i j => obtain ⟨p, e, h⟩ := h; exact ⟨p, e, t _ _ h⟩
  | keep i => obtain ⟨p, e, h⟩ := h; exact ⟨p, e, t _ _ h⟩
  | say i => obtain ⟨p, e, h⟩ := h; exact ⟨p, e, t _ _ h⟩
  | jump to => obtain ⟨p, e, h⟩ := h; exact ⟨p, e, t _ _ h⟩
  | test i to => obtain ⟨p, e, h⟩ := h; exact ⟨p, e, t _ _ h⟩
  | call k as => obtain ⟨p, q, e, h, h'⟩ := h; exact ⟨p, q, e, t _ _ h, t _ _ h'⟩
  | give i => obtain ⟨p, e, h⟩ := h; exact ⟨p, e, t _ _ h⟩
theorem CRowAt.ref {H : Hp} {v : V} {r : CRow} (h : CRowAt H v r) : ∃ p xs, v = .ref p ∧ H p = some (.tup (.str (cword r) :: xs)) := by
  cases r with
  | num z => obtain ⟨p, e, h⟩ := h; exact ⟨p, _, e, h⟩
  | op s i j => obtain ⟨p, e, h⟩ := h; exact ⟨p, _, e, h⟩
  | keep i => obtain ⟨p, e, h⟩ := h; exact ⟨p, _, e, h⟩
  | say i => obtain ⟨p, e, h⟩ := h; exact ⟨p, _, e, h⟩
  | jump to => obtain ⟨p, e, h⟩ := h; exact ⟨p, _, e, h⟩
  | test i to => obtain ⟨p, e, h⟩ := h; exact ⟨p, _, e, h⟩
  | call k as => obtain ⟨p, q, e, h, h'⟩ := h; exact ⟨p, _, e, h⟩
  | give i => obtain ⟨p, e, h⟩ := h; exact ⟨p, _, e, h⟩
abbrev CPart := Int × List CRow
def CPartAt (H : Hp) (v : V) (b : CPart) : Prop := ∃ p r rvs, v = .ref p ∧ H p = some (.tup [.int b.1, .ref r]) ∧ H r = some (.tup rvs) ∧ AllAt (CRowAt H) rvs b.2
theorem CPartAt.mono {H H' : Hp} {v : V} {b : CPart} (h : CPartAt H v b) (t : Tp H H') : CPartAt H' v b := by
  obtain ⟨p, r, rvs, e, h1, h2, h3⟩ := h
  exact ⟨p, r, rvs, e, t _ _ h1, t _ _ h2, h3.imp fun _ _ z => z.mono t⟩
abbrev Code := Int × List CPart
def CodeAt (H : Hp) (v : V) (c : Code) : Prop := ∃ p q pvs, v = .ref p ∧ H p = some (.tup [.int c.1, .ref q]) ∧ H q = some (.tup pvs) ∧ AllAt (CPartAt H) pvs c.2
theorem CodeAt.mono {H H' : Hp} {v : V} {c : Code} (h : CodeAt H v c) (t : Tp H H') : CodeAt H' v c := by
  obtain ⟨p, q, pvs, e, h1, h2, h3⟩ := h
  exact ⟨p, q, pvs, e, t _ _ h1, t _ _ h2, h3.imp fun _ _ z => z.mono t⟩
def placesOf : CRow → List Int
  | .op _ i j => [i, j]
  | .call _ as => as
  | .keep i => [i]
  | .say i => [i]
  | .test i _ => [i]
  | .give i => [i]
  | _ => []
def cgoal : CRow → Option Int
  | .jump to => some to
  | .test _ to => some to
  | _ => none
def cgoalV (r : CRow) : V := match cgoal r with
  | some to => .int to
  | none => .non
def cleads (n : Int) : CRow → List Int
  | .jump to => [to]
  | .test _ to => [n + 1, to]
  | .give _ => []
  | _ => [n + 1]
def cEnd : CRow → Bool
  | .jump _ => true
  | .give _ => true
  | _ => false
def silR : CRow → Bool
  | .keep _ => true
  | .jump _ => true
  | _ => false
def silC (rs : List CRow) (n : Nat) : Bool := match rs[n]? with
  | some r => silR r
  | none => false
def stpC (rs : List CRow) (n : Nat) : Nat := match rs[n]? with
  | some (.keep _) => n + 1
  | some (.jump to) => to.toNat
  | _ => n
theorem stp_fix (rs : List CRow) (n : Nat) (h : silC rs n = false) : stpC rs n = n := by
  unfold silC at h
  unfold stpC
  cases e : rs[n]? with
  | none => rfl
  | some r => rw [e] at h; cases r <;> first | rfl | cases h
def NoRingC (rs : List CRow) : Prop := ∀ n, n < rs.length → silC rs (itr (stpC rs) rs.length n) = false
def Within (rs : List CRow) : Prop := ∀ n, n < rs.length → silC rs n = true → stpC rs n < rs.length
def Closed (rs : List CRow) : Prop := rs.getLast?.map cEnd = some true ∧ ∀ r ∈ rs, ∀ to, cgoal r = some to → 0 ≤ to ∧ to < rs.length
def CallFits (ps : List CPart) (k : Int) (as : List Int) : Prop := 0 ≤ k ∧ k < ps.length ∧ ∀ b, ps[k.toNat]? = some b → (as.length : Int) = b.1
def RowFits (places : Int) (ps : List CPart) (n : Nat) (r : CRow) : Prop :=
  (∀ i ∈ placesOf r, 0 ≤ i ∧ i < places) ∧ (∀ to, cgoal r = some to → 0 ≤ to ∧ to < n) ∧ ∀ k as, r = .call k as → CallFits ps k as
def PartFits (places : Int) (ps : List CPart) (b : CPart) : Prop :=
  (0 ≤ b.1 ∧ b.1 ≤ 4) ∧ b.2 ≠ [] ∧ b.2.getLast?.map cEnd = some true ∧ (∀ r ∈ b.2, RowFits places ps b.2.length r) ∧ NoRingC b.2
def Fits (c : Code) : Prop := (1 ≤ c.1 ∧ c.1 ≤ 16) ∧ ∀ b ∈ c.2, PartFits c.1 c.2 b
theorem within_of {rs : List CRow} (hl : rs.getLast?.map cEnd = some true) (hg : ∀ r ∈ rs, ∀ to, cgoal r = some to → 0 ≤ to ∧ to < rs.length) : Within rs := by
  intro n hn hs
  unfold silC at hs
  unfold stpC
  rw [List.getElem?_eq_getElem hn] at hs ⊢
  have hm := List.getElem_mem hn
  cases e : rs[n] with
  | keep i =>
    show n + 1 < rs.length
    rcases Nat.lt_or_ge (n + 1) rs.length with z | z
    · exact z
    · have e1 : rs.getLast? = some rs[n] := by
        rw [List.getLast?_eq_getElem?]
        have : rs.length - 1 = n := by omega
        rw [this]; exact List.getElem?_eq_getElem hn
      rw [e1, e] at hl
      cases hl
  | jump to =>
    have := hg _ hm to (by rw [e]; rfl)
    show to.toNat < rs.length
    omega
  | num z => rw [e] at hs; cases hs
  | op s i j => rw [e] at hs; cases hs
  | say i => rw [e] at hs; cases hs
  | test i to => rw [e] at hs; cases hs
  | call k as => rw [e] at hs; cases hs
  | give i => rw [e] at hs; cases hs
theorem Closed.within {rs : List CRow} (h : Closed rs) : Within rs := within_of h.1 h.2
end Bg
end
section
set_option Elab.async false
set_option linter.all false
set_option maxRecDepth 100000
set_option maxHeartbeats 4000000
namespace Bg
open PySem L2
def sp_c_goal (_ : PySem.W.Frag) : Sp := fun vs H Q _ => ∃ v r, vs = [v] ∧ CRowAt H v r ∧ Q (cgoalV r) H
def sp_c_leads (_ : PySem.W.Frag) : Sp := fun vs H Q _ => ∃ (rt : Addr) (n : Nat) (rvs : List V) (v : V) (r : CRow), vs = [.ref rt, .int (n : Nat)] ∧ H rt = some (.tup rvs) ∧ rvs[n]? = some v ∧ CRowAt H v r ∧
  ∀ (p : Addr) (H' : Hp), H' p = some (.tup ((cleads (n : Nat) r).map V.int)) → Same H H' → Q (.ref p) H'
def sp_p_places_read (_ : PySem.W.Frag) : Sp := fun vs H Q _ => ∃ v r, vs = [v] ∧ CRowAt H v r ∧ ∀ (p : Addr) (H' : Hp), H' p = some (.tup ((placesOf r).map V.int)) → Same H H' → Q (.ref p) H'
abbrev k_c_goal : Nat := 0
abbrev K_c_goal : Nat := 1
abbrev k_c_leads : Nat := 1
abbrev K_c_leads : Nat := 2
abbrev k_p_places_read : Nat := 0
abbrev K_p_places_read : Nat := 1
def MadeRow (pl n : Nat) (cs : List Nat) : CRow → Prop
  | .num z => 0 ≤ z ∧ z < 2 ^ 64
  | .op s i j => s ∈ signs ∧ (0 ≤ i ∧ i < pl) ∧ 0 ≤ j ∧ j < pl
  | .keep i => 0 ≤ i ∧ i < pl
  | .say i => 0 ≤ i ∧ i < pl
  | .jump to => 0 ≤ to ∧ to < n
  | .test i to => (0 ≤ i ∧ i < pl) ∧ 0 ≤ to ∧ to < n
  | .call k as => (0 ≤ k ∧ k < cs.length) ∧ (∀ c, cs[k.toNat]? = some c → as.length = c) ∧ ∀ i ∈ as, 0 ≤ i ∧ i < pl
  | .give i => 0 ≤ i ∧ i < pl
def sp_code_row (K : PySem.W.Frag) : Sp := fun vs H Q _ => ∃ (st cn : Addr) (pl n k : Nat) (cs : List Nat), vs = [.ref st, .int (pl : Nat), .int (n : Nat), .ref cn] ∧ Stt K H st k ∧ k ≤ 800000 ∧ 1 ≤ pl ∧ pl ≤ 16 ∧ 1 ≤ n ∧ n ≤ 1000 ∧ H cn = some (.lst (intsV cs)) ∧ cs ≠ [] ∧ cs.length ≤ 10 ∧ (∀ c ∈ cs, c ≤ 4) ∧ cn ≠ st ∧
  ∀ (v : V) (r : CRow) (k' : Nat) (H' : Hp), CRowAt H' v r → MadeRow pl n cs r → Stt K H' st k' → k' ≤ k + 10 → But st H H' → Q v H'
def SeqC (H : Hp) (a : Addr) (xs : List V) : Prop := H a = some (.lst xs) ∨ H a = some (.tup xs)
def sp_silent (_ : PySem.W.Frag) : Sp := fun vs H Q _ => ∃ (l : Addr) (n : Nat) (rvs : List V) (rs : List CRow), vs = [.ref l, .int (n : Nat)] ∧ SeqC H l rvs ∧ AllAt (CRowAt H) rvs rs ∧ n < rs.length ∧ Closed rs ∧
  ∀ (H' : Hp), Same H H' → Q (.bl (silC rs (itr (stpC rs) rs.length n))) H'
def sp_code_part (K : PySem.W.Frag) : Sp := fun vs H Q _ => ∃ (st cn : Addr) (pl m k : Nat) (cs : List Nat), vs = [.ref st, .int (pl : Nat), .ref cn, .int (m : Nat)] ∧ Stt K H st k ∧ k ≤ 700000 ∧ 1 ≤ pl ∧ pl ≤ 16 ∧ 1 ≤ m ∧ m ≤ 100 ∧ H cn = some (.lst (intsV cs)) ∧ cs ≠ [] ∧ cs.length ≤ 10 ∧ (∀ c ∈ cs, c ≤ 4) ∧ cn ≠ st ∧
  ∀ (p : Addr) (rvs : List V) (rs : List CRow) (k' : Nat) (H' : Hp), H' p = some (.tup rvs) → AllAt (CRowAt H') rvs rs → 1 ≤ rs.length → rs.length ≤ m → (∀ r ∈ rs, MadeRow pl rs.length cs r) → rs.getLast?.map cEnd = some true → NoRingC rs → Stt K H' st k' → k' ≤ k + 2000 → But st H H' → Q (.ref p) H'
structure MadeOk (m n : Nat) (c : Code) : Prop where
  fits : Fits c
  len : c.2.length = n
  rows : ∀ b ∈ c.2, 1 ≤ b.2.length ∧ b.2.length ≤ m
  ats : ∀ b ∈ c.2, ∀ r ∈ b.2, (placesOf r).length ≤ 4
  nums : ∀ b ∈ c.2, ∀ z, CRow.num z ∈ b.2 → 0 ≤ z ∧ z < 2 ^ 64
  sgn : ∀ b ∈ c.2, ∀ s i j, CRow.op s i j ∈ b.2 → s ∈ signs
def sp_code (K : PySem.W.Frag) : Sp := fun vs H Q _ => ∃ (st : Addr) (m n k : Nat), vs = [.ref st, .int (m : Nat), .int (n : Nat)] ∧ Stt K H st k ∧ k ≤ 600000 ∧ 1 ≤ m ∧ m ≤ 100 ∧ 1 ≤ n ∧ n ≤ 10 ∧
  ∀ (v : V) (c : Code) (k' : Nat) (H' : Hp), CodeAt H' v c → MadeOk m n c → Stt K H' st k' → k' ≤ k + 30000 → But st H H' → Q v H'
abbrev k_code_row : Nat := 2
abbrev K_code_row : Nat := 3
abbrev k_silent : Nat := 0
abbrev K_silent : Nat := 1
abbrev k_code_part : Nat := 3
abbrev K_code_part : Nat := 4
abbrev k_code : Nat := 4
abbrev K_code : Nat := 5
end Bg
end
section
set_option Elab.async false
set_option linter.all false
set_option maxRecDepth 100000
set_option maxHeartbeats 4000000
namespace Bg
open PySem L2
def pushV (b : List V) (x : V) : List V := (x :: b).take b.length
def begunV (n : Nat) (args : List V) (e : V) : List V := args.foldl pushV (List.replicate n e)
def SeqAt (H : Hp) (a : Addr) (xs : List V) : Prop := H a = some (.lst xs) ∨ H a = some (.tup xs)
def sp_p_pushed (_ : PySem.W.Frag) : Sp := fun vs H Q _ => ∃ (b : Addr) (x : V) (xs : List V), vs = [.ref b, x] ∧ H b = some (.tup xs) ∧ xs ≠ [] ∧ xs.length ≤ 1000 ∧
  ∀ (p : Addr) (H' : Hp), H' p = some (.tup (pushV xs x)) → Same H H' → Q (.ref p) H'
def sp_p_begun (_ : PySem.W.Frag) : Sp := fun vs H Q _ => ∃ (n : Nat) (a : Addr) (e : V) (xs : List V), vs = [.int (n : Nat), .ref a, e] ∧ SeqAt H a xs ∧ 1 ≤ n ∧ n ≤ 1000 ∧
  ∀ (p : Addr) (H' : Hp), H' p = some (.tup (begunV n xs e)) → Same H H' → Q (.ref p) H'
abbrev k_p_pushed : Nat := 0
abbrev K_p_pushed : Nat := 1
abbrev k_p_begun : Nat := 1
abbrev K_p_begun : Nat := 2
end Bg
end
section
set_option Elab.async false
set_option linter.all false
set_option maxRecDepth 100000
set_option maxHeartbeats 4000000
namespace Bg
open PySem L2
def unb (s : Str) (a b : Int) : Int := if s = "+" then a + b else if s = "-" then a - b else a * b
def wth (s : Str) (a b : Int) : Int := if s = "<" then (if a < b then 1 else 0) else if s = "=" then (if a = b then 1 else 0) else unb s a b % 18446744073709551616
def Wth (a : Int) : Prop := 0 ≤ a ∧ a < 2 ^ 64
theorem wth_ok (s : Str) (a b : Int) : Wth (wth s a b) := by
  have e : (2 : Int) ^ 64 = 18446744073709551616 := by decide
  unfold wth Wth
  rw [e]
  split
  · split <;> decide
  · split
    · split <;> decide
    · exact ⟨Int.emod_nonneg _ (by decide), Int.emod_lt_of_pos _ (by decide)⟩
def sp_p_unbounded (_ : PySem.W.Frag) : Sp := fun vs H Q _ => ∃ (s : Str) (a b : Int), vs = [.str s, .int a, .int b] ∧ Wth a ∧ Wth b ∧ Q (.int (unb s a b)) H
def sp_p_worth (_ : PySem.W.Frag) : Sp := fun vs H Q _ => ∃ (s : Str) (a b : Int), vs = [.str s, .int a, .int b] ∧ Wth a ∧ Wth b ∧ Q (.int (wth s a b)) H
abbrev k_p_unbounded : Nat := 0
abbrev K_p_unbounded : Nat := 1
abbrev k_p_worth : Nat := 1
abbrev K_p_worth : Nat := 2
end Bg
end
section
set_option Elab.async false
set_option linter.all false
set_option maxRecDepth 100000
set_option maxHeartbeats 4000000
set_option autoImplicit true
set_option relaxedAutoImplicit true
namespace L2
open PySem PySem.Spec PyProof.Rows
structure QE (X : Cx) (e : Expr) (t : TE) : Prop where
  up : PE X e t
structure QT (X : Cx) (e : Expr) (t : TT) : Prop where
  up : PT X e t
structure QW (X : Cx) (e : Expr) (t : TT) : Prop where
  up : PW X e t
structure QA (X : Cx) (e : List Expr) (t : TA) : Prop where
  up : PA X e t
structure QS (X : Cx) (e : Stmt) (t : TS) : Prop where
  up : PS X e t
structure QSs (X : Cx) (e : List Stmt) (t : TS) : Prop where
  up : PSs X e t
structure QG (X : Cx) (e : Expr) (t : TG) : Prop where
  up : PG X e t
structure QGs (X : Cx) (e : List Expr) (t : TGs) : Prop where
  up : PGs X e t
structure QI (X : Cx) (a b : Expr) (t : TI) : Prop where
  up : PI X a b t
structure QO (X : Cx) (e : Option Expr) (t : TO) : Prop where
  up : PO X e t
structure QIfs (X : Cx) (e : List Expr) (t : TT) : Prop where
  up : PIfs X e t
theorem qv (i : Nat) {x : Str} {pos : Pos} (hN : X.N[i]? = some x := by rfl) (hv : Vis X.env.scope x := by first | exact Or.inl rfl | exact Or.inr (Or.inl rfl) | exact Or.inr (Or.inr rfl)) (hd : (x == ("__debug__" : Str)) = false := by decide) (hcd : (x == ("__classdict__" : Str)) = false := by decide) : QE X (.Name x pos) (tVar i) :=
  ⟨pv i hN hv hd hcd⟩
theorem qe_int {i j pos} : QE X (.Constant (.int i) j pos) (tC (.int i)) :=
  ⟨pe_int ⟩
theorem qe_bl {b j pos} : QE X (.Constant (.bool b) j pos) (tC (.bl b)) :=
  ⟨pe_bl ⟩
theorem qe_non {j pos} : QE X (.Constant .none j pos) (tC .non) :=
  ⟨pe_non ⟩
theorem qe_str {x j pos} : QE X (.Constant (.str x) j pos) (tC (.str x)) :=
  ⟨pe_str ⟩
theorem qe_op {op : Operator} {r : R2} (ho : OpR X (binaryOp op) r) (ha : QE X a ta) (hb : QE X b tb) : QE X (.BinOp a op b pos) (tOp r ta tb) :=
  ⟨pe_op ho ha.up hb.up⟩
theorem qe_un {op : UnaryOp} {r : V → Hp → VK → Prop} (ho : UnR X (unaryOp op) r) (ha : QE X a ta) : QE X (.UnaryOp op a pos) (tUn r ta) :=
  ⟨pe_un ho ha.up⟩
theorem qe_not (ha : QE X a ta) : QE X (.UnaryOp .Not a pos) (tNotV ta) :=
  ⟨pe_not ha.up⟩
theorem qe_cmpR {op : CmpOp} {r : R2} (ho : OpR X (compareOp op) r) (ha : QE X a ta) (hb : QE X b tb) (hm : behindInMarks op b = false) : QE X (.Compare a [op] [b] pos) (tOp r ta tb) :=
  ⟨pe_cmpR ho ha.up hb.up hm⟩
theorem qe_and {rest : List Expr} (ha : QE X a ta) (hb : QE X (.BoolOp .And (b :: rest) pos) tb) : QE X (.BoolOp .And (a :: b :: rest) pos) (tAndV ta tb) :=
  ⟨pe_and ha.up hb.up⟩
theorem qe_one {op} {t : TE} (h : QE X a t) : QE X (.BoolOp op [a] pos) t :=
  ⟨pe_one h.up⟩
theorem qe_ifExp {c : Expr} (hc : QT X c tA) (ha : QE X a ta) (hb : QE X b tb) : QE X (.IfExp c a b pos) (tIf tA ta tb) :=
  ⟨pe_ifExp hc.up ha.up hb.up⟩
theorem qe_slice {lo hi : Option Expr} {r : V → Option Int → Option Int → Hp → VK → Prop} (hr : SlR X r) (he : QE X e te) (hl : QO X lo tl) (hu : QO X hi th) : QE X (.Subscript e (.Slice lo hi none p2) pos) (tSl r te tl th) :=
  ⟨pe_slice hr he.up hl.up hu.up⟩
theorem qe_ix {r : R2} (hr : IxR X r) (ha : QE X a ta) (hb : QE X b tb) (hs : PlainIx b) : QE X (.Subscript a b pos) (tOp r ta tb) :=
  ⟨pe_ix hr ha.up hb.up hs⟩
theorem qe_tup {x1} (h : QA X es t) : QE X (.Tuple es x1 pos) (tTup t) :=
  ⟨pe_tup h.up⟩
theorem qe_lst (h : QA X es t) : QE X (.List es pos) (tLst t) :=
  ⟨pe_lst h.up⟩
theorem qe_bm {id : String} (pa : PlainAttrs T) (slot : Slot T name id) (hty : typeOf (.builtin id) = pure (.type "method_descriptor")) (hm : MtR X id r) (ho : QE X o to) (ha : QA X (e :: es) t) (hbase : attributeBase o name X.env (eval o X.env) = eval o X.env := by rfl) (hfew : ((backTo cpos (starEach (e :: es) X.env)).all (fun x => !x.1) && (backToKw cpos (keywordEach [] X.env)).all (fun x => x.1.isSome)
      && decide ((e :: es).length + ([] : List Keyword).length + (if ([] : List Keyword).isEmpty then 0 else 1) < 30)) = true := by rfl) (hline : (apos.endLine == cpos.line) = true := by rfl) (hs : starEach (e :: es) X.env = (false, eval e X.env) :: starEach es X.env := by rfl) (hplain : (backTo cpos (starEach es X.env)).any (·.1) = false := by rfl) : QE X (.Call (.Attribute o name apos) (e :: es) [] cpos) (tBM X.K T r to t) :=
  ⟨pe_bm pa slot hty hm ho.up ha.up hbase hfew hline hs hplain⟩
theorem qe_bm0 {id : String} (pa : PlainAttrs T) (slot : Slot T name id) (hty : typeOf (.builtin id) = pure (.type "method_descriptor")) (hm : MtR X id r) (ho : QE X o to) (hbase : attributeBase o name X.env (eval o X.env) = eval o X.env := by rfl) (hline : (apos.endLine == cpos.line) = true := by rfl) : QE X (.Call (.Attribute o name apos) [] [] cpos) (tBM0 X.K T r to) :=
  ⟨pe_bm0 pa slot hty hm ho.up hbase hline⟩
theorem qe_callB {id : String} (hc : CallR X (.builtin id) r) (hg : Gl X x) (hm : X.mg x = none) (hv : bootBuiltins x = some (.builtin id)) (ha : QA X (e :: es) t) (hn : x ≠ "__name__" := by decide) (hdb : (x == ("__debug__" : Str)) = false := by decide) (he : starEach (e :: es) X.env = (false, eval e X.env) :: starEach es X.env := by rfl) (hpl : (backTo pos (starEach es X.env)).any (·.1) = false := by rfl) : QE X (.Call (.Name x p) (e :: es) [] pos) (tCB r t) :=
  ⟨pe_callB hc hg hm hv ha.up hn hdb he hpl⟩
theorem qe_callTy (hc : CallR X (.type T) r) (hg : Gl X x) (hm : X.mg x = none) (hv : bootBuiltins x = some (.type T)) (ha : QA X (e :: es) t) (hn : x ≠ "__name__" := by decide) (hdb : (x == ("__debug__" : Str)) = false := by decide) (he : starEach (e :: es) X.env = (false, eval e X.env) :: starEach es X.env := by rfl) (hpl : (backTo pos (starEach es X.env)).any (·.1) = false := by rfl) : QE X (.Call (.Name x p) (e :: es) [] pos) (tCB r t) :=
  ⟨pe_callTy hc hg hm hv ha.up hn hdb he hpl⟩
theorem qe_fn {X : Cx} {x : Str} {ps : List Str} {k : Nat} {sp : Sp} {e : Expr} {es : List Expr} {t : TA} {p pos : Pos} (c : Callee X.prog X.w X.K X.mg X.base x ps k sp) (hr : Room k X.A) (hg : Gl X x) (ha : QA X (e :: es) t) (hdb : (x == ("__debug__" : Str)) = false := by decide) (he : starEach (e :: es) X.env = (false, eval e X.env) :: starEach es X.env := by rfl) (hpl : (backTo pos (starEach es X.env)).any (·.1) = false := by rfl) : QE X (.Call (.Name x p) (e :: es) [] pos) (tCall sp [] E0 t) :=
  ⟨pe_fn c hr hg ha.up hdb he hpl⟩
theorem qe_comp {wi : TI} (ok : CompOk sc N scope NY js) (hsc : X.env.scope = sc) (hN : X.N = N) (hk : NY.length = N.length + k) (hc : X.calm = true) (hit : QI X target iter wi) (hg : ∀ cl C s₀ H₀ fp, QG (cxComp X NY scope cl C s₀ H₀ fp) target g) (hi : ∀ cl C s₀ H₀ fp, QIfs (cxComp X NY scope cl C s₀ H₀ fp) ifs tc) (he : ∀ cl C s₀ H₀ fp, QE (cxComp X NY scope cl C s₀ H₀ fp) elt te) (hs : ∀ x, foldedSetIterable iter X.env x = pure x := by intro _; rfl) : QE X (.ListComp elt [⟨target, iter, ifs, 0⟩] scope pos) (tComp js k wi g tc te) :=
  ⟨pe_comp ok hsc hN hk hc hit.up (fun cl C s₀ H₀ fp => (hg cl C s₀ H₀ fp).up) (fun cl C s₀ H₀ fp => (hi cl C s₀ H₀ fp).up) (fun cl C s₀ H₀ fp => (he cl C s₀ H₀ fp).up) hs⟩
theorem qs_comp {wi : TI} {i : Nat} {y : Str} {py spos : Pos} (ok : CompOk sc N scope NY js) (hsc : X.env.scope = sc) (hN : X.N = N) (hk : NY.length = N.length + k) (hc : X.calm = true) (hit : QI X target iter wi) (hg : ∀ cl C s₀ H₀ fp, QG (cxComp X NY scope cl C s₀ H₀ fp) target g) (hi : ∀ cl C s₀ H₀ fp, QIfs (cxComp X NY scope cl C s₀ H₀ fp) ifs tc) (he : ∀ cl C s₀ H₀ fp, QE (cxComp X NY scope cl C s₀ H₀ fp) elt te) (nd : X.N.Nodup) (hy : X.N[i]? = some y) (hl : Loc X.env.scope y) (hsw : swapsWith (.ListComp elt [⟨target, iter, ifs, 0⟩] scope pos) (some (.Name y py)) spos.line X.env = pure true) (hs : ∀ x, foldedSetIterable iter X.env x = pure x := by intro _; rfl) (hf : X.fn y = true ∨ X.env.scope.names.lookup y = some .local := by first | exact .inl rfl | exact .inr rfl | assumption) : QS X (.Assign [.Name y py] (.ListComp elt [⟨target, iter, ifs, 0⟩] scope pos) spos) (tAsg (tComp js k wi g tc te) (gName i)) :=
  ⟨ps_comp ok hsc hN hk hc hit.up (fun cl C s₀ H₀ fp => (hg cl C s₀ H₀ fp).up) (fun cl C s₀ H₀ fp => (hi cl C s₀ H₀ fp).up) (fun cl C s₀ H₀ fp => (he cl C s₀ H₀ fp).up) nd hy hl hsw hs hf⟩
theorem qo_none  : QO X none tNoPart :=
  ⟨po_none ⟩
theorem qo_some (h : QE X e te) : QO X (some e) (tPart te) :=
  ⟨po_some h.up⟩
theorem qa_nil  : QA X [] tNil :=
  ⟨pa_nil ⟩
theorem qa_cons (ha : QE X e te) (hr : QA X es t) (hs : starEach (e :: es) X.env = (false, eval e X.env) :: starEach es X.env := by rfl) : QA X (e :: es) (tCons te t) :=
  ⟨pa_cons ha.up hr.up hs⟩
theorem qt_cmpR {op : CmpOp} {r : R2} (ho : OpR X (compareOp op) r) (ha : QE X a ta) (hb : QE X b tb) (hm : behindInMarks op b = false) : QT X (.Compare a [op] [b] pos) (tTest (tOp r ta tb)) :=
  ⟨pt_cmpR ho ha.up hb.up hm⟩
theorem qt_not (ha : QT X a tA) : QT X (.UnaryOp .Not a pos) (tNot tA) :=
  ⟨pt_not ha.up⟩
theorem qw_and {rest : List Expr} (ha : QT X a tA) (hb : QW X (.BoolOp .And (b :: rest) pos) tB') : QW X (.BoolOp .And (a :: b :: rest) pos) (tAnd tA tB') :=
  ⟨pw_and ha.up hb.up⟩
theorem qw_and1 (ha : QT X a tA) : QW X (.BoolOp .And [a] pos) tA :=
  ⟨pw_and1 ha.up⟩
theorem qw_or {rest : List Expr} (ha : QT X a tA) (hb : QW X (.BoolOp .Or (b :: rest) pos) tB') : QW X (.BoolOp .Or (a :: b :: rest) pos) (tOr tA tB') :=
  ⟨pw_or ha.up hb.up⟩
theorem qw_or1 (ha : QT X a tA) : QW X (.BoolOp .Or [a] pos) tA :=
  ⟨pw_or1 ha.up⟩
theorem QW.pt {X : Cx} {e : Expr} {t : TT} (h : QW X e t) : QT X e t :=
  ⟨PW.pt h.up⟩
theorem qt_val {e : Expr} {t : TE} (h : QE X e t) (he : ∀ whole, isTrue e X.env whole = (do let v ← whole; standAt e.pos; holding [v] (truthy v)) := by intro _; rfl) : QT X e (tB t) :=
  ⟨pt_val h.up he⟩
theorem qi_range1 {a : Expr} {ta : TA} {p pos : Pos} (hg : Gl X "range") (hm : X.mg "range" = none) (ha : QA X [a] ta) (hs : starEach [a] X.env = [(false, eval a X.env)] := by rfl) : QI X tg (.Call (.Name "range" p) [a] [] pos) (iRng1 ta) :=
  ⟨pi_range1 hg hm ha.up hs⟩
theorem qi_seq {tg l : Expr} {tl : TE} (hl : QE X l tl) : QI X tg l (iSeq X.K tl) :=
  ⟨pi_seq hl.up⟩
theorem qg_name {i : Nat} {x : Str} (hN : X.N.Nodup) (hi : X.N[i]? = some x) (hx : Loc X.env.scope x) (hf : X.fn x = true ∨ X.env.scope.names.lookup x = some .local := by first | exact .inl rfl | exact .inr rfl | assumption) : QG X (.Name x pos) (gName i) :=
  ⟨pg_name hN hi hx hf⟩
theorem qg_tup {es : List Expr} {k : Nat} {t : TGs} {n : Nat} (hc : X.calm = true) (h : QGs X es t) (hn : (assignEach es X.env).length = n := by rfl) (hst : (assignEach es X.env).findIdx? (·.1) = none := by rfl) : QG X (.Tuple es k pos) (gTup X.K n t) :=
  ⟨pg_tup hc h.up hn hst⟩
theorem qg_tupL {es : List Expr} {k : Nat} {t : TGs} {n : Nat} (hc : X.calm = true) (h : QGs X es t) (hn : (assignEach es X.env).length = n := by rfl) (hst : (assignEach es X.env).findIdx? (·.1) = none := by rfl) : QG X (.Tuple es k pos) (gTupL X.K n t) :=
  ⟨pg_tupL hc h.up hn hst⟩
theorem qgs_nil  : QGs X [] gNil :=
  ⟨pgs_nil ⟩
theorem qgs_cons {e : Expr} {es : List Expr} {t : TG} {u : TGs} (h1 : QG X e t) (h2 : QGs X es u) (hs : (assignEach (e :: es) X.env).map (·.2) = assign e X.env :: (assignEach es X.env).map (·.2) := by rfl) : QGs X (e :: es) (gCons t u) :=
  ⟨pgs_cons h1.up h2.up hs⟩
theorem qg_sub {o i : Expr} {to ti : TE} {t : TSet} (ho : QE X o to) (hi : QE X i ti) (hs : PSet X t) (ha : ∀ v, assign (.Subscript o i pos) X.env v = (do
      let ov ← holding [v] (eval o X.env)
      let iv ← holding [v, ov] (eval i X.env)
      standAt pos
      holding [v, ov, iv] (setItem ov iv v)
      release [v, ov, iv] []) := by intro _; rfl) : QG X (.Subscript o i pos) (gSub to ti t) :=
  ⟨pg_sub ho.up hi.up hs ha⟩
theorem qs_set {i : Nat} {x : Str} {e : Expr} {te : TE} {pos' : Pos} (hN : X.N.Nodup) (hi : X.N[i]? = some x) (hx : Loc X.env.scope x) (he : QE X e te) (hs : swapsWith e (some (.Name x pos')) pos.line X.env = pure false := by rfl) (hf : X.fn x = true ∨ X.env.scope.names.lookup x = some .local := by first | exact .inl rfl | exact .inr rfl | assumption) : QS X (.Assign [.Name x pos'] e pos) (tAsg te (gName i)) :=
  ⟨ps_set hN hi hx he.up hs hf⟩
theorem qs_asg {tg e : Expr} {te : TE} {g : TG} (he : QE X e te) (hg : QG X tg g) (hs : swapsWithSole [tg] e pos.line X.env = pure false := by rfl) (hw : swappedStores [tg] e X.env = pure none := by rfl) (h1 : (assignEach [tg] X.env).map (·.2) = [assign tg X.env] := by rfl) : QS X (.Assign [tg] e pos) (tAsg te g) :=
  ⟨ps_asg he.up hg.up hs hw h1⟩
theorem qs_expr (he : QE X e te) (hs : swapsWith e none pos.line X.env = pure false := by rfl) : QS X (.Expr e pos) (tDrop te) :=
  ⟨ps_expr he.up hs⟩
theorem qs_ret (he : QE X e te) : QS X (.Return (some e) pos) (tRet te) :=
  ⟨ps_ret he.up⟩
theorem qs_retN  : QS X (.Return none pos) tRetN :=
  ⟨ps_retN ⟩
theorem qs_if {c : Expr} {a b : List Stmt} {tc : TT} (hc : QT X c tc) (ha : QSs X a t) (hb : QSs X b u) : QS X (.If c a b pos) (tIfS tc t u) :=
  ⟨ps_if hc.up ha.up hb.up⟩
theorem qs_while {c : Expr} {body : List Stmt} {tc : TT} {tb : TS} (hp : PassesOwn (model X.prog X.w) X.A X.env X.xe) (hc : QT X c tc) (hb : QSs X body tb) : QS X (.While c body [] pos) (tWhile tc tb) :=
  ⟨ps_while hp hc.up hb.up⟩
theorem qs_for {iter : Expr} {body : List Stmt} {wi : TI} {g : TG} {tb : TS} {pos : Pos} (hp : PassesOwn (model X.prog X.w) X.A X.env X.xe) (hc : X.calm = true) (hi : QI X tg iter wi) (hg : QG X tg g) (hb : QSs X body tb) (hs : ∀ x, foldedSetIterable iter X.env x = pure x := by intro _; rfl) : QS X (.For tg iter body [] pos) (tFor wi g tb) :=
  ⟨ps_for hp hc hi.up hg.up hb.up hs⟩
theorem qss_cons {st : Stmt} {rest : List Stmt} (h1 : QS X st t) (h2 : QSs X rest u) : QSs X (st :: rest) (tSeq t u) :=
  ⟨pss_cons h1.up h2.up⟩
theorem qss_one {st : Stmt} (h1 : QS X st t) : QSs X [st] t :=
  ⟨pss_one h1.up⟩
theorem qss_nil  : QSs X [] tNext :=
  ⟨pss_nil ⟩
theorem qe_bltn {x : Str} {v : V} {u : Value} {pos : Pos} (hg : Gl X x) (hm : X.mg x = none) (hv : bootBuiltins x = some u) (r : RelV v u) (hn : x ≠ "__name__" := by decide) (hd : (x == ("__debug__" : Str)) = false := by decide) : QE X (.Name x pos) (tC v) :=
  ⟨pe_bltn hg hm hv r hn hd⟩
theorem qif_nil {X : Cx} : QIfs X [] tYes :=
  ⟨pif_nil ⟩
end L2
end
section
set_option Elab.async false
set_option linter.all false
set_option maxRecDepth 100000
namespace L2
open PySem PySem.Spec PyProof.Rows
section
variable {κ : Type} [DecidableEq κ]
def valV (kvs : List (κ × V)) (k : κ) : Option V := (kvs.find? fun kv => decide (kv.1 = k)).map (·.2)
theorem valV_pos {p : κ × V} {r : List (κ × V)} {k : κ} (e : p.1 = k) : valV (p :: r) k = some p.2 := by simp [valV, List.find?_cons, e]
theorem valV_neg {p : κ × V} {r : List (κ × V)} {k : κ} (e : ¬ p.1 = k) : valV (p :: r) k = valV r k := by simp [valV, List.find?_cons, e]
theorem KV.val {kvs : List (κ × V)} {vs : List (κ × Value)} (r : KV kvs vs) (k : κ) : RelO (valV kvs k) (valueAt vs k) := by
  unfold KV at r
  induction r with
  | nil => exact True.intro
  | @cons p q ps qs h t ih =>
    obtain ⟨h1, h2⟩ := h
    by_cases e : p.1 = k
    · have e' : q.1 = k := h1.symm.trans e
      have b : valueAt (q :: qs) k = some q.2 := by simp [valueAt, List.find?_cons, e']
      rw [valV_pos e, b]; exact h2
    · have e' : ¬ q.1 = k := fun z => e (h1.trans z)
      have b : valueAt (q :: qs) k = valueAt qs k := by simp [valueAt, List.find?_cons, e']
      rw [valV_neg e, b]; exact ih
theorem KV.length {kvs : List (κ × V)} {vs : List (κ × Value)} (r : KV kvs vs) : kvs.length = vs.length := Paired.length r
end
section
variable {P : Program} {w : World} {H : Hp} {h : Heap} {a : Addr}
theorem rd_of {u : HO} (ok : HOk P w H h) (e : Rd H a u) : ObjOk P w H h a u := e.ok ok
theorem dk_rd {kvs : List (Key × V)} (ok : HOk P w H h) (e : Rd H a (.dK kvs)) : kvs.length ≤ sizeLine ∧ (a == sysModules) = false ∧ ∃ vs, KV kvs vs ∧ h.DictOf (mixKind P w) a vs :=
  show ObjOk P w H h a (.dK kvs) from rd_of ok e
theorem dk_of {kvs : List (Key × V)} (ok : HOk P w H h) (e : H a = some (.dK kvs)) : kvs.length ≤ sizeLine ∧ (a == sysModules) = false ∧ ∃ vs, KV kvs vs ∧ h.DictOf (mixKind P w) a vs := dk_rd ok (.inl e)
end
section
variable {X : Cx} {pins : List (Addr × Obj)} {σ : St} {H : Hp} {s : Shared} {a : Addr} {y v : V} {u r : Value} {o : Option V} {A : Around} {E : Value → Shared → Prop}
end
section
variable {X : Cx} {pins : List (Addr × Obj)} {σ : St} {H : Hp} {s : Shared} {a : Addr} {kvs : List (Key × V)} {k : Key} {u : Value} {A : Around} {E : Value → Shared → Prop}
end
section
variable {X : Cx} {o i e value : Expr} {pos pos' tpos : Pos} {td ty tv : TE}
end
section
variable {X : Cx} {pos : Pos}
end
section
variable {X : Cx} {pins : List (Addr × Obj)} {σ : St} {H : Hp} {s : Shared} {a : Addr} {y d : V} {u r : Value} {o : Option V} {A : Around} {E : Value → Shared → Prop}
end
section
variable {X : Cx} {o e f : Expr} {apos cpos : Pos} {td ty tx : TE}
end
section
variable {X : Cx} {pins : List (Addr × Obj)} {σ : St} {H : Hp} {s : Shared} {a : Addr} {kvs : List (Key × V)} {A : Around} {E : Value → Shared → Prop}
end
section
variable {X : Cx} {pins : List (Addr × Obj)} {σ : St} {H : Hp} {s : Shared} {a : Addr} {y : V} {u : Value} {A : Around} {E : Value → Shared → Prop}
end
end L2
namespace L2
open PySem PySem.Spec PyProof.Rows
section
variable {X : Cx}
end
section
variable {κ : Type} [DecidableEq κ]
end
end L2
end
section
set_option Elab.async false
set_option linter.all false
set_option maxRecDepth 100000
set_option maxHeartbeats 4000000
namespace L2
open PySem PySem.Spec PyProof.Rows
section
variable {X : Cx}
end
structure FunD (K : PySem.W.Frag) (x qual : Str) (st : Stmt) (dV : Value) (f : Addr) (fd : FuncData) : Prop where
  ex : ∃ (oc : Value) (od : Option Addr) (kV doc pm : Value) (an : Option Addr) (cdv ct : Value) (osl : Array (Option Value)),
    fd = PySem.W.fnOf x qual (defArgs st) (defBody st) (defScope st) dV kV doc pm an cdv ct ∧ K.lookup f = some ⟨oc, od, .func fd, osl⟩ ∧ PySem.W.codeIn K cdv qual = true
  kp : PySem.W.keepIn K (.ref f) = true
section
variable {P : Program} {w : World} {K : PySem.W.Frag} {mg : Str → Option Value} {base : Heap}
theorem FunD.ok {x qual : Str} {st : Stmt} {dV : Value} {f : Addr} {fd : FuncData} {N ps : List Str} {k : Nat} {sp : Sp} (F : FunD K x qual st dV f fd) (S : FnScope N ps (defScope st)) (len : ∀ vs H Q E, sp vs H Q E → vs.length = ps.length)
    (hbody : ∀ (cdv : Value) (A : Around) (outer : List Env) (s : Shared) (H : Hp) (vs : List V) (Q : VK) (E : XK), Room k (A.deeper (envOfC qual (defScope st) s.heap.objs.size f cdv)) → sp vs H Q E →
      ∃ t, PSs (cxOf CX0 P w K mg base N qual (defScope st) f cdv A outer s H E).nox (defBody st) t ∧ t { nx := fun _ H' => Q .non H', rt := Q } (start N vs) H) : FnOk P w K mg base CX0 (k + 1) f fd ps sp := by
  obtain ⟨oc, od, kV, doc, pm, an, cdv, ct, osl, rfl, lk, hcd⟩ := F.ex
  refine fn_of lk hcd S len fun A outer s H vs Q E hr hsp => ?_
  obtain ⟨t, h, q⟩ := hbody cdv A outer s H vs Q E hr hsp
  exact ⟨t, h.nox, q⟩
theorem funD_mk {x qual : Str} {st : Stmt} {dV : Value} {f : Addr} {oc : Value} {od an : Option Addr} {osl : Array (Option Value)} {kV doc pm cdv ct : Value} (l : K.lookup f = some ⟨oc, od, .func (PySem.W.fnOf x qual (defArgs st) (defBody st) (defScope st) dV kV doc pm an cdv ct), osl⟩)
    (c : PySem.W.codeIn K cdv qual = true) (k : PySem.W.keepIn K (.ref f) = true) : FunD K x qual st dV f (PySem.W.fnOf x qual (defArgs st) (defBody st) (defScope st) dV kV doc pm an cdv ct) := ⟨⟨oc, od, kV, doc, pm, an, cdv, ct, osl, rfl, l, c⟩, k⟩
end
structure CalleeD (P : Program) (w : World) (K : PySem.W.Frag) (mg : Str → Option Value) (base : Heap) (x : Str) (ps : List Str) (k : Nat) (dvs : List V) (sp : Sp) : Prop where
  ex : ∃ (f : Addr) (fd : FuncData) (ds : List Value), mg x = some (.ref f) ∧ PySem.W.keepIn K (.ref f) = true ∧ Binds K fd ps ds ∧ Vals dvs ds ∧ FnOk P w K mg base CX0 k f fd ps sp
theorem pe_fnD {X : Cx} {x : Str} {ps : List Str} {k : Nat} {dvs : List V} {sp : Sp} {e : Expr} {es : List Expr} {t : TA} {p pos : Pos} (c : CalleeD X.prog X.w X.K X.mg X.base x ps k dvs sp) (hr : Room k X.A) (hg : Gl X x) (ha : PA X (e :: es) t)
    (hdb : (x == ("__debug__" : Str)) = false := by decide) (he : starEach (e :: es) X.env = (false, eval e X.env) :: starEach es X.env := by rfl) (hpl : (backTo pos (starEach es X.env)).any (·.1) = false := by rfl) :
    PE X (.Call (.Name x p) (e :: es) [] pos) (tCall sp dvs E0 t) := by
  obtain ⟨f, fd, ds, hm, hk, hb, hd, F⟩ := c.ex
  exact pe_call F hr hg hm hk hb hd pass0 ha hdb he hpl
end L2
end
section
set_option Elab.async false
set_option linter.all false
set_option maxRecDepth 100000
set_option maxHeartbeats 4000000
namespace L2
open PySem PySem.Spec PyProof.Rows
theorem qe_fnD {X : Cx} {x : Str} {ps : List Str} {k : Nat} {dvs : List V} {sp : Sp} {e : Expr} {es : List Expr} {t : TA} {p pos : Pos} (c : CalleeD X.prog X.w X.K X.mg X.base x ps k dvs sp) (hr : Room k X.A) (hg : Gl X x) (ha : QA X (e :: es) t)
    (hdb : (x == ("__debug__" : Str)) = false := by decide) (he : starEach (e :: es) X.env = (false, eval e X.env) :: starEach es X.env := by rfl) (hpl : (backTo pos (starEach es X.env)).any (·.1) = false := by rfl) :
    QE X (.Call (.Name x p) (e :: es) [] pos) (tCall sp dvs E0 t) := ⟨pe_fnD c hr hg ha.up hdb he hpl⟩
end L2
end
section
set_option Elab.async false
set_option linter.all false
set_option maxRecDepth 100000
set_option maxHeartbeats 4000000
namespace PySem.W
open PySem PySem.Calls PyProof.Rows PyProof.V PySem.Spec
section
variable {prog : Program} {w : World} {A : Around} {E : Value → Shared → Prop} {s : Shared} {r l : Addr}
end
end PySem.W
namespace L2
open PySem PySem.Spec PyProof.Rows
section
variable {X : Cx}
end
end L2
end
section
set_option Elab.async false
set_option linter.all false
set_option maxRecDepth 100000
set_option maxHeartbeats 4000000
namespace HT
open PySem PyProof.Rows
section
variable {prog : Program} {w : World} {A : Around} {E : Value → Shared → Prop} {s : Shared}
end
end HT
namespace L2
open PySem PySem.Spec PyProof.Rows
section
variable {X : Cx}
end
end L2
end
section
set_option Elab.async false
set_option linter.all false
set_option maxRecDepth 100000
set_option maxHeartbeats 4000000
namespace PySem
open Sem (wp)
namespace F
end F
section
variable {prog : Program} {w : World} {A : Around} {E : Value → Shared → Prop} {s : Shared}
end
section
variable {prog : Program} {w : World} {A : Around} {E : Value → Shared → Prop} {s : Shared} {t1 t2 : Bool}
end
section
variable {prog : Program} {w : World} {A : Around} {E : Value → Shared → Prop} {s : Shared} {t1 t2 : Bool}
end
end PySem
namespace PySem
open Sem (wp)
section
variable {prog : Program} {w : World} {A : Around} {R : Result → Shared → Prop} {t1 t2 : Bool} {K : Type} [DecidableEq K] {knd : KeyKind prog w K}
end
section
variable {prog : Program} {w : World} {A : Around} {E : Value → Shared → Prop} {s : Shared} {t1 t2 : Bool} {K : Type} [DecidableEq K] {knd : KeyKind prog w K}
end
end PySem
namespace L2
open PySem PySem.Spec PyProof.Rows
section
variable {X : Cx}
end
end L2
end
section
set_option Elab.async false
set_option linter.all false
set_option maxRecDepth 100000
set_option maxHeartbeats 4000000
namespace L2
open PySem PySem.Spec PyProof.Rows
def clsAt (K : PySem.W.Frag) (x : Str) : Addr := match PySem.W.nsIn K mainGlobals x with
  | some (some (.ref C)) => C
  | _ => 0
theorem clsAt_of {K : PySem.W.Frag} {x : Str} {C : Addr} (h : PySem.W.nsIn K mainGlobals x = some (some (.ref C))) : clsAt K x = C := by unfold clsAt; rw [h]
def inCls (s : Stmt) (i : Nat) : Stmt := match s with
  | .ClassDef _ _ _ b _ _ _ _ _ _ _ => b.getD i (.Pass ⟨0, 0, 0, 0⟩)
  | _ => .Pass ⟨0, 0, 0, 0⟩
structure MethOk (P : Program) (w : World) (K : PySem.W.Frag) (mg : Str → Option Value) (base : Heap) (C : Addr) (m : Str) (ps : List Str) (k : Nat) (sp : Sp) : Prop where
  ex : ∃ (f : Addr) (fd : FuncData), Meth K C m f ∧ Binds K fd ps [] ∧ FnOk P w K mg base CX0 k f fd ps sp
structure MakeOk (P : Program) (w : World) (K : PySem.W.Frag) (mg : Str → Option Value) (base : Heap) (x : Str) (C : Addr) (ps : List Str) (k : Nat) (sp : Sp) : Prop where
  ex : ∃ (f : Addr) (fd : FuncData), mg x = some (.ref C) ∧ Mk K C f ∧ Binds K fd ps [] ∧ FnOk P w K mg base CX0 k f fd ps sp
section
variable {X : Cx} {C : Addr} {m x : Str} {ps : List Str} {k : Nat} {sp : Sp} {e o : Expr} {es : List Expr} {ta : TE} {t : TA} {p pos apos : Pos}
theorem qe_meth {pl : Sem Bool} (c : Cls X.K C) (M : MethOk X.prog X.w X.K X.mg X.base C m ps k sp) (hr : Room k X.A) (he : QE X o ta) (ha : QA X (e :: es) t)
    (hst : starEach (e :: es) X.env = (false, eval e X.env) :: starEach es X.env := by rfl) (hpl : (backTo pos (starEach es X.env)).any (·.1) = false := by rfl)
    (ht : eval (.Call (.Attribute o m apos) (e :: es) [] pos) X.env = (do
      let ov ← eval o X.env
      standAt apos.atName
      let (f, first) ← holding [ov] (getMethod ov m pl)
      callWith pos f first (backTo pos (starEach (e :: es) X.env)) (backToKw pos (keywordEach [] X.env))) := by rfl) :
    QE X (.Call (.Attribute o m apos) (e :: es) [] pos) (tMeth C m sp [] E0 ta t) := by
  obtain ⟨f, fd, hm, hb, F⟩ := M.ex
  exact ⟨pe_meth (pl := pl) he.up c hm F hr hb .nil pass0 ha.up hst hpl ht⟩
theorem qe_meth0 {pl : Sem Bool} (c : Cls X.K C) (M : MethOk X.prog X.w X.K X.mg X.base C m ps k sp) (hr : Room k X.A) (he : QE X o ta)
    (ht : eval (.Call (.Attribute o m apos) [] [] pos) X.env = (do
      let ov ← eval o X.env
      standAt apos.atName
      let (f, first) ← holding [ov] (getMethod ov m pl)
      callWith pos f first (backTo pos (starEach [] X.env)) (backToKw pos (keywordEach [] X.env))) := by rfl) :
    QE X (.Call (.Attribute o m apos) [] [] pos) (tMeth C m sp [] E0 ta tNil) := by
  obtain ⟨f, fd, hm, hb, F⟩ := M.ex
  exact ⟨pe_meth0 (pl := pl) he.up c hm F hr hb .nil pass0 ht⟩
theorem qe_make (M : MakeOk X.prog X.w X.K X.mg X.base x C ps k sp) (hr : Room (k + 1) X.A) (hg : Gl X x) (ha : QA X (e :: es) t)
    (hdb : (x == ("__debug__" : Str)) = false := by decide) (he : starEach (e :: es) X.env = (false, eval e X.env) :: starEach es X.env := by rfl) (hpl : (backTo pos (starEach es X.env)).any (·.1) = false := by rfl) :
    QE X (.Call (.Name x p) (e :: es) [] pos) (tMake C sp [] E0 t) := by
  obtain ⟨f, fd, hm, hM, hb, F⟩ := M.ex
  exact ⟨pe_make hM F hr hg hm hb .nil pass0 ha.up hdb he hpl⟩
theorem qe_fld {f : Str} (he : QE X e ta) (hb : attributeBase e f X.env (eval e X.env) = eval e X.env) : QE X (.Attribute e f pos) (tFld X.K ta f) := ⟨pe_fld he.up hb⟩
theorem qs_fld {f : Str} {value : Expr} {tv : TE} {pos' : Pos} (ha : QE X o ta) (hv : QE X value tv) (hs : swapsWith value (some (.Attribute o f pos')) pos.line X.env = pure false) : QS X (.Assign [.Attribute o f pos'] value pos) (sFld X.K ta tv f) := ⟨ps_fld ha.up hv.up hs⟩
theorem qs_aug {i : Nat} {y : Str} {te : TE} {op : Operator} {ti : TIp} {pos' : Pos} (hN : X.N.Nodup) (hi : X.N[i]? = some y) (hx : Loc X.env.scope y) (he : QE X e te) (ho : PIp X op ti) (hf : X.fn y = true ∨ X.env.scope.names.lookup y = some .local := by first | exact .inl rfl | exact .inr rfl | assumption) :
    QS X (.AugAssign (.Name y pos') op e pos) (tAug i te ti) := ⟨ps_aug hN hi hx he.up ho hf⟩
end
section
variable {X : Cx}
theorem deep_all {es : List Bool} {us vs : List Value} (h1 : us.length = es.length) (h2 : vs.length = es.length) : ((List.range (min us.toArray.size vs.toArray.size)).all (fun j => (es[j]?).getD false) && us.toArray.size == vs.toArray.size) = es.all id := by
  rw [List.size_toArray, List.size_toArray, h1, h2, Nat.min_self, all_ix]
  simp
end
end L2
end
section
set_option Elab.async false
set_option linter.all false
set_option maxRecDepth 100000
set_option maxHeartbeats 4000000
namespace Bg
open PySem L2
theorem nil_open {σ : St} {H : Hp} {R : List V → Hp → Prop} (h : R [] H) : tNil σ H R := h
structure RunCls (K : PySem.W.Frag) (C : Addr) : Prop where
  cl : Cls K C
  no : NoAttr K C "opened"
  ns : NoAttr K C "spoken"
  nu : NoAttr K C "outcome"
def rFs (ol sl : Addr) : List (Str × V) := [("opened", .ref ol), ("spoken", .ref sl), ("outcome", .non)]
def sp_Run_init (K : PySem.W.Frag) : Sp := fun vs H Q _ => ∃ (x dx C : Addr), vs = [.ref x] ∧ H x = some (.ins C dx []) ∧ RunCls K C ∧
  ∀ (ol sl : Addr) (H' : Hp), H ol = none → H sl = none → ol ≠ sl → H' x = some (.ins C dx (rFs ol sl)) → H' ol = some (.lst []) → H' sl = some (.lst []) → But x H H' → Q .non H'
def sp_Run_ended (K : PySem.W.Frag) : Sp := fun vs H Q _ => ∃ (w C dx ol : Addr) (fs : List (Str × V)) (fvs : List V), vs = [.ref w] ∧ H w = some (.ins C dx fs) ∧ RunCls K C ∧ fs.lookup ("opened" : Str) = some (.ref ol) ∧ H ol = some (.lst fvs) ∧ ∀ b : Bool, (b = true ↔ fvs = []) → Q (.bl b) H
def sp_Run_said (K : PySem.W.Frag) : Sp := fun vs H Q _ => ∃ (w C dx sl : Addr) (fs : List (Str × V)) (xs : List V), vs = [.ref w] ∧ H w = some (.ins C dx fs) ∧ RunCls K C ∧ fs.lookup ("spoken" : Str) = some (.ref sl) ∧ H sl = some (.lst xs) ∧ ∀ l, H l = none → Q (.ref l) (upd H l (.lst xs))
def sp_Run_answer (K : PySem.W.Frag) : Sp := fun vs H Q _ => ∃ (w C dx : Addr) (fs : List (Str × V)) (v : V), vs = [.ref w] ∧ H w = some (.ins C dx fs) ∧ RunCls K C ∧ fs.lookup ("outcome" : Str) = some v ∧ Q v H
abbrev k_Run_init : Nat := 0
abbrev K_Run_init : Nat := 1
abbrev k_Run_ended : Nat := 0
abbrev K_Run_ended : Nat := 1
abbrev k_Run_said : Nat := 0
abbrev K_Run_said : Nat := 1
abbrev k_Run_answer : Nat := 0
abbrev K_Run_answer : Nat := 1
end Bg
end
section
set_option Elab.async false
set_option linter.all false
set_option maxRecDepth 100000
set_option maxHeartbeats 4000000
namespace Bg
open PySem L2
structure MFr where
  part : Nat
  row : Nat
  belt : List Int
structure MSt where
  fs : List MFr
  said : List Int
  out : V
def pushI (b : List Int) (z : Int) : List Int := (z :: b).take b.length
theorem pushI_len (b : List Int) (z : Int) : (pushI b z).length = b.length := by unfold pushI; rw [List.length_take, List.length_cons]; omega
theorem push_i (b : List Int) (z : Int) : pushV (b.map V.int) (.int z) = (pushI b z).map V.int := by
  unfold pushV pushI
  rw [List.length_map, List.map_take, List.map_cons]
def ati (b : List Int) (i : Int) : Int := (b[i.toNat]?).getD 0
def belt0 (c : Code) (zs : List Int) : List Int := zs.foldl pushI (List.replicate c.1.toNat 0)
theorem begun_i (n : Nat) (zs : List Int) : begunV n (zs.map V.int) (.int 0) = (zs.foldl pushI (List.replicate n 0)).map V.int := by
  unfold begunV
  have e : List.replicate n (V.int 0) = (List.replicate n (0 : Int)).map V.int := by rw [List.map_replicate]
  rw [e]
  generalize List.replicate n (0 : Int) = b
  induction zs generalizing b with
  | nil => rfl
  | cons z r ih => rw [List.map_cons, List.foldl_cons, List.foldl_cons, push_i, ih]
theorem fold_len (zs b : List Int) : (zs.foldl pushI b).length = b.length := by
  induction zs generalizing b with
  | nil => rfl
  | cons z r ih => rw [List.foldl_cons, ih, pushI_len]
theorem belt0_len (c : Code) (zs : List Int) : (belt0 c zs).length = c.1.toNat := by unfold belt0; rw [fold_len, List.length_replicate]
def stl1 (rs : List CRow) (p : Nat × List Int) : Nat × List Int := match rs[p.1]? with
  | some (.keep i) => (p.1 + 1, pushI p.2 (ati p.2 i))
  | some (.jump to) => (to.toNat, p.2)
  | _ => p
def stl (rs : List CRow) : Nat → Nat × List Int → Nat × List Int
  | 0, p => p
  | k + 1, p => stl rs k (stl1 rs p)
theorem stl1_row (rs : List CRow) (p : Nat × List Int) : (stl1 rs p).1 = stpC rs p.1 := by
  unfold stl1 stpC
  cases e : rs[p.1]? with
  | none => rfl
  | some r => cases r <;> rfl
theorem stl_row (rs : List CRow) : ∀ k p, (stl rs k p).1 = itr (stpC rs) k p.1
  | 0, p => rfl
  | k + 1, p => by
    show (stl rs k (stl1 rs p)).1 = itr (stpC rs) k (stpC rs p.1)
    rw [stl_row rs k, stl1_row]
theorem stl_add (rs : List CRow) : ∀ a b p, stl rs (a + b) p = stl rs b (stl rs a p)
  | 0, b, p => by rw [Nat.zero_add]; rfl
  | a + 1, b, p => by rw [Nat.succ_add]; exact stl_add rs a b (stl1 rs p)
theorem stl_succ (rs : List CRow) (k : Nat) (p : Nat × List Int) : stl rs (k + 1) p = stl1 rs (stl rs k p) := by rw [stl_add rs k 1 p]; rfl
theorem stl1_fix {rs : List CRow} {p : Nat × List Int} (h : silC rs p.1 = false) : stl1 rs p = p := by
  unfold silC at h
  unfold stl1
  cases e : rs[p.1]? with
  | none => rfl
  | some r => rw [e] at h; cases r <;> first | rfl | cases h
theorem stl_fix {rs : List CRow} {p : Nat × List Int} (h : silC rs p.1 = false) : ∀ k, stl rs k p = p
  | 0 => rfl
  | k + 1 => by show stl rs k (stl1 rs p) = p; rw [stl1_fix h]; exact stl_fix h k
theorem stl_stop {rs : List CRow} {p : Nat × List Int} {k m : Nat} (h : silC rs (stl rs k p).1 = false) (hk : k ≤ m) : stl rs m p = stl rs k p := by
  obtain ⟨d, rfl⟩ : ∃ d, m = k + d := ⟨m - k, by omega⟩
  rw [stl_add, stl_fix h]
def goOn (rs : List CRow) (f : MFr) (to : Nat) : MFr := ⟨f.part, (stl rs rs.length (to, f.belt)).1, (stl rs rs.length (to, f.belt)).2⟩
def rowsOf (c : Code) (k : Nat) : List CRow := ((c.2[k]?).map (·.2)).getD []
theorem rowsOf_eq {c : Code} {k : Nat} {b : CPart} (h : c.2[k]? = some b) : rowsOf c k = b.2 := by unfold rowsOf; rw [h]; rfl
def openF (c : Code) (k : Nat) (zs : List Int) : MFr := goOn (rowsOf c k) ⟨k, 0, belt0 c zs⟩ 0
def shutF (c : Code) (g : MFr) (z : Int) : MFr := goOn (rowsOf c g.part) ⟨g.part, g.row, pushI g.belt z⟩ (g.row + 1)
def mstepF (c : Code) (fs : List MFr) (f : MFr) (said : List Int) (out : V) : MSt :=
  let rs := rowsOf c f.part
  match rs[f.row]? with
  | some (.num z) => ⟨fs ++ [goOn rs ⟨f.part, f.row, pushI f.belt z⟩ (f.row + 1)], said, out⟩
  | some (.op s i j) => ⟨fs ++ [goOn rs ⟨f.part, f.row, pushI f.belt (wth s (ati f.belt i) (ati f.belt j))⟩ (f.row + 1)], said, out⟩
  | some (.say i) => ⟨fs ++ [goOn rs f (f.row + 1)], said ++ [ati f.belt i], out⟩
  | some (.test i to) => ⟨fs ++ [goOn rs f (if ati f.belt i = 0 then f.row + 1 else to.toNat)], said, out⟩
  | some (.call k as) => ⟨fs ++ [f] ++ [openF c k.toNat (as.map (ati f.belt))], said, out⟩
  | some (.give i) => match fs.getLast? with
    | none => ⟨[], said, .int (ati f.belt i)⟩
    | some g => ⟨fs.dropLast ++ [shutF c g (ati f.belt i)], said, out⟩
  | _ => ⟨fs ++ [f], said, out⟩
def mstep (c : Code) (st : MSt) : MSt := match st.fs.getLast? with
  | none => st
  | some f => mstepF c st.fs.dropLast f st.said st.out
def msteps (c : Code) : Nat → MSt → MSt
  | 0, st => st
  | k + 1, st => msteps c k (mstep c st)
theorem msteps_add (c : Code) : ∀ a b st, msteps c (a + b) st = msteps c b (msteps c a st)
  | 0, b, st => by rw [Nat.zero_add]; rfl
  | a + 1, b, st => by rw [Nat.succ_add]; exact msteps_add c a b (mstep c st)
theorem msteps_succ (c : Code) (k : Nat) (st : MSt) : msteps c (k + 1) st = mstep c (msteps c k st) := by rw [msteps_add c k 1 st]; rfl
theorem mstep_snoc {c : Code} {fs : List MFr} {f : MFr} {said : List Int} {out : V} : mstep c ⟨fs ++ [f], said, out⟩ = mstepF c fs f said out := by
  unfold mstep
  simp
structure CodeOk (c : Code) : Prop where
  fits : Fits c
  nums : ∀ b ∈ c.2, ∀ z, CRow.num z ∈ b.2 → Wth z
  sgn : ∀ b ∈ c.2, ∀ s i j, CRow.op s i j ∈ b.2 → s ∈ signs
structure FrOk (c : Code) (f : MFr) : Prop where
  part : f.part < c.2.length
  len : f.belt.length = c.1.toNat
  wth : ∀ z ∈ f.belt, Wth z
  row : ∃ r, (rowsOf c f.part)[f.row]? = some r ∧ silR r = false
def IsCall (c : Code) (f : MFr) : Prop := ∃ k as, (rowsOf c f.part)[f.row]? = some (.call k as)
structure MOk (c : Code) (st : MSt) : Prop where
  frs : ∀ f ∈ st.fs, FrOk c f
  wait : ∀ f ∈ st.fs.dropLast, IsCall c f
theorem wth0 : Wth 0 := ⟨by decide, by decide⟩
theorem ati_wth {b : List Int} (h : ∀ z ∈ b, Wth z) (i : Int) : Wth (ati b i) := by
  unfold ati
  cases e : b[i.toNat]? with
  | none => exact wth0
  | some z => exact h z (List.mem_of_getElem? e)
theorem push_wth {b : List Int} {z : Int} (h : ∀ z ∈ b, Wth z) (hz : Wth z) : ∀ y ∈ pushI b z, Wth y := fun y hy => by
  unfold pushI at hy
  rcases List.mem_cons.mp (List.mem_of_mem_take hy) with e | e
  · rw [e]; exact hz
  · exact h y e
theorem fold_wth : ∀ (zs b : List Int), (∀ z ∈ zs, Wth z) → (∀ z ∈ b, Wth z) → ∀ z ∈ zs.foldl pushI b, Wth z
  | [], b, _, hb => hb
  | z :: r, b, hz, hb => by
    rw [List.foldl_cons]
    exact fold_wth r _ (fun y hy => hz y (List.mem_cons_of_mem _ hy)) (push_wth hb (hz z List.mem_cons_self))
theorem belt0_wth (c : Code) {zs : List Int} (h : ∀ z ∈ zs, Wth z) : ∀ z ∈ belt0 c zs, Wth z :=
  fold_wth zs _ h fun z hz => by rw [(List.mem_replicate.mp hz).2]; exact wth0
theorem stl_ok {rs : List CRow} (W : Within rs) : ∀ (k : Nat) (p : Nat × List Int), p.1 < rs.length → (∀ z ∈ p.2, Wth z) → (stl rs k p).1 < rs.length ∧ (stl rs k p).2.length = p.2.length ∧ ∀ z ∈ (stl rs k p).2, Wth z
  | 0, p, h1, h2 => ⟨h1, rfl, h2⟩
  | k + 1, p, h1, h2 => by
    have a : (stl1 rs p).1 < rs.length := by
      rw [stl1_row]
      cases e : silC rs p.1 with
      | true => exact W p.1 h1 e
      | false => rw [stp_fix rs p.1 e]; exact h1
    have b : (stl1 rs p).2.length = p.2.length ∧ ∀ z ∈ (stl1 rs p).2, Wth z := by
      unfold stl1
      cases e : rs[p.1]? with
      | none => exact ⟨rfl, h2⟩
      | some r =>
        cases r with
        | keep i => exact ⟨pushI_len _ _, push_wth h2 (ati_wth h2 i)⟩
        | _ => exact ⟨rfl, h2⟩
    obtain ⟨x, y, z⟩ := stl_ok W k (stl1 rs p) a b.2
    exact ⟨x, y.trans b.1, z⟩
theorem part_ok {c : Code} (ok : CodeOk c) {k : Nat} {b : CPart} (h : c.2[k]? = some b) : PartFits c.1 c.2 b := ok.fits.2 b (List.mem_of_getElem? h)
theorem within_ok {c : Code} (ok : CodeOk c) {k : Nat} {b : CPart} (h : c.2[k]? = some b) : Within b.2 := by
  obtain ⟨_, _, h3, h4, _⟩ := part_ok ok h
  exact within_of h3 fun r hr to e => (h4 r hr).2.1 to e
theorem goOn_ok {c : Code} (ok : CodeOk c) {f : MFr} {to : Nat} {b : CPart} (hb : c.2[f.part]? = some b) (hl : f.belt.length = c.1.toNat) (hw : ∀ z ∈ f.belt, Wth z) (ht : to < b.2.length) : FrOk c (goOn b.2 f to) := by
  obtain ⟨_, _, _, _, nr⟩ := part_ok ok hb
  obtain ⟨x, y, z⟩ := stl_ok (within_ok ok hb) b.2.length (to, f.belt) ht hw
  refine ⟨(List.getElem?_eq_some_iff.mp hb).1, y.trans hl, z, ?_⟩
  have e : rowsOf c (goOn b.2 f to).part = b.2 := rowsOf_eq hb
  rw [e]
  refine ⟨b.2[(stl b.2 b.2.length (to, f.belt)).1], List.getElem?_eq_getElem x, ?_⟩
  have n := nr to ht
  rw [← stl_row b.2 b.2.length (to, f.belt)] at n
  unfold silC at n
  rw [List.getElem?_eq_getElem x] at n
  exact n
theorem FrOk.at_ {c : Code} {f : MFr} (h : FrOk c f) : ∃ b r, c.2[f.part]? = some b ∧ rowsOf c f.part = b.2 ∧ b.2[f.row]? = some r ∧ silR r = false := by
  have e := List.getElem?_eq_getElem h.part
  obtain ⟨r, h1, h2⟩ := h.row
  rw [rowsOf_eq e] at h1
  exact ⟨_, r, e, rowsOf_eq e, h1, h2⟩
theorem next_lt {c : Code} (ok : CodeOk c) {k n : Nat} {b : CPart} {r : CRow} (hb : c.2[k]? = some b) (hr : b.2[n]? = some r) (h : cEnd r = false) : n + 1 < b.2.length := by
  obtain ⟨_, _, hl, _, _⟩ := part_ok ok hb
  have hn := (List.getElem?_eq_some_iff.mp hr).1
  apply Classical.byContradiction
  intro z
  have e1 : b.2.getLast? = some r := by
    rw [List.getLast?_eq_getElem?]
    have : b.2.length - 1 = n := by omega
    rw [this]; exact hr
  rw [e1] at hl
  have : cEnd r = true := Option.some.inj hl
  rw [h] at this; cases this
theorem MOk.step {c : Code} (ok : CodeOk c) {st : MSt} (h : MOk c st) : MOk c (mstep c st) := by
  obtain ⟨fs0, said, out⟩ := st
  rcases List.eq_nil_or_concat fs0 with rfl | ⟨fs, f, rfl⟩
  · exact h
  rw [List.concat_eq_append] at h ⊢
  rw [mstep_snoc]
  have hf : FrOk c f := h.frs f (List.mem_append_right _ List.mem_cons_self)
  have hfs : ∀ g ∈ fs, FrOk c g := fun g hg => h.frs g (List.mem_append_left _ hg)
  have hw : ∀ g ∈ fs, IsCall c g := fun g hg => h.wait g (by show g ∈ (fs ++ [f]).dropLast; rw [List.dropLast_concat]; exact hg)
  obtain ⟨b, r, hb, er, hr, hs⟩ := hf.at_
  have mk : ∀ (f' : MFr) (said' : List Int) (out' : V), FrOk c f' → MOk c ⟨fs ++ [f'], said', out'⟩ := fun f' _ _ o => by
    refine ⟨fun g hg => ?_, fun g hg => ?_⟩
    · rcases List.mem_append.mp hg with z | z
      · exact hfs g z
      · rw [List.mem_singleton.mp z]; exact o
    · have hg' : g ∈ (fs ++ [f']).dropLast := hg
      rw [List.dropLast_concat] at hg'
      exact hw g hg'
  have pf := part_ok ok hb
  have rf := pf.2.2.2.1 r (List.mem_of_getElem? hr)
  unfold mstepF
  rw [er]
  simp only [hr]
  cases r with
  | keep i => cases hs
  | jump to => cases hs
  | num z =>
    have := ok.nums b (List.mem_of_getElem? hb) z (List.mem_of_getElem? hr)
    exact mk _ _ _ (goOn_ok ok (f := ⟨f.part, f.row, pushI f.belt z⟩) hb ((pushI_len _ _).trans hf.len) (push_wth hf.wth this) (next_lt ok hb hr rfl))
  | op s i j => exact mk _ _ _ (goOn_ok ok (f := ⟨f.part, f.row, pushI f.belt (wth s (ati f.belt i) (ati f.belt j))⟩) hb ((pushI_len _ _).trans hf.len) (push_wth hf.wth (wth_ok _ _ _)) (next_lt ok hb hr rfl))
  | say i => exact mk _ _ _ (goOn_ok ok hb hf.len hf.wth (next_lt ok hb hr rfl))
  | test i to =>
    refine mk _ _ _ (goOn_ok ok hb hf.len hf.wth ?_)
    split
    · exact next_lt ok hb hr rfl
    · have := rf.2.1 to rfl
      omega
  | call k as =>
    have cf := rf.2.2 k as rfl
    have hk : k.toNat < c.2.length := by have := cf.1; have := cf.2.1; omega
    have hb2 := List.getElem?_eq_getElem hk
    have o : FrOk c (openF c k.toNat (as.map (ati f.belt))) := by
      unfold openF
      rw [rowsOf_eq hb2]
      refine goOn_ok ok (f := ⟨k.toNat, 0, belt0 c (as.map (ati f.belt))⟩) hb2 (belt0_len _ _) (belt0_wth c fun z hz => ?_) (List.length_pos_iff.mpr (part_ok ok hb2).2.1)
      obtain ⟨i, _, rfl⟩ := List.mem_map.mp hz
      exact ati_wth hf.wth i
    refine ⟨fun g hg => ?_, fun g hg => ?_⟩
    · rcases List.mem_append.mp hg with z | z
      · exact h.frs g z
      · rw [List.mem_singleton.mp z]; exact o
    · have hg' : g ∈ (fs ++ [f] ++ [openF c k.toNat (as.map (ati f.belt))]).dropLast := hg
      rw [List.dropLast_concat] at hg'
      rcases List.mem_append.mp hg' with z | z
      · exact hw g z
      · rw [List.mem_singleton.mp z]; exact ⟨k, as, by rw [er]; exact hr⟩
  | give i =>
    rcases List.eq_nil_or_concat fs with e | ⟨gs, g, e⟩
    · subst e
      exact ⟨fun g hg => by (cases hg), fun g hg => by (cases hg)⟩
    · rw [List.concat_eq_append] at e
      subst e
      have hg := hfs g (List.mem_append_right _ List.mem_cons_self)
      obtain ⟨k, as, ec⟩ := hw g (List.mem_append_right _ List.mem_cons_self)
      obtain ⟨b2, r2, hb2, er2, hr2, _⟩ := hg.at_
      have o : FrOk c (shutF c g (ati f.belt i)) := by
        unfold shutF
        rw [er2]
        rw [er2, hr2] at ec
        have ec := Option.some.inj ec
        exact goOn_ok ok (f := ⟨g.part, g.row, pushI g.belt (ati f.belt i)⟩) hb2 ((pushI_len _ _).trans hg.len) (push_wth hg.wth (ati_wth hf.wth i)) (next_lt ok hb2 hr2 (by rw [ec]; rfl))
      have e1 : (gs ++ [g]).getLast? = some g := by simp
      simp only [e1, List.dropLast_concat]
      refine ⟨fun x hx => ?_, fun x hx => ?_⟩
      · rcases List.mem_append.mp hx with z | z
        · exact hfs x (List.mem_append_left _ z)
        · rw [List.mem_singleton.mp z]; exact o
      · have hx' : x ∈ (gs ++ [shutF c g (ati f.belt i)]).dropLast := hx
        rw [List.dropLast_concat] at hx'
        exact hw x (List.mem_append_left _ hx')
theorem MOk.steps {c : Code} (ok : CodeOk c) : ∀ (k : Nat) {st : MSt}, MOk c st → MOk c (msteps c k st)
  | 0, _, h => h
  | k + 1, _, h => MOk.steps ok k (h.step ok)
end Bg
end
section
set_option Elab.async false
set_option linter.all false
set_option maxRecDepth 100000
set_option maxHeartbeats 4000000
namespace Bg
open PySem L2
structure TxtM (K : PySem.W.Frag) : Prop where
  clM : Cls K (clsAt K "Machine")
  clF : Cls K (clsAt K "BeltFrame")
  nMo : NoAttr K (clsAt K "Machine") "opened"
  nMs : NoAttr K (clsAt K "Machine") "spoken"
  nMu : NoAttr K (clsAt K "Machine") "outcome"
  nMc : NoAttr K (clsAt K "Machine") "code"
  nFp : NoAttr K (clsAt K "BeltFrame") "part"
  nFr : NoAttr K (clsAt K "BeltFrame") "row"
  nFb : NoAttr K (clsAt K "BeltFrame") "belt"
theorem TxtM.run {K : PySem.W.Frag} (T : TxtM K) : RunCls K (clsAt K "Machine") := ⟨T.clM, T.nMo, T.nMs, T.nMu⟩
def bFs (p r b : V) : List (Str × V) := [("part", p), ("row", r), ("belt", b)]
def mFs (cv : V) (ol sl : Addr) (out : V) : List (Str × V) := [("opened", .ref ol), ("spoken", .ref sl), ("outcome", out), ("code", cv)]
def MFrAt (K : PySem.W.Frag) (H : Hp) (v : V) (f : MFr) : Prop := ∃ a dx b, v = .ref a ∧ H a = some (.ins (clsAt K "BeltFrame") dx (bFs (.int (f.part : Nat)) (.int (f.row : Nat)) (.ref b))) ∧ H b = some (.tup (f.belt.map V.int))
theorem MFrAt.keep {K : PySem.W.Frag} {H H' : Hp} {v : V} {f : MFr} (h : MFrAt K H v f) (kf : ∀ a, v = .ref a → ∀ o, H a = some o → H' a = some o) (t : Tp H H') : MFrAt K H' v f := by
  obtain ⟨a, dx, b, e, h1, h2⟩ := h
  exact ⟨a, dx, b, e, kf a e _ h1, t _ _ h2⟩
def Own (w ol sl : Addr) (fvs : List V) (b : Addr) : Prop := b = w ∨ b = ol ∨ b = sl ∨ V.ref b ∈ fvs
structure MachX (K : PySem.W.Frag) (H : Hp) (w : Addr) (cv : V) (dx ol sl : Addr) (fvs : List V) (n : Nat) (st : MSt) : Prop where
  at_ : H w = some (.ins (clsAt K "Machine") dx (mFs cv ol sl st.out))
  op : H ol = some (.lst fvs)
  sp : H sl = some (.lst (st.said.map V.int))
  ne : ol ≠ sl
  fr : AllAt (MFrAt K H) fvs st.fs
  nd : fvs.Nodup
  few : fvs.length ≤ n
  saw : st.said.length ≤ n
def Outside (P : Addr → Prop) (H H' : Hp) : Prop := ∀ b o, ¬ P b → H b = some o → H' b = some o
theorem Outside.refl {P : Addr → Prop} (H : Hp) : Outside P H H := fun _ _ _ h => h
theorem Outside.of_same {P : Addr → Prop} {H H' : Hp} (s : Same H H') : Outside P H H' := fun b o _ h => s b o h
structure Steps (O O' : Addr → Prop) (H H' : Hp) : Prop where
  out : Outside O H H'
  own : ∀ b, O' b → O b ∨ H b = none
  live : ∀ b, H' b = none → H b = none
theorem live_upd {H : Hp} {a b : Addr} {o : HO} (h : upd H a o b = none) : H b = none := by
  by_cases c : b = a
  · rw [c, upd_same] at h; cases h
  · rw [upd_ne c] at h; exact h
theorem Steps.refl {O : Addr → Prop} (H : Hp) : Steps O O H H := ⟨.refl H, fun b h => .inl h, fun b h => h⟩
theorem Steps.trans {O O1 O2 : Addr → Prop} {H H1 H2 : Hp} (x : Steps O O1 H H1) (y : Steps O1 O2 H1 H2) : Steps O O2 H H2 := by
  have key : ∀ b o, ¬ O b → H b = some o → ¬ O1 b := fun b o n e z => by
    rcases x.own b z with q | q
    · exact n q
    · rw [e] at q; cases q
  refine ⟨fun b o n e => y.out b o (key b o n e) (x.out b o n e), fun b h => ?_, fun b h => x.live b (y.live b h)⟩
  rcases y.own b h with q | q
  · exact x.own b q
  · by_cases c : O b
    · exact .inl c
    · right
      cases e : H b with
      | none => rfl
      | some o => rw [x.out b o c e] at q; cases q
theorem Steps.same {O : Addr → Prop} {H H' : Hp} (s : Same H H') : Steps O O H H' := ⟨.of_same s, fun _ h => .inl h, fun b h => s.free h⟩
theorem MachX.own_ne {K : PySem.W.Frag} {H : Hp} {w : Addr} {cv : V} {dx ol sl : Addr} {fvs : List V} {n : Nat} {st : MSt} (X : MachX K H w cv dx ol sl fvs n st) {b : Addr} {xs : List V} (h : H b = some (.tup xs)) : ¬ Own w ol sl fvs b := by
  rintro (rfl | rfl | rfl | m)
  · rw [X.at_] at h; cases h
  · rw [X.op] at h; cases h
  · rw [X.sp] at h; cases h
  · obtain ⟨i, hi⟩ := List.getElem?_of_mem m
    obtain ⟨f, _, a, dx, b', e, h1, _⟩ := X.fr.of_v hi
    injection e with e
    subst e
    rw [h1] at h; cases h
theorem MachX.tp {K : PySem.W.Frag} {H H' : Hp} {w : Addr} {cv : V} {dx ol sl : Addr} {fvs : List V} {n : Nat} {st : MSt} {O' : Addr → Prop} (X : MachX K H w cv dx ol sl fvs n st) (s : Steps (Own w ol sl fvs) O' H H') : Tp H H' := fun p xs h => s.out p _ (X.own_ne h) h
theorem MachX.keep {K : PySem.W.Frag} {H H' : Hp} {w : Addr} {cv : V} {dx ol sl : Addr} {fvs : List V} {n : Nat} {st : MSt} (X : MachX K H w cv dx ol sl fvs n st) (k : ∀ b o, Own w ol sl fvs b → H b = some o → H' b = some o) (t : Tp H H') : MachX K H' w cv dx ol sl fvs n st := by
  refine ⟨k _ _ (.inl rfl) X.at_, k _ _ (.inr (.inl rfl)) X.op, k _ _ (.inr (.inr (.inl rfl))) X.sp, X.ne, ⟨X.fr.len, fun i v f hv hf => (X.fr.at_ i v f hv hf).keep (fun a e o ho => ?_) t⟩, X.nd, X.few, X.saw⟩
  subst e
  exact k a o (.inr (.inr (.inr (List.mem_of_getElem? hv)))) ho
theorem MachX.same {K : PySem.W.Frag} {H H' : Hp} {w : Addr} {cv : V} {dx ol sl : Addr} {fvs : List V} {n : Nat} {st : MSt} (X : MachX K H w cv dx ol sl fvs n st) (s : Same H H') : MachX K H' w cv dx ol sl fvs n st := X.keep (fun b o _ h => s b o h) (.of_same s)
theorem MachX.up {K : PySem.W.Frag} {H : Hp} {w : Addr} {cv : V} {dx ol sl : Addr} {fvs : List V} {n n' : Nat} {st : MSt} (X : MachX K H w cv dx ol sl fvs n st) (h : n ≤ n') : MachX K H w cv dx ol sl fvs n' st := ⟨X.at_, X.op, X.sp, X.ne, X.fr, X.nd, Nat.le_trans X.few h, Nat.le_trans X.saw h⟩
def MachAt (K : PySem.W.Frag) (H : Hp) (w : Addr) (cv : V) (O : Addr → Prop) (n : Nat) (st : MSt) : Prop := ∃ dx ol sl fvs, MachX K H w cv dx ol sl fvs n st ∧ O = Own w ol sl fvs
theorem MachAt.same {K : PySem.W.Frag} {H H' : Hp} {w : Addr} {cv : V} {O : Addr → Prop} {n : Nat} {st : MSt} (X : MachAt K H w cv O n st) (s : Same H H') : MachAt K H' w cv O n st := by
  obtain ⟨dx, ol, sl, fvs, X, e⟩ := X
  exact ⟨dx, ol, sl, fvs, X.same s, e⟩
theorem MachAt.up {K : PySem.W.Frag} {H : Hp} {w : Addr} {cv : V} {O : Addr → Prop} {n n' : Nat} {st : MSt} (X : MachAt K H w cv O n st) (h : n ≤ n') : MachAt K H w cv O n' st := by
  obtain ⟨dx, ol, sl, fvs, X, e⟩ := X
  exact ⟨dx, ol, sl, fvs, X.up h, e⟩
theorem MachAt.tp {K : PySem.W.Frag} {H H' : Hp} {w : Addr} {cv : V} {O O' : Addr → Prop} {n : Nat} {st : MSt} (X : MachAt K H w cv O n st) (s : Steps O O' H H') : Tp H H' := by
  obtain ⟨dx, ol, sl, fvs, X, rfl⟩ := X
  exact X.tp s
def sp_BeltFrame_init (K : PySem.W.Frag) : Sp := fun vs H Q _ => ∃ (x dx : Addr) (p r b : V), vs = [.ref x, p, r, b] ∧ H x = some (.ins (clsAt K "BeltFrame") dx []) ∧ Q .non (upd H x (.ins (clsAt K "BeltFrame") dx (bFs p r b)))
def sp_Machine_go_on (K : PySem.W.Frag) : Sp := fun vs H Q _ => ∃ (w a dx ol sl : Addr) (cv : V) (to n : Nat) (fvs : List V) (fs : List MFr) (f : MFr) (said : List Int) (out : V) (c : Code) (b : CPart), vs = [.ref w, .ref a, .int (to : Nat)] ∧ MachX K H w cv dx ol sl (fvs ++ [.ref a]) n ⟨fs ++ [f], said, out⟩ ∧
  CodeAt H cv c ∧ CodeOk c ∧ c.2[f.part]? = some b ∧ f.belt.length = c.1.toNat ∧ to < b.2.length ∧
  ∀ H', MachX K H' w cv dx ol sl (fvs ++ [.ref a]) n ⟨fs ++ [goOn b.2 f to], said, out⟩ → Steps (Own w ol sl (fvs ++ [.ref a])) (Own w ol sl (fvs ++ [.ref a])) H H' → Q .non H'
def sp_Machine_enter (K : PySem.W.Frag) : Sp := fun vs H Q _ => ∃ (w q : Addr) (cv : V) (k n : Nat) (O : Addr → Prop) (st : MSt) (zs : List Int) (c : Code), vs = [.ref w, .int (k : Nat), .ref q] ∧ MachAt K H w cv O n st ∧ CodeAt H cv c ∧ CodeOk c ∧ k < c.2.length ∧ SeqAt H q (zs.map V.int) ∧ n ≤ 10000 ∧
  ∀ (H' : Hp) (O' : Addr → Prop), MachAt K H' w cv O' (n + 1) ⟨st.fs ++ [openF c k zs], st.said, st.out⟩ → Steps O O' H H' → Q .non H'
def sp_Machine_init (K : PySem.W.Frag) : Sp := fun vs H Q _ => ∃ (w dx q : Addr) (cv : V) (k : Nat) (zs : List Int) (c : Code), vs = [.ref w, cv, .int (k : Nat), .ref q] ∧ H w = some (.ins (clsAt K "Machine") dx []) ∧ CodeAt H cv c ∧ CodeOk c ∧ k < c.2.length ∧ SeqAt H q (zs.map V.int) ∧
  ∀ (H' : Hp) (O' : Addr → Prop), MachAt K H' w cv O' 1 ⟨[openF c k zs], [], .non⟩ → Steps (fun b => b = w) O' H H' → Q .non H'
def sp_Machine_leave (K : PySem.W.Frag) : Sp := fun vs H Q _ => ∃ (w : Addr) (cv : V) (z : Int) (n : Nat) (O : Addr → Prop) (fs : List MFr) (f : MFr) (said : List Int) (out : V) (c : Code), vs = [.ref w, .int z] ∧ MachAt K H w cv O n ⟨fs ++ [f], said, out⟩ ∧ CodeAt H cv c ∧ CodeOk c ∧ MOk c ⟨fs ++ [f], said, out⟩ ∧ n ≤ 10000 ∧
  ∀ (H' : Hp) (O' : Addr → Prop), MachAt K H' w cv O' (n + 1) (match fs.getLast? with | none => ⟨[], said, .int z⟩ | some g => ⟨fs.dropLast ++ [shutF c g z], said, out⟩) → Steps O O' H H' → Q .non H'
def isWorkC : CRow → Bool
  | .num _ => true
  | .op _ _ _ => true
  | .say _ => true
  | .test _ _ => true
  | _ => false
def sp_Machine_work (K : PySem.W.Frag) : Sp := fun vs H Q _ => ∃ (w a dx ol sl tk : Addr) (cv rv : V) (r : CRow) (n : Nat) (fvs : List V) (fs : List MFr) (f : MFr) (said : List Int) (out : V) (c : Code), vs = [.ref w, .ref a, rv, .ref tk] ∧ MachX K H w cv dx ol sl (fvs ++ [.ref a]) n ⟨fs ++ [f], said, out⟩ ∧
  CodeAt H cv c ∧ CodeOk c ∧ MOk c ⟨fs ++ [f], said, out⟩ ∧ n ≤ 10000 ∧ (rowsOf c f.part)[f.row]? = some r ∧ CRowAt H rv r ∧ isWorkC r = true ∧ H tk = some (.lst (((placesOf r).map (ati f.belt)).map V.int)) ∧
  ∀ H', MachX K H' w cv dx ol sl (fvs ++ [.ref a]) (n + 1) (mstepF c fs f said out) → Steps (Own w ol sl (fvs ++ [.ref a])) (Own w ol sl (fvs ++ [.ref a])) H H' → Q .non H'
def sp_Machine_step (K : PySem.W.Frag) : Sp := fun vs H Q _ => ∃ (w : Addr) (cv : V) (n : Nat) (O : Addr → Prop) (st : MSt) (c : Code), vs = [.ref w] ∧ MachAt K H w cv O n st ∧ CodeAt H cv c ∧ CodeOk c ∧ MOk c st ∧ n ≤ 10000 ∧
  ∀ (H' : Hp) (O' : Addr → Prop), MachAt K H' w cv O' (n + 1) (mstep c st) → Steps O O' H H' → Q .non H'
def mword (st : MSt) : Str := if st.fs.isEmpty then "given" else "spent"
def mcount (c : Code) : Nat → MSt → Nat
  | 0, _ => 0
  | k + 1, st => if st.fs.isEmpty then 0 else mcount c k (mstep c st) + 1
def sp_p_stepped (K : PySem.W.Frag) : Sp := fun vs H Q _ => ∃ (w : Addr) (cv : V) (most : Nat) (O : Addr → Prop) (c : Code) (st : MSt), vs = [.ref w, .int (most : Nat)] ∧ MachAt K H w cv O 1 st ∧ CodeAt H cv c ∧ CodeOk c ∧ MOk c st ∧ most ≤ 5000 ∧
  ∀ (p l : Addr) (H' : Hp) (O' : Addr → Prop), H' p = some (.tup [.str (mword (msteps c most st)), .ref l, (msteps c most st).out, .int (mcount c most st : Nat)]) → H' l = some (.lst ((msteps c most st).said.map V.int)) → H l = none → Steps O O' H H' → Q (.ref p) H'
def sp_p_run_belt (K : PySem.W.Frag) : Sp := fun vs H Q _ => ∃ (q : Addr) (cv : V) (k most : Nat) (zs : List Int) (c : Code), vs = [cv, .int (k : Nat), .ref q, .int (most : Nat)] ∧ CodeAt H cv c ∧ CodeOk c ∧ k < c.2.length ∧ SeqAt H q (zs.map V.int) ∧ (∀ z ∈ zs, Wth z) ∧ most ≤ 5000 ∧
  ∀ (p l : Addr) (H' : Hp), H' p = some (.tup [.str (mword (msteps c most ⟨[openF c k zs], [], .non⟩)), .ref l, (msteps c most ⟨[openF c k zs], [], .non⟩).out, .int (mcount c most ⟨[openF c k zs], [], .non⟩ : Nat)]) → H' l = some (.lst ((msteps c most ⟨[openF c k zs], [], .non⟩).said.map V.int)) → H l = none → Same H H' → Q (.ref p) H'
abbrev k_BeltFrame_init : Nat := 0
abbrev K_BeltFrame_init : Nat := 1
abbrev k_Machine_go_on : Nat := 2
abbrev K_Machine_go_on : Nat := 3
abbrev k_Machine_enter : Nat := 3
abbrev K_Machine_enter : Nat := 4
abbrev k_Machine_init : Nat := 4
abbrev K_Machine_init : Nat := 5
abbrev k_Machine_leave : Nat := 3
abbrev K_Machine_leave : Nat := 4
abbrev k_Machine_work : Nat := 3
abbrev K_Machine_work : Nat := 4
abbrev k_Machine_step : Nat := 4
abbrev K_Machine_step : Nat := 5
abbrev k_p_stepped : Nat := 5
abbrev K_p_stepped : Nat := 6
abbrev k_p_run_belt : Nat := 6
abbrev K_p_run_belt : Nat := 7
end Bg
end
section
set_option Elab.async false
set_option linter.all false
set_option maxRecDepth 100000
set_option maxHeartbeats 4000000
namespace Bg
open PySem L2
def FrT (H : Hp) (v : V) (f : MFr) : Prop := ∃ p b, v = .ref p ∧ H p = some (.tup [.int (f.part : Nat), .int (f.row : Nat), .ref b]) ∧ H b = some (.tup (f.belt.map V.int))
theorem FrT.mono {H H' : Hp} {v : V} {f : MFr} (h : FrT H v f) (t : Tp H H') : FrT H' v f := by
  obtain ⟨p, b, e, h1, h2⟩ := h
  exact ⟨p, b, e, t _ _ h1, t _ _ h2⟩
def sp_Machine_frames (K : PySem.W.Frag) : Sp := fun vs H Q _ => ∃ (w : Addr) (cv : V) (O : Addr → Prop) (n : Nat) (st : MSt), vs = [.ref w] ∧ MachAt K H w cv O n st ∧ n ≤ 10000 ∧
  ∀ (l : Addr) (vs' : List V) (H' : Hp), H l = none → H' l = some (.lst vs') → AllAt (FrT H') vs' st.fs → Same H H' → Q (.ref l) H'
abbrev k_Machine_frames : Nat := 0
abbrev K_Machine_frames : Nat := 1
end Bg
end
section
set_option Elab.async false
set_option linter.all false
set_option maxRecDepth 100000
set_option maxHeartbeats 4000000
namespace Bg
open PySem L2
structure TR where
  word : Str
  heard : List Int
  out : V
  steps : Nat
def trOf (c : Code) (k : Nat) (st : MSt) : TR := ⟨mword (msteps c k st), (msteps c k st).said, (msteps c k st).out, mcount c k st⟩
def TAt (H : Hp) (p l : Addr) (d : TR) : Prop := H p = some (.tup [.str d.word, .ref l, d.out, .int (d.steps : Nat)]) ∧ H l = some (.lst (d.heard.map V.int))
theorem TAt.same {H H' : Hp} {p l : Addr} {d : TR} (h : TAt H p l d) (s : Same H H') : TAt H' p l d := ⟨s _ _ h.1, s _ _ h.2⟩
def OutV (v : V) : Prop := v = .non ∨ ∃ z, v = .int z
def sp_due (K : PySem.W.Frag) : Sp := fun vs H Q _ => ∃ (q : Addr) (cv : V) (k most : Nat) (zs : List Int) (c : Code), vs = [cv, .int (k : Nat), .ref q, .int (most : Nat)] ∧ CodeAt H cv c ∧ CodeOk c ∧ k < c.2.length ∧ SeqAt H q (zs.map V.int) ∧ (∀ z ∈ zs, Wth z) ∧ most ≤ 5000 ∧
  ∀ (p l : Addr) (H' : Hp), TAt H' p l (trOf c most ⟨[openF c k zs], [], .non⟩) → H l = none → Same H H' → Q (.ref p) H'
def sp_alike (_ : PySem.W.Frag) : Sp := fun vs H Q _ => ∃ (p q l m : Addr) (d : TR), vs = [.ref p, .ref q] ∧ TAt H p l d ∧ TAt H q m d ∧ OutV d.out ∧ ∀ H', Same H H' → Q (.bl true) H'
def sp_deep (_ : PySem.W.Frag) : Sp := fun vs H Q _ => ∃ (n : Nat), vs = [.int (n : Nat)] ∧ n ≤ 200 ∧ ∀ H', Same H H' → Q (.bl true) H'
abbrev k_due : Nat := 7
abbrev K_due : Nat := 8
abbrev k_alike : Nat := 0
abbrev K_alike : Nat := 1
abbrev k_deep : Nat := 8
abbrev K_deep : Nat := 9
abbrev k_law : Nat := 9
abbrev K_law : Nat := 10
end Bg
end
section
set_option Elab.async false
set_option linter.all false
set_option maxRecDepth 100000
set_option maxHeartbeats 4000000
namespace Bg
open PySem PySem.Spec PyProof.Rows L2
abbrev PS_draw : List Str := ["_law_state", "_law_many"]
abbrev N_draw : List Str := ["_law_state", "_law_many", "_law_script", "_law_k", "_law_digit", "_law_cell"]
def t_draw_1 (K : PySem.W.Frag) : TS := (tRet (tOp (rMod2) (tOp (rMod2) (tOp (rTimes K) (tVar 5) (tVar 5)) (tC (.int 1999999973))) (tVar 1)))
def t_draw_2 (K : PySem.W.Frag) : TS := (tSeq (tAsg (tOp (rMod2) (tOp (rTimes K) (tVar 5) (tVar 5)) (tC (.int 2147483587))) (gName 5)) (t_draw_1 K))
def t_draw_3 (K : PySem.W.Frag) : TS := (tSeq (tAsg (tOp (rMod2) (tOp (rTimes K) (tOp (rMod2) (tVar 5) (tC (.int 2147483629))) (tOp (rPlus K) (tVar 3) (tC (.int 3)))) (tC (.int 2147483629))) (gName 5)) (t_draw_2 K))
def t_draw_4 (K : PySem.W.Frag) : TS := (tSeq (tIfS (tTest (tOp (rGt2) (tCB (rLen K) (tCons (tVar 2) tNil)) (tC (.int 0)))) (tAsg (tOp (rPlus K) (tVar 5) (tOp (rTimes K) (tOp (rIx K) (tVar 2) (tOp (rMod2) (tOp (rTimes K) (tVar 3) (tC (.int 7))) (tCB (rLen K) (tCons (tVar 2) tNil)))) (tOp (rPlus K) (tC (.int 48271)) (tVar 3)))) (gName 5)) tNext) (t_draw_3 K))
def t_draw_5 (K : PySem.W.Frag) : TS := (tSeq (tAsg (tOp (rPlus K) (tOp (rTimes K) (tVar 3) (tC (.int 7919))) (tC (.int 5))) (gName 5)) (t_draw_4 K))
def t_draw_6 (K : PySem.W.Frag) : TS := (tRet (tVar 4))
def t_draw_7 (K : PySem.W.Frag) : TS := (tIfS (tTest (tOp ((rIn K true)) (tOp (rIx K) (tVar 0) (tC (.int 2))) (tTup (tCons (tC (.int 0)) (tCons (tUn rNeg (tC (.int 1))) tNil))))) (tSeq (tAsg (tCB (rDivmod) (tCons (tOp (rIx K) (tVar 0) (tC (.int 2))) (tCons (tVar 1) tNil))) (gTup K 2 (gCons (gSub (tVar 0) (tC (.int 2)) rSetL) (gCons (gName 4) gNil)))) (t_draw_6 K)) tNext)
def t_draw_8 (K : PySem.W.Frag) : TS := (tSeq (tIfS (tAnd (tTest (tOp (rLt2) (tOp (rPlus K) (tOp (rFdiv2) (tVar 3) (tC (.int 12))) (tC (.int 1))) (tCB (rLen K) (tCons (tVar 2) tNil)))) (tTest (tOp (rEqG K) (tOp (rMod2) (tOp (rIx K) (tVar 2) (tC (.int 0))) (tC (.int 2))) (tC (.int 1))))) (tSeq (tIfS (tTest (tOp (rEqG K) (tOp (rMod2) (tVar 3) (tC (.int 12))) (tC (.int 0)))) (tAsg (tOp (rIx K) (tVar 2) (tOp (rPlus K) (tOp (rFdiv2) (tVar 3) (tC (.int 12))) (tC (.int 1)))) (gSub (tVar 0) (tC (.int 2)) rSetL)) tNext) (t_draw_7 K)) (tIfS (tTest (tOp (rLt2) (tVar 3) (tCB (rLen K) (tCons (tVar 2) tNil)))) (tRet (tOp (rMod2) (tOp (rIx K) (tVar 2) (tVar 3)) (tVar 1))) tNext)) (t_draw_5 K))
def t_draw_9 (K : PySem.W.Frag) : TS := (tSeq (tAsg (tOp (rPlus K) (tVar 3) (tC (.int 1))) (gSub (tVar 0) (tC (.int 1)) rSetL)) (t_draw_8 K))
def t_draw (K : PySem.W.Frag) : TS := (tSeq (tAsg (tSl (rSl K) (tVar 0) tNoPart (tPart (tC (.int 2)))) (gTupL K 2 (gCons (gName 2) (gCons (gName 3) gNil)))) (t_draw_9 K))
abbrev PS_worth : List Str := ["_law_state"]
abbrev N_worth : List Str := ["_law_state"]
def t_worth_1 (K : PySem.W.Frag) : TS := (tRet (tOp (rIx K) (tLst (tCons (tC (.int 0)) (tCons (tC (.int 1)) (tCons (tOp (rSub2) (tOp (rSub2) (tOp (rPow2) (tC (.int 2)) (tC (.int 64))) (tC (.int 1))) (tCall (sp_draw K) [] E0 (tCons (tVar 0) (tCons (tC (.int 3)) tNil)))) (tCons (tCall (sp_draw K) [] E0 (tCons (tVar 0) (tCons (tC (.int 12)) tNil))) tNil))))) (tCall (sp_draw K) [] E0 (tCons (tVar 0) (tCons (tC (.int 4)) tNil)))))
def t_worth (K : PySem.W.Frag) : TS := (tSeq (tIfS (tTest (tOp (rEqG K) (tCall (sp_draw K) [] E0 (tCons (tVar 0) (tCons (tC (.int 2)) tNil))) (tC (.int 0)))) (tRet (tOp (rPlus K) (tOp (rTimes K) (tCall (sp_draw K) [] E0 (tCons (tVar 0) (tCons (tOp (rPow2) (tC (.int 2)) (tC (.int 31))) tNil))) (tOp (rPow2) (tC (.int 2)) (tC (.int 33)))) (tCall (sp_draw K) [] E0 (tCons (tVar 0) (tCons (tOp (rPow2) (tC (.int 2)) (tC (.int 31))) tNil))))) tNext) (t_worth_1 K))
end Bg
end
section
set_option Elab.async false
set_option linter.all false
set_option maxRecDepth 100000
set_option maxHeartbeats 4000000
namespace Bg
open PySem PySem.Spec PyProof.Rows L2
abbrev PS_c_goal : List Str := ["row"]
abbrev N_c_goal : List Str := ["row"]
def t_c_goal_1 (K : PySem.W.Frag) : TS := (tRet (tC .non))
def t_c_goal_2 (K : PySem.W.Frag) : TS := (tSeq (tIfS (tTest (tOp (rEqG K) (tOp (rIx K) (tVar 0) (tC (.int 0))) (tC (.str "test")))) (tRet (tOp (rIx K) (tVar 0) (tC (.int 2)))) tNext) (t_c_goal_1 K))
def t_c_goal (K : PySem.W.Frag) : TS := (tSeq (tIfS (tTest (tOp (rEqG K) (tOp (rIx K) (tVar 0) (tC (.int 0))) (tC (.str "jump")))) (tRet (tOp (rIx K) (tVar 0) (tC (.int 1)))) tNext) (t_c_goal_2 K))
abbrev PS_c_leads : List Str := ["rows", "n"]
abbrev N_c_leads : List Str := ["rows", "n", "word"]
def t_c_leads_1 (K : PySem.W.Frag) : TS := (tRet (tTup (tCons (tOp (rPlus K) (tVar 1) (tC (.int 1))) tNil)))
def t_c_leads_2 (K : PySem.W.Frag) : TS := (tSeq (tIfS (tTest (tOp (rEqG K) (tVar 2) (tC (.str "test")))) (tRet (tTup (tCons (tOp (rPlus K) (tVar 1) (tC (.int 1))) (tCons (tCall (sp_c_goal K) [] E0 (tCons (tOp (rIx K) (tVar 0) (tVar 1)) tNil)) tNil)))) tNext) (t_c_leads_1 K))
def t_c_leads_3 (K : PySem.W.Frag) : TS := (tSeq (tIfS (tTest (tOp (rEqG K) (tVar 2) (tC (.str "jump")))) (tRet (tTup (tCons (tCall (sp_c_goal K) [] E0 (tCons (tOp (rIx K) (tVar 0) (tVar 1)) tNil)) tNil))) tNext) (t_c_leads_2 K))
def t_c_leads_4 (K : PySem.W.Frag) : TS := (tSeq (tIfS (tTest (tOp (rEqG K) (tVar 2) (tC (.str "give")))) (tRet (tTup tNil)) tNext) (t_c_leads_3 K))
def t_c_leads (K : PySem.W.Frag) : TS := (tSeq (tAsg (tOp (rIx K) (tOp (rIx K) (tVar 0) (tVar 1)) (tC (.int 0))) (gName 2)) (t_c_leads_4 K))
abbrev PS_p_places_read : List Str := ["row"]
abbrev N_p_places_read : List Str := ["row", "word"]
def t_p_places_read_1 (K : PySem.W.Frag) : TS := (tRet (tTup tNil))
def t_p_places_read_2 (K : PySem.W.Frag) : TS := (tSeq (tIfS (tTest (tOp ((rIn K false)) (tVar 1) (tTup (tCons (tC (.str "keep")) (tCons (tC (.str "say")) (tCons (tC (.str "test")) (tCons (tC (.str "give")) tNil))))))) (tRet (tTup (tCons (tOp (rIx K) (tVar 0) (tC (.int 1))) tNil))) tNext) (t_p_places_read_1 K))
def t_p_places_read_3 (K : PySem.W.Frag) : TS := (tSeq (tIfS (tTest (tOp (rEqG K) (tVar 1) (tC (.str "call")))) (tRet (tCB (rTupleOf K) (tCons (tOp (rIx K) (tVar 0) (tC (.int 2))) tNil))) tNext) (t_p_places_read_2 K))
def t_p_places_read_4 (K : PySem.W.Frag) : TS := (tSeq (tIfS (tTest (tOp (rEqG K) (tVar 1) (tC (.str "op")))) (tRet (tTup (tCons (tOp (rIx K) (tVar 0) (tC (.int 2))) (tCons (tOp (rIx K) (tVar 0) (tC (.int 3))) tNil)))) tNext) (t_p_places_read_3 K))
def t_p_places_read (K : PySem.W.Frag) : TS := (tSeq (tAsg (tOp (rIx K) (tVar 0) (tC (.int 0))) (gName 1)) (t_p_places_read_4 K))
abbrev PS_code_row : List Str := ["_law_state", "_law_places", "_law_many", "_law_counts"]
abbrev N_code_row : List Str := ["_law_state", "_law_places", "_law_many", "_law_counts", "_law_sort", "_law_i", "_law_k"]
def t_code_row_1 (K : PySem.W.Frag) : TS := (tRet (tTup (tCons (tC (.str "give")) (tCons (tVar 5) tNil))))
def t_code_row_2 (K : PySem.W.Frag) : TS := (tRet (tTup (tCons (tC (.str "call")) (tCons (tVar 6) (tCons (tCB (rTupleOf K) (tCons (tComp [] 1 (iRng1 (tCons (tOp (rIx K) (tVar 3) (tVar 6)) tNil)) (gName 7) tYes (tCall (sp_draw K) [] E0 (tCons (tVar 0) (tCons (tVar 1) tNil)))) tNil)) tNil)))))
def t_code_row_3 (K : PySem.W.Frag) : TS := (tSeq (tIfS (tTest (tOp (rEqG K) (tVar 4) (tC (.int 12)))) (tSeq (tAsg (tCall (sp_draw K) [] E0 (tCons (tVar 0) (tCons (tCB (rLen K) (tCons (tVar 3) tNil)) tNil))) (gName 6)) (t_code_row_2 K)) tNext) (t_code_row_1 K))
def t_code_row_4 (K : PySem.W.Frag) : TS := (tSeq (tIfS (tTest (tOp (rEqG K) (tVar 4) (tC (.int 11)))) (tRet (tTup (tCons (tC (.str "jump")) (tCons (tCall (sp_draw K) [] E0 (tCons (tVar 0) (tCons (tVar 2) tNil))) tNil)))) tNext) (t_code_row_3 K))
def t_code_row_5 (K : PySem.W.Frag) : TS := (tSeq (tIfS (tTest (tOp (rLt2) (tVar 4) (tC (.int 11)))) (tRet (tTup (tCons (tC (.str "test")) (tCons (tVar 5) (tCons (tCall (sp_draw K) [] E0 (tCons (tVar 0) (tCons (tVar 2) tNil))) tNil))))) tNext) (t_code_row_4 K))
def t_code_row_6 (K : PySem.W.Frag) : TS := (tSeq (tIfS (tTest (tOp (rEqG K) (tVar 4) (tC (.int 8)))) (tRet (tTup (tCons (tC (.str "say")) (tCons (tVar 5) tNil)))) tNext) (t_code_row_5 K))
def t_code_row_7 (K : PySem.W.Frag) : TS := (tSeq (tIfS (tTest (tOp (rLt2) (tVar 4) (tC (.int 8)))) (tRet (tTup (tCons (tC (.str "keep")) (tCons (tVar 5) tNil)))) tNext) (t_code_row_6 K))
def t_code_row_8 (K : PySem.W.Frag) : TS := (tSeq (tIfS (tTest (tOp (rLt2) (tVar 4) (tC (.int 5)))) (tRet (tTup (tCons (tC (.str "op")) (tCons (tOp (rIx K) (tC (.str "+-*<=")) (tCall (sp_draw K) [] E0 (tCons (tVar 0) (tCons (tC (.int 5)) tNil)))) (tCons (tVar 5) (tCons (tCall (sp_draw K) [] E0 (tCons (tVar 0) (tCons (tVar 1) tNil))) tNil)))))) tNext) (t_code_row_7 K))
def t_code_row_9 (K : PySem.W.Frag) : TS := (tSeq (tIfS (tTest (tOp (rLt2) (tVar 4) (tC (.int 2)))) (tRet (tTup (tCons (tC (.str "num")) (tCons (tCall (sp_worth K) [] E0 (tCons (tVar 0) tNil)) tNil)))) tNext) (t_code_row_8 K))
def t_code_row_10 (K : PySem.W.Frag) : TS := (tSeq (tAsg (tCall (sp_draw K) [] E0 (tCons (tVar 0) (tCons (tVar 1) tNil))) (gName 5)) (t_code_row_9 K))
def t_code_row (K : PySem.W.Frag) : TS := (tSeq (tAsg (tCall (sp_draw K) [] E0 (tCons (tVar 0) (tCons (tC (.int 14)) tNil))) (gName 4)) (t_code_row_10 K))
abbrev PS_silent : List Str := ["_law_rows", "_law_at"]
abbrev N_silent : List Str := ["_law_rows", "_law_at", "_law_turn"]
def t_silent_1 (K : PySem.W.Frag) : TS := (tRet (tOp ((rIn K false)) (tOp (rIx K) (tOp (rIx K) (tVar 0) (tVar 1)) (tC (.int 0))) (tTup (tCons (tC (.str "keep")) (tCons (tC (.str "jump")) tNil)))))
def t_silent_2 (K : PySem.W.Frag) : TS := (tIfS (tTest (tOp (rEqG K) (tOp (rIx K) (tOp (rIx K) (tVar 0) (tVar 1)) (tC (.int 0))) (tC (.str "jump")))) (tAsg (tOp (rIx K) (tOp (rIx K) (tVar 0) (tVar 1)) (tC (.int 1))) (gName 1)) (tIfS (tTest (tOp (rEqG K) (tOp (rIx K) (tOp (rIx K) (tVar 0) (tVar 1)) (tC (.int 0))) (tC (.str "keep")))) (tAsg (tOp (rPlus K) (tVar 1) (tC (.int 1))) (gName 1)) tNext))
def t_silent (K : PySem.W.Frag) : TS := (tSeq (tFor (iSeq K (tVar 0)) (gName 2) (t_silent_2 K)) (t_silent_1 K))
abbrev PS_code_part : List Str := ["_law_state", "_law_places", "_law_counts", "_law_most"]
abbrev N_code_part : List Str := ["_law_state", "_law_places", "_law_counts", "_law_most", "_law_many", "_law_rows", "_law_n"]
def t_code_part_1 (K : PySem.W.Frag) : TS := (tRet (tCB (rTupleOf K) (tCons (tVar 5) tNil)))
def t_code_part_2 (K : PySem.W.Frag) : TS := (tIfS (tB (tCall (sp_silent K) [] E0 (tCons (tVar 5) (tCons (tVar 6) tNil)))) (tAsg (tOp (rIx K) (tLst (tCons (tTup (tCons (tC (.str "say")) (tCons (tC (.int 0)) tNil))) (tCons (tTup (tCons (tC (.str "give")) (tCons (tC (.int 0)) tNil))) tNil))) (tCB (rInt1) (tCons (tOp (rEqG K) (tVar 6) (tOp (rSub2) (tVar 4) (tC (.int 1)))) tNil))) (gSub (tVar 5) (tVar 6) rSetL)) tNext)
def t_code_part_3 (K : PySem.W.Frag) : TS := (tSeq (tFor (iRng1 (tCons (tVar 4) tNil)) (gName 6) (t_code_part_2 K)) (t_code_part_1 K))
def t_code_part_4 (K : PySem.W.Frag) : TS := (tSeq (tIfS (tTest (tOp ((rIn K true)) (tOp (rIx K) (tOp (rIx K) (tVar 5) (tUn rNeg (tC (.int 1)))) (tC (.int 0))) (tTup (tCons (tC (.str "jump")) (tCons (tC (.str "give")) tNil))))) (tAsg (tTup (tCons (tC (.str "give")) (tCons (tCall (sp_draw K) [] E0 (tCons (tVar 0) (tCons (tVar 1) tNil))) tNil))) (gSub (tVar 5) (tUn rNeg (tC (.int 1))) rSetL)) tNext) (t_code_part_3 K))
def t_code_part_5 (K : PySem.W.Frag) : TS := (tSeq (tAsg (tComp [6] 0 (iRng1 (tCons (tVar 4) tNil)) (gName 6) tYes (tCall (sp_code_row K) [] E0 (tCons (tVar 0) (tCons (tVar 1) (tCons (tVar 4) (tCons (tVar 2) tNil)))))) (gName 5)) (t_code_part_4 K))
def t_code_part (K : PySem.W.Frag) : TS := (tSeq (tAsg (tOp (rPlus K) (tC (.int 1)) (tCall (sp_draw K) [] E0 (tCons (tVar 0) (tCons (tVar 3) tNil)))) (gName 4)) (t_code_part_5 K))
abbrev PS_code : List Str := ["_law_state", "_law_most", "_law_parts"]
abbrev N_code : List Str := ["_law_state", "_law_most", "_law_parts", "_law_places", "_law_counts"]
def t_code_1 (K : PySem.W.Frag) : TS := (tRet (tTup (tCons (tVar 3) (tCons (tCB (rTupleOf K) (tCons (tComp [] 1 (iSeq K (tVar 4)) (gName 5) tYes (tTup (tCons (tVar 5) (tCons (tCall (sp_code_part K) [] E0 (tCons (tVar 0) (tCons (tVar 3) (tCons (tVar 4) (tCons (tVar 1) tNil))))) tNil)))) tNil)) tNil))))
def t_code_2 (K : PySem.W.Frag) : TS := (tSeq (tAsg (tComp [] 1 (iRng1 (tCons (tVar 2) tNil)) (gName 5) tYes (tCall (sp_draw K) [] E0 (tCons (tVar 0) (tCons (tC (.int 5)) tNil)))) (gName 4)) (t_code_1 K))
def t_code (K : PySem.W.Frag) : TS := (tSeq (tAsg (tOp (rIx K) (tLst (tCons (tOp (rPlus K) (tC (.int 1)) (tCall (sp_draw K) [] E0 (tCons (tVar 0) (tCons (tC (.int 4)) tNil)))) (tCons (tOp (rPlus K) (tC (.int 1)) (tCall (sp_draw K) [] E0 (tCons (tVar 0) (tCons (tC (.int 16)) tNil)))) tNil))) (tCall (sp_draw K) [] E0 (tCons (tVar 0) (tCons (tC (.int 2)) tNil)))) (gName 3)) (t_code_2 K))
end Bg
end
section
set_option Elab.async false
set_option linter.all false
set_option maxRecDepth 100000
set_option maxHeartbeats 4000000
namespace Bg
open PySem PySem.Spec PyProof.Rows L2
abbrev PS_p_pushed : List Str := ["belt", "thing"]
abbrev N_p_pushed : List Str := ["belt", "thing"]
def t_p_pushed (K : PySem.W.Frag) : TS := (tRet (tSl (rSl K) (tOp (rPlus K) (tTup (tCons (tVar 1) tNil)) (tVar 0)) tNoPart (tPart (tCB (rLen K) (tCons (tVar 0) tNil)))))
abbrev PS_p_begun : List Str := ["places", "args", "empty"]
abbrev N_p_begun : List Str := ["places", "args", "empty", "belt", "arg"]
def t_p_begun_1 (K : PySem.W.Frag) : TS := (tRet (tVar 3))
def t_p_begun_2 (K : PySem.W.Frag) : TS := (tAsg (tCall (sp_p_pushed K) [] E0 (tCons (tVar 3) (tCons (tVar 4) tNil))) (gName 3))
def t_p_begun_3 (K : PySem.W.Frag) : TS := (tSeq (tFor (iSeq K (tVar 1)) (gName 4) (t_p_begun_2 K)) (t_p_begun_1 K))
def t_p_begun (K : PySem.W.Frag) : TS := (tSeq (tAsg (tOp (rTimes K) (tTup (tCons (tVar 2) tNil)) (tVar 0)) (gName 3)) (t_p_begun_3 K))
end Bg
end
section
set_option Elab.async false
set_option linter.all false
set_option maxRecDepth 100000
set_option maxHeartbeats 4000000
namespace Bg
open PySem PySem.Spec PyProof.Rows L2
abbrev PS_p_worth : List Str := ["s", "one", "other"]
abbrev N_p_worth : List Str := ["s", "one", "other"]
def t_p_worth_1 (K : PySem.W.Frag) : TS := (tRet (tOp (rMod2) (tCall (sp_p_unbounded K) [] E0 (tCons (tVar 0) (tCons (tVar 1) (tCons (tVar 2) tNil)))) (tOp (rPow2) (tC (.int 2)) (tC (.int 64)))))
def t_p_worth_2 (K : PySem.W.Frag) : TS := (tSeq (tIfS (tTest (tOp (rEqG K) (tVar 0) (tC (.str "=")))) (tRet (tIf (tTest (tOp (rEqG K) (tVar 1) (tVar 2))) (tC (.int 1)) (tC (.int 0)))) tNext) (t_p_worth_1 K))
def t_p_worth (K : PySem.W.Frag) : TS := (tSeq (tIfS (tTest (tOp (rEqG K) (tVar 0) (tC (.str "<")))) (tRet (tIf (tTest (tOp (rLt2) (tVar 1) (tVar 2))) (tC (.int 1)) (tC (.int 0)))) tNext) (t_p_worth_2 K))
abbrev PS_p_unbounded : List Str := ["s", "one", "other"]
abbrev N_p_unbounded : List Str := ["s", "one", "other"]
def t_p_unbounded_1 (K : PySem.W.Frag) : TS := (tRet (tOp (rTimes K) (tVar 1) (tVar 2)))
def t_p_unbounded_2 (K : PySem.W.Frag) : TS := (tSeq (tIfS (tTest (tOp (rEqG K) (tVar 0) (tC (.str "-")))) (tRet (tOp (rSub2) (tVar 1) (tVar 2))) tNext) (t_p_unbounded_1 K))
def t_p_unbounded (K : PySem.W.Frag) : TS := (tSeq (tIfS (tTest (tOp (rEqG K) (tVar 0) (tC (.str "+")))) (tRet (tOp (rPlus K) (tVar 1) (tVar 2))) tNext) (t_p_unbounded_2 K))
end Bg
end
section
set_option Elab.async false
set_option linter.all false
set_option maxRecDepth 100000
set_option maxHeartbeats 4000000
namespace Bg
open PySem PySem.Spec PyProof.Rows L2
abbrev PS_Run_init : List Str := ["self"]
abbrev N_Run_init : List Str := ["self"]
def t_Run_init_1 (K : PySem.W.Frag) : TS := (sFld K (tVar 0) (tC .non) "outcome")
def t_Run_init_2 (K : PySem.W.Frag) : TS := (tSeq (sFld K (tVar 0) (tLst tNil) "spoken") (t_Run_init_1 K))
def t_Run_init (K : PySem.W.Frag) : TS := (tSeq (sFld K (tVar 0) (tLst tNil) "opened") (t_Run_init_2 K))
abbrev PS_Run_said : List Str := ["self"]
abbrev N_Run_said : List Str := ["self"]
def t_Run_said (K : PySem.W.Frag) : TS := (tRet (tCB (rListOf K) (tCons (tFld K (tVar 0) "spoken") tNil)))
abbrev PS_Run_answer : List Str := ["self"]
abbrev N_Run_answer : List Str := ["self"]
def t_Run_answer (K : PySem.W.Frag) : TS := (tRet (tFld K (tVar 0) "outcome"))
abbrev PS_Run_ended : List Str := ["self"]
abbrev N_Run_ended : List Str := ["self"]
def t_Run_ended (K : PySem.W.Frag) : TS := (tRet (tOp (rEqG K) (tCB (rLen K) (tCons (tFld K (tVar 0) "opened") tNil)) (tC (.int 0))))
end Bg
end
section
set_option Elab.async false
set_option linter.all false
set_option maxRecDepth 100000
set_option maxHeartbeats 4000000
namespace Bg
open PySem PySem.Spec PyProof.Rows L2
abbrev PS_p_stepped : List Str := ["walk", "most"]
abbrev N_p_stepped : List Str := ["walk", "most", "steps", "word"]
def t_p_stepped_1 (K : PySem.W.Frag) : TS := (tRet (tTup (tCons (tVar 3) (tCons (tMeth (clsAt K "Machine") "said" (sp_Run_said K) [] E0 (tVar 0) tNil) (tCons (tMeth (clsAt K "Machine") "answer" (sp_Run_answer K) [] E0 (tVar 0) tNil) (tCons (tVar 2) tNil))))))
def t_p_stepped_2 (K : PySem.W.Frag) : TS := (tSeq (tAsg (tIf (tB (tMeth (clsAt K "Machine") "ended" (sp_Run_ended K) [] E0 (tVar 0) tNil)) (tC (.str "given")) (tC (.str "spent"))) (gName 3)) (t_p_stepped_1 K))
def t_p_stepped_3 (K : PySem.W.Frag) : TS := (tAug 2 (tC (.int 1)) (ipI fun i j => i + j))
def t_p_stepped_4 (K : PySem.W.Frag) : TS := (tSeq (tDrop (tMeth (clsAt K "Machine") "step" (sp_Machine_step K) [] E0 (tVar 0) tNil)) (t_p_stepped_3 K))
def t_p_stepped_5 (K : PySem.W.Frag) : TS := (tSeq (tWhile (tAnd (tTest (tOp (rLt2) (tVar 2) (tVar 1))) (tNot (tB (tMeth (clsAt K "Machine") "ended" (sp_Run_ended K) [] E0 (tVar 0) tNil)))) (t_p_stepped_4 K)) (t_p_stepped_2 K))
def t_p_stepped (K : PySem.W.Frag) : TS := (tSeq (tAsg (tC (.int 0)) (gName 2)) (t_p_stepped_5 K))
abbrev PS_BeltFrame_init : List Str := ["self", "part", "row", "belt"]
abbrev N_BeltFrame_init : List Str := ["self", "part", "row", "belt"]
def t_BeltFrame_init_1 (K : PySem.W.Frag) : TS := (sFld K (tVar 0) (tVar 3) "belt")
def t_BeltFrame_init_2 (K : PySem.W.Frag) : TS := (tSeq (sFld K (tVar 0) (tVar 2) "row") (t_BeltFrame_init_1 K))
def t_BeltFrame_init (K : PySem.W.Frag) : TS := (tSeq (sFld K (tVar 0) (tVar 1) "part") (t_BeltFrame_init_2 K))
abbrev PS_Machine_init : List Str := ["self", "code", "part", "args"]
abbrev N_Machine_init : List Str := ["self", "code", "part", "args"]
def t_Machine_init_1 (K : PySem.W.Frag) : TS := (tDrop (tMeth (clsAt K "Machine") "enter" (sp_Machine_enter K) [] E0 (tVar 0) (tCons (tVar 2) (tCons (tVar 3) tNil))))
def t_Machine_init_2 (K : PySem.W.Frag) : TS := (tSeq (sFld K (tVar 0) (tVar 1) "code") (t_Machine_init_1 K))
def t_Machine_init (K : PySem.W.Frag) : TS := (tSeq (tDrop (tCall (sp_Run_init K) [] E0 (tCons (tVar 0) tNil))) (t_Machine_init_2 K))
abbrev PS_Machine_step : List Str := ["self"]
abbrev N_Machine_step : List Str := ["self", "frame", "row", "taken"]
def t_Machine_step_1 (K : PySem.W.Frag) : TS := (tIfS (tTest (tOp (rEqG K) (tOp (rIx K) (tVar 2) (tC (.int 0))) (tC (.str "call")))) (tDrop (tMeth (clsAt K "Machine") "enter" (sp_Machine_enter K) [] E0 (tVar 0) (tCons (tOp (rIx K) (tVar 2) (tC (.int 1))) (tCons (tVar 3) tNil)))) (tIfS (tTest (tOp (rEqG K) (tOp (rIx K) (tVar 2) (tC (.int 0))) (tC (.str "give")))) (tDrop (tMeth (clsAt K "Machine") "leave" (sp_Machine_leave K) [] E0 (tVar 0) (tCons (tOp (rIx K) (tVar 3) (tC (.int 0))) tNil))) (tDrop (tMeth (clsAt K "Machine") "work" (sp_Machine_work K) [] E0 (tVar 0) (tCons (tVar 1) (tCons (tVar 2) (tCons (tVar 3) tNil)))))))
def t_Machine_step_2 (K : PySem.W.Frag) : TS := (tSeq (tAsg (tComp [] 1 (iSeq K (tCall (sp_p_places_read K) [] E0 (tCons (tVar 2) tNil))) (gName 4) tYes (tOp (rIx K) (tFld K (tVar 1) "belt") (tVar 4))) (gName 3)) (t_Machine_step_1 K))
def t_Machine_step_3 (K : PySem.W.Frag) : TS := (tSeq (tAsg (tOp (rIx K) (tOp (rIx K) (tOp (rIx K) (tOp (rIx K) (tFld K (tVar 0) "code") (tC (.int 1))) (tFld K (tVar 1) "part")) (tC (.int 1))) (tFld K (tVar 1) "row")) (gName 2)) (t_Machine_step_2 K))
def t_Machine_step_4 (K : PySem.W.Frag) : TS := (tSeq (tAsg (tOp (rIx K) (tFld K (tVar 0) "opened") (tUn rNeg (tC (.int 1)))) (gName 1)) (t_Machine_step_3 K))
def t_Machine_step (K : PySem.W.Frag) : TS := (tSeq (tIfS (tB (tMeth (clsAt K "Machine") "ended" (sp_Run_ended K) [] E0 (tVar 0) tNil)) tRetN tNext) (t_Machine_step_4 K))
abbrev PS_Machine_enter : List Str := ["self", "part", "args"]
abbrev N_Machine_enter : List Str := ["self", "part", "args", "frame"]
def t_Machine_enter_1 (K : PySem.W.Frag) : TS := (tDrop (tMeth (clsAt K "Machine") "go_on" (sp_Machine_go_on K) [] E0 (tVar 0) (tCons (tVar 3) (tCons (tC (.int 0)) tNil))))
def t_Machine_enter_2 (K : PySem.W.Frag) : TS := (tSeq (tDrop (tBM K "list" rAppend (tFld K (tVar 0) "opened") (tCons (tVar 3) tNil))) (t_Machine_enter_1 K))
def t_Machine_enter (K : PySem.W.Frag) : TS := (tSeq (tAsg (tMake (clsAt K "BeltFrame") (sp_BeltFrame_init K) [] E0 (tCons (tVar 1) (tCons (tC (.int 0)) (tCons (tCall (sp_p_begun K) [] E0 (tCons (tOp (rIx K) (tFld K (tVar 0) "code") (tC (.int 0))) (tCons (tVar 2) (tCons (tC (.int 0)) tNil)))) tNil)))) (gName 3)) (t_Machine_enter_2 K))
abbrev PS_Machine_leave : List Str := ["self", "given"]
abbrev N_Machine_leave : List Str := ["self", "given", "frame"]
def t_Machine_leave_1 (K : PySem.W.Frag) : TS := (tDrop (tMeth (clsAt K "Machine") "go_on" (sp_Machine_go_on K) [] E0 (tVar 0) (tCons (tVar 2) (tCons (tOp (rPlus K) (tFld K (tVar 2) "row") (tC (.int 1))) tNil))))
def t_Machine_leave_2 (K : PySem.W.Frag) : TS := (tSeq (sFld K (tVar 2) (tCall (sp_p_pushed K) [] E0 (tCons (tFld K (tVar 2) "belt") (tCons (tVar 1) tNil))) "belt") (t_Machine_leave_1 K))
def t_Machine_leave_3 (K : PySem.W.Frag) : TS := (tIfS (tB (tMeth (clsAt K "Machine") "ended" (sp_Run_ended K) [] E0 (tVar 0) tNil)) (sFld K (tVar 0) (tVar 1) "outcome") (tSeq (tAsg (tOp (rIx K) (tFld K (tVar 0) "opened") (tUn rNeg (tC (.int 1)))) (gName 2)) (t_Machine_leave_2 K)))
def t_Machine_leave (K : PySem.W.Frag) : TS := (tSeq (tDrop (tBM0 K "list" rPop (tFld K (tVar 0) "opened"))) (t_Machine_leave_3 K))
abbrev PS_Machine_work : List Str := ["self", "frame", "row", "taken"]
abbrev N_Machine_work : List Str := ["self", "frame", "row", "taken", "to"]
def t_Machine_work_1 (K : PySem.W.Frag) : TS := (tDrop (tMeth (clsAt K "Machine") "go_on" (sp_Machine_go_on K) [] E0 (tVar 0) (tCons (tVar 1) (tCons (tVar 4) tNil))))
def t_Machine_work_2 (K : PySem.W.Frag) : TS := (tSeq (tIfS (tTest (tOp (rEqG K) (tOp (rIx K) (tVar 2) (tC (.int 0))) (tC (.str "num")))) (sFld K (tVar 1) (tCall (sp_p_pushed K) [] E0 (tCons (tFld K (tVar 1) "belt") (tCons (tOp (rIx K) (tVar 2) (tC (.int 1))) tNil))) "belt") (tIfS (tTest (tOp (rEqG K) (tOp (rIx K) (tVar 2) (tC (.int 0))) (tC (.str "op")))) (sFld K (tVar 1) (tCall (sp_p_pushed K) [] E0 (tCons (tFld K (tVar 1) "belt") (tCons (tCall (sp_p_worth K) [] E0 (tCons (tOp (rIx K) (tVar 2) (tC (.int 1))) (tCons (tOp (rIx K) (tVar 3) (tC (.int 0))) (tCons (tOp (rIx K) (tVar 3) (tC (.int 1))) tNil)))) tNil))) "belt") (tIfS (tTest (tOp (rEqG K) (tOp (rIx K) (tVar 2) (tC (.int 0))) (tC (.str "say")))) (tDrop (tBM K "list" rAppend (tFld K (tVar 0) "spoken") (tCons (tOp (rIx K) (tVar 3) (tC (.int 0))) tNil))) (tIfS (tAnd (tTest (tOp (rEqG K) (tOp (rIx K) (tVar 2) (tC (.int 0))) (tC (.str "test")))) (tTest (tOp (rNeG K) (tOp (rIx K) (tVar 3) (tC (.int 0))) (tC (.int 0))))) (tAsg (tCall (sp_c_goal K) [] E0 (tCons (tVar 2) tNil)) (gName 4)) tNext)))) (t_Machine_work_1 K))
def t_Machine_work (K : PySem.W.Frag) : TS := (tSeq (tAsg (tOp (rPlus K) (tFld K (tVar 1) "row") (tC (.int 1))) (gName 4)) (t_Machine_work_2 K))
abbrev PS_Machine_go_on : List Str := ["self", "frame", "to"]
abbrev N_Machine_go_on : List Str := ["self", "frame", "to", "rows", "place"]
def t_Machine_go_on_1 (K : PySem.W.Frag) : TS := (sFld K (tVar 1) (tOp (rIx K) (tCall (sp_c_leads K) [] E0 (tCons (tVar 3) (tCons (tFld K (tVar 1) "row") tNil))) (tC (.int 0))) "row")
def t_Machine_go_on_2 (K : PySem.W.Frag) : TS := (sFld K (tVar 1) (tCall (sp_p_pushed K) [] E0 (tCons (tFld K (tVar 1) "belt") (tCons (tOp (rIx K) (tFld K (tVar 1) "belt") (tVar 4)) tNil))) "belt")
def t_Machine_go_on_3 (K : PySem.W.Frag) : TS := (tSeq (tFor (iSeq K (tCall (sp_p_places_read K) [] E0 (tCons (tOp (rIx K) (tVar 3) (tFld K (tVar 1) "row")) tNil))) (gName 4) (t_Machine_go_on_2 K)) (t_Machine_go_on_1 K))
def t_Machine_go_on_4 (K : PySem.W.Frag) : TS := (tWhile (tTest (tOp ((rIn K false)) (tOp (rIx K) (tOp (rIx K) (tVar 3) (tFld K (tVar 1) "row")) (tC (.int 0))) (tTup (tCons (tC (.str "keep")) (tCons (tC (.str "jump")) tNil))))) (t_Machine_go_on_3 K))
def t_Machine_go_on_5 (K : PySem.W.Frag) : TS := (tSeq (sFld K (tVar 1) (tVar 2) "row") (t_Machine_go_on_4 K))
def t_Machine_go_on (K : PySem.W.Frag) : TS := (tSeq (tAsg (tOp (rIx K) (tOp (rIx K) (tOp (rIx K) (tFld K (tVar 0) "code") (tC (.int 1))) (tFld K (tVar 1) "part")) (tC (.int 1))) (gName 3)) (t_Machine_go_on_5 K))
abbrev PS_p_run_belt : List Str := ["code", "part", "args", "most"]
abbrev N_p_run_belt : List Str := ["code", "part", "args", "most"]
def t_p_run_belt (K : PySem.W.Frag) : TS := (tRet (tCall (sp_p_stepped K) [] E0 (tCons (tMake (clsAt K "Machine") (sp_Machine_init K) [] E0 (tCons (tVar 0) (tCons (tVar 1) (tCons (tVar 2) tNil)))) (tCons (tVar 3) tNil))))
end Bg
end
section
set_option Elab.async false
set_option linter.all false
set_option maxRecDepth 100000
set_option maxHeartbeats 4000000
namespace L2
open PySem PySem.Spec PyProof.Rows
inductive EqN (K : PySem.W.Frag) (H : Hp) : Nat → V → V → Bool → Prop where
  | flat {d : Nat} {x y : V} (hx : flatV x = true) (hy : flatV y = true) : EqN K H d x y (eqV x y)
  | same {d : Nat} {a : Addr} : EqN K H d (.ref a) (.ref a) true
  | lists {d : Nat} {a b : Addr} {us vs : List V} {es : List Bool} (n : a ≠ b) (ha : SqL K H a us) (hb : SqL K H b vs) (l1 : us.length = vs.length) (l2 : es.length = us.length) (h : ∀ (j : Nat) x y e, us[j]? = some x → vs[j]? = some y → es[j]? = some e → EqN K H d x y e) : EqN K H (d + 1) (.ref a) (.ref b) (es.all id)
  | listsL {d : Nat} {a b : Addr} {us vs : List V} (n : a ≠ b) (ha : SqL K H a us) (hb : SqL K H b vs) (l1 : us.length ≠ vs.length) : EqN K H (d + 1) (.ref a) (.ref b) false
  | tups {d : Nat} {a b : Addr} {us vs : List V} {es : List Bool} (n : a ≠ b) (ha : SqT K H a us) (hb : SqT K H b vs) (l1 : us.length = vs.length) (l2 : es.length = us.length) (h : ∀ (j : Nat) x y e, us[j]? = some x → vs[j]? = some y → es[j]? = some e → EqN K H d x y e) : EqN K H (d + 1) (.ref a) (.ref b) (es.all id)
section
variable {X : Cx}
theorem hits_of {A : Around} {s : Shared} {kb : List (Key × V)} {vb : List (Key × Value)} (rb : KV kb vb) {ka : List (Key × V)} {va : List (Key × Value)} (ra : KV ka va) : ∀ (f : Nat → V), (∀ (j : Nat) k v, ka[j]? = some (k, v) → valV kb k = some (f j)) → (∀ (j : Nat) k v u w, ka[j]? = some (k, v) → RelV v u → RelV (f j) w → SeqAt.EqAt A s u w true) → PySem.W.KeqHits A s vb va true := by
  induction ra with
  | nil => intro f _ _; exact .nil
  | @cons p q ps qs r _ ih =>
    intro f h1 h2
    obtain ⟨k, v⟩ := p
    obtain ⟨k', u⟩ := q
    obtain ⟨e, rv⟩ := r
    have e' : k = k' := e
    subst e'
    have hv := h1 0 k v rfl
    have rel := rb.val k
    rw [hv] at rel
    obtain ⟨w, hw, rw'⟩ := RelO.some_of rel
    have hh := ih (fun j => f (j + 1)) (fun j k v e => h1 (j + 1) k v e) fun j k v u w e => h2 (j + 1) k v u w e
    exact .hit hw (h2 0 k v u w rfl rv rw') hh
theorem each_at {A : Around} {s : Shared} {xs ys : List V} {us vs : List Value} {es : List Bool} (r1 : Vals xs us) (r2 : Vals ys vs) (hl : xs.length = ys.length) (he : es.length = xs.length)
    (h : ∀ (j : Nat) a b e u v, xs[j]? = some a → ys[j]? = some b → es[j]? = some e → RelV a u → RelV b v → SeqAt.EqAt A s u v e) :
    ∀ j (h1 : j < us.toArray.size) (h2 : j < vs.toArray.size), SeqAt.EqAt A s us.toArray[j] vs.toArray[j] ((es[j]?).getD false) := by
  intro j h1 h2
  have l1 := r1.length
  have l2 := r2.length
  rw [List.size_toArray] at h1 h2
  have j1 : j < xs.length := by omega
  have j2 : j < ys.length := by omega
  have j3 : j < es.length := by omega
  obtain ⟨u, hu', ru⟩ := r1.get (List.getElem?_eq_getElem j1)
  obtain ⟨v, hv, rv⟩ := r2.get (List.getElem?_eq_getElem j2)
  have eu : us.toArray[j] = u := by
    have := List.getElem?_eq_getElem h1
    rw [hu'] at this
    simpa using (Option.some.inj this).symm
  have ev : vs.toArray[j] = v := by
    have := List.getElem?_eq_getElem h2
    rw [hv] at this
    simpa using (Option.some.inj this).symm
  rw [eu, ev, List.getElem?_eq_getElem j3, Option.getD_some]
  exact h j _ _ _ _ _ (List.getElem?_eq_getElem j1) (List.getElem?_eq_getElem j2) (List.getElem?_eq_getElem j3) ru rv
theorem each_all {es : List Bool} {us : List Value} (h1 : us.length = es.length) : (List.range us.toArray.size).all (fun j => (es[j]?).getD false) = es.all id := by
  rw [List.size_toArray, h1, all_ix]
theorem eqN_at {pins : List (Addr × Obj)} {σ : St} {H : Hp} {s : Shared} (I : Inv X pins σ H s) {d : Nat} {x y : V} {b : Bool} (h : EqN X.K H d x y b) : ∀ {A : Around} {u v : Value}, A.units + d < cLine → RelV x u → RelV y v → SeqAt.EqAt A s u v b := by
  induction h with
  | flat hx hy => exact fun _ rx ry => eqAt_V rx ry hx hy
  | same =>
    intro A u v _ rx ry
    cases rx
    cases ry
    exact SeqAt.EqAt.same _
  | @lists d a b us vs es n ha hb hl he h ih =>
    intro A u v hu rx ry
    cases rx
    cases ry
    obtain ⟨us', r1, t1, _⟩ := I.list ha
    obtain ⟨vs', r2, t2, _⟩ := I.list hb
    have l1 := r1.length
    have l2 := r2.length
    have := SeqAt.EqAt.of_refs n (SeqAt.RcAt.lists (A := A) t1.isList t2.isList (by rw [List.size_toArray, List.size_toArray]; omega) (by omega) (each_at (A := A.in1) r1 r2 hl he fun j a b e u v e1 e2 e3 ru rv => ih j a b e e1 e2 e3 (by show A.units + 1 + d < cLine; omega) ru rv))
    rw [each_all (by omega)] at this
    exact this
  | @listsL d a b us vs n ha hb hl =>
    intro A u v hu rx ry
    cases rx
    cases ry
    obtain ⟨us', r1, t1, _⟩ := I.list ha
    obtain ⟨vs', r2, t2, _⟩ := I.list hb
    have l1 := r1.length
    have l2 := r2.length
    exact SeqAt.EqAt.of_refs n (SeqAt.RcAt.lists_lengths (A := A) t1.isList t2.isList (by rw [List.size_toArray, List.size_toArray]; simp; omega) (by omega))
  | @tups d a b us vs es n ha hb hl he h ih =>
    intro A u v hu rx ry
    cases rx
    cases ry
    obtain ⟨us', r1, t1, _⟩ := I.tuple ha
    obtain ⟨vs', r2, t2, _⟩ := I.tuple hb
    have l1 := r1.length
    have l2 := r2.length
    have := SeqAt.EqAt.of_refs n (SeqAt.RcAt.tuples (A := A) (show s.heap.IsTuple a us'.toArray from t1) (show s.heap.IsTuple b vs'.toArray from t2) (by omega) (each_at (A := A.in1) r1 r2 hl he fun j a b e u v e1 e2 e3 ru rv => ih j a b e e1 e2 e3 (by show A.units + 1 + d < cLine; omega) ru rv))
    rw [deep_all (by omega) (by omega)] at this
    exact this
def rEqN (K : PySem.W.Frag) (neg : Bool) : R2 := fun x y H Q => ∃ (p q : Addr) (xs ys : List V), x = .ref p ∧ y = .ref q ∧ ((SqL K H p xs ∧ SqL K H q ys) ∨ (SqT K H p xs ∧ SqT K H q ys ∧ xs.length = ys.length)) ∧
  ((xs.length ≠ ys.length ∧ Q (.bl neg) H) ∨ ∃ es : List Bool, xs.length = ys.length ∧ es.length = xs.length ∧ (∀ (j : Nat) a b e, xs[j]? = some a → ys[j]? = some b → es[j]? = some e → EqN K H 4 a b e) ∧ Q (.bl (if neg then !es.all id else es.all id)) H)
theorem op_eqN (hu : X.A.units + 5 < cLine) : OpR X (compareOp .Eq) (rEqN X.K false) := by
  intro pins s σ H x y v u Q I rx ry h
  obtain ⟨p, q, xs, ys, rfl, rfl, hk, hc⟩ := h
  cases rx
  cases ry
  have hu' : X.A.units < cLine := by omega
  rcases hk with ⟨h1, h2⟩ | ⟨h1, h2, hl0⟩
  · obtain ⟨us, r1, t1, _⟩ := I.list h1
    obtain ⟨vs, r2, t2, _⟩ := I.list h2
    have l1 := r1.length
    have l2 := r2.length
    rcases hc with ⟨hl, qq⟩ | ⟨es, hl, he, hE, qq⟩
    · exact SeqAt.eq_list_lengthsAt t1.isList t2.isList (by rw [List.size_toArray, List.size_toArray]; simp; omega) hu' ⟨.bl false, H, I, rfl, qq⟩
    · refine SeqAt.eq_listAt t1.isList t2.isList (by rw [List.size_toArray, List.size_toArray]; omega) hu' (each_at (A := X.A.in1) r1 r2 hl he fun j a b e u v e1 e2 e3 ru rv => eqN_at I (hE j a b e e1 e2 e3) (by show X.A.units + 1 + 4 < cLine; omega) ru rv) ⟨.bl (es.all id), H, I, ?_, qq⟩
      show Value.bool _ = Value.bool _
      rw [each_all (by omega)]
  · obtain ⟨us, r1, t1, _⟩ := I.tuple h1
    obtain ⟨vs, r2, t2, _⟩ := I.tuple h2
    have l1 := r1.length
    have l2 := r2.length
    rcases hc with ⟨hl, _⟩ | ⟨es, hl, he, hE, qq⟩
    · exact absurd hl0 hl
    · refine SeqAt.eq_tupleAt (show s.heap.IsTuple p us.toArray from t1) (show s.heap.IsTuple q vs.toArray from t2) hu' (each_at (A := X.A.in1) r1 r2 hl he fun j a b e u v e1 e2 e3 ru rv => eqN_at I (hE j a b e e1 e2 e3) (by show X.A.units + 1 + 4 < cLine; omega) ru rv) ⟨.bl (es.all id), H, I, ?_, qq⟩
      show Value.bool _ = Value.bool _
      rw [deep_all (by omega) (by omega)]
theorem op_neN (hu : X.A.units + 5 < cLine) : OpR X (compareOp .NotEq) (rEqN X.K true) := by
  intro pins s σ H x y v u Q I rx ry h
  obtain ⟨p, q, xs, ys, rfl, rfl, hk, hc⟩ := h
  cases rx
  cases ry
  have hu' : X.A.units < cLine := by omega
  rcases hk with ⟨h1, h2⟩ | ⟨h1, h2, hl0⟩
  · obtain ⟨us, r1, t1, _⟩ := I.list h1
    obtain ⟨vs, r2, t2, _⟩ := I.list h2
    have l1 := r1.length
    have l2 := r2.length
    rcases hc with ⟨hl, qq⟩ | ⟨es, hl, he, hE, qq⟩
    · exact SeqAt.RcNeAt.lists_lengths t1.isList t2.isList (by rw [List.size_toArray, List.size_toArray]; simp; omega) hu' X.prog X.w X.xe _ ⟨.bl true, H, I, rfl, qq⟩
    · refine SeqAt.RcNeAt.lists t1.isList t2.isList (by rw [List.size_toArray, List.size_toArray]; omega) hu' (each_at (A := X.A.in1) r1 r2 hl he fun j a b e u v e1 e2 e3 ru rv => eqN_at I (hE j a b e e1 e2 e3) (by show X.A.units + 1 + 4 < cLine; omega) ru rv) X.prog X.w X.xe _ ⟨.bl (!es.all id), H, I, ?_, qq⟩
      show Value.bool _ = Value.bool _
      rw [each_all (by omega)]
  · obtain ⟨us, r1, t1, _⟩ := I.tuple h1
    obtain ⟨vs, r2, t2, _⟩ := I.tuple h2
    have l1 := r1.length
    have l2 := r2.length
    rcases hc with ⟨hl, _⟩ | ⟨es, hl, he, hE, qq⟩
    · exact absurd hl0 hl
    · refine SeqAt.RcNeAt.tuples (show s.heap.IsTuple p us.toArray from t1) (show s.heap.IsTuple q vs.toArray from t2) hu' (each_at (A := X.A.in1) r1 r2 hl he fun j a b e u v e1 e2 e3 ru rv => eqN_at I (hE j a b e e1 e2 e3) (by show X.A.units + 1 + 4 < cLine; omega) ru rv) X.prog X.w X.xe _ ⟨.bl (!es.all id), H, I, ?_, qq⟩
      show Value.bool _ = Value.bool _
      rw [deep_all (by omega) (by omega)]
def rEqDk (K : PySem.W.Frag) (neg : Bool) : R2 := fun x y H Q => ∃ (a b : Addr) (ka kb : List (Key × V)) (f : Nat → V), x = .ref a ∧ y = .ref b ∧ H a = some (.dK ka) ∧ H b = some (.dK kb) ∧ ka.length = kb.length ∧ (∀ (j : Nat) k v, ka[j]? = some (k, v) → valV kb k = some (f j)) ∧ (∀ (j : Nat) k v, ka[j]? = some (k, v) → EqN K H 4 v (f j) true) ∧ Q (.bl (!neg)) H
theorem op_eqDk (hu : X.A.units + 5 < cLine) : OpR X (compareOp .Eq) (rEqDk X.K false) := by
  intro pins s σ H x y v u Q I rx ry h
  obtain ⟨a, b, ka, kb, f, rfl, rfl, ha, hb, hl, hf, hE, qq⟩ := h
  cases rx
  cases ry
  obtain ⟨_, la, va, ra, da⟩ := dk_of I.hok ha
  obtain ⟨_, lb, vb, rb, db⟩ := dk_of I.hok hb
  refine PySem.W.keq_eq (r := true) la lb da db (by omega) (fun _ => hits_of rb ra f hf fun j k v u w e ru rw' => eqN_at I (hE j k v e) (by show X.A.units + 1 + 4 < cLine; omega) ru rw') ⟨.bl true, H, I, ?_, qq⟩
  show Value.bool _ = Value.bool _
  rw [← ra.length, ← rb.length, hl]; simp
theorem op_neDk (hu : X.A.units + 5 < cLine) : OpR X (compareOp .NotEq) (rEqDk X.K true) := by
  intro pins s σ H x y v u Q I rx ry h
  obtain ⟨a, b, ka, kb, f, rfl, rfl, ha, hb, hl, hf, hE, qq⟩ := h
  cases rx
  cases ry
  obtain ⟨_, la, va, ra, da⟩ := dk_of I.hok ha
  obtain ⟨_, lb, vb, rb, db⟩ := dk_of I.hok hb
  refine PySem.W.keq_ne (r := true) la lb da db (by omega) (fun _ => hits_of rb ra f hf fun j k v u w e ru rw' => eqN_at I (hE j k v e) (by show X.A.units + 1 + 4 < cLine; omega) ru rw') ⟨.bl false, H, I, ?_, qq⟩
  show Value.bool _ = Value.bool _
  rw [← ra.length, ← rb.length, hl]; simp
def rEqU (K : PySem.W.Frag) : R2 := fun x y H Q => rEqN K false x y H Q ∨ (rEqDk K false x y H Q ∨ rEqG K x y H Q)
def rNeU (K : PySem.W.Frag) : R2 := fun x y H Q => rEqN K true x y H Q ∨ (rEqDk K true x y H Q ∨ rNeG K x y H Q)
theorem op_eqU (hu : X.A.units + 5 < cLine) : OpR X (compareOp .Eq) (rEqU X.K) := (op_eqN hu).or ((op_eqDk hu).or (op_eqG (by omega)))
theorem op_neU (hu : X.A.units + 5 < cLine) : OpR X (compareOp .NotEq) (rNeU X.K) := (op_neN hu).or ((op_neDk hu).or (op_neG (by omega)))
end
end L2
end
section
set_option Elab.async false
set_option linter.all false
set_option maxRecDepth 100000
set_option maxHeartbeats 4000000
namespace Bg
open PySem PySem.Spec PyProof.Rows L2
abbrev PS_Machine_frames : List Str := ["self"]
abbrev N_Machine_frames : List Str := ["self"]
def t_Machine_frames (K : PySem.W.Frag) : TS := (tRet (tComp [] 1 (iSeq K (tFld K (tVar 0) "opened")) (gName 1) tYes (tTup (tCons (tFld K (tVar 1) "part") (tCons (tFld K (tVar 1) "row") (tCons (tFld K (tVar 1) "belt") tNil))))))
end Bg
end
section
set_option Elab.async false
set_option linter.all false
set_option maxRecDepth 100000
set_option maxHeartbeats 4000000
namespace L2
open PySem PySem.Spec PyProof.Rows
section
variable {X : Cx} {pins : List (Addr × Obj)} {σ : St} {H : Hp} {s : Shared} {d : Addr} {kvs : List (Key × V)} {u u' : HO}
end
section
variable {X : Cx} {tg : Expr}
end
end L2
end
section
set_option Elab.async false
set_option linter.all false
set_option maxRecDepth 100000
set_option maxHeartbeats 4000000
namespace PySem
open Sem (wp)
section
variable {prog : Program} {w : World} {A : Around} {R : Result → Shared → Prop} {K : Type} [DecidableEq K] {knd : KeyKind prog w K}
end
section
variable {prog : Program} {w : World} {A : Around} {E : Value → Shared → Prop} {s : Shared} {K : Type} [DecidableEq K] {knd : KeyKind prog w K}
end
end PySem
end
section
set_option Elab.async false
set_option linter.all false
set_option maxRecDepth 100000
set_option maxHeartbeats 4000000
namespace L2
open PySem PySem.Spec PyProof.Rows
section
variable {X : Cx}
end
end L2
end
section
set_option Elab.async false
set_option linter.all false
set_option maxRecDepth 100000
set_option maxHeartbeats 4000000
namespace L2
open PySem PySem.Spec PyProof.Rows
section
variable {X : Cx}
end
end L2
end
section
set_option Elab.async false
set_option linter.all false
set_option maxRecDepth 100000
set_option maxHeartbeats 4000000
namespace L2
open PySem PySem.Spec PyProof.Rows
section
variable {X : Cx} {tg : Expr}
end
end L2
end
section
set_option Elab.async false
set_option linter.all false
set_option maxRecDepth 100000
set_option maxHeartbeats 4000000
namespace L2
open PySem PySem.Spec PyProof.Rows
section
variable {X : Cx} {tg l o e f : Expr} {tl td ty tx : TE} {apos cpos : Pos}
theorem hu5_of {A : Around} {k : Nat} (hr : Room k A) : A.units + 5 < cLine := Nat.lt_of_le_of_lt (Nat.add_le_add_left (by decide : 5 ≤ 64) _) hr.units
end
end L2
end
section
set_option Elab.async false
set_option linter.all false
set_option maxRecDepth 100000
set_option maxHeartbeats 4000000
namespace L2
open PySem PySem.Spec PyProof.Rows
section
variable {X : Cx} {elts : List Expr} {k : Nat} {tpos : Pos}
end
end L2
end
section
set_option Elab.async false
set_option linter.all false
set_option maxRecDepth 100000
set_option maxHeartbeats 4000000
namespace PySem.SeqAt
open AutoSeq1 (wpAny_loadPart')
open MeetsSeq MeetsSeq2 MeetsSeq3 SeqRoads2
end PySem.SeqAt
namespace L2
open PySem PySem.Spec PyProof.Rows
section
variable {X : Cx} {o e : Expr} {es : List Expr} {to ta tb : TE} {t : TA} {apos cpos : Pos}
end
structure BaseOk (P : Program) (w : World) (K : PySem.W.Frag) (mg : Str → Option Value) (base : Heap) (x : Str) (C : Addr) (m : Str) (ps : List Str) (k : Nat) (sp : Sp) : Prop where
  ex : ∃ (f : Addr) (fd : FuncData), mg x = some (.ref C) ∧ PySem.W.specialIn K (.ref C) "__getattribute__" = some (some (.builtin "type.__getattribute__")) ∧ PySem.W.readsIn K C (.type "type") = true ∧ PySem.W.findCls K (.ref C) (.type "type") m = some (.val (.ref f)) ∧
    PySem.W.keepIn K (.ref f) = true ∧ Binds K fd ps [] ∧ FnOk P w K mg base CX0 k f fd ps sp
section
variable {X : Cx} {C : Addr} {m x : Str} {ps : List Str} {k : Nat} {sp : Sp} {e : Expr} {es : List Expr} {t : TA} {p pos apos : Pos}
theorem pe_base {pl : Sem Bool} (M : BaseOk X.prog X.w X.K X.mg X.base x C m ps k sp) (hr : Room k X.A) (hg : Gl X x) (ha : PA X (e :: es) t) (hdb : (x == ("__debug__" : Str)) = false := by decide)
    (hst : starEach (e :: es) X.env = (false, eval e X.env) :: starEach es X.env := by rfl) (hpl : (backTo pos (starEach es X.env)).any (·.1) = false := by rfl)
    (ht : eval (.Call (.Attribute (.Name x p) m apos) (e :: es) [] pos) X.env = (do
      let ov ← eval (.Name x p) X.env
      standAt apos.atName
      let (f, first) ← holding [ov] (getMethod ov m pl)
      callWith pos f first (backTo pos (starEach (e :: es) X.env)) (backToKw pos (keywordEach [] X.env))) := by rfl) :
    PE X (.Call (.Attribute (.Name x p) m apos) (e :: es) [] pos) (tCall sp [] E0 t) := by
  obtain ⟨f, fd, hm, hga, hrd, hf, hk, hb, F⟩ := M.ex
  intro pins s σ H Q I h
  refine PySem.W.methodCall_KW (pl := pl) (ld_glob I hg hm ?_ hdb) ht
  refine PySem.W.method_cls I.kIn hga (PySem.W.cls_value I.kIn hrd hf rfl ?_)
  have I1 := I.tok (s.toks + 1)
  refine PySem.W.callWith_K (first := []) (h₀ := X.base) I.ok.mod.kin hk (thn (ha pos pins _ σ H _ I1 h) fun us s2 ⟨vs, H2, I2, r, q2⟩ => ⟨I2.kIn, ?_⟩) hst hpl
  exact run_fn F hr hb .nil pass0 I2 r q2
theorem qe_base {pl : Sem Bool} (M : BaseOk X.prog X.w X.K X.mg X.base x C m ps k sp) (hr : Room k X.A) (hg : Gl X x) (ha : QA X (e :: es) t) (hdb : (x == ("__debug__" : Str)) = false := by decide)
    (hst : starEach (e :: es) X.env = (false, eval e X.env) :: starEach es X.env := by rfl) (hpl : (backTo pos (starEach es X.env)).any (·.1) = false := by rfl)
    (ht : eval (.Call (.Attribute (.Name x p) m apos) (e :: es) [] pos) X.env = (do
      let ov ← eval (.Name x p) X.env
      standAt apos.atName
      let (f, first) ← holding [ov] (getMethod ov m pl)
      callWith pos f first (backTo pos (starEach (e :: es) X.env)) (backToKw pos (keywordEach [] X.env))) := by rfl) :
    QE X (.Call (.Attribute (.Name x p) m apos) (e :: es) [] pos) (tCall sp [] E0 t) := ⟨pe_base (pl := pl) M hr hg ha.up hdb hst hpl ht⟩
end
end L2
end
section
set_option Elab.async false
set_option linter.all false
namespace Bg
open PySem PySem.Spec PyProof.Rows L2
theorem fun_okQ {P : Program} {w : World} {K : PySem.W.Frag} {mg : Str → Option Value} {base : Heap} {x qual : Str} {st : Stmt} {f : Addr} {fd : FuncData} {N ps : List Str} {k : Nat} {sp : Sp} (F : Fun K x qual st f fd) (S : FnScope N ps (defScope st)) (len : ∀ vs H Q E, sp vs H Q E → vs.length = ps.length)
    (hbody : ∀ (cdv : Value) (A : Around) (outer : List Env) (s : Shared) (H : Hp) (vs : List V) (Q : VK) (E : XK), Room k (A.deeper (envOfC qual (defScope st) s.heap.objs.size f cdv)) → sp vs H Q E →
      ∃ t, QSs (cxOf CX0 P w K mg base N qual (defScope st) f cdv A outer s H E).nox (defBody st) t ∧ t { nx := fun _ H' => Q .non H', rt := Q } (start N vs) H) : FnOk P w K mg base CX0 (k + 1) f fd ps sp :=
  F.ok S len fun cdv A outer s H vs Q E hr h => by
    obtain ⟨t, h1, h2⟩ := hbody cdv A outer s H vs Q E hr h
    exact ⟨t, h1.up, h2⟩
end Bg
end
section
set_option Elab.async false
set_option linter.all false
set_option maxRecDepth 100000
set_option maxHeartbeats 4000000
namespace Bg
open PySem PySem.Spec PyProof.Rows L2
def top (i : Nat) : Stmt := PySem.Challenge.pw_beltgarth_k46_whole_budgets.main.body.getD i (.Pass ⟨0, 0, 0, 0⟩)
abbrev s_p_pushed : Stmt := top 1
theorem sc_p_pushed : FnScope N_p_pushed PS_p_pushed (defScope s_p_pushed) := ⟨rfl, rfl, rfl, by decide +kernel, rfl, by decide +kernel, by decide +kernel⟩
abbrev s_p_begun : Stmt := top 2
theorem sc_p_begun : FnScope N_p_begun PS_p_begun (defScope s_p_begun) := ⟨rfl, rfl, rfl, by decide +kernel, rfl, by decide +kernel, by decide +kernel⟩
abbrev s_c_goal : Stmt := top 4
theorem sc_c_goal : FnScope N_c_goal PS_c_goal (defScope s_c_goal) := ⟨rfl, rfl, rfl, by decide +kernel, rfl, by decide +kernel, by decide +kernel⟩
abbrev s_c_leads : Stmt := top 5
theorem sc_c_leads : FnScope N_c_leads PS_c_leads (defScope s_c_leads) := ⟨rfl, rfl, rfl, by decide +kernel, rfl, by decide +kernel, by decide +kernel⟩
abbrev s_p_places_read : Stmt := top 7
theorem sc_p_places_read : FnScope N_p_places_read PS_p_places_read (defScope s_p_places_read) := ⟨rfl, rfl, rfl, by decide +kernel, rfl, by decide +kernel, by decide +kernel⟩
abbrev s_Run_init : Stmt := inCls (top 9) 0
theorem sc_Run_init : FnScope N_Run_init PS_Run_init (defScope s_Run_init) := ⟨rfl, rfl, rfl, by decide +kernel, rfl, by decide +kernel, by decide +kernel⟩
abbrev s_Run_said : Stmt := inCls (top 9) 1
theorem sc_Run_said : FnScope N_Run_said PS_Run_said (defScope s_Run_said) := ⟨rfl, rfl, rfl, by decide +kernel, rfl, by decide +kernel, by decide +kernel⟩
abbrev s_Run_answer : Stmt := inCls (top 9) 2
theorem sc_Run_answer : FnScope N_Run_answer PS_Run_answer (defScope s_Run_answer) := ⟨rfl, rfl, rfl, by decide +kernel, rfl, by decide +kernel, by decide +kernel⟩
abbrev s_Run_ended : Stmt := inCls (top 9) 3
theorem sc_Run_ended : FnScope N_Run_ended PS_Run_ended (defScope s_Run_ended) := ⟨rfl, rfl, rfl, by decide +kernel, rfl, by decide +kernel, by decide +kernel⟩
abbrev s_p_stepped : Stmt := top 10
theorem sc_p_stepped : FnScope N_p_stepped PS_p_stepped (defScope s_p_stepped) := ⟨rfl, rfl, rfl, by decide +kernel, rfl, by decide +kernel, by decide +kernel⟩
abbrev s_p_worth : Stmt := top 12
theorem sc_p_worth : FnScope N_p_worth PS_p_worth (defScope s_p_worth) := ⟨rfl, rfl, rfl, by decide +kernel, rfl, by decide +kernel, by decide +kernel⟩
abbrev s_p_unbounded : Stmt := top 13
theorem sc_p_unbounded : FnScope N_p_unbounded PS_p_unbounded (defScope s_p_unbounded) := ⟨rfl, rfl, rfl, by decide +kernel, rfl, by decide +kernel, by decide +kernel⟩
abbrev s_BeltFrame_init : Stmt := inCls (top 15) 0
theorem sc_BeltFrame_init : FnScope N_BeltFrame_init PS_BeltFrame_init (defScope s_BeltFrame_init) := ⟨rfl, rfl, rfl, by decide +kernel, rfl, by decide +kernel, by decide +kernel⟩
abbrev s_Machine_init : Stmt := inCls (top 16) 0
theorem sc_Machine_init : FnScope N_Machine_init PS_Machine_init (defScope s_Machine_init) := ⟨rfl, rfl, rfl, by decide +kernel, rfl, by decide +kernel, by decide +kernel⟩
abbrev s_Machine_step : Stmt := inCls (top 16) 1
theorem sc_Machine_step : FnScope N_Machine_step PS_Machine_step (defScope s_Machine_step) := ⟨rfl, rfl, rfl, by decide +kernel, rfl, by decide +kernel, by decide +kernel⟩
abbrev s_Machine_frames : Stmt := inCls (top 16) 2
theorem sc_Machine_frames : FnScope N_Machine_frames PS_Machine_frames (defScope s_Machine_frames) := ⟨rfl, rfl, rfl, by decide +kernel, rfl, by decide +kernel, by decide +kernel⟩
abbrev s_Machine_enter : Stmt := inCls (top 16) 3
theorem sc_Machine_enter : FnScope N_Machine_enter PS_Machine_enter (defScope s_Machine_enter) := ⟨rfl, rfl, rfl, by decide +kernel, rfl, by decide +kernel, by decide +kernel⟩
abbrev s_Machine_leave : Stmt := inCls (top 16) 4
theorem sc_Machine_leave : FnScope N_Machine_leave PS_Machine_leave (defScope s_Machine_leave) := ⟨rfl, rfl, rfl, by decide +kernel, rfl, by decide +kernel, by decide +kernel⟩
abbrev s_Machine_work : Stmt := inCls (top 16) 5
theorem sc_Machine_work : FnScope N_Machine_work PS_Machine_work (defScope s_Machine_work) := ⟨rfl, rfl, rfl, by decide +kernel, rfl, by decide +kernel, by decide +kernel⟩
abbrev s_Machine_go_on : Stmt := inCls (top 16) 6
theorem sc_Machine_go_on : FnScope N_Machine_go_on PS_Machine_go_on (defScope s_Machine_go_on) := ⟨rfl, rfl, rfl, by decide +kernel, rfl, by decide +kernel, by decide +kernel⟩
abbrev s_p_run_belt : Stmt := top 17
theorem sc_p_run_belt : FnScope N_p_run_belt PS_p_run_belt (defScope s_p_run_belt) := ⟨rfl, rfl, rfl, by decide +kernel, rfl, by decide +kernel, by decide +kernel⟩
abbrev s_draw : Stmt := top 19
theorem sc_draw : FnScope N_draw PS_draw (defScope s_draw) := ⟨rfl, rfl, rfl, by decide +kernel, rfl, by decide +kernel, by decide +kernel⟩
abbrev s_worth : Stmt := top 20
theorem sc_worth : FnScope N_worth PS_worth (defScope s_worth) := ⟨rfl, rfl, rfl, by decide +kernel, rfl, by decide +kernel, by decide +kernel⟩
abbrev s_code_row : Stmt := top 21
theorem sc_code_row : FnScope N_code_row PS_code_row (defScope s_code_row) := ⟨rfl, rfl, rfl, by decide +kernel, rfl, by decide +kernel, by decide +kernel⟩
abbrev s_silent : Stmt := top 22
theorem sc_silent : FnScope N_silent PS_silent (defScope s_silent) := ⟨rfl, rfl, rfl, by decide +kernel, rfl, by decide +kernel, by decide +kernel⟩
abbrev s_code_part : Stmt := top 23
theorem sc_code_part : FnScope N_code_part PS_code_part (defScope s_code_part) := ⟨rfl, rfl, rfl, by decide +kernel, rfl, by decide +kernel, by decide +kernel⟩
abbrev s_code : Stmt := top 24
theorem sc_code : FnScope N_code PS_code (defScope s_code) := ⟨rfl, rfl, rfl, by decide +kernel, rfl, by decide +kernel, by decide +kernel⟩
abbrev s_due : Stmt := top 25
abbrev PS_due : List Str := ["_law_code_here", "_law_k", "_law_args", "_law_most"]
abbrev N_due : List Str := ["_law_code_here", "_law_k", "_law_args", "_law_most", "_law_machine", "_law_steps", "_law_turn"]
def t_due_1 (K : PySem.W.Frag) : TS := (tRet (tTup (tCons (tC (.str "spent")) (tCons (tMeth (clsAt K "Machine") "said" (sp_Run_said K) [] E0 (tVar 4) tNil) (tCons (tC .non) (tCons (tVar 3) tNil))))))
def t_due_2 (K : PySem.W.Frag) : TS := (tSeq (tIfS (tTest (tOp (rEqU K) (tMeth (clsAt K "Machine") "frames" (sp_Machine_frames K) [] E0 (tVar 4) tNil) (tLst tNil))) (tRet (tTup (tCons (tC (.str "given")) (tCons (tMeth (clsAt K "Machine") "said" (sp_Run_said K) [] E0 (tVar 4) tNil) (tCons (tMeth (clsAt K "Machine") "answer" (sp_Run_answer K) [] E0 (tVar 4) tNil) (tCons (tVar 5) tNil)))))) tNext) (t_due_1 K))
def t_due_3 (K : PySem.W.Frag) : TS := (tAsg (tOp (rPlus K) (tVar 5) (tC (.int 1))) (gName 5))
def t_due_4 (K : PySem.W.Frag) : TS := (tIfS (tTest (tOp (rNeU K) (tMeth (clsAt K "Machine") "frames" (sp_Machine_frames K) [] E0 (tVar 4) tNil) (tLst tNil))) (tSeq (tDrop (tMeth (clsAt K "Machine") "step" (sp_Machine_step K) [] E0 (tVar 4) tNil)) (t_due_3 K)) tNext)
def t_due_5 (K : PySem.W.Frag) : TS := (tSeq (tFor (iRng1 (tCons (tVar 3) tNil)) (gName 6) (t_due_4 K)) (t_due_2 K))
def t_due_6 (K : PySem.W.Frag) : TS := (tSeq (tAsg (tC (.int 0)) (gName 5)) (t_due_5 K))
def t_due (K : PySem.W.Frag) : TS := (tSeq (tAsg (tMake (clsAt K "Machine") (sp_Machine_init K) [] E0 (tCons (tVar 0) (tCons (tVar 1) (tCons (tVar 2) tNil)))) (gName 4)) (t_due_6 K))
theorem sc_due : FnScope N_due PS_due (defScope s_due) := ⟨rfl, rfl, rfl, by decide +kernel, rfl, by decide +kernel, by decide +kernel⟩
abbrev s_alike : Stmt := top 26
abbrev PS_alike : List Str := ["_law_found", "_law_due_here"]
abbrev N_alike : List Str := ["_law_found", "_law_due_here"]
def t_alike_1 (K : PySem.W.Frag) : TS := (tRet (tAndV (tOp (rEqU K) (tVar 0) (tVar 1)) (tAndV (tCB (rIsi K) (tCons (tOp (rIx K) (tVar 0) (tC (.int 3))) (tCons (tC (.ty "int")) tNil))) (tNotV (tCB (rIsi K) (tCons (tOp (rIx K) (tVar 0) (tC (.int 3))) (tCons (tC (.ty "bool")) tNil)))))))
def t_alike (K : PySem.W.Frag) : TS := (tSeq (tIfS (tOr (tNot (tB (tCB (rIsi K) (tCons (tVar 0) (tCons (tC (.ty "tuple")) tNil))))) (tOr (tTest (tOp (rNeU K) (tCB (rLen K) (tCons (tVar 0) tNil)) (tC (.int 4)))) (tNot (tB (tCB (rIsi K) (tCons (tOp (rIx K) (tVar 0) (tC (.int 1))) (tCons (tC (.ty "list")) tNil))))))) (tRet (tC (.bl false))) tNext) (t_alike_1 K))
theorem sc_alike : FnScope N_alike PS_alike (defScope s_alike) := ⟨rfl, rfl, rfl, by decide +kernel, rfl, by decide +kernel, by decide +kernel⟩
abbrev s_deep : Stmt := top 27
abbrev PS_deep : List Str := ["_law_n"]
abbrev N_deep : List Str := ["_law_n", "_law_rows", "_law_code_here"]
def t_deep_1 (K : PySem.W.Frag) : TS := (tRet (tCall (sp_alike K) [] E0 (tCons (tCall (sp_p_run_belt K) [] E0 (tCons (tVar 2) (tCons (tC (.int 0)) (tCons (tTup (tCons (tVar 0) tNil)) (tCons (tOp (rPlus K) (tOp (rTimes K) (tC (.int 6)) (tVar 0)) (tC (.int 1))) tNil))))) (tCons (tTup (tCons (tC (.str "spent")) (tCons (tLst tNil) (tCons (tC .non) (tCons (tOp (rPlus K) (tOp (rTimes K) (tC (.int 6)) (tVar 0)) (tC (.int 1))) tNil))))) tNil))))
def t_deep_2 (K : PySem.W.Frag) : TS := (tSeq (tIfS (tNot (tB (tCall (sp_alike K) [] E0 (tCons (tCall (sp_p_run_belt K) [] E0 (tCons (tVar 2) (tCons (tC (.int 0)) (tCons (tLst (tCons (tVar 0) tNil)) (tCons (tOp (rPlus K) (tOp (rTimes K) (tC (.int 6)) (tVar 0)) (tC (.int 2))) tNil))))) (tCons (tTup (tCons (tC (.str "given")) (tCons (tLst tNil) (tCons (tVar 0) (tCons (tOp (rPlus K) (tOp (rTimes K) (tC (.int 6)) (tVar 0)) (tC (.int 2))) tNil))))) tNil))))) (tRet (tC (.bl false))) tNext) (t_deep_1 K))
def t_deep_3 (K : PySem.W.Frag) : TS := (tSeq (tAsg (tTup (tCons (tC (.int 5)) (tCons (tTup (tCons (tTup (tCons (tC (.int 1)) (tCons (tOp (rPlus K) (tVar 1) (tTup (tCons (tTup (tCons (tC (.str "op")) (tCons (tC (.str "+")) (tCons (tC (.int 0)) (tCons (tC (.int 2)) tNil))))) (tCons (tTup (tCons (tC (.str "give")) (tCons (tC (.int 0)) tNil))) tNil)))) tNil))) tNil)) tNil))) (gName 2)) (t_deep_2 K))
def t_deep (K : PySem.W.Frag) : TS := (tSeq (tAsg (tTup (tCons (tTup (tCons (tC (.str "test")) (tCons (tC (.int 0)) (tCons (tC (.int 2)) tNil)))) (tCons (tTup (tCons (tC (.str "give")) (tCons (tC (.int 0)) tNil))) (tCons (tTup (tCons (tC (.str "num")) (tCons (tC (.int 1)) tNil))) (tCons (tTup (tCons (tC (.str "op")) (tCons (tC (.str "-")) (tCons (tC (.int 1)) (tCons (tC (.int 0)) tNil))))) (tCons (tTup (tCons (tC (.str "call")) (tCons (tC (.int 0)) (tCons (tTup (tCons (tC (.int 0)) tNil)) tNil)))) tNil)))))) (gName 1)) (t_deep_3 K))
theorem sc_deep : FnScope N_deep PS_deep (defScope s_deep) := ⟨rfl, rfl, rfl, by decide +kernel, rfl, by decide +kernel, by decide +kernel⟩
abbrev s_law : Stmt := top 28
abbrev PS_law : List Str := ["_law_script"]
abbrev N_law : List Str := ["_law_script", "_law_state", "_law_code_here", "_law_k", "_law_args", "_law_most", "_law_one", "_law_other", "_law_whole"]
def t_law_1 (K : PySem.W.Frag) : TS := (tRet (tAndV (tOp (rEqU K) (tOp (rIx K) (tCall (sp_p_run_belt K) [] E0 (tCons (tVar 2) (tCons (tVar 3) (tCons (tVar 4) (tCons (tC (.int 0)) tNil))))) (tC (.int 0))) (tC (.str "spent"))) (tOp (rEqU K) (tCall (sp_p_run_belt K) [] E0 (tCons (tVar 2) (tCons (tVar 3) (tCons (tVar 4) (tCons (tVar 5) tNil))))) (tVar 6))))
def t_law_2 (K : PySem.W.Frag) : TS := (tSeq (tIfS (tAnd (tTest (tOp (rEqU K) (tOp (rIx K) (tVar 8) (tC (.int 0))) (tC (.str "spent")))) (tOr (tTest (tOp (rNeU K) (tOp (rIx K) (tVar 8) (tC (.int 3))) (tC (.int 400)))) (tTest (tOp (rNotN) (tOp (rIx K) (tVar 8) (tC (.int 2))) (tC .non))))) (tRet (tC (.bl false))) tNext) (t_law_1 K))
def t_law_3 (K : PySem.W.Frag) : TS := (tSeq (tIfS (tAnd (tTest (tOp (rEqU K) (tOp (rIx K) (tVar 6) (tC (.int 0))) (tC (.str "given")))) (tTest (tOp (rNeU K) (tVar 8) (tVar 6)))) (tRet (tC (.bl false))) tNext) (t_law_2 K))
def t_law_4 (K : PySem.W.Frag) : TS := (tSeq (tAsg (tCall (sp_p_run_belt K) [.int 400] E0 (tCons (tVar 2) (tCons (tVar 3) (tCons (tVar 4) tNil)))) (gName 8)) (t_law_3 K))
def t_law_5 (K : PySem.W.Frag) : TS := (tSeq (tIfS (tOr (tTest (tOp (rNeU K) (tSl (rSl K) (tOp (rIx K) (tVar 7) (tC (.int 1))) tNoPart (tPart (tCB (rLen K) (tCons (tOp (rIx K) (tVar 6) (tC (.int 1))) tNil)))) (tOp (rIx K) (tVar 6) (tC (.int 1))))) (tAnd (tTest (tOp (rEqU K) (tOp (rIx K) (tVar 6) (tC (.int 0))) (tC (.str "given")))) (tTest (tOp (rNeU K) (tVar 7) (tVar 6))))) (tRet (tC (.bl false))) tNext) (t_law_4 K))
def t_law_6 (K : PySem.W.Frag) : TS := (tSeq (tIfS (tOr (tNot (tB (tCall (sp_alike K) [] E0 (tCons (tVar 6) (tCons (tCall (sp_due K) [] E0 (tCons (tVar 2) (tCons (tVar 3) (tCons (tVar 4) (tCons (tVar 5) tNil))))) tNil))))) (tNot (tB (tCall (sp_alike K) [] E0 (tCons (tVar 7) (tCons (tCall (sp_due K) [] E0 (tCons (tVar 2) (tCons (tVar 3) (tCons (tVar 4) (tCons (tOp (rPlus K) (tVar 5) (tC (.int 1))) tNil))))) tNil)))))) (tRet (tC (.bl false))) tNext) (t_law_5 K))
def t_law_7 (K : PySem.W.Frag) : TS := (tSeq (tAsg (tCall (sp_p_run_belt K) [] E0 (tCons (tVar 2) (tCons (tVar 3) (tCons (tVar 4) (tCons (tOp (rPlus K) (tVar 5) (tC (.int 1))) tNil))))) (gName 7)) (t_law_6 K))
def t_law_8 (K : PySem.W.Frag) : TS := (tSeq (tAsg (tCall (sp_p_run_belt K) [] E0 (tCons (tVar 2) (tCons (tVar 3) (tCons (tCB (rListOf K) (tCons (tVar 4) tNil)) (tCons (tVar 5) tNil))))) (gName 6)) (t_law_7 K))
def t_law_9 (K : PySem.W.Frag) : TS := (tSeq (tAsg (tCall (sp_draw K) [] E0 (tCons (tVar 1) (tCons (tC (.int 40)) tNil))) (gName 5)) (t_law_8 K))
def t_law_10 (K : PySem.W.Frag) : TS := (tSeq (tAsg (tComp [] 1 (iRng1 (tCons (tOp (rIx K) (tOp (rIx K) (tOp (rIx K) (tVar 2) (tC (.int 1))) (tVar 3)) (tC (.int 0))) tNil)) (gName 9) tYes (tCall (sp_worth K) [] E0 (tCons (tVar 1) tNil))) (gName 4)) (t_law_9 K))
def t_law_11 (K : PySem.W.Frag) : TS := (tSeq (tAsg (tCall (sp_draw K) [] E0 (tCons (tVar 1) (tCons (tCB (rLen K) (tCons (tOp (rIx K) (tVar 2) (tC (.int 1))) tNil)) tNil))) (gName 3)) (t_law_10 K))
def t_law_12 (K : PySem.W.Frag) : TS := (tSeq (tAsg (tCall (sp_code K) [] E0 (tCons (tVar 1) (tCons (tC (.int 16)) (tCons (tOp (rPlus K) (tC (.int 1)) (tCall (sp_draw K) [] E0 (tCons (tVar 1) (tCons (tC (.int 3)) tNil)))) tNil)))) (gName 2)) (t_law_11 K))
def t_law_13 (K : PySem.W.Frag) : TS := (tSeq (tIfS (tAnd (tTest (tOp (rEqU K) (tCall (sp_draw K) [] E0 (tCons (tVar 1) (tCons (tC (.int 8)) tNil))) (tC (.int 1)))) (tNot (tB (tCall (sp_deep K) [] E0 (tCons (tCall (sp_draw K) [] E0 (tCons (tVar 1) (tCons (tC (.int 121)) tNil))) tNil))))) (tRet (tC (.bl false))) tNext) (t_law_12 K))
def t_law (K : PySem.W.Frag) : TS := (tSeq (tAsg (tLst (tCons (tVar 0) (tCons (tC (.int 0)) (tCons (tC (.int 0)) tNil)))) (gName 1)) (t_law_13 K))
theorem sc_law : FnScope N_law PS_law (defScope s_law) := ⟨rfl, rfl, rfl, by decide +kernel, rfl, by decide +kernel, by decide +kernel⟩
end Bg
end
section
set_option Elab.async false
set_option linter.all false
set_option maxRecDepth 100000
set_option maxHeartbeats 4000000
namespace Bg
open PySem PySem.Spec PyProof.Rows L2
theorem d_c_goal {P : Program} {w : World} {K : PySem.W.Frag} {mg : Str → Option Value} {base : Heap} {f : Addr} {cdv : Value} {A : Around} {outer : List Env} {s : Shared} {H : Hp} {E : XK} (B : Blt mg)  
    (hr : Room k_c_goal (A.deeper (envOfC "goal" (defScope s_c_goal) s.heap.objs.size f cdv))) : PSs (cxOf CX0 P w K mg base N_c_goal "goal" (defScope s_c_goal) f cdv A outer s H E).nox (defBody s_c_goal) (t_c_goal K) := by
  have nd := sc_c_goal.nd
  have hu := hr.units0
  have hu1 := hu_of hr
  refine QSs.up ?_
  exact (qss_cons (qs_if (qt_cmpR (op_eqG hu) (qe_ix ix_seq (qv 0) qe_int (fun _ _ => rfl)) qe_str rfl) (qss_one (qs_ret (qe_ix ix_seq (qv 0) qe_int (fun _ _ => rfl)))) qss_nil) (qss_cons (qs_if (qt_cmpR (op_eqG hu) (qe_ix ix_seq (qv 0) qe_int (fun _ _ => rfl)) qe_str rfl) (qss_one (qs_ret (qe_ix ix_seq (qv 0) qe_int (fun _ _ => rfl)))) qss_nil) (qss_one (qs_ret qe_non))))
end Bg
end
section
set_option Elab.async false
set_option linter.all false
set_option maxRecDepth 100000
set_option maxHeartbeats 4000000
namespace Bg
open PySem PySem.Spec PyProof.Rows L2
theorem d_c_leads {P : Program} {w : World} {K : PySem.W.Frag} {mg : Str → Option Value} {base : Heap} {f : Addr} {cdv : Value} {A : Around} {outer : List Env} {s : Shared} {H : Hp} {E : XK} (B : Blt mg)  (c_c_goal : Callee P w K mg base "goal" PS_c_goal K_c_goal (sp_c_goal K))
    (hr : Room k_c_leads (A.deeper (envOfC "leads" (defScope s_c_leads) s.heap.objs.size f cdv))) : PSs (cxOf CX0 P w K mg base N_c_leads "leads" (defScope s_c_leads) f cdv A outer s H E).nox (defBody s_c_leads) (t_c_leads K) := by
  have nd := sc_c_leads.nd
  have hu := hr.units0
  have hu1 := hu_of hr
  refine QSs.up ?_
  exact (qss_cons (qs_set (i := 2) nd rfl (Or.inl rfl) (qe_ix ix_seq (qe_ix ix_seq (qv 0) (qv 1) (fun _ _ => rfl)) qe_int (fun _ _ => rfl))) (qss_cons (qs_if (qt_cmpR (op_eqG hu) (qv 2) qe_str rfl) (qss_one (qs_ret (qe_tup qa_nil))) qss_nil) (qss_cons (qs_if (qt_cmpR (op_eqG hu) (qv 2) qe_str rfl) (qss_one (qs_ret (qe_tup (qa_cons (qe_fn c_c_goal (hr.mono (by decide)) rfl (qa_cons (qe_ix ix_seq (qv 0) (qv 1) (fun _ _ => rfl)) qa_nil)) qa_nil)))) qss_nil) (qss_cons (qs_if (qt_cmpR (op_eqG hu) (qv 2) qe_str rfl) (qss_one (qs_ret (qe_tup (qa_cons (qe_op op_plus (qv 1) qe_int) (qa_cons (qe_fn c_c_goal (hr.mono (by decide)) rfl (qa_cons (qe_ix ix_seq (qv 0) (qv 1) (fun _ _ => rfl)) qa_nil)) qa_nil))))) qss_nil) (qss_one (qs_ret (qe_tup (qa_cons (qe_op op_plus (qv 1) qe_int) qa_nil))))))))
end Bg
end
section
set_option Elab.async false
set_option linter.all false
set_option maxRecDepth 100000
set_option maxHeartbeats 4000000
namespace Bg
open PySem PySem.Spec PyProof.Rows L2
theorem d_p_places_read {P : Program} {w : World} {K : PySem.W.Frag} {mg : Str → Option Value} {base : Heap} {f : Addr} {cdv : Value} {A : Around} {outer : List Env} {s : Shared} {H : Hp} {E : XK} (B : Blt mg)  
    (hr : Room k_p_places_read (A.deeper (envOfC "places_read" (defScope s_p_places_read) s.heap.objs.size f cdv))) : PSs (cxOf CX0 P w K mg base N_p_places_read "places_read" (defScope s_p_places_read) f cdv A outer s H E).nox (defBody s_p_places_read) (t_p_places_read K) := by
  have nd := sc_p_places_read.nd
  have hu := hr.units0
  have hu1 := hu_of hr
  refine QSs.up ?_
  exact (qss_cons (qs_set (i := 1) nd rfl (Or.inl rfl) (qe_ix ix_seq (qv 0) qe_int (fun _ _ => rfl))) (qss_cons (qs_if (qt_cmpR (op_eqG hu) (qv 1) qe_str rfl) (qss_one (qs_ret (qe_tup (qa_cons (qe_ix ix_seq (qv 0) qe_int (fun _ _ => rfl)) (qa_cons (qe_ix ix_seq (qv 0) qe_int (fun _ _ => rfl)) qa_nil))))) qss_nil) (qss_cons (qs_if (qt_cmpR (op_eqG hu) (qv 1) qe_str rfl) (qss_one (qs_ret (qe_callTy call_tuple_of rfl B.tuple_ boot_tuple (qa_cons (qe_ix ix_seq (qv 0) qe_int (fun _ _ => rfl)) qa_nil)))) qss_nil) (qss_cons (qs_if (qt_cmpR op_in_seq (qv 1) (qe_tup (qa_cons qe_str (qa_cons qe_str (qa_cons qe_str (qa_cons qe_str qa_nil))))) rfl) (qss_one (qs_ret (qe_tup (qa_cons (qe_ix ix_seq (qv 0) qe_int (fun _ _ => rfl)) qa_nil)))) qss_nil) (qss_one (qs_ret (qe_tup qa_nil)))))))
end Bg
end
section
set_option Elab.async false
set_option linter.all false
set_option maxRecDepth 100000
set_option maxHeartbeats 4000000
namespace Bg
open PySem PySem.Spec PyProof.Rows L2
theorem d_p_pushed {P : Program} {w : World} {K : PySem.W.Frag} {mg : Str → Option Value} {base : Heap} {f : Addr} {cdv : Value} {A : Around} {outer : List Env} {s : Shared} {H : Hp} {E : XK} (B : Blt mg)  
    (hr : Room k_p_pushed (A.deeper (envOfC "pushed" (defScope s_p_pushed) s.heap.objs.size f cdv))) : PSs (cxOf CX0 P w K mg base N_p_pushed "pushed" (defScope s_p_pushed) f cdv A outer s H E).nox (defBody s_p_pushed) (t_p_pushed K) := by
  have nd := sc_p_pushed.nd
  have hu := hr.units0
  have hu1 := hu_of hr
  refine QSs.up ?_
  exact (qss_one (qs_ret (qe_slice sl_seq (qe_op op_plus (qe_tup (qa_cons (qv 1) qa_nil)) (qv 0)) qo_none (qo_some (qe_callB call_len rfl B.len_ boot_len (qa_cons (qv 0) qa_nil))))))
end Bg
end
section
set_option Elab.async false
set_option linter.all false
set_option maxRecDepth 100000
set_option maxHeartbeats 4000000
namespace Bg
open PySem PySem.Spec PyProof.Rows L2
theorem d_Machine_go_on {P : Program} {w : World} {K : PySem.W.Frag} {mg : Str → Option Value} {base : Heap} {f : Addr} {cdv : Value} {A : Around} {outer : List Env} {s : Shared} {H : Hp} {E : XK} (B : Blt mg)  (c_c_leads : Callee P w K mg base "leads" PS_c_leads K_c_leads (sp_c_leads K)) (c_p_places_read : Callee P w K mg base "places_read" PS_p_places_read K_p_places_read (sp_p_places_read K)) (c_p_pushed : Callee P w K mg base "pushed" PS_p_pushed K_p_pushed (sp_p_pushed K))
    (hr : Room k_Machine_go_on (A.deeper (envOfC "Machine.go_on" (defScope s_Machine_go_on) s.heap.objs.size f cdv))) : PSs (cxOf CX0 P w K mg base N_Machine_go_on "Machine.go_on" (defScope s_Machine_go_on) f cdv A outer s H E).nox (defBody s_Machine_go_on) (t_Machine_go_on K) := by
  have nd := sc_Machine_go_on.nd
  have hu := hr.units0
  have hu1 := hu_of hr
  refine QSs.up ?_
  exact (qss_cons (qs_set (i := 3) nd rfl (Or.inl rfl) (qe_ix ix_seq (qe_ix ix_seq (qe_ix ix_seq (qe_fld (qv 0) rfl) qe_int (fun _ _ => rfl)) (qe_fld (qv 1) rfl) (fun _ _ => rfl)) qe_int (fun _ _ => rfl))) (qss_cons (qs_fld (qv 1) (qv 2) rfl) (qss_one (qs_while PassesOwn.never (qt_cmpR op_in_seq (qe_ix ix_seq (qe_ix ix_seq (qv 3) (qe_fld (qv 1) rfl) (fun _ _ => rfl)) qe_int (fun _ _ => rfl)) (qe_tup (qa_cons qe_str (qa_cons qe_str qa_nil))) rfl) (qss_cons (qs_for PassesOwn.never rfl (qi_seq (qe_fn c_p_places_read (hr.mono (by decide)) rfl (qa_cons (qe_ix ix_seq (qv 3) (qe_fld (qv 1) rfl) (fun _ _ => rfl)) qa_nil))) (qg_name (i := 4) nd rfl (Or.inl rfl)) (qss_one (qs_fld (qv 1) (qe_fn c_p_pushed (hr.mono (by decide)) rfl (qa_cons (qe_fld (qv 1) rfl) (qa_cons (qe_ix ix_seq (qe_fld (qv 1) rfl) (qv 4) (fun _ _ => rfl)) qa_nil))) rfl))) (qss_one (qs_fld (qv 1) (qe_ix ix_seq (qe_fn c_c_leads (hr.mono (by decide)) rfl (qa_cons (qv 3) (qa_cons (qe_fld (qv 1) rfl) qa_nil))) qe_int (fun _ _ => rfl)) rfl)))))))
end Bg
end
section
set_option Elab.async false
set_option linter.all false
set_option maxRecDepth 100000
set_option maxHeartbeats 4000000
namespace Bg
open PySem PySem.Spec PyProof.Rows L2
theorem d_BeltFrame_init {P : Program} {w : World} {K : PySem.W.Frag} {mg : Str → Option Value} {base : Heap} {f : Addr} {cdv : Value} {A : Around} {outer : List Env} {s : Shared} {H : Hp} {E : XK} (B : Blt mg)  
    (hr : Room k_BeltFrame_init (A.deeper (envOfC "BeltFrame.__init__" (defScope s_BeltFrame_init) s.heap.objs.size f cdv))) : PSs (cxOf CX0 P w K mg base N_BeltFrame_init "BeltFrame.__init__" (defScope s_BeltFrame_init) f cdv A outer s H E).nox (defBody s_BeltFrame_init) (t_BeltFrame_init K) := by
  have nd := sc_BeltFrame_init.nd
  have hu := hr.units0
  have hu1 := hu_of hr
  refine QSs.up ?_
  exact (qss_cons (qs_fld (qv 0) (qv 1) rfl) (qss_cons (qs_fld (qv 0) (qv 2) rfl) (qss_one (qs_fld (qv 0) (qv 3) rfl))))
end Bg
end
section
set_option Elab.async false
set_option linter.all false
set_option maxRecDepth 100000
set_option maxHeartbeats 4000000
namespace Bg
open PySem PySem.Spec PyProof.Rows L2
theorem d_p_begun {P : Program} {w : World} {K : PySem.W.Frag} {mg : Str → Option Value} {base : Heap} {f : Addr} {cdv : Value} {A : Around} {outer : List Env} {s : Shared} {H : Hp} {E : XK} (B : Blt mg)  (c_p_pushed : Callee P w K mg base "pushed" PS_p_pushed K_p_pushed (sp_p_pushed K))
    (hr : Room k_p_begun (A.deeper (envOfC "begun" (defScope s_p_begun) s.heap.objs.size f cdv))) : PSs (cxOf CX0 P w K mg base N_p_begun "begun" (defScope s_p_begun) f cdv A outer s H E).nox (defBody s_p_begun) (t_p_begun K) := by
  have nd := sc_p_begun.nd
  have hu := hr.units0
  have hu1 := hu_of hr
  refine QSs.up ?_
  exact (qss_cons (qs_set (i := 3) nd rfl (Or.inl rfl) (qe_op op_times (qe_tup (qa_cons (qv 2) qa_nil)) (qv 0))) (qss_cons (qs_for PassesOwn.never rfl (qi_seq (qv 1)) (qg_name (i := 4) nd rfl (Or.inl rfl)) (qss_one (qs_set (i := 3) nd rfl (Or.inl rfl) (qe_fn c_p_pushed (hr.mono (by decide)) rfl (qa_cons (qv 3) (qa_cons (qv 4) qa_nil)))))) (qss_one (qs_ret (qv 3)))))
end Bg
end
section
set_option Elab.async false
set_option linter.all false
set_option maxRecDepth 100000
set_option maxHeartbeats 4000000
namespace Bg
open PySem PySem.Spec PyProof.Rows L2
theorem d_Machine_enter {P : Program} {w : World} {K : PySem.W.Frag} {mg : Str → Option Value} {base : Heap} {f : Addr} {cdv : Value} {A : Around} {outer : List Env} {s : Shared} {H : Hp} {E : XK} (B : Blt mg) (cl_Machine : Cls K (clsAt K "Machine")) (m_Machine_go_on : MethOk P w K mg base (clsAt K "Machine") "go_on" PS_Machine_go_on K_Machine_go_on (sp_Machine_go_on K)) (mk_BeltFrame : MakeOk P w K mg base "BeltFrame" (clsAt K "BeltFrame") PS_BeltFrame_init K_BeltFrame_init (sp_BeltFrame_init K)) (c_p_begun : Callee P w K mg base "begun" PS_p_begun K_p_begun (sp_p_begun K))
    (hr : Room k_Machine_enter (A.deeper (envOfC "Machine.enter" (defScope s_Machine_enter) s.heap.objs.size f cdv))) : PSs (cxOf CX0 P w K mg base N_Machine_enter "Machine.enter" (defScope s_Machine_enter) f cdv A outer s H E).nox (defBody s_Machine_enter) (t_Machine_enter K) := by
  have nd := sc_Machine_enter.nd
  have hu := hr.units0
  have hu1 := hu_of hr
  refine QSs.up ?_
  exact (qss_cons (qs_set (i := 3) nd rfl (Or.inl rfl) (qe_make mk_BeltFrame (hr.mono (by decide)) rfl (qa_cons (qv 1) (qa_cons qe_int (qa_cons (qe_fn c_p_begun (hr.mono (by decide)) rfl (qa_cons (qe_ix ix_seq (qe_fld (qv 0) rfl) qe_int (fun _ _ => rfl)) (qa_cons (qv 2) (qa_cons qe_int qa_nil)))) qa_nil))))) (qss_cons (qs_expr (qe_bm PySem.F.plainAttrs_list PySem.F.slot_list_append PySem.F.type_list_append mt_append (qe_fld (qv 0) rfl) (qa_cons (qv 3) qa_nil))) (qss_one (qs_expr (qe_meth cl_Machine m_Machine_go_on (hr.mono (by decide)) (qv 0) (qa_cons (qv 3) (qa_cons qe_int qa_nil)))))))
end Bg
end
section
set_option Elab.async false
set_option linter.all false
set_option maxRecDepth 100000
set_option maxHeartbeats 4000000
namespace Bg
open PySem PySem.Spec PyProof.Rows L2
theorem d_Run_init {P : Program} {w : World} {K : PySem.W.Frag} {mg : Str → Option Value} {base : Heap} {f : Addr} {cdv : Value} {A : Around} {outer : List Env} {s : Shared} {H : Hp} {E : XK} (B : Blt mg)  
    (hr : Room k_Run_init (A.deeper (envOfC "Run.__init__" (defScope s_Run_init) s.heap.objs.size f cdv))) : PSs (cxOf CX0 P w K mg base N_Run_init "Run.__init__" (defScope s_Run_init) f cdv A outer s H E).nox (defBody s_Run_init) (t_Run_init K) := by
  have nd := sc_Run_init.nd
  have hu := hr.units0
  have hu1 := hu_of hr
  refine QSs.up ?_
  exact (qss_cons (qs_fld (qv 0) (qe_lst qa_nil) rfl) (qss_cons (qs_fld (qv 0) (qe_lst qa_nil) rfl) (qss_one (qs_fld (qv 0) qe_non rfl))))
end Bg
end
section
set_option Elab.async false
set_option linter.all false
set_option maxRecDepth 100000
set_option maxHeartbeats 4000000
namespace Bg
open PySem PySem.Spec PyProof.Rows L2
theorem d_Machine_init {P : Program} {w : World} {K : PySem.W.Frag} {mg : Str → Option Value} {base : Heap} {f : Addr} {cdv : Value} {A : Around} {outer : List Env} {s : Shared} {H : Hp} {E : XK} (B : Blt mg) (cl_Machine : Cls K (clsAt K "Machine")) (m_Machine_enter : MethOk P w K mg base (clsAt K "Machine") "enter" PS_Machine_enter K_Machine_enter (sp_Machine_enter K)) (b_Run_init : BaseOk P w K mg base "Run" (clsAt K "Run") "__init__" PS_Run_init K_Run_init (sp_Run_init K)) 
    (hr : Room k_Machine_init (A.deeper (envOfC "Machine.__init__" (defScope s_Machine_init) s.heap.objs.size f cdv))) : PSs (cxOf CX0 P w K mg base N_Machine_init "Machine.__init__" (defScope s_Machine_init) f cdv A outer s H E).nox (defBody s_Machine_init) (t_Machine_init K) := by
  have nd := sc_Machine_init.nd
  have hu := hr.units0
  have hu1 := hu_of hr
  refine QSs.up ?_
  exact (qss_cons (qs_expr (qe_base b_Run_init (hr.mono (by decide)) rfl (qa_cons (qv 0) qa_nil))) (qss_cons (qs_fld (qv 0) (qv 1) rfl) (qss_one (qs_expr (qe_meth cl_Machine m_Machine_enter (hr.mono (by decide)) (qv 0) (qa_cons (qv 2) (qa_cons (qv 3) qa_nil)))))))
end Bg
end
section
set_option Elab.async false
set_option linter.all false
set_option maxRecDepth 100000
set_option maxHeartbeats 4000000
namespace Bg
open PySem PySem.Spec PyProof.Rows L2
theorem d_Run_said {P : Program} {w : World} {K : PySem.W.Frag} {mg : Str → Option Value} {base : Heap} {f : Addr} {cdv : Value} {A : Around} {outer : List Env} {s : Shared} {H : Hp} {E : XK} (B : Blt mg)  
    (hr : Room k_Run_said (A.deeper (envOfC "Run.said" (defScope s_Run_said) s.heap.objs.size f cdv))) : PSs (cxOf CX0 P w K mg base N_Run_said "Run.said" (defScope s_Run_said) f cdv A outer s H E).nox (defBody s_Run_said) (t_Run_said K) := by
  have nd := sc_Run_said.nd
  have hu := hr.units0
  have hu1 := hu_of hr
  refine QSs.up ?_
  exact (qss_one (qs_ret (qe_callTy call_list_of rfl B.list_ boot_list (qa_cons (qe_fld (qv 0) rfl) qa_nil))))
end Bg
end
section
set_option Elab.async false
set_option linter.all false
set_option maxRecDepth 100000
set_option maxHeartbeats 4000000
namespace Bg
open PySem PySem.Spec PyProof.Rows L2
theorem d_Run_answer {P : Program} {w : World} {K : PySem.W.Frag} {mg : Str → Option Value} {base : Heap} {f : Addr} {cdv : Value} {A : Around} {outer : List Env} {s : Shared} {H : Hp} {E : XK} (B : Blt mg)  
    (hr : Room k_Run_answer (A.deeper (envOfC "Run.answer" (defScope s_Run_answer) s.heap.objs.size f cdv))) : PSs (cxOf CX0 P w K mg base N_Run_answer "Run.answer" (defScope s_Run_answer) f cdv A outer s H E).nox (defBody s_Run_answer) (t_Run_answer K) := by
  have nd := sc_Run_answer.nd
  have hu := hr.units0
  have hu1 := hu_of hr
  refine QSs.up ?_
  exact (qss_one (qs_ret (qe_fld (qv 0) rfl)))
end Bg
end
section
set_option Elab.async false
set_option linter.all false
set_option maxRecDepth 100000
set_option maxHeartbeats 4000000
namespace Bg
open PySem PySem.Spec PyProof.Rows L2
theorem d_Run_ended {P : Program} {w : World} {K : PySem.W.Frag} {mg : Str → Option Value} {base : Heap} {f : Addr} {cdv : Value} {A : Around} {outer : List Env} {s : Shared} {H : Hp} {E : XK} (B : Blt mg)  
    (hr : Room k_Run_ended (A.deeper (envOfC "Run.ended" (defScope s_Run_ended) s.heap.objs.size f cdv))) : PSs (cxOf CX0 P w K mg base N_Run_ended "Run.ended" (defScope s_Run_ended) f cdv A outer s H E).nox (defBody s_Run_ended) (t_Run_ended K) := by
  have nd := sc_Run_ended.nd
  have hu := hr.units0
  have hu1 := hu_of hr
  refine QSs.up ?_
  exact (qss_one (qs_ret (qe_cmpR (op_eqG hu) (qe_callB call_len rfl B.len_ boot_len (qa_cons (qe_fld (qv 0) rfl) qa_nil)) qe_int rfl)))
end Bg
end
section
set_option Elab.async false
set_option linter.all false
set_option maxRecDepth 100000
set_option maxHeartbeats 4000000
namespace Bg
open PySem PySem.Spec PyProof.Rows L2
theorem d_Machine_leave {P : Program} {w : World} {K : PySem.W.Frag} {mg : Str → Option Value} {base : Heap} {f : Addr} {cdv : Value} {A : Around} {outer : List Env} {s : Shared} {H : Hp} {E : XK} (B : Blt mg) (cl_Machine : Cls K (clsAt K "Machine")) (m_Machine_ended : MethOk P w K mg base (clsAt K "Machine") "ended" PS_Run_ended K_Run_ended (sp_Run_ended K)) (m_Machine_go_on : MethOk P w K mg base (clsAt K "Machine") "go_on" PS_Machine_go_on K_Machine_go_on (sp_Machine_go_on K)) (c_p_pushed : Callee P w K mg base "pushed" PS_p_pushed K_p_pushed (sp_p_pushed K))
    (hr : Room k_Machine_leave (A.deeper (envOfC "Machine.leave" (defScope s_Machine_leave) s.heap.objs.size f cdv))) : PSs (cxOf CX0 P w K mg base N_Machine_leave "Machine.leave" (defScope s_Machine_leave) f cdv A outer s H E).nox (defBody s_Machine_leave) (t_Machine_leave K) := by
  have nd := sc_Machine_leave.nd
  have hu := hr.units0
  have hu1 := hu_of hr
  refine QSs.up ?_
  exact (qss_cons (qs_expr (qe_bm0 PySem.F.plainAttrs_list PySem.F.slot_list_pop PySem.F.type_list_pop mt_pop (qe_fld (qv 0) rfl))) (qss_one (qs_if (qt_val (qe_meth0 cl_Machine m_Machine_ended (hr.mono (by decide)) (qv 0))) (qss_one (qs_fld (qv 0) (qv 1) rfl)) (qss_cons (qs_set (i := 2) nd rfl (Or.inl rfl) (qe_ix ix_seq (qe_fld (qv 0) rfl) (qe_un un_neg qe_int) (fun _ _ => rfl))) (qss_cons (qs_fld (qv 2) (qe_fn c_p_pushed (hr.mono (by decide)) rfl (qa_cons (qe_fld (qv 2) rfl) (qa_cons (qv 1) qa_nil))) rfl) (qss_one (qs_expr (qe_meth cl_Machine m_Machine_go_on (hr.mono (by decide)) (qv 0) (qa_cons (qv 2) (qa_cons (qe_op op_plus (qe_fld (qv 2) rfl) qe_int) qa_nil))))))))))
end Bg
end
section
set_option Elab.async false
set_option linter.all false
set_option maxRecDepth 100000
set_option maxHeartbeats 4000000
namespace Bg
open PySem PySem.Spec PyProof.Rows L2
theorem d_p_unbounded {P : Program} {w : World} {K : PySem.W.Frag} {mg : Str → Option Value} {base : Heap} {f : Addr} {cdv : Value} {A : Around} {outer : List Env} {s : Shared} {H : Hp} {E : XK} (B : Blt mg)  
    (hr : Room k_p_unbounded (A.deeper (envOfC "unbounded" (defScope s_p_unbounded) s.heap.objs.size f cdv))) : PSs (cxOf CX0 P w K mg base N_p_unbounded "unbounded" (defScope s_p_unbounded) f cdv A outer s H E).nox (defBody s_p_unbounded) (t_p_unbounded K) := by
  have nd := sc_p_unbounded.nd
  have hu := hr.units0
  have hu1 := hu_of hr
  refine QSs.up ?_
  exact (qss_cons (qs_if (qt_cmpR (op_eqG hu) (qv 0) qe_str rfl) (qss_one (qs_ret (qe_op op_plus (qv 1) (qv 2)))) qss_nil) (qss_cons (qs_if (qt_cmpR (op_eqG hu) (qv 0) qe_str rfl) (qss_one (qs_ret (qe_op op_sub (qv 1) (qv 2)))) qss_nil) (qss_one (qs_ret (qe_op op_times (qv 1) (qv 2))))))
end Bg
end
section
set_option Elab.async false
set_option linter.all false
set_option maxRecDepth 100000
set_option maxHeartbeats 4000000
namespace Bg
open PySem PySem.Spec PyProof.Rows L2
theorem d_p_worth {P : Program} {w : World} {K : PySem.W.Frag} {mg : Str → Option Value} {base : Heap} {f : Addr} {cdv : Value} {A : Around} {outer : List Env} {s : Shared} {H : Hp} {E : XK} (B : Blt mg)  (c_p_unbounded : Callee P w K mg base "unbounded" PS_p_unbounded K_p_unbounded (sp_p_unbounded K))
    (hr : Room k_p_worth (A.deeper (envOfC "worth" (defScope s_p_worth) s.heap.objs.size f cdv))) : PSs (cxOf CX0 P w K mg base N_p_worth "worth" (defScope s_p_worth) f cdv A outer s H E).nox (defBody s_p_worth) (t_p_worth K) := by
  have nd := sc_p_worth.nd
  have hu := hr.units0
  have hu1 := hu_of hr
  refine QSs.up ?_
  exact (qss_cons (qs_if (qt_cmpR (op_eqG hu) (qv 0) qe_str rfl) (qss_one (qs_ret (qe_ifExp (qt_cmpR op_lt (qv 1) (qv 2) rfl) qe_int qe_int))) qss_nil) (qss_cons (qs_if (qt_cmpR (op_eqG hu) (qv 0) qe_str rfl) (qss_one (qs_ret (qe_ifExp (qt_cmpR (op_eqG hu) (qv 1) (qv 2) rfl) qe_int qe_int))) qss_nil) (qss_one (qs_ret (qe_op op_mod (qe_fn c_p_unbounded (hr.mono (by decide)) rfl (qa_cons (qv 0) (qa_cons (qv 1) (qa_cons (qv 2) qa_nil)))) (qe_op op_pow qe_int qe_int))))))
end Bg
end
section
set_option Elab.async false
set_option linter.all false
set_option maxRecDepth 100000
set_option maxHeartbeats 4000000
namespace Bg
open PySem PySem.Spec PyProof.Rows L2
theorem d_Machine_work {P : Program} {w : World} {K : PySem.W.Frag} {mg : Str → Option Value} {base : Heap} {f : Addr} {cdv : Value} {A : Around} {outer : List Env} {s : Shared} {H : Hp} {E : XK} (B : Blt mg) (cl_Machine : Cls K (clsAt K "Machine")) (m_Machine_go_on : MethOk P w K mg base (clsAt K "Machine") "go_on" PS_Machine_go_on K_Machine_go_on (sp_Machine_go_on K)) (c_p_pushed : Callee P w K mg base "pushed" PS_p_pushed K_p_pushed (sp_p_pushed K)) (c_p_worth : Callee P w K mg base "worth" PS_p_worth K_p_worth (sp_p_worth K)) (c_c_goal : Callee P w K mg base "goal" PS_c_goal K_c_goal (sp_c_goal K))
    (hr : Room k_Machine_work (A.deeper (envOfC "Machine.work" (defScope s_Machine_work) s.heap.objs.size f cdv))) : PSs (cxOf CX0 P w K mg base N_Machine_work "Machine.work" (defScope s_Machine_work) f cdv A outer s H E).nox (defBody s_Machine_work) (t_Machine_work K) := by
  have nd := sc_Machine_work.nd
  have hu := hr.units0
  have hu1 := hu_of hr
  refine QSs.up ?_
  exact (qss_cons (qs_set (i := 4) nd rfl (Or.inl rfl) (qe_op op_plus (qe_fld (qv 1) rfl) qe_int)) (qss_cons (qs_if (qt_cmpR (op_eqG hu) (qe_ix ix_seq (qv 2) qe_int (fun _ _ => rfl)) qe_str rfl) (qss_one (qs_fld (qv 1) (qe_fn c_p_pushed (hr.mono (by decide)) rfl (qa_cons (qe_fld (qv 1) rfl) (qa_cons (qe_ix ix_seq (qv 2) qe_int (fun _ _ => rfl)) qa_nil))) rfl)) (qss_one (qs_if (qt_cmpR (op_eqG hu) (qe_ix ix_seq (qv 2) qe_int (fun _ _ => rfl)) qe_str rfl) (qss_one (qs_fld (qv 1) (qe_fn c_p_pushed (hr.mono (by decide)) rfl (qa_cons (qe_fld (qv 1) rfl) (qa_cons (qe_fn c_p_worth (hr.mono (by decide)) rfl (qa_cons (qe_ix ix_seq (qv 2) qe_int (fun _ _ => rfl)) (qa_cons (qe_ix ix_seq (qv 3) qe_int (fun _ _ => rfl)) (qa_cons (qe_ix ix_seq (qv 3) qe_int (fun _ _ => rfl)) qa_nil)))) qa_nil))) rfl)) (qss_one (qs_if (qt_cmpR (op_eqG hu) (qe_ix ix_seq (qv 2) qe_int (fun _ _ => rfl)) qe_str rfl) (qss_one (qs_expr (qe_bm PySem.F.plainAttrs_list PySem.F.slot_list_append PySem.F.type_list_append mt_append (qe_fld (qv 0) rfl) (qa_cons (qe_ix ix_seq (qv 3) qe_int (fun _ _ => rfl)) qa_nil)))) (qss_one (qs_if (QW.pt (qw_and (qt_cmpR (op_eqG hu) (qe_ix ix_seq (qv 2) qe_int (fun _ _ => rfl)) qe_str rfl) (qw_and1 (qt_cmpR (op_neG hu) (qe_ix ix_seq (qv 3) qe_int (fun _ _ => rfl)) qe_int rfl)))) (qss_one (qs_set (i := 4) nd rfl (Or.inl rfl) (qe_fn c_c_goal (hr.mono (by decide)) rfl (qa_cons (qv 2) qa_nil)))) qss_nil))))))) (qss_one (qs_expr (qe_meth cl_Machine m_Machine_go_on (hr.mono (by decide)) (qv 0) (qa_cons (qv 1) (qa_cons (qv 4) qa_nil)))))))
end Bg
end
section
set_option Elab.async false
set_option linter.all false
set_option maxRecDepth 100000
set_option maxHeartbeats 4000000
namespace Bg
open PySem PySem.Spec PyProof.Rows L2
theorem d_Machine_step {P : Program} {w : World} {K : PySem.W.Frag} {mg : Str → Option Value} {base : Heap} {f : Addr} {cdv : Value} {A : Around} {outer : List Env} {s : Shared} {H : Hp} {E : XK} (B : Blt mg) (cl_Machine : Cls K (clsAt K "Machine")) (m_Machine_enter : MethOk P w K mg base (clsAt K "Machine") "enter" PS_Machine_enter K_Machine_enter (sp_Machine_enter K)) (m_Machine_leave : MethOk P w K mg base (clsAt K "Machine") "leave" PS_Machine_leave K_Machine_leave (sp_Machine_leave K)) (m_Machine_work : MethOk P w K mg base (clsAt K "Machine") "work" PS_Machine_work K_Machine_work (sp_Machine_work K)) (m_Machine_ended : MethOk P w K mg base (clsAt K "Machine") "ended" PS_Run_ended K_Run_ended (sp_Run_ended K)) (c_p_places_read : Callee P w K mg base "places_read" PS_p_places_read K_p_places_read (sp_p_places_read K))
    (hr : Room k_Machine_step (A.deeper (envOfC "Machine.step" (defScope s_Machine_step) s.heap.objs.size f cdv))) : PSs (cxOf CX0 P w K mg base N_Machine_step "Machine.step" (defScope s_Machine_step) f cdv A outer s H E).nox (defBody s_Machine_step) (t_Machine_step K) := by
  have nd := sc_Machine_step.nd
  have hu := hr.units0
  have hu1 := hu_of hr
  refine QSs.up ?_
  exact (qss_cons (qs_if (qt_val (qe_meth0 cl_Machine m_Machine_ended (hr.mono (by decide)) (qv 0))) (qss_one qs_retN) qss_nil) (qss_cons (qs_set (i := 1) nd rfl (Or.inr rfl) (qe_ix ix_seq (qe_fld (qv 0) rfl) (qe_un un_neg qe_int) (fun _ _ => rfl))) (qss_cons (qs_set (i := 2) nd rfl (Or.inl rfl) (qe_ix ix_seq (qe_ix ix_seq (qe_ix ix_seq (qe_ix ix_seq (qe_fld (qv 0) rfl) qe_int (fun _ _ => rfl)) (qe_fld (qv 1) rfl) (fun _ _ => rfl)) qe_int (fun _ _ => rfl)) (qe_fld (qv 1) rfl) (fun _ _ => rfl))) (qss_cons (qs_comp (i := 3) (sc := defScope s_Machine_step) (N := N_Machine_step) (NY := ["self", "frame", "row", "taken", "place"]) (js := []) (k := 1) ⟨rfl, by decide +kernel, by decide +kernel, by decide +kernel, rfl, by decide +kernel⟩ rfl rfl rfl rfl (qi_seq (qe_fn c_p_places_read (hr.mono (by decide)) rfl (qa_cons (qv 2) qa_nil))) (fun _ _ _ _ _ => (qg_name (i := 4) (show List.Nodup (["self", "frame", "row", "taken", "place"] : List Str) by decide +kernel) rfl (Or.inl rfl))) (fun _ _ _ _ _ => qif_nil) (fun _ _ _ _ _ => (qe_ix ix_seq (qe_fld (qv 1) rfl) (qv 4) (fun _ _ => rfl))) nd rfl (Or.inl rfl) rfl) (qss_one (qs_if (qt_cmpR (op_eqG hu) (qe_ix ix_seq (qv 2) qe_int (fun _ _ => rfl)) qe_str rfl) (qss_one (qs_expr (qe_meth cl_Machine m_Machine_enter (hr.mono (by decide)) (qv 0) (qa_cons (qe_ix ix_seq (qv 2) qe_int (fun _ _ => rfl)) (qa_cons (qv 3) qa_nil))))) (qss_one (qs_if (qt_cmpR (op_eqG hu) (qe_ix ix_seq (qv 2) qe_int (fun _ _ => rfl)) qe_str rfl) (qss_one (qs_expr (qe_meth cl_Machine m_Machine_leave (hr.mono (by decide)) (qv 0) (qa_cons (qe_ix ix_seq (qv 3) qe_int (fun _ _ => rfl)) qa_nil)))) (qss_one (qs_expr (qe_meth cl_Machine m_Machine_work (hr.mono (by decide)) (qv 0) (qa_cons (qv 1) (qa_cons (qv 2) (qa_cons (qv 3) qa_nil))))))))))))))
end Bg
end
section
set_option Elab.async false
set_option linter.all false
set_option maxRecDepth 100000
set_option maxHeartbeats 4000000
namespace Bg
open PySem PySem.Spec PyProof.Rows L2
theorem d_p_stepped {P : Program} {w : World} {K : PySem.W.Frag} {mg : Str → Option Value} {base : Heap} {f : Addr} {cdv : Value} {A : Around} {outer : List Env} {s : Shared} {H : Hp} {E : XK} (B : Blt mg) (cl_Machine : Cls K (clsAt K "Machine")) (m_Machine_said : MethOk P w K mg base (clsAt K "Machine") "said" PS_Run_said K_Run_said (sp_Run_said K)) (m_Machine_answer : MethOk P w K mg base (clsAt K "Machine") "answer" PS_Run_answer K_Run_answer (sp_Run_answer K)) (m_Machine_ended : MethOk P w K mg base (clsAt K "Machine") "ended" PS_Run_ended K_Run_ended (sp_Run_ended K)) (m_Machine_step : MethOk P w K mg base (clsAt K "Machine") "step" PS_Machine_step K_Machine_step (sp_Machine_step K)) 
    (hr : Room k_p_stepped (A.deeper (envOfC "stepped" (defScope s_p_stepped) s.heap.objs.size f cdv))) : PSs (cxOf CX0 P w K mg base N_p_stepped "stepped" (defScope s_p_stepped) f cdv A outer s H E).nox (defBody s_p_stepped) (t_p_stepped K) := by
  have nd := sc_p_stepped.nd
  have hu := hr.units0
  have hu1 := hu_of hr
  refine QSs.up ?_
  exact (qss_cons (qs_set (i := 2) nd rfl (Or.inl rfl) qe_int) (qss_cons (qs_while PassesOwn.never (QW.pt (qw_and (qt_cmpR op_lt (qv 2) (qv 1) rfl) (qw_and1 (qt_not (qt_val (qe_meth0 cl_Machine m_Machine_ended (hr.mono (by decide)) (qv 0))))))) (qss_cons (qs_expr (qe_meth0 cl_Machine m_Machine_step (hr.mono (by decide)) (qv 0))) (qss_one (qs_aug (i := 2) nd rfl (Or.inl rfl) qe_int ip_add)))) (qss_cons (qs_set (i := 3) nd rfl (Or.inl rfl) (qe_ifExp (qt_val (qe_meth0 cl_Machine m_Machine_ended (hr.mono (by decide)) (qv 0))) qe_str qe_str)) (qss_one (qs_ret (qe_tup (qa_cons (qv 3) (qa_cons (qe_meth0 cl_Machine m_Machine_said (hr.mono (by decide)) (qv 0)) (qa_cons (qe_meth0 cl_Machine m_Machine_answer (hr.mono (by decide)) (qv 0)) (qa_cons (qv 2) qa_nil))))))))))
end Bg
end
section
set_option Elab.async false
set_option linter.all false
set_option maxRecDepth 100000
set_option maxHeartbeats 4000000
namespace Bg
open PySem PySem.Spec PyProof.Rows L2
theorem d_p_run_belt {P : Program} {w : World} {K : PySem.W.Frag} {mg : Str → Option Value} {base : Heap} {f : Addr} {cdv : Value} {A : Around} {outer : List Env} {s : Shared} {H : Hp} {E : XK} (B : Blt mg) (mk_Machine : MakeOk P w K mg base "Machine" (clsAt K "Machine") PS_Machine_init K_Machine_init (sp_Machine_init K)) (c_p_stepped : Callee P w K mg base "stepped" PS_p_stepped K_p_stepped (sp_p_stepped K))
    (hr : Room k_p_run_belt (A.deeper (envOfC "run_belt" (defScope s_p_run_belt) s.heap.objs.size f cdv))) : PSs (cxOf CX0 P w K mg base N_p_run_belt "run_belt" (defScope s_p_run_belt) f cdv A outer s H E).nox (defBody s_p_run_belt) (t_p_run_belt K) := by
  have nd := sc_p_run_belt.nd
  have hu := hr.units0
  have hu1 := hu_of hr
  refine QSs.up ?_
  exact (qss_one (qs_ret (qe_fn c_p_stepped (hr.mono (by decide)) rfl (qa_cons (qe_make mk_Machine (hr.mono (by decide)) rfl (qa_cons (qv 0) (qa_cons (qv 1) (qa_cons (qv 2) qa_nil)))) (qa_cons (qv 3) qa_nil)))))
end Bg
end
section
set_option Elab.async false
set_option linter.all false
set_option maxRecDepth 100000
set_option maxHeartbeats 4000000
namespace Bg
open PySem PySem.Spec PyProof.Rows L2
theorem d_Machine_frames {P : Program} {w : World} {K : PySem.W.Frag} {mg : Str → Option Value} {base : Heap} {f : Addr} {cdv : Value} {A : Around} {outer : List Env} {s : Shared} {H : Hp} {E : XK} (B : Blt mg)  
    (hr : Room k_Machine_frames (A.deeper (envOfC "Machine.frames" (defScope s_Machine_frames) s.heap.objs.size f cdv))) : PSs (cxOf CX0 P w K mg base N_Machine_frames "Machine.frames" (defScope s_Machine_frames) f cdv A outer s H E).nox (defBody s_Machine_frames) (t_Machine_frames K) := by
  have nd := sc_Machine_frames.nd
  have hu := hr.units0
  have hu1 := hu_of hr
  refine QSs.up ?_
  exact (qss_one (qs_ret (qe_comp (sc := defScope s_Machine_frames) (N := N_Machine_frames) (NY := ["self", "frame"]) (js := []) (k := 1) ⟨rfl, by decide +kernel, by decide +kernel, by decide +kernel, rfl, by decide +kernel⟩ rfl rfl rfl rfl (qi_seq (qe_fld (qv 0) rfl)) (fun _ _ _ _ _ => (qg_name (i := 1) (show List.Nodup (["self", "frame"] : List Str) by decide +kernel) rfl (Or.inl rfl))) (fun _ _ _ _ _ => qif_nil) (fun _ _ _ _ _ => (qe_tup (qa_cons (qe_fld (qv 1) rfl) (qa_cons (qe_fld (qv 1) rfl) (qa_cons (qe_fld (qv 1) rfl) qa_nil))))))))
end Bg
end
section
set_option Elab.async false
set_option linter.all false
set_option maxRecDepth 100000
set_option maxHeartbeats 4000000
namespace Bg
open PySem PySem.Spec PyProof.Rows L2
theorem d_due {P : Program} {w : World} {K : PySem.W.Frag} {mg : Str → Option Value} {base : Heap} {f : Addr} {cdv : Value} {A : Around} {outer : List Env} {s : Shared} {H : Hp} {E : XK} (B : Blt mg) (cl_Machine : Cls K (clsAt K "Machine")) (m_Machine_said : MethOk P w K mg base (clsAt K "Machine") "said" PS_Run_said K_Run_said (sp_Run_said K)) (m_Machine_frames : MethOk P w K mg base (clsAt K "Machine") "frames" PS_Machine_frames K_Machine_frames (sp_Machine_frames K)) (m_Machine_answer : MethOk P w K mg base (clsAt K "Machine") "answer" PS_Run_answer K_Run_answer (sp_Run_answer K)) (m_Machine_step : MethOk P w K mg base (clsAt K "Machine") "step" PS_Machine_step K_Machine_step (sp_Machine_step K)) (mk_Machine : MakeOk P w K mg base "Machine" (clsAt K "Machine") PS_Machine_init K_Machine_init (sp_Machine_init K)) 
    (hr : Room k_due (A.deeper (envOfC "_law_due" (defScope s_due) s.heap.objs.size f cdv))) : PSs (cxOf CX0 P w K mg base N_due "_law_due" (defScope s_due) f cdv A outer s H E).nox (defBody s_due) (t_due K) := by
  have nd := sc_due.nd
  have hu := hr.units0
  have hu1 := hu_of hr
  have hu5 := hu5_of hr
  refine QSs.up ?_
  exact (qss_cons (qs_set (i := 4) nd rfl (Or.inl rfl) (qe_make mk_Machine (hr.mono (by decide)) rfl (qa_cons (qv 0) (qa_cons (qv 1) (qa_cons (qv 2) qa_nil))))) (qss_cons (qs_set (i := 5) nd rfl (Or.inl rfl) qe_int) (qss_cons (qs_for PassesOwn.never rfl (qi_range1 rfl B.range_ (qa_cons (qv 3) qa_nil)) (qg_name (i := 6) nd rfl (Or.inl rfl)) (qss_one (qs_if (qt_cmpR (op_neU hu5) (qe_meth0 cl_Machine m_Machine_frames (hr.mono (by decide)) (qv 4)) (qe_lst qa_nil) rfl) (qss_cons (qs_expr (qe_meth0 cl_Machine m_Machine_step (hr.mono (by decide)) (qv 4))) (qss_one (qs_set (i := 5) nd rfl (Or.inl rfl) (qe_op op_plus (qv 5) qe_int)))) qss_nil))) (qss_cons (qs_if (qt_cmpR (op_eqU hu5) (qe_meth0 cl_Machine m_Machine_frames (hr.mono (by decide)) (qv 4)) (qe_lst qa_nil) rfl) (qss_one (qs_ret (qe_tup (qa_cons qe_str (qa_cons (qe_meth0 cl_Machine m_Machine_said (hr.mono (by decide)) (qv 4)) (qa_cons (qe_meth0 cl_Machine m_Machine_answer (hr.mono (by decide)) (qv 4)) (qa_cons (qv 5) qa_nil))))))) qss_nil) (qss_one (qs_ret (qe_tup (qa_cons qe_str (qa_cons (qe_meth0 cl_Machine m_Machine_said (hr.mono (by decide)) (qv 4)) (qa_cons qe_non (qa_cons (qv 3) qa_nil)))))))))))
end Bg
end
section
set_option Elab.async false
set_option linter.all false
set_option maxRecDepth 100000
set_option maxHeartbeats 4000000
namespace Bg
open PySem PySem.Spec PyProof.Rows L2
theorem d_alike {P : Program} {w : World} {K : PySem.W.Frag} {mg : Str → Option Value} {base : Heap} {f : Addr} {cdv : Value} {A : Around} {outer : List Env} {s : Shared} {H : Hp} {E : XK} (B : Blt mg)  
    (hr : Room k_alike (A.deeper (envOfC "_law_alike" (defScope s_alike) s.heap.objs.size f cdv))) : PSs (cxOf CX0 P w K mg base N_alike "_law_alike" (defScope s_alike) f cdv A outer s H E).nox (defBody s_alike) (t_alike K) := by
  have nd := sc_alike.nd
  have hu := hr.units0
  have hu1 := hu_of hr
  have hu5 := hu5_of hr
  refine QSs.up ?_
  exact (qss_cons (qs_if (QW.pt (qw_or (qt_not (qt_val (qe_callB call_isi rfl B.isinstance_ boot_isinstance (qa_cons (qv 0) (qa_cons (qe_bltn rfl B.tuple_ boot_tuple (v := .ty "tuple") rfl) qa_nil))))) (qw_or (qt_cmpR (op_neU hu5) (qe_callB call_len rfl B.len_ boot_len (qa_cons (qv 0) qa_nil)) qe_int rfl) (qw_or1 (qt_not (qt_val (qe_callB call_isi rfl B.isinstance_ boot_isinstance (qa_cons (qe_ix ix_seq (qv 0) qe_int (fun _ _ => rfl)) (qa_cons (qe_bltn rfl B.list_ boot_list (v := .ty "list") rfl) qa_nil))))))))) (qss_one (qs_ret qe_bl)) qss_nil) (qss_one (qs_ret (qe_and (qe_cmpR (op_eqU hu5) (qv 0) (qv 1) rfl) (qe_and (qe_callB call_isi rfl B.isinstance_ boot_isinstance (qa_cons (qe_ix ix_seq (qv 0) qe_int (fun _ _ => rfl)) (qa_cons (qe_bltn rfl B.int_ boot_int (v := .ty "int") rfl) qa_nil))) (qe_one (qe_not (qe_callB call_isi rfl B.isinstance_ boot_isinstance (qa_cons (qe_ix ix_seq (qv 0) qe_int (fun _ _ => rfl)) (qa_cons (qe_bltn rfl B.bool_ boot_bool (v := .ty "bool") rfl) qa_nil))))))))))
end Bg
end
section
set_option Elab.async false
set_option linter.all false
set_option maxRecDepth 100000
set_option maxHeartbeats 4000000
namespace Bg
open PySem PySem.Spec PyProof.Rows L2
theorem d_draw {P : Program} {w : World} {K : PySem.W.Frag} {mg : Str → Option Value} {base : Heap} {f : Addr} {cdv : Value} {A : Around} {outer : List Env} {s : Shared} {H : Hp} {E : XK} (B : Blt mg)  
    (hr : Room k_draw (A.deeper (envOfC "_law_draw" (defScope s_draw) s.heap.objs.size f cdv))) : PSs (cxOf CX0 P w K mg base N_draw "_law_draw" (defScope s_draw) f cdv A outer s H E).nox (defBody s_draw) (t_draw K) := by
  have nd := sc_draw.nd
  have hu := hr.units0
  have hu1 := hu_of hr
  refine QSs.up ?_
  exact (qss_cons (qs_asg (qe_slice sl_seq (qv 0) qo_none (qo_some qe_int)) (qg_tupL rfl (qgs_cons (qg_name (i := 2) nd rfl (Or.inl rfl)) (qgs_cons (qg_name (i := 3) nd rfl (Or.inl rfl)) qgs_nil)))) (qss_cons (qs_asg (qe_op op_plus (qv 3) qe_int) (qg_sub (qv 0) qe_int set_list)) (qss_cons (qs_if (QW.pt (qw_and (qt_cmpR op_lt (qe_op op_plus (qe_op op_fdiv (qv 3) qe_int) qe_int) (qe_callB call_len rfl B.len_ boot_len (qa_cons (qv 2) qa_nil)) rfl) (qw_and1 (qt_cmpR (op_eqG hu) (qe_op op_mod (qe_ix ix_seq (qv 2) qe_int (fun _ _ => rfl)) qe_int) qe_int rfl)))) (qss_cons (qs_if (qt_cmpR (op_eqG hu) (qe_op op_mod (qv 3) qe_int) qe_int rfl) (qss_one (qs_asg (qe_ix ix_seq (qv 2) (qe_op op_plus (qe_op op_fdiv (qv 3) qe_int) qe_int) (fun _ _ => rfl)) (qg_sub (qv 0) qe_int set_list))) qss_nil) (qss_one (qs_if (qt_cmpR op_notIn_seq (qe_ix ix_seq (qv 0) qe_int (fun _ _ => rfl)) (qe_tup (qa_cons qe_int (qa_cons (qe_un un_neg qe_int) qa_nil))) rfl) (qss_cons (qs_asg (qe_callB call_divmodW rfl B.divmod_ boot_divmod (qa_cons (qe_ix ix_seq (qv 0) qe_int (fun _ _ => rfl)) (qa_cons (qv 1) qa_nil))) (qg_tup rfl (qgs_cons (qg_sub (qv 0) qe_int set_list) (qgs_cons (qg_name (i := 4) nd rfl (Or.inl rfl)) qgs_nil)))) (qss_one (qs_ret (qv 4)))) qss_nil))) (qss_one (qs_if (qt_cmpR op_lt (qv 3) (qe_callB call_len rfl B.len_ boot_len (qa_cons (qv 2) qa_nil)) rfl) (qss_one (qs_ret (qe_op op_mod (qe_ix ix_seq (qv 2) (qv 3) (fun _ _ => rfl)) (qv 1)))) qss_nil))) (qss_cons (qs_set (i := 5) nd rfl (Or.inl rfl) (qe_op op_plus (qe_op op_times (qv 3) qe_int) qe_int)) (qss_cons (qs_if (qt_cmpR op_gt (qe_callB call_len rfl B.len_ boot_len (qa_cons (qv 2) qa_nil)) qe_int rfl) (qss_one (qs_set (i := 5) nd rfl (Or.inl rfl) (qe_op op_plus (qv 5) (qe_op op_times (qe_ix ix_seq (qv 2) (qe_op op_mod (qe_op op_times (qv 3) qe_int) (qe_callB call_len rfl B.len_ boot_len (qa_cons (qv 2) qa_nil))) (fun _ _ => rfl)) (qe_op op_plus qe_int (qv 3)))))) qss_nil) (qss_cons (qs_set (i := 5) nd rfl (Or.inl rfl) (qe_op op_mod (qe_op op_times (qe_op op_mod (qv 5) qe_int) (qe_op op_plus (qv 3) qe_int)) qe_int)) (qss_cons (qs_set (i := 5) nd rfl (Or.inl rfl) (qe_op op_mod (qe_op op_times (qv 5) (qv 5)) qe_int)) (qss_one (qs_ret (qe_op op_mod (qe_op op_mod (qe_op op_times (qv 5) (qv 5)) qe_int) (qv 1)))))))))))
end Bg
end
section
set_option Elab.async false
set_option linter.all false
set_option maxRecDepth 100000
set_option maxHeartbeats 4000000
namespace Bg
open PySem PySem.Spec PyProof.Rows L2
theorem d_worth {P : Program} {w : World} {K : PySem.W.Frag} {mg : Str → Option Value} {base : Heap} {f : Addr} {cdv : Value} {A : Around} {outer : List Env} {s : Shared} {H : Hp} {E : XK} (B : Blt mg)  (c_draw : Callee P w K mg base "_law_draw" PS_draw K_draw (sp_draw K))
    (hr : Room k_worth (A.deeper (envOfC "_law_worth" (defScope s_worth) s.heap.objs.size f cdv))) : PSs (cxOf CX0 P w K mg base N_worth "_law_worth" (defScope s_worth) f cdv A outer s H E).nox (defBody s_worth) (t_worth K) := by
  have nd := sc_worth.nd
  have hu := hr.units0
  have hu1 := hu_of hr
  refine QSs.up ?_
  exact (qss_cons (qs_if (qt_cmpR (op_eqG hu) (qe_fn c_draw (hr.mono (by decide)) rfl (qa_cons (qv 0) (qa_cons qe_int qa_nil))) qe_int rfl) (qss_one (qs_ret (qe_op op_plus (qe_op op_times (qe_fn c_draw (hr.mono (by decide)) rfl (qa_cons (qv 0) (qa_cons (qe_op op_pow qe_int qe_int) qa_nil))) (qe_op op_pow qe_int qe_int)) (qe_fn c_draw (hr.mono (by decide)) rfl (qa_cons (qv 0) (qa_cons (qe_op op_pow qe_int qe_int) qa_nil)))))) qss_nil) (qss_one (qs_ret (qe_ix ix_seq (qe_lst (qa_cons qe_int (qa_cons qe_int (qa_cons (qe_op op_sub (qe_op op_sub (qe_op op_pow qe_int qe_int) qe_int) (qe_fn c_draw (hr.mono (by decide)) rfl (qa_cons (qv 0) (qa_cons qe_int qa_nil)))) (qa_cons (qe_fn c_draw (hr.mono (by decide)) rfl (qa_cons (qv 0) (qa_cons qe_int qa_nil))) qa_nil))))) (qe_fn c_draw (hr.mono (by decide)) rfl (qa_cons (qv 0) (qa_cons qe_int qa_nil))) (fun _ _ => rfl)))))
end Bg
end
section
set_option Elab.async false
set_option linter.all false
set_option maxRecDepth 100000
set_option maxHeartbeats 4000000
namespace Bg
open PySem PySem.Spec PyProof.Rows L2
theorem d_silent {P : Program} {w : World} {K : PySem.W.Frag} {mg : Str → Option Value} {base : Heap} {f : Addr} {cdv : Value} {A : Around} {outer : List Env} {s : Shared} {H : Hp} {E : XK} (B : Blt mg)  
    (hr : Room k_silent (A.deeper (envOfC "_law_silent" (defScope s_silent) s.heap.objs.size f cdv))) : PSs (cxOf CX0 P w K mg base N_silent "_law_silent" (defScope s_silent) f cdv A outer s H E).nox (defBody s_silent) (t_silent K) := by
  have nd := sc_silent.nd
  have hu := hr.units0
  have hu1 := hu_of hr
  refine QSs.up ?_
  exact (qss_cons (qs_for PassesOwn.never rfl (qi_seq (qv 0)) (qg_name (i := 2) nd rfl (Or.inl rfl)) (qss_one (qs_if (qt_cmpR (op_eqG hu) (qe_ix ix_seq (qe_ix ix_seq (qv 0) (qv 1) (fun _ _ => rfl)) qe_int (fun _ _ => rfl)) qe_str rfl) (qss_one (qs_set (i := 1) nd rfl (Or.inl rfl) (qe_ix ix_seq (qe_ix ix_seq (qv 0) (qv 1) (fun _ _ => rfl)) qe_int (fun _ _ => rfl)))) (qss_one (qs_if (qt_cmpR (op_eqG hu) (qe_ix ix_seq (qe_ix ix_seq (qv 0) (qv 1) (fun _ _ => rfl)) qe_int (fun _ _ => rfl)) qe_str rfl) (qss_one (qs_set (i := 1) nd rfl (Or.inl rfl) (qe_op op_plus (qv 1) qe_int))) qss_nil))))) (qss_one (qs_ret (qe_cmpR op_in_seq (qe_ix ix_seq (qe_ix ix_seq (qv 0) (qv 1) (fun _ _ => rfl)) qe_int (fun _ _ => rfl)) (qe_tup (qa_cons qe_str (qa_cons qe_str qa_nil))) rfl))))
end Bg
end
section
set_option Elab.async false
set_option linter.all false
set_option maxRecDepth 100000
set_option maxHeartbeats 4000000
namespace Bg
open PySem PySem.Spec PyProof.Rows L2
theorem d_code_row {P : Program} {w : World} {K : PySem.W.Frag} {mg : Str → Option Value} {base : Heap} {f : Addr} {cdv : Value} {A : Around} {outer : List Env} {s : Shared} {H : Hp} {E : XK} (B : Blt mg)  (c_draw : Callee P w K mg base "_law_draw" PS_draw K_draw (sp_draw K)) (c_worth : Callee P w K mg base "_law_worth" PS_worth K_worth (sp_worth K))
    (hr : Room k_code_row (A.deeper (envOfC "_law_code_row" (defScope s_code_row) s.heap.objs.size f cdv))) : PSs (cxOf CX0 P w K mg base N_code_row "_law_code_row" (defScope s_code_row) f cdv A outer s H E).nox (defBody s_code_row) (t_code_row K) := by
  have nd := sc_code_row.nd
  have hu := hr.units0
  have hu1 := hu_of hr
  refine QSs.up ?_
  exact (qss_cons (qs_set (i := 4) nd rfl (Or.inl rfl) (qe_fn c_draw (hr.mono (by decide)) rfl (qa_cons (qv 0) (qa_cons qe_int qa_nil)))) (qss_cons (qs_set (i := 5) nd rfl (Or.inl rfl) (qe_fn c_draw (hr.mono (by decide)) rfl (qa_cons (qv 0) (qa_cons (qv 1) qa_nil)))) (qss_cons (qs_if (qt_cmpR op_lt (qv 4) qe_int rfl) (qss_one (qs_ret (qe_tup (qa_cons qe_str (qa_cons (qe_fn c_worth (hr.mono (by decide)) rfl (qa_cons (qv 0) qa_nil)) qa_nil))))) qss_nil) (qss_cons (qs_if (qt_cmpR op_lt (qv 4) qe_int rfl) (qss_one (qs_ret (qe_tup (qa_cons qe_str (qa_cons (qe_ix ix_seq qe_str (qe_fn c_draw (hr.mono (by decide)) rfl (qa_cons (qv 0) (qa_cons qe_int qa_nil))) (fun _ _ => rfl)) (qa_cons (qv 5) (qa_cons (qe_fn c_draw (hr.mono (by decide)) rfl (qa_cons (qv 0) (qa_cons (qv 1) qa_nil))) qa_nil))))))) qss_nil) (qss_cons (qs_if (qt_cmpR op_lt (qv 4) qe_int rfl) (qss_one (qs_ret (qe_tup (qa_cons qe_str (qa_cons (qv 5) qa_nil))))) qss_nil) (qss_cons (qs_if (qt_cmpR (op_eqG hu) (qv 4) qe_int rfl) (qss_one (qs_ret (qe_tup (qa_cons qe_str (qa_cons (qv 5) qa_nil))))) qss_nil) (qss_cons (qs_if (qt_cmpR op_lt (qv 4) qe_int rfl) (qss_one (qs_ret (qe_tup (qa_cons qe_str (qa_cons (qv 5) (qa_cons (qe_fn c_draw (hr.mono (by decide)) rfl (qa_cons (qv 0) (qa_cons (qv 2) qa_nil))) qa_nil)))))) qss_nil) (qss_cons (qs_if (qt_cmpR (op_eqG hu) (qv 4) qe_int rfl) (qss_one (qs_ret (qe_tup (qa_cons qe_str (qa_cons (qe_fn c_draw (hr.mono (by decide)) rfl (qa_cons (qv 0) (qa_cons (qv 2) qa_nil))) qa_nil))))) qss_nil) (qss_cons (qs_if (qt_cmpR (op_eqG hu) (qv 4) qe_int rfl) (qss_cons (qs_set (i := 6) nd rfl (Or.inl rfl) (qe_fn c_draw (hr.mono (by decide)) rfl (qa_cons (qv 0) (qa_cons (qe_callB call_len rfl B.len_ boot_len (qa_cons (qv 3) qa_nil)) qa_nil)))) (qss_one (qs_ret (qe_tup (qa_cons qe_str (qa_cons (qv 6) (qa_cons (qe_callTy call_tuple_of rfl B.tuple_ boot_tuple (qa_cons (qe_comp (sc := defScope s_code_row) (N := N_code_row) (NY := ["_law_state", "_law_places", "_law_many", "_law_counts", "_law_sort", "_law_i", "_law_k", "_law_j"]) (js := []) (k := 1) ⟨rfl, by decide +kernel, by decide +kernel, by decide +kernel, rfl, by decide +kernel⟩ rfl rfl rfl rfl (qi_range1 rfl B.range_ (qa_cons (qe_ix ix_seq (qv 3) (qv 6) (fun _ _ => rfl)) qa_nil)) (fun _ _ _ _ _ => (qg_name (i := 7) (show List.Nodup (["_law_state", "_law_places", "_law_many", "_law_counts", "_law_sort", "_law_i", "_law_k", "_law_j"] : List Str) by decide +kernel) rfl (Or.inl rfl))) (fun _ _ _ _ _ => qif_nil) (fun _ _ _ _ _ => (qe_fn c_draw (hr.mono (by decide)) rfl (qa_cons (qv 0) (qa_cons (qv 1) qa_nil))))) qa_nil)) qa_nil))))))) qss_nil) (qss_one (qs_ret (qe_tup (qa_cons qe_str (qa_cons (qv 5) qa_nil))))))))))))))
end Bg
end
section
set_option Elab.async false
set_option linter.all false
set_option maxRecDepth 100000
set_option maxHeartbeats 4000000
namespace Bg
open PySem PySem.Spec PyProof.Rows L2
theorem d_code_part {P : Program} {w : World} {K : PySem.W.Frag} {mg : Str → Option Value} {base : Heap} {f : Addr} {cdv : Value} {A : Around} {outer : List Env} {s : Shared} {H : Hp} {E : XK} (B : Blt mg)  (c_silent : Callee P w K mg base "_law_silent" PS_silent K_silent (sp_silent K)) (c_draw : Callee P w K mg base "_law_draw" PS_draw K_draw (sp_draw K)) (c_code_row : Callee P w K mg base "_law_code_row" PS_code_row K_code_row (sp_code_row K))
    (hr : Room k_code_part (A.deeper (envOfC "_law_code_part" (defScope s_code_part) s.heap.objs.size f cdv))) : PSs (cxOf CX0 P w K mg base N_code_part "_law_code_part" (defScope s_code_part) f cdv A outer s H E).nox (defBody s_code_part) (t_code_part K) := by
  have nd := sc_code_part.nd
  have hu := hr.units0
  have hu1 := hu_of hr
  refine QSs.up ?_
  exact (qss_cons (qs_set (i := 4) nd rfl (Or.inr rfl) (qe_op op_plus qe_int (qe_fn c_draw (hr.mono (by decide)) rfl (qa_cons (qv 0) (qa_cons (qv 3) qa_nil))))) (qss_cons (qs_comp (i := 5) (sc := defScope s_code_part) (N := N_code_part) (NY := ["_law_state", "_law_places", "_law_counts", "_law_most", "_law_many", "_law_rows", "_law_n"]) (js := [6]) (k := 0) ⟨rfl, by decide +kernel, by decide +kernel, by decide +kernel, rfl, by decide +kernel⟩ rfl rfl rfl rfl (qi_range1 rfl B.range_ (qa_cons (qv 4) qa_nil)) (fun _ _ _ _ _ => (qg_name (i := 6) (show List.Nodup (["_law_state", "_law_places", "_law_counts", "_law_most", "_law_many", "_law_rows", "_law_n"] : List Str) by decide +kernel) rfl (Or.inl rfl))) (fun _ _ _ _ _ => qif_nil) (fun _ _ _ _ _ => (qe_fn c_code_row (hr.mono (by decide)) rfl (qa_cons (qv 0) (qa_cons (qv 1) (qa_cons (qv 4) (qa_cons (qv 2) qa_nil)))))) nd rfl (Or.inl rfl) rfl) (qss_cons (qs_if (qt_cmpR op_notIn_seq (qe_ix ix_seq (qe_ix ix_seq (qv 5) (qe_un un_neg qe_int) (fun _ _ => rfl)) qe_int (fun _ _ => rfl)) (qe_tup (qa_cons qe_str (qa_cons qe_str qa_nil))) rfl) (qss_one (qs_asg (qe_tup (qa_cons qe_str (qa_cons (qe_fn c_draw (hr.mono (by decide)) rfl (qa_cons (qv 0) (qa_cons (qv 1) qa_nil))) qa_nil))) (qg_sub (qv 5) (qe_un un_neg qe_int) set_list))) qss_nil) (qss_cons (qs_for PassesOwn.never rfl (qi_range1 rfl B.range_ (qa_cons (qv 4) qa_nil)) (qg_name (i := 6) nd rfl (Or.inl rfl)) (qss_one (qs_if (qt_val (qe_fn c_silent (hr.mono (by decide)) rfl (qa_cons (qv 5) (qa_cons (qv 6) qa_nil)))) (qss_one (qs_asg (qe_ix ix_seq (qe_lst (qa_cons (qe_tup (qa_cons qe_str (qa_cons qe_int qa_nil))) (qa_cons (qe_tup (qa_cons qe_str (qa_cons qe_int qa_nil))) qa_nil))) (qe_callTy call_int1 rfl B.int_ boot_int (qa_cons (qe_cmpR (op_eqG hu) (qv 6) (qe_op op_sub (qv 4) qe_int) rfl) qa_nil)) (fun _ _ => rfl)) (qg_sub (qv 5) (qv 6) set_list))) qss_nil))) (qss_one (qs_ret (qe_callTy call_tuple_of rfl B.tuple_ boot_tuple (qa_cons (qv 5) qa_nil))))))))
end Bg
end
section
set_option Elab.async false
set_option linter.all false
set_option maxRecDepth 100000
set_option maxHeartbeats 4000000
namespace Bg
open PySem PySem.Spec PyProof.Rows L2
theorem d_code {P : Program} {w : World} {K : PySem.W.Frag} {mg : Str → Option Value} {base : Heap} {f : Addr} {cdv : Value} {A : Around} {outer : List Env} {s : Shared} {H : Hp} {E : XK} (B : Blt mg)  (c_code_part : Callee P w K mg base "_law_code_part" PS_code_part K_code_part (sp_code_part K)) (c_draw : Callee P w K mg base "_law_draw" PS_draw K_draw (sp_draw K))
    (hr : Room k_code (A.deeper (envOfC "_law_code" (defScope s_code) s.heap.objs.size f cdv))) : PSs (cxOf CX0 P w K mg base N_code "_law_code" (defScope s_code) f cdv A outer s H E).nox (defBody s_code) (t_code K) := by
  have nd := sc_code.nd
  have hu := hr.units0
  have hu1 := hu_of hr
  refine QSs.up ?_
  exact (qss_cons (qs_set (i := 3) nd rfl (Or.inr rfl) (qe_ix ix_seq (qe_lst (qa_cons (qe_op op_plus qe_int (qe_fn c_draw (hr.mono (by decide)) rfl (qa_cons (qv 0) (qa_cons qe_int qa_nil)))) (qa_cons (qe_op op_plus qe_int (qe_fn c_draw (hr.mono (by decide)) rfl (qa_cons (qv 0) (qa_cons qe_int qa_nil)))) qa_nil))) (qe_fn c_draw (hr.mono (by decide)) rfl (qa_cons (qv 0) (qa_cons qe_int qa_nil))) (fun _ _ => rfl))) (qss_cons (qs_set (i := 4) nd rfl (Or.inr rfl) (qe_comp (sc := defScope s_code) (N := N_code) (NY := ["_law_state", "_law_most", "_law_parts", "_law_places", "_law_counts", "_law_k"]) (js := []) (k := 1) ⟨rfl, by decide +kernel, by decide +kernel, by decide +kernel, rfl, by decide +kernel⟩ rfl rfl rfl rfl (qi_range1 rfl B.range_ (qa_cons (qv 2) qa_nil)) (fun _ _ _ _ _ => (qg_name (i := 5) (show List.Nodup (["_law_state", "_law_most", "_law_parts", "_law_places", "_law_counts", "_law_k"] : List Str) by decide +kernel) rfl (Or.inl rfl))) (fun _ _ _ _ _ => qif_nil) (fun _ _ _ _ _ => (qe_fn c_draw (hr.mono (by decide)) rfl (qa_cons (qv 0) (qa_cons qe_int qa_nil)))))) (qss_one (qs_ret (qe_tup (qa_cons (qv 3) (qa_cons (qe_callTy call_tuple_of rfl B.tuple_ boot_tuple (qa_cons (qe_comp (sc := defScope s_code) (N := N_code) (NY := ["_law_state", "_law_most", "_law_parts", "_law_places", "_law_counts", "_law_count"]) (js := []) (k := 1) ⟨rfl, by decide +kernel, by decide +kernel, by decide +kernel, rfl, by decide +kernel⟩ rfl rfl rfl rfl (qi_seq (qv 4)) (fun _ _ _ _ _ => (qg_name (i := 5) (show List.Nodup (["_law_state", "_law_most", "_law_parts", "_law_places", "_law_counts", "_law_count"] : List Str) by decide +kernel) rfl (Or.inl rfl))) (fun _ _ _ _ _ => qif_nil) (fun _ _ _ _ _ => (qe_tup (qa_cons (qv 5) (qa_cons (qe_fn c_code_part (hr.mono (by decide)) rfl (qa_cons (qv 0) (qa_cons (qv 3) (qa_cons (qv 4) (qa_cons (qv 1) qa_nil))))) qa_nil))))) qa_nil)) qa_nil)))))))
end Bg
end
section
set_option Elab.async false
set_option linter.all false
set_option maxRecDepth 100000
set_option maxHeartbeats 4000000
namespace Bg
open PySem PySem.Spec PyProof.Rows L2
theorem d_deep {P : Program} {w : World} {K : PySem.W.Frag} {mg : Str → Option Value} {base : Heap} {f : Addr} {cdv : Value} {A : Around} {outer : List Env} {s : Shared} {H : Hp} {E : XK} (B : Blt mg)  (c_p_run_belt : Callee P w K mg base "run_belt" PS_p_run_belt K_p_run_belt (sp_p_run_belt K)) (c_alike : Callee P w K mg base "_law_alike" PS_alike K_alike (sp_alike K))
    (hr : Room k_deep (A.deeper (envOfC "_law_deep" (defScope s_deep) s.heap.objs.size f cdv))) : QSs (cxOf CX0 P w K mg base N_deep "_law_deep" (defScope s_deep) f cdv A outer s H E).nox (defBody s_deep) (t_deep K) := by
  have nd := sc_deep.nd
  have hu := hr.units0
  have hu1 := hu_of hr
  exact (qss_cons (qs_set (i := 1) nd rfl (Or.inl rfl) (qe_tup (qa_cons (qe_tup (qa_cons qe_str (qa_cons qe_int (qa_cons qe_int qa_nil)))) (qa_cons (qe_tup (qa_cons qe_str (qa_cons qe_int qa_nil))) (qa_cons (qe_tup (qa_cons qe_str (qa_cons qe_int qa_nil))) (qa_cons (qe_tup (qa_cons qe_str (qa_cons qe_str (qa_cons qe_int (qa_cons qe_int qa_nil))))) (qa_cons (qe_tup (qa_cons qe_str (qa_cons qe_int (qa_cons (qe_tup (qa_cons qe_int qa_nil)) qa_nil)))) qa_nil))))))) (qss_cons (qs_set (i := 2) nd rfl (Or.inl rfl) (qe_tup (qa_cons qe_int (qa_cons (qe_tup (qa_cons (qe_tup (qa_cons qe_int (qa_cons (qe_op op_plus (qv 1) (qe_tup (qa_cons (qe_tup (qa_cons qe_str (qa_cons qe_str (qa_cons qe_int (qa_cons qe_int qa_nil))))) (qa_cons (qe_tup (qa_cons qe_str (qa_cons qe_int qa_nil))) qa_nil)))) qa_nil))) qa_nil)) qa_nil)))) (qss_cons (qs_if (qt_not (qt_val (qe_fn c_alike (hr.mono (by decide)) rfl (qa_cons (qe_fn c_p_run_belt (hr.mono (by decide)) rfl (qa_cons (qv 2) (qa_cons qe_int (qa_cons (qe_lst (qa_cons (qv 0) qa_nil)) (qa_cons (qe_op op_plus (qe_op op_times qe_int (qv 0)) qe_int) qa_nil))))) (qa_cons (qe_tup (qa_cons qe_str (qa_cons (qe_lst qa_nil) (qa_cons (qv 0) (qa_cons (qe_op op_plus (qe_op op_times qe_int (qv 0)) qe_int) qa_nil))))) qa_nil))))) (qss_one (qs_ret qe_bl)) qss_nil) (qss_one (qs_ret (qe_fn c_alike (hr.mono (by decide)) rfl (qa_cons (qe_fn c_p_run_belt (hr.mono (by decide)) rfl (qa_cons (qv 2) (qa_cons qe_int (qa_cons (qe_tup (qa_cons (qv 0) qa_nil)) (qa_cons (qe_op op_plus (qe_op op_times qe_int (qv 0)) qe_int) qa_nil))))) (qa_cons (qe_tup (qa_cons qe_str (qa_cons (qe_lst qa_nil) (qa_cons qe_non (qa_cons (qe_op op_plus (qe_op op_times qe_int (qv 0)) qe_int) qa_nil))))) qa_nil))))))))
end Bg
end
section
set_option Elab.async false
set_option linter.all false
set_option maxRecDepth 100000
set_option maxHeartbeats 4000000
namespace Bg
open PySem PySem.Spec PyProof.Rows L2
theorem d_law {P : Program} {w : World} {K : PySem.W.Frag} {mg : Str → Option Value} {base : Heap} {f : Addr} {cdv : Value} {A : Around} {outer : List Env} {s : Shared} {H : Hp} {E : XK} (B : Blt mg)  (c_p_run_belt : Callee P w K mg base "run_belt" PS_p_run_belt K_p_run_belt (sp_p_run_belt K)) (c_p_run_belt_d1 : CalleeD P w K mg base "run_belt" PS_p_run_belt K_p_run_belt [.int 400] (sp_p_run_belt K)) (c_due : Callee P w K mg base "_law_due" PS_due K_due (sp_due K)) (c_alike : Callee P w K mg base "_law_alike" PS_alike K_alike (sp_alike K)) (c_draw : Callee P w K mg base "_law_draw" PS_draw K_draw (sp_draw K)) (c_worth : Callee P w K mg base "_law_worth" PS_worth K_worth (sp_worth K)) (c_code : Callee P w K mg base "_law_code" PS_code K_code (sp_code K)) (c_deep : Callee P w K mg base "_law_deep" PS_deep K_deep (sp_deep K))
    (hr : Room k_law (A.deeper (envOfC "law" (defScope s_law) s.heap.objs.size f cdv))) : PSs (cxOf CX0 P w K mg base N_law "law" (defScope s_law) f cdv A outer s H E).nox (defBody s_law) (t_law K) := by
  have nd := sc_law.nd
  have hu := hr.units0
  have hu1 := hu_of hr
  have hu5 := hu5_of hr
  refine QSs.up ?_
  exact (qss_cons (qs_set (i := 1) nd rfl (Or.inr rfl) (qe_lst (qa_cons (qv 0) (qa_cons qe_int (qa_cons qe_int qa_nil))))) (qss_cons (qs_if (QW.pt (qw_and (qt_cmpR (op_eqU hu5) (qe_fn c_draw (hr.mono (by decide)) rfl (qa_cons (qv 1) (qa_cons qe_int qa_nil))) qe_int rfl) (qw_and1 (qt_not (qt_val (qe_fn c_deep (hr.mono (by decide)) rfl (qa_cons (qe_fn c_draw (hr.mono (by decide)) rfl (qa_cons (qv 1) (qa_cons qe_int qa_nil))) qa_nil))))))) (qss_one (qs_ret qe_bl)) qss_nil) (qss_cons (qs_set (i := 2) nd rfl (Or.inl rfl) (qe_fn c_code (hr.mono (by decide)) rfl (qa_cons (qv 1) (qa_cons qe_int (qa_cons (qe_op op_plus qe_int (qe_fn c_draw (hr.mono (by decide)) rfl (qa_cons (qv 1) (qa_cons qe_int qa_nil)))) qa_nil))))) (qss_cons (qs_set (i := 3) nd rfl (Or.inl rfl) (qe_fn c_draw (hr.mono (by decide)) rfl (qa_cons (qv 1) (qa_cons (qe_callB call_len rfl B.len_ boot_len (qa_cons (qe_ix ix_seq (qv 2) qe_int (fun _ _ => rfl)) qa_nil)) qa_nil)))) (qss_cons (qs_comp (i := 4) (sc := defScope s_law) (N := N_law) (NY := ["_law_script", "_law_state", "_law_code_here", "_law_k", "_law_args", "_law_most", "_law_one", "_law_other", "_law_whole", "_law_j"]) (js := []) (k := 1) ⟨rfl, by decide +kernel, by decide +kernel, by decide +kernel, rfl, by decide +kernel⟩ rfl rfl rfl rfl (qi_range1 rfl B.range_ (qa_cons (qe_ix ix_seq (qe_ix ix_seq (qe_ix ix_seq (qv 2) qe_int (fun _ _ => rfl)) (qv 3) (fun _ _ => rfl)) qe_int (fun _ _ => rfl)) qa_nil)) (fun _ _ _ _ _ => (qg_name (i := 9) (show List.Nodup (["_law_script", "_law_state", "_law_code_here", "_law_k", "_law_args", "_law_most", "_law_one", "_law_other", "_law_whole", "_law_j"] : List Str) by decide +kernel) rfl (Or.inl rfl))) (fun _ _ _ _ _ => qif_nil) (fun _ _ _ _ _ => (qe_fn c_worth (hr.mono (by decide)) rfl (qa_cons (qv 1) qa_nil))) nd rfl (Or.inl rfl) rfl) (qss_cons (qs_set (i := 5) nd rfl (Or.inl rfl) (qe_fn c_draw (hr.mono (by decide)) rfl (qa_cons (qv 1) (qa_cons qe_int qa_nil)))) (qss_cons (qs_set (i := 6) nd rfl (Or.inl rfl) (qe_fn c_p_run_belt (hr.mono (by decide)) rfl (qa_cons (qv 2) (qa_cons (qv 3) (qa_cons (qe_callTy call_list_of rfl B.list_ boot_list (qa_cons (qv 4) qa_nil)) (qa_cons (qv 5) qa_nil)))))) (qss_cons (qs_set (i := 7) nd rfl (Or.inl rfl) (qe_fn c_p_run_belt (hr.mono (by decide)) rfl (qa_cons (qv 2) (qa_cons (qv 3) (qa_cons (qv 4) (qa_cons (qe_op op_plus (qv 5) qe_int) qa_nil)))))) (qss_cons (qs_if (QW.pt (qw_or (qt_not (qt_val (qe_fn c_alike (hr.mono (by decide)) rfl (qa_cons (qv 6) (qa_cons (qe_fn c_due (hr.mono (by decide)) rfl (qa_cons (qv 2) (qa_cons (qv 3) (qa_cons (qv 4) (qa_cons (qv 5) qa_nil))))) qa_nil))))) (qw_or1 (qt_not (qt_val (qe_fn c_alike (hr.mono (by decide)) rfl (qa_cons (qv 7) (qa_cons (qe_fn c_due (hr.mono (by decide)) rfl (qa_cons (qv 2) (qa_cons (qv 3) (qa_cons (qv 4) (qa_cons (qe_op op_plus (qv 5) qe_int) qa_nil))))) qa_nil)))))))) (qss_one (qs_ret qe_bl)) qss_nil) (qss_cons (qs_if (QW.pt (qw_or (qt_cmpR (op_neU hu5) (qe_slice sl_seq (qe_ix ix_seq (qv 7) qe_int (fun _ _ => rfl)) qo_none (qo_some (qe_callB call_len rfl B.len_ boot_len (qa_cons (qe_ix ix_seq (qv 6) qe_int (fun _ _ => rfl)) qa_nil)))) (qe_ix ix_seq (qv 6) qe_int (fun _ _ => rfl)) rfl) (qw_or1 (QW.pt (qw_and (qt_cmpR (op_eqU hu5) (qe_ix ix_seq (qv 6) qe_int (fun _ _ => rfl)) qe_str rfl) (qw_and1 (qt_cmpR (op_neU hu5) (qv 7) (qv 6) rfl))))))) (qss_one (qs_ret qe_bl)) qss_nil) (qss_cons (qs_set (i := 8) nd rfl (Or.inl rfl) (qe_fnD c_p_run_belt_d1 (hr.mono (by decide)) rfl (qa_cons (qv 2) (qa_cons (qv 3) (qa_cons (qv 4) qa_nil))))) (qss_cons (qs_if (QW.pt (qw_and (qt_cmpR (op_eqU hu5) (qe_ix ix_seq (qv 6) qe_int (fun _ _ => rfl)) qe_str rfl) (qw_and1 (qt_cmpR (op_neU hu5) (qv 8) (qv 6) rfl)))) (qss_one (qs_ret qe_bl)) qss_nil) (qss_cons (qs_if (QW.pt (qw_and (qt_cmpR (op_eqU hu5) (qe_ix ix_seq (qv 8) qe_int (fun _ _ => rfl)) qe_str rfl) (qw_and1 (QW.pt (qw_or (qt_cmpR (op_neU hu5) (qe_ix ix_seq (qv 8) qe_int (fun _ _ => rfl)) qe_int rfl) (qw_or1 (qt_cmpR op_notN (qe_ix ix_seq (qv 8) qe_int (fun _ _ => rfl)) qe_non rfl))))))) (qss_one (qs_ret qe_bl)) qss_nil) (qss_one (qs_ret (qe_and (qe_cmpR (op_eqU hu5) (qe_ix ix_seq (qe_fn c_p_run_belt (hr.mono (by decide)) rfl (qa_cons (qv 2) (qa_cons (qv 3) (qa_cons (qv 4) (qa_cons qe_int qa_nil))))) qe_int (fun _ _ => rfl)) qe_str rfl) (qe_one (qe_cmpR (op_eqU hu5) (qe_fn c_p_run_belt (hr.mono (by decide)) rfl (qa_cons (qv 2) (qa_cons (qv 3) (qa_cons (qv 4) (qa_cons (qv 5) qa_nil))))) (qv 6) rfl))))))))))))))))))
end Bg
end
section
set_option Elab.async false
set_option linter.all false
set_option maxRecDepth 100000
set_option maxHeartbeats 4000000
namespace Bg
open PySem L2
theorem r_draw_tail {K : PySem.W.Frag} {st scr : Addr} {m : Int} {k : Nat} {ns : List Int} {c : Int} {H H2 : Hp} {Q : VK} {o4 o5 : Option V} {nx : St → Hp → Prop} (hk : k ≤ 1000000) (m0 : 0 < m)
    (q : ∀ (d : Int) (H' : Hp), 0 ≤ d → d < m → Stt K H' st (k + 1) → But st H H' → Q (.int d) H') (hS : H2 st = some (.lst [.ref scr, .int ((k : Int) + 1), .int c])) (hscr : ScrAt K H2 scr ns) (hns : ns.length ≤ 63) (hB : But st H H2) :
    t_draw_5 K { nx := nx, rt := Q } [some (.ref st), some (.int m), some (.ref scr), some (.int (k : Nat)), o4, o5] H2 := by
  have e1 : (((k + 1 : Nat) : Nat) : Int) = (k : Int) + 1 := by omega
  have S2 : Stt K H2 st (k + 1) := ⟨scr, ns, c, by rw [e1]; exact hS, hscr, hns⟩
  refine ⟨_, rfl, .inl ⟨_, _, rfl, rfl, .inr ⟨by decide, by decide⟩, .inl ⟨_, _, rfl, rfl, ?_⟩⟩⟩
  have rest : ∀ z : Int, t_draw_3 K { nx := nx, rt := Q } [some (.ref st), some (.int m), some (.ref scr), some (.int (k : Nat)), o4, some (.int z)] H2 := fun z => by
    have b1 : 0 ≤ z % 2147483629 := Int.emod_nonneg _ (by decide)
    have b2 : z % 2147483629 < 2147483629 := Int.emod_lt_of_pos _ (by decide)
    refine ⟨_, rfl, _, _, rfl, rfl, (by show (0 : Int) < 2147483629; decide), _, rfl, .inl ⟨_, _, rfl, rfl, .inl ⟨_, _, rfl, rfl, .inl ⟨by omega, by omega⟩, _, _, rfl, rfl, (by show (0 : Int) < 2147483629; decide), ?_⟩⟩⟩
    generalize hy : z % 2147483629 * ((k : Int) + 3) % 2147483629 = y
    have c1 : 0 ≤ y := by rw [← hy]; exact Int.emod_nonneg _ (by decide)
    have c2 : y < 2147483629 := by rw [← hy]; exact Int.emod_lt_of_pos _ (by decide)
    refine ⟨_, rfl, _, rfl, .inl ⟨_, _, rfl, rfl, .inl ⟨by omega, by omega⟩, _, _, rfl, rfl, (by show (0 : Int) < 2147483587; decide), ?_⟩⟩
    generalize hx : y * y % 2147483587 = x
    have d1 : 0 ≤ x := by rw [← hx]; exact Int.emod_nonneg _ (by decide)
    have d2 : x < 2147483587 := by rw [← hx]; exact Int.emod_lt_of_pos _ (by decide)
    refine ⟨_, rfl, _, rfl, .inl ⟨_, _, rfl, rfl, .inl ⟨by omega, by omega⟩, _, _, rfl, rfl, (by show (0 : Int) < 1999999973; decide), _, rfl, _, _, rfl, rfl, m0, ?_⟩⟩
    exact q _ H2 (Int.emod_nonneg _ (by omega)) (Int.emod_lt_of_pos _ m0) S2 hB
  refine ⟨_, rfl, _, _, rfl, .inl ⟨_, hscr.sq, rfl⟩, _, _, rfl, rfl, _, rfl, if_dec (fun hl => ?_) (fun _ => rest _)⟩
  rw [List.length_map] at hl
  have hlp : 0 < ns.length := by omega
  refine ⟨_, rfl, _, rfl, _, rfl, .inl ⟨_, _, rfl, rfl, .inr ⟨by decide, by decide⟩, _, rfl, _, _, rfl, .inl ⟨_, hscr.sq, rfl⟩, _, _, rfl, rfl, (by rw [List.length_map]; omega), ?_⟩⟩
  have i1 : 0 ≤ (k : Int) * 7 % ((ns.map V.int).length : Nat) := Int.emod_nonneg _ (by rw [List.length_map]; omega)
  have i2 : (k : Int) * 7 % ((ns.map V.int).length : Nat) < ((ns.map V.int).length : Nat) := Int.emod_lt_of_pos _ (by rw [List.length_map]; omega)
  rw [List.length_map] at i1 i2
  have i3 : ((k : Int) * 7 % (ns.length : Nat)).toNat < ns.length := by omega
  refine ixL hscr.sq (by rw [List.length_map]; exact i1) (v := .int ns[((k : Int) * 7 % (ns.length : Nat)).toNat]) (by simp only [List.length_map]; rw [List.getElem?_map, List.getElem?_eq_getElem i3]; rfl) ?_
  exact ⟨_, rfl, .inl ⟨_, _, rfl, rfl, .inl ⟨_, _, rfl, rfl, .inr ⟨by omega, by omega⟩, .inl ⟨_, _, rfl, rfl, rest _⟩⟩⟩⟩
theorem r_draw {K : PySem.W.Frag} {vs : List V} {H : Hp} {Q : VK} {E : XK} (h : sp_draw K vs H Q E) : t_draw K { nx := fun _ H' => Q .non H', rt := Q } (start N_draw vs) H := by
  obtain ⟨st, m, k, rfl, S, hk, m0, m1, q⟩ := h
  obtain ⟨scr, ns, c, hst, hscr, hns⟩ := S
  refine ⟨_, rfl, _, rfl, .inl ⟨st, _, rfl, SqL.of hst, fun p hp => ?_⟩⟩
  refine ⟨p, _, rfl, SqL.of upd_same, rfl, _, _, rfl, _, _, rfl, rfl, ?_⟩
  have np : st ≠ p := ne_of_none hst hp
  have B1 : But st H (upd H p (.lst (cutV [V.ref scr, V.int (k : Nat), V.int c] none (some 2)))) := (But.refl st H).new hp
  have h1 : (upd H p (.lst (cutV [V.ref scr, V.int (k : Nat), V.int c] none (some 2)))) st = some (.lst [.ref scr, .int (k : Nat), .int c]) := by rw [upd_ne np]; exact hst
  have s1 : ScrAt K (upd H p (.lst (cutV [V.ref scr, V.int (k : Nat), V.int c] none (some 2)))) scr ns := hscr.mono (.of_but B1 hst)
  generalize upd H p (.lst (cutV [V.ref scr, V.int (k : Nat), V.int c] none (some 2))) = H1 at B1 h1 s1 ⊢
  refine ⟨_, rfl, .inl ⟨_, _, rfl, rfl, _, rfl, setL h1 (by decide) (by show 1 < 3; decide) ?_⟩⟩
  have B2 : But st H (upd H1 st (.lst [.ref scr, .int ((k : Int) + 1), .int c])) := B1.trans .upd_at
  have h2 : (upd H1 st (.lst [.ref scr, .int ((k : Int) + 1), .int c])) st = some (.lst [.ref scr, .int ((k : Int) + 1), .int c]) := upd_same
  have s2 : ScrAt K (upd H1 st (.lst [.ref scr, .int ((k : Int) + 1), .int c])) scr ns := s1.mono (.of_but .upd_at h1)
  show t_draw_8 K _ [some (.ref st), some (.int m), some (.ref scr), some (.int (k : Nat)), none, none] (upd H1 st (.lst [.ref scr, .int ((k : Int) + 1), .int c]))
  generalize upd H1 st (.lst [.ref scr, .int ((k : Int) + 1), .int c]) = H2 at B2 h2 s2 ⊢
  have tail := @r_draw_tail K st scr m k ns c H H2 Q none none (fun _ H' => Q .non H') hk m0 q h2 s2 hns B2
  have dig : ∀ (c' : Int) (H3 : Hp), H3 st = some (.lst [.ref scr, .int ((k : Int) + 1), .int c']) → ScrAt K H3 scr ns → But st H H3 →
      t_draw_7 K { nx := t_draw_5 K { nx := fun _ H' => Q .non H', rt := Q }, rt := Q } [some (.ref st), some (.int m), some (.ref scr), some (.int (k : Nat)), none, none] H3 := fun c' H3 h3 s3 B3 => by
    refine ⟨_, rfl, ixL (SqL.of h3) (by decide) rfl ?_⟩
    refine ⟨_, rfl, (by show 2 ≤ sizeLine; decide), fun t ht => ⟨t, _, rfl, .inr (SqT.of upd_same), rfl, rfl, _, rfl, ?_⟩⟩
    have n3 : st ≠ t := ne_of_none h3 ht
    have B4 : But st H (upd H3 t (.tup [.int 0, .int (-1)])) := B3.new ht
    have h4 : (upd H3 t (.tup [.int 0, .int (-1)])) st = some (.lst [.ref scr, .int ((k : Int) + 1), .int c']) := by rw [upd_ne n3]; exact h3
    have s4 : ScrAt K (upd H3 t (.tup [.int 0, .int (-1)])) scr ns := s3.mono (.of_same ((Same.refl H3).new ht))
    refine if_bl (fun _ => ?_) (fun _ => ?_)
    · -- _law_state[2], _law_digit = divmod(_law_state[2], _law_many)
      refine ⟨_, rfl, .inl ⟨st, _, _, _, rfl, rfl, SqL.of h4, atI_of (by decide) rfl, _, rfl, _, _, rfl, ⟨m0, m1⟩, fun p2 hp2 => ?_⟩⟩
      have n4 : st ≠ p2 := ne_of_none h4 hp2
      refine ⟨p2, _, rfl, SqT.of upd_same, rfl, _, _, rfl, _, rfl, setL (by rw [upd_ne n4]; exact h4) (by decide) (by show 2 < 3; decide) ?_⟩
      refine ⟨_, _, rfl, rfl, _, rfl, ?_⟩
      have B5 := (B4.new (o := .tup [.int (c' / m), .int (c' % m)]) hp2)
      have s5 : ScrAt K (upd (upd H3 t (.tup [.int 0, .int (-1)])) p2 (.tup [.int (c' / m), .int (c' % m)])) scr ns := s4.mono (.of_same ((Same.refl _).new hp2))
      have h5 : (upd (upd H3 t (.tup [.int 0, .int (-1)])) p2 (.tup [.int (c' / m), .int (c' % m)])) st = some (.lst [.ref scr, .int ((k : Int) + 1), .int c']) := by rw [upd_ne n4]; exact h4
      refine q _ _ (Int.emod_nonneg _ (by omega)) (Int.emod_lt_of_pos _ m0) ⟨scr, ns, c' / m, ?_, s5.mono (.of_but .upd_at h5), hns⟩ (B5.trans .upd_at)
      have e1 : (((k + 1 : Nat) : Nat) : Int) = (k : Int) + 1 := by omega
      rw [upd_same, e1]
      rfl
    · exact r_draw_tail hk m0 q h4 s4 hns B4
  have e1 : (((k + 1 : Nat) : Nat) : Int) = (k : Int) + 1 := by omega
  have elif : tIfS (tTest (tOp rLt2 (tVar 3) (tCB (rLen K) (tCons (tVar 2) tNil)))) (tRet (tOp rMod2 (tOp (rIx K) (tVar 2) (tVar 3)) (tVar 1))) tNext
      { nx := t_draw_5 K { nx := fun _ H' => Q V.non H', rt := Q }, rt := Q } [some (V.ref st), some (V.int m), some (V.ref scr), some (V.int (k : Nat)), none, none] H2 := by
    refine ⟨_, rfl, _, rfl, _, _, rfl, .inl ⟨_, s2.sq, rfl⟩, _, _, rfl, rfl, _, rfl, if_dec (fun hlt => ?_) (fun _ => tail)⟩
    rw [List.length_map] at hlt
    have j2 : ((k : Nat) : Int).toNat < ns.length := by omega
    refine ⟨_, rfl, _, rfl, ixL s2.sq (by omega) (v := .int ns[((k : Nat) : Int).toNat]) (by rw [List.getElem?_map, List.getElem?_eq_getElem j2]; rfl) ?_⟩
    refine ⟨_, rfl, _, _, rfl, rfl, m0, ?_⟩
    exact q _ H2 (Int.emod_nonneg _ (by omega)) (Int.emod_lt_of_pos _ m0) ⟨scr, ns, c, by rw [e1]; exact h2, s2, hns⟩ B2
  refine ⟨_, rfl, _, _, rfl, rfl, ⟨by decide, by decide⟩, .inl ⟨_, _, rfl, rfl, _, rfl, _, _, rfl, .inl ⟨_, s2.sq, rfl⟩, _, _, rfl, rfl, _, rfl, if_dec (fun hlt => ?_) (fun _ => ?_)⟩⟩
  · rw [List.length_map] at hlt
    have hlp : 0 < ns.length := by omega
    have i0 : (ns.map V.int)[(0 : Int).toNat]? = some (.int ns[0]) := by
      show (ns.map V.int)[0]? = _
      rw [List.getElem?_map, List.getElem?_eq_getElem hlp]; rfl
    refine ⟨_, rfl, ixL s2.sq (by decide) i0 ⟨_, _, rfl, rfl, (by show (0 : Int) < 2; decide), .inl ⟨rfl, _, rfl, if_dec (fun _ => ?_) (fun _ => ?_)⟩⟩⟩
    · -- if _law_k % 12 == 0
      refine ⟨_, rfl, _, _, rfl, rfl, (by show (0 : Int) < 12; decide), .inl ⟨rfl, _, rfl, if_dec (fun _ => ?_) (fun _ => dig c H2 h2 s2 B2)⟩⟩
      have j2 : ((k : Int) / 12 + 1).toNat < ns.length := by omega
      refine ⟨_, rfl, _, rfl, _, _, rfl, rfl, ⟨by decide, by decide⟩, .inl ⟨_, _, rfl, rfl, ixL s2.sq (by omega) (v := .int ns[((k : Int) / 12 + 1).toNat]) (by rw [List.getElem?_map, List.getElem?_eq_getElem j2]; rfl) ?_⟩⟩
      refine ⟨_, rfl, setL h2 (by decide) (by show 2 < 3; decide) ?_⟩
      exact dig _ _ upd_same (s2.mono (.of_but .upd_at h2)) (B2.trans .upd_at)
    · exact elif
  · exact iteF elif
end Bg
end
section
set_option Elab.async false
set_option linter.all false
set_option maxRecDepth 100000
set_option maxHeartbeats 4000000
namespace Bg
open PySem L2
theorem r_worth {K : PySem.W.Frag} {vs : List V} {H : Hp} {Q : VK} {E : XK} (h : sp_worth K vs H Q E) : t_worth K { nx := fun _ H' => Q .non H', rt := Q } (start N_worth vs) H := by
  obtain ⟨st, k, rfl, S, hk, q⟩ := h
  have e31 : (2 : Int) ^ Int.toNat 31 = 2147483648 := by decide
  have e33 : (2 : Int) ^ Int.toNat 33 = 8589934592 := by decide
  have e64 : (2 : Int) ^ Int.toNat 64 = 18446744073709551616 := by decide
  have f64 : (2 : Int) ^ 64 = 18446744073709551616 := by decide
  refine ⟨_, rfl, st, 2, k, rfl, S, by omega, by decide, by decide, fun d H1 d0 d1 S1 B1 => ?_⟩
  refine .inl ⟨rfl, _, rfl, if_dec (fun _ => ?_) (fun _ => ?_)⟩
  · refine ⟨_, rfl, _, _, rfl, rfl, ⟨by decide, by decide, by decide⟩, st, _, k + 1, rfl, S1, by omega, by rw [e31]; decide, by rw [e31]; decide, fun d2 H2 a0 a1 S2 B2 => ?_⟩
    rw [e31] at a1
    refine ⟨_, _, rfl, rfl, ⟨by decide, by decide, by decide⟩, .inl ⟨_, _, rfl, rfl, .inl ⟨by omega, by omega⟩, ?_⟩⟩
    refine ⟨_, rfl, _, _, rfl, rfl, ⟨by decide, by decide, by decide⟩, st, _, k + 2, rfl, S2, by omega, by rw [e31]; decide, by rw [e31]; decide, fun d3 H3 b0 b1 S3 B3 => ?_⟩
    rw [e31] at b1
    refine .inl ⟨_, _, rfl, rfl, q _ _ H3 ?_ ?_ S3 (by omega) ((B1.trans B2).trans B3)⟩
    · show 0 ≤ d2 * (2 : Int) ^ Int.toNat 33 + d3
      rw [e33]; omega
    · show d2 * (2 : Int) ^ Int.toNat 33 + d3 < 2 ^ 64
      rw [e33, f64]; omega
  · refine ⟨_, _, rfl, rfl, ⟨by decide, by decide, by decide⟩, _, _, rfl, rfl, _, rfl, st, 3, k + 1, rfl, S1, by omega, by decide, by decide, fun d2 H2 a0 a1 S2 B2 => ?_⟩
    refine ⟨_, _, rfl, rfl, _, rfl, st, 12, k + 2, rfl, S2, by omega, by decide, by decide, fun d3 H3 b0 b1 S3 B3 => ?_⟩
    refine ⟨(by show 4 ≤ sizeLine; decide), fun l hl => ?_⟩
    refine ⟨_, rfl, st, 4, k + 3, rfl, S3.new hl, by omega, by decide, by decide, fun d4 H4 c0 c1 S4 B4 => ?_⟩
    obtain ⟨ys, hys⟩ := S3.lst
    have nl : l ≠ st := fun z => by rw [z, hys] at hl; cases hl
    have h4 := B4 l _ nl upd_same
    have B5 : But st H H4 := (((B1.trans B2).trans B3).new hl).trans B4
    have fin : ∀ z : Int, 0 ≤ z → z < 2 ^ 64 → Q (.int z) H4 := fun z z0 z1 => q z _ H4 z0 z1 S4 (by omega) B5
    rcases (by omega : d4 = 0 ∨ d4 = 1 ∨ d4 = 2 ∨ d4 = 3) with rfl | rfl | rfl | rfl
    · exact ixL (SqL.of h4) (by decide) rfl (fin _ (by decide) (by decide))
    · exact ixL (SqL.of h4) (by decide) rfl (fin _ (by decide) (by decide))
    · refine ixL (SqL.of h4) (by decide) rfl (fin _ ?_ ?_)
      · show 0 ≤ (2 : Int) ^ Int.toNat 64 - 1 - d2
        rw [e64]; omega
      · show (2 : Int) ^ Int.toNat 64 - 1 - d2 < 2 ^ 64
        rw [e64, f64]; omega
    · exact ixL (SqL.of h4) (by decide) rfl (fin _ (by omega) (by omega))
end Bg
end
section
set_option Elab.async false
set_option linter.all false
set_option maxRecDepth 100000
set_option maxHeartbeats 4000000
namespace Bg
open PySem L2
theorem r_p_unbounded {K : PySem.W.Frag} {vs : List V} {H : Hp} {Q : VK} {E : XK} (h : sp_p_unbounded K vs H Q E) : t_p_unbounded K { nx := fun _ H' => Q .non H', rt := Q } (start N_p_unbounded vs) H := by
  obtain ⟨s, a, b, rfl, ha, hb, q⟩ := h
  refine ⟨_, rfl, .inl ⟨rfl, _, rfl, if_dec (fun h => ?_) (fun h => ?_)⟩⟩
  · have e : s = "+" := V.str.inj h
    refine ⟨_, rfl, _, rfl, .inl ⟨_, _, rfl, rfl, ?_⟩⟩
    have q' := q
    unfold unb at q'
    rw [if_pos e] at q'
    exact q'
  have h1 : ¬ s = "+" := fun e => h (by rw [e])
  refine ⟨_, rfl, .inl ⟨rfl, _, rfl, if_dec (fun h => ?_) (fun h => ?_)⟩⟩
  · have e : s = "-" := V.str.inj h
    refine ⟨_, rfl, _, rfl, _, _, rfl, rfl, ?_⟩
    have q' := q
    unfold unb at q'
    rw [if_neg h1, if_pos e] at q'
    exact q'
  have h2 : ¬ s = "-" := fun e => h (by rw [e])
  refine ⟨_, rfl, _, rfl, .inl ⟨_, _, rfl, rfl, .inl ⟨by have := ha.1; omega, ha.2⟩, ?_⟩⟩
  have q' := q
  unfold unb at q'
  rw [if_neg h1, if_neg h2] at q'
  exact q'
theorem r_p_worth {K : PySem.W.Frag} {vs : List V} {H : Hp} {Q : VK} {E : XK} (h : sp_p_worth K vs H Q E) : t_p_worth K { nx := fun _ H' => Q .non H', rt := Q } (start N_p_worth vs) H := by
  obtain ⟨s, a, b, rfl, ha, hb, q⟩ := h
  have e64 : (2 : Int) ^ Int.toNat 64 = 18446744073709551616 := by decide
  refine ⟨_, rfl, .inl ⟨rfl, _, rfl, if_dec (fun h => ?_) (fun h => ?_)⟩⟩
  · have e : s = "<" := V.str.inj h
    have q' := q
    unfold wth at q'
    rw [if_pos e] at q'
    refine ⟨_, rfl, _, rfl, _, _, rfl, rfl, _, rfl, if_dec (fun h => ?_) (fun h => ?_)⟩
    · rw [if_pos h] at q'; exact q'
    · rw [if_neg h] at q'; exact q'
  have h1 : ¬ s = "<" := fun e => h (by rw [e])
  refine ⟨_, rfl, .inl ⟨rfl, _, rfl, if_dec (fun h => ?_) (fun h => ?_)⟩⟩
  · have e : s = "=" := V.str.inj h
    have q' := q
    unfold wth at q'
    rw [if_neg h1, if_pos e] at q'
    refine ⟨_, rfl, _, rfl, .inl ⟨rfl, _, rfl, if_dec (fun h => ?_) (fun h => ?_)⟩⟩
    · rw [if_pos (V.int.inj h)] at q'; exact q'
    · rw [if_neg (fun z => h (by rw [z]))] at q'; exact q'
  have h2 : ¬ s = "=" := fun e => h (by rw [e])
  have q' := q
  unfold wth at q'
  rw [if_neg h1, if_neg h2] at q'
  refine ⟨_, rfl, _, rfl, _, rfl, s, a, b, rfl, ha, hb, _, _, rfl, rfl, ⟨by decide, by decide, by decide⟩, _, _, rfl, rfl, (by show (0 : Int) < (2 : Int) ^ Int.toNat 64; decide), ?_⟩
  show Q (.int (unb s a b % (2 : Int) ^ Int.toNat 64)) H
  rw [e64]; exact q'
end Bg
end
section
set_option Elab.async false
set_option linter.all false
set_option maxRecDepth 100000
set_option maxHeartbeats 4000000
namespace Bg
open PySem L2
theorem r_Run_init {K : PySem.W.Frag} {vs : List V} {H : Hp} {Q : VK} {E : XK} (h : sp_Run_init K vs H Q E) : t_Run_init K { nx := fun _ H' => Q .non H', rt := Q } (start N_Run_init vs) H := by
  obtain ⟨x, dx, C, rfl, hx, R, q⟩ := h
  refine ⟨(by show 0 ≤ sizeLine; decide), fun ol no => ?_⟩
  have hx1 : upd H ol (.lst []) x = some (.ins C dx []) := by rw [upd_ne (ne_of_none hx no)]; exact hx
  refine ⟨_, rfl, x, C, dx, _, rfl, hx1, R.cl, R.no, (by show 0 < 1000; decide), ?_⟩
  show t_Run_init_2 K _ [some (.ref x)] (upd (upd H ol (.lst [])) x (.ins C dx [("opened", .ref ol)]))
  have xo : x ≠ ol := ne_of_none hx no
  refine ⟨(by show 0 ≤ sizeLine; decide), fun sl ns => ?_⟩
  have g1 : upd (upd H ol (.lst [])) x (.ins C dx [("opened", .ref ol)]) x = some (.ins C dx [("opened", .ref ol)]) := upd_same
  have xs : x ≠ sl := ne_of_none g1 ns
  have os : ol ≠ sl := fun z => by subst z; rw [upd_ne (Ne.symm xo), upd_same] at ns; cases ns
  have Hs : H sl = none := by rw [upd_ne (Ne.symm xs), upd_ne (Ne.symm os)] at ns; exact ns
  refine ⟨_, rfl, x, C, dx, _, rfl, (by rw [upd_ne xs]; exact g1), R.cl, R.ns, (by show 1 < 1000; decide), ?_⟩
  refine ⟨_, rfl, x, C, dx, _, rfl, upd_same, R.cl, R.nu, (by show 2 < 1000; decide), ?_⟩
  refine q ol sl _ no Hs os upd_same ?_ ?_ fun b o nb hb => ?_
  · rw [upd_ne (Ne.symm xo), upd_ne (Ne.symm xo), upd_ne os, upd_ne (Ne.symm xo), upd_same]
  · rw [upd_ne (Ne.symm xs), upd_ne (Ne.symm xs), upd_same]
  · rw [upd_ne nb, upd_ne nb, upd_ne (ne_of_none hb Hs), upd_ne nb, upd_ne (ne_of_none hb no)]
    exact hb
theorem r_Run_ended {K : PySem.W.Frag} {vs : List V} {H : Hp} {Q : VK} {E : XK} (h : sp_Run_ended K vs H Q E) : t_Run_ended K { nx := fun _ H' => Q .non H', rt := Q } (start N_Run_ended vs) H := by
  obtain ⟨w, C, dx, ol, fs, fvs, rfl, hw, R, lk, ho, q⟩ := h
  refine ⟨_, rfl, w, C, dx, fs, _, rfl, hw, R.cl, R.no, lk, _, _, rfl, .inl ⟨_, SqL.of ho, rfl⟩, .inl ⟨rfl, q _ ?_⟩⟩
  rw [decide_eq_true_eq]
  constructor
  · intro z
    have z' := V.int.inj z
    exact List.length_eq_zero_iff.mp (by omega)
  · intro z
    rw [z]; rfl
theorem r_Run_said {K : PySem.W.Frag} {vs : List V} {H : Hp} {Q : VK} {E : XK} (h : sp_Run_said K vs H Q E) : t_Run_said K { nx := fun _ H' => Q .non H', rt := Q } (start N_Run_said vs) H := by
  obtain ⟨w, C, dx, sl, fs, xs, rfl, hw, R, lk, hs, q⟩ := h
  exact ⟨_, rfl, w, C, dx, fs, _, rfl, hw, R.cl, R.ns, lk, sl, _, rfl, .inl (SqL.of hs), q⟩
theorem r_Run_answer {K : PySem.W.Frag} {vs : List V} {H : Hp} {Q : VK} {E : XK} (h : sp_Run_answer K vs H Q E) : t_Run_answer K { nx := fun _ H' => Q .non H', rt := Q } (start N_Run_answer vs) H := by
  obtain ⟨w, C, dx, fs, v, rfl, hw, R, lk, q⟩ := h
  exact ⟨_, rfl, w, C, dx, fs, _, rfl, hw, R.cl, R.nu, lk, q⟩
end Bg
end
section
set_option Elab.async false
set_option linter.all false
set_option maxRecDepth 100000
set_option maxHeartbeats 4000000
namespace Bg
open PySem L2
theorem pushV_len (b : List V) (x : V) : (pushV b x).length = b.length := by
  unfold pushV; rw [List.length_take, List.length_cons]; omega
theorem rep_one (n : Nat) (x : V) : (List.replicate n [x]).flatten = List.replicate n x := by
  induction n with
  | zero => rfl
  | succ n ih => rw [List.replicate_succ, List.flatten_cons, ih, List.replicate_succ]; rfl
theorem r_p_pushed {K : PySem.W.Frag} {vs : List V} {H : Hp} {Q : VK} {E : XK} (h : sp_p_pushed K vs H Q E) : t_p_pushed K { nx := fun _ H' => Q .non H', rt := Q } (start N_p_pushed vs) H := by
  obtain ⟨b, x, xs, rfl, hb, hne, hl, q⟩ := h
  refine ⟨_, rfl, (by show 1 ≤ sizeLine; decide), fun t ht => ⟨_, rfl, ?_⟩⟩
  have hb1 : (upd H t (.tup [x])) b = some (.tup xs) := by rw [upd_ne (ne_of_none hb ht)]; exact hb
  refine .inr (.inr (.inr ⟨t, b, [x], xs, rfl, rfl, SqT.of upd_same, SqT.of hb1, by simp, ?_, fun z => absurd z hne, fun _ p hp => ?_⟩))
  · exact Nat.le_of_lt (smallL (by rw [List.length_singleton]; omega))
  have hb2 : (upd (upd H t (.tup [x])) p (.tup ([x] ++ xs))) b = some (.tup xs) := by rw [upd_ne (ne_of_none hb1 hp)]; exact hb1
  refine ⟨_, rfl, _, _, rfl, .inr ⟨xs, SqT.of hb2, rfl⟩, _, rfl, .inr ⟨p, _, rfl, SqT.of upd_same, ?_, fun p2 hp2 => ?_⟩⟩
  · rintro ⟨_, z⟩
    rw [HT.sIx_nat] at z
    simp at z
  · refine q p2 _ ?_ (((Same.refl H).new ht).new hp |>.new hp2)
    rw [upd_same, cut_take]
    rfl
theorem r_p_begun {K : PySem.W.Frag} {vs : List V} {H : Hp} {Q : VK} {E : XK} (h : sp_p_begun K vs H Q E) : t_p_begun K { nx := fun _ H' => Q .non H', rt := Q } (start N_p_begun vs) H := by
  obtain ⟨n, a, e, xs, rfl, ha, n1, nl, q⟩ := h
  have rep : (List.replicate n [e]).flatten = List.replicate n e := rep_one n e
  have main : ∀ (p : Addr) (H1 : Hp), H1 p = some (.tup (List.replicate n e)) → Same H H1 → t_p_begun_3 K { nx := fun _ H' => Q .non H', rt := Q } [some (.int (n : Nat)), some (.ref a), some e, some (.ref p), none] H1 := fun p H1 h1 s1 => by
    have turn : ∀ (i : Nat) x (σ' : St) (H' : Hp) (D : Ends), xs[i]? = some x → (∃ pp o, σ' = [some (.int (n : Nat)), some (.ref a), some e, some (.ref pp), o] ∧ H' pp = some (.tup ((xs.take i).foldl pushV (List.replicate n e))) ∧ Same H H') →
        (∀ σ2 H2, (∃ pp o, σ2 = [some (.int (n : Nat)), some (.ref a), some e, some (.ref pp), o] ∧ H2 pp = some (.tup ((xs.take (i + 1)).foldl pushV (List.replicate n e))) ∧ Same H H2) → D.nx σ2 H2) →
        gName 4 x σ' H' fun σ2 H2 => t_p_begun_2 K D σ2 H2 := by
      rintro i x σ' H' D hx ⟨pp, o, rfl, hp, s'⟩ hD
      refine ⟨_, rfl, _, rfl, pp, x, _, rfl, hp, ?_, ?_, fun p2 H2 h2 s2 => ?_⟩
      · intro z
        have l0 : ∀ (ys b : List V), (ys.foldl pushV b).length = b.length := fun ys => by
          induction ys with
          | nil => intro b; rfl
          | cons y r ih => intro b; rw [List.foldl_cons, ih, pushV_len]
        have := l0 (xs.take i) (List.replicate n e)
        rw [z, List.length_replicate] at this
        simp at this; omega
      · have l0 : ∀ (ys b : List V), (ys.foldl pushV b).length = b.length := fun ys => by
          induction ys with
          | nil => intro b; rfl
          | cons y r ih => intro b; rw [List.foldl_cons, ih, pushV_len]
        rw [l0, List.length_replicate]; exact nl
      · refine hD _ _ ⟨p2, _, rfl, ?_, s'.trans s2⟩
        rw [h2]
        have et : xs.take (i + 1) = xs.take i ++ [x] := by
          rw [List.take_add_one, hx]; rfl
        rw [et, List.foldl_append]
        rfl
    have fin : ∀ (σ' : St) (H' : Hp), (∃ pp o, σ' = [some (.int (n : Nat)), some (.ref a), some e, some (.ref pp), o] ∧ H' pp = some (.tup ((xs.take xs.length).foldl pushV (List.replicate n e))) ∧ Same H H') →
        t_p_begun_1 K { nx := fun _ H' => Q .non H', rt := Q } σ' H' := by
      rintro σ' H' ⟨pp, o, rfl, hp, s'⟩
      rw [List.take_length] at hp
      exact ⟨_, rfl, q pp _ hp s'⟩
    rcases ha with ha | ha
    · refine .inl ⟨_, rfl, a, rfl, ⟨_, SqL.of (s1 _ _ ha)⟩, for_list (xs := xs) (fun i σ' H' => ∃ pp o, σ' = [some (.int (n : Nat)), some (.ref a), some e, some (.ref pp), o] ∧ H' pp = some (.tup ((xs.take i).foldl pushV (List.replicate n e))) ∧ Same H H') ⟨p, _, rfl, h1, s1⟩ ?_ ?_ fin⟩
      · rintro i σ' H' _ ⟨pp, o, _, _, s'⟩; exact SqL.of (s' _ _ ha)
      · intro i x σ' H' hx hi
        exact turn i x σ' H' _ hx hi fun σ2 H2 z => z
    · refine .inr ⟨_, rfl, a, rfl, ⟨_, SqT.of (s1 _ _ ha)⟩, for_tup (xs := xs) (fun i σ' H' => ∃ pp o, σ' = [some (.int (n : Nat)), some (.ref a), some e, some (.ref pp), o] ∧ H' pp = some (.tup ((xs.take i).foldl pushV (List.replicate n e))) ∧ Same H H') ⟨p, _, rfl, h1, s1⟩ ?_ ?_ fin⟩
      · rintro i σ' H' _ ⟨pp, o, _, _, s'⟩; exact SqT.of (s' _ _ ha)
      · intro i x σ' H' hx hi
        exact turn i x σ' H' _ hx hi fun σ2 H2 z => z
  refine ⟨_, rfl, (by show 1 ≤ sizeLine; decide), fun t ht => ⟨_, rfl, .inr ⟨t, n, [e], rfl, rfl, SqT.of upd_same, by simp, ?_, fun z => ?_, fun _ p hp => ?_⟩⟩⟩
  · exact Nat.le_of_lt (smallL (by rw [List.length_singleton]; omega))
  · subst z
    exact main t _ upd_same ((Same.refl H).new ht)
  · exact main p _ (by rw [upd_same, rep]) (((Same.refl H).new ht).new hp)
end Bg
end
section
set_option Elab.async false
set_option linter.all false
set_option maxRecDepth 100000
set_option maxHeartbeats 4000000
namespace Bg
open PySem L2
theorem sign_at : ∀ i : Nat, i < 5 → ∃ c, ("+-*<=" : Str).cps.toList[i]? = some c ∧ (⟨#[c]⟩ : Str) ∈ signs
  | 0, _ => ⟨43, by decide +kernel, by decide +kernel⟩
  | 1, _ => ⟨45, by decide +kernel, by decide +kernel⟩
  | 2, _ => ⟨42, by decide +kernel, by decide +kernel⟩
  | 3, _ => ⟨60, by decide +kernel, by decide +kernel⟩
  | 4, _ => ⟨61, by decide +kernel, by decide +kernel⟩
  | n + 5, h => by omega
end Bg
end
section
set_option Elab.async false
set_option linter.all false
set_option maxRecDepth 100000
set_option maxHeartbeats 4000000
namespace Bg
open PySem L2
end Bg
end
section
set_option Elab.async false
set_option linter.all false
set_option maxRecDepth 100000
set_option maxHeartbeats 4000000
namespace Bg
open PySem L2
end Bg
end
section
set_option Elab.async false
set_option linter.all false
set_option maxRecDepth 100000
set_option maxHeartbeats 4000000
namespace Bg
open PySem L2
end Bg
end
section
set_option Elab.async false
set_option linter.all false
set_option maxRecDepth 100000
set_option maxHeartbeats 4000000
namespace Bg
open PySem L2
end Bg
end
section
set_option Elab.async false
set_option linter.all false
set_option maxRecDepth 100000
set_option maxHeartbeats 4000000
namespace Bg
open PySem L2
end Bg
end
section
set_option Elab.async false
set_option linter.all false
set_option maxRecDepth 100000
set_option maxHeartbeats 4000000
namespace Bg
open PySem L2
end Bg
end
section
set_option Elab.async false
set_option linter.all false
set_option maxRecDepth 100000
set_option maxHeartbeats 4000000
namespace Bg
open PySem L2
end Bg
end
section
set_option Elab.async false
set_option linter.all false
set_option maxRecDepth 100000
set_option maxHeartbeats 4000000
namespace Bg
open PySem L2
end Bg
end
section
set_option Elab.async false
set_option linter.all false
set_option maxRecDepth 100000
set_option maxHeartbeats 4000000
namespace Bg
open PySem L2
end Bg
end
section
set_option Elab.async false
set_option linter.all false
set_option maxRecDepth 100000
set_option maxHeartbeats 4000000
namespace Bg
open PySem PySem.Spec PyProof.Rows L2
end Bg
end
section
set_option Elab.async false
set_option linter.all false
set_option maxRecDepth 100000
set_option maxHeartbeats 4000000
namespace Bg
open PySem PySem.Spec PyProof.Rows L2
end Bg
end
section
set_option Elab.async false
set_option linter.all false
set_option maxRecDepth 100000
set_option maxHeartbeats 4000000
namespace Bg
open PySem L2
end Bg
end
section
set_option Elab.async false
set_option linter.all false
set_option maxRecDepth 100000
set_option maxHeartbeats 4000000
namespace Bg
open PySem L2
end Bg
end
section
set_option Elab.async false
set_option linter.all false
set_option maxRecDepth 100000
set_option maxHeartbeats 4000000
namespace Bg
open PySem L2
end Bg
end
section
set_option Elab.async false
set_option linter.all false
set_option maxRecDepth 100000
set_option maxHeartbeats 4000000
namespace Bg
open PySem L2
end Bg
end
section
set_option Elab.async false
set_option linter.all false
set_option maxRecDepth 100000
set_option maxHeartbeats 4000000
namespace Bg
open PySem L2
theorem r_c_goal {K : PySem.W.Frag} {vs : List V} {H : Hp} {Q : VK} {E : XK} (h : sp_c_goal K vs H Q E) : t_c_goal K { nx := fun _ H' => Q .non H', rt := Q } (start N_c_goal vs) H := by
  obtain ⟨v, r, rfl, hr, q⟩ := h
  cases r with
  | num z =>
    obtain ⟨p, rfl, h⟩ := hr
    refine ⟨_, rfl, ixT h (by decide) rfl (.inl ⟨rfl, _, rfl, no (by decide +kernel) ?_⟩)⟩
    refine ⟨_, rfl, ixT h (by decide) rfl (.inl ⟨rfl, _, rfl, no (by decide +kernel) ?_⟩)⟩
    exact q
  | op s i j =>
    obtain ⟨p, rfl, h⟩ := hr
    refine ⟨_, rfl, ixT h (by decide) rfl (.inl ⟨rfl, _, rfl, no (by decide +kernel) ?_⟩)⟩
    refine ⟨_, rfl, ixT h (by decide) rfl (.inl ⟨rfl, _, rfl, no (by decide +kernel) ?_⟩)⟩
    exact q
  | keep i =>
    obtain ⟨p, rfl, h⟩ := hr
    refine ⟨_, rfl, ixT h (by decide) rfl (.inl ⟨rfl, _, rfl, no (by decide +kernel) ?_⟩)⟩
    refine ⟨_, rfl, ixT h (by decide) rfl (.inl ⟨rfl, _, rfl, no (by decide +kernel) ?_⟩)⟩
    exact q
  | say i =>
    obtain ⟨p, rfl, h⟩ := hr
    refine ⟨_, rfl, ixT h (by decide) rfl (.inl ⟨rfl, _, rfl, no (by decide +kernel) ?_⟩)⟩
    refine ⟨_, rfl, ixT h (by decide) rfl (.inl ⟨rfl, _, rfl, no (by decide +kernel) ?_⟩)⟩
    exact q
  | jump to =>
    obtain ⟨p, rfl, h⟩ := hr
    refine ⟨_, rfl, ixT h (by decide) rfl (.inl ⟨rfl, _, rfl, yes ?_⟩)⟩
    exact ⟨_, rfl, ixT h (by decide) rfl q⟩
  | test i to =>
    obtain ⟨p, rfl, h⟩ := hr
    refine ⟨_, rfl, ixT h (by decide) rfl (.inl ⟨rfl, _, rfl, no (by decide +kernel) ?_⟩)⟩
    refine ⟨_, rfl, ixT h (by decide) rfl (.inl ⟨rfl, _, rfl, yes ?_⟩)⟩
    exact ⟨_, rfl, ixT h (by decide) rfl q⟩
  | call k as =>
    obtain ⟨p, q1, rfl, h, h1⟩ := hr
    refine ⟨_, rfl, ixT h (by decide) rfl (.inl ⟨rfl, _, rfl, no (by decide +kernel) ?_⟩)⟩
    refine ⟨_, rfl, ixT h (by decide) rfl (.inl ⟨rfl, _, rfl, no (by decide +kernel) ?_⟩)⟩
    exact q
  | give i =>
    obtain ⟨p, rfl, h⟩ := hr
    refine ⟨_, rfl, ixT h (by decide) rfl (.inl ⟨rfl, _, rfl, no (by decide +kernel) ?_⟩)⟩
    refine ⟨_, rfl, ixT h (by decide) rfl (.inl ⟨rfl, _, rfl, no (by decide +kernel) ?_⟩)⟩
    exact q
theorem r_c_leads {K : PySem.W.Frag} {vs : List V} {H : Hp} {Q : VK} {E : XK} (h : sp_c_leads K vs H Q E) : t_c_leads K { nx := fun _ H' => Q .non H', rt := Q } (start N_c_leads vs) H := by
  obtain ⟨rt, n, rvs, v, r, rfl, hrt, hv, hra, q⟩ := h
  have hr := hra
  cases r with
  | num z =>
    obtain ⟨p, rfl, h⟩ := hr
    have hv' : rvs[((n : Nat) : Int).toNat]? = some (.ref p) := by simpa using hv
    refine ⟨_, rfl, _, rfl, ixT hrt (by omega) hv' (ixT h (by decide) rfl ?_)⟩
    refine ⟨_, rfl, .inl ⟨rfl, _, rfl, no (by decide +kernel) ?_⟩⟩
    refine ⟨_, rfl, .inl ⟨rfl, _, rfl, no (by decide +kernel) ?_⟩⟩
    refine ⟨_, rfl, .inl ⟨rfl, _, rfl, no (by decide +kernel) ?_⟩⟩
    exact ⟨_, rfl, .inl ⟨_, _, rfl, rfl, (by show 1 ≤ sizeLine; decide), fun t ht => q t _ upd_same ((Same.refl H).new ht)⟩⟩
  | op s i j =>
    obtain ⟨p, rfl, h⟩ := hr
    have hv' : rvs[((n : Nat) : Int).toNat]? = some (.ref p) := by simpa using hv
    refine ⟨_, rfl, _, rfl, ixT hrt (by omega) hv' (ixT h (by decide) rfl ?_)⟩
    refine ⟨_, rfl, .inl ⟨rfl, _, rfl, no (by decide +kernel) ?_⟩⟩
    refine ⟨_, rfl, .inl ⟨rfl, _, rfl, no (by decide +kernel) ?_⟩⟩
    refine ⟨_, rfl, .inl ⟨rfl, _, rfl, no (by decide +kernel) ?_⟩⟩
    exact ⟨_, rfl, .inl ⟨_, _, rfl, rfl, (by show 1 ≤ sizeLine; decide), fun t ht => q t _ upd_same ((Same.refl H).new ht)⟩⟩
  | keep i =>
    obtain ⟨p, rfl, h⟩ := hr
    have hv' : rvs[((n : Nat) : Int).toNat]? = some (.ref p) := by simpa using hv
    refine ⟨_, rfl, _, rfl, ixT hrt (by omega) hv' (ixT h (by decide) rfl ?_)⟩
    refine ⟨_, rfl, .inl ⟨rfl, _, rfl, no (by decide +kernel) ?_⟩⟩
    refine ⟨_, rfl, .inl ⟨rfl, _, rfl, no (by decide +kernel) ?_⟩⟩
    refine ⟨_, rfl, .inl ⟨rfl, _, rfl, no (by decide +kernel) ?_⟩⟩
    exact ⟨_, rfl, .inl ⟨_, _, rfl, rfl, (by show 1 ≤ sizeLine; decide), fun t ht => q t _ upd_same ((Same.refl H).new ht)⟩⟩
  | say i =>
    obtain ⟨p, rfl, h⟩ := hr
    have hv' : rvs[((n : Nat) : Int).toNat]? = some (.ref p) := by simpa using hv
    refine ⟨_, rfl, _, rfl, ixT hrt (by omega) hv' (ixT h (by decide) rfl ?_)⟩
    refine ⟨_, rfl, .inl ⟨rfl, _, rfl, no (by decide +kernel) ?_⟩⟩
    refine ⟨_, rfl, .inl ⟨rfl, _, rfl, no (by decide +kernel) ?_⟩⟩
    refine ⟨_, rfl, .inl ⟨rfl, _, rfl, no (by decide +kernel) ?_⟩⟩
    exact ⟨_, rfl, .inl ⟨_, _, rfl, rfl, (by show 1 ≤ sizeLine; decide), fun t ht => q t _ upd_same ((Same.refl H).new ht)⟩⟩
  | jump to =>
    obtain ⟨p, rfl, h⟩ := hr
    have hv' : rvs[((n : Nat) : Int).toNat]? = some (.ref p) := by simpa using hv
    refine ⟨_, rfl, _, rfl, ixT hrt (by omega) hv' (ixT h (by decide) rfl ?_)⟩
    refine ⟨_, rfl, .inl ⟨rfl, _, rfl, no (by decide +kernel) ?_⟩⟩
    refine ⟨_, rfl, .inl ⟨rfl, _, rfl, yes ?_⟩⟩
    exact ⟨_, rfl, _, rfl, ixT hrt (by omega) hv' ⟨_, _, rfl, hra, (by show 1 ≤ sizeLine; decide), fun t ht => q t _ upd_same ((Same.refl H).new ht)⟩⟩
  | test i to =>
    obtain ⟨p, rfl, h⟩ := hr
    have hv' : rvs[((n : Nat) : Int).toNat]? = some (.ref p) := by simpa using hv
    refine ⟨_, rfl, _, rfl, ixT hrt (by omega) hv' (ixT h (by decide) rfl ?_)⟩
    refine ⟨_, rfl, .inl ⟨rfl, _, rfl, no (by decide +kernel) ?_⟩⟩
    refine ⟨_, rfl, .inl ⟨rfl, _, rfl, no (by decide +kernel) ?_⟩⟩
    refine ⟨_, rfl, .inl ⟨rfl, _, rfl, yes ?_⟩⟩
    exact ⟨_, rfl, .inl ⟨_, _, rfl, rfl, _, rfl, _, rfl, ixT hrt (by omega) hv' ⟨_, _, rfl, hra, (by show 2 ≤ sizeLine; decide), fun t ht => q t _ upd_same ((Same.refl H).new ht)⟩⟩⟩
  | call k as =>
    obtain ⟨p, q1, rfl, h, h1⟩ := hr
    have hv' : rvs[((n : Nat) : Int).toNat]? = some (.ref p) := by simpa using hv
    refine ⟨_, rfl, _, rfl, ixT hrt (by omega) hv' (ixT h (by decide) rfl ?_)⟩
    refine ⟨_, rfl, .inl ⟨rfl, _, rfl, no (by decide +kernel) ?_⟩⟩
    refine ⟨_, rfl, .inl ⟨rfl, _, rfl, no (by decide +kernel) ?_⟩⟩
    refine ⟨_, rfl, .inl ⟨rfl, _, rfl, no (by decide +kernel) ?_⟩⟩
    exact ⟨_, rfl, .inl ⟨_, _, rfl, rfl, (by show 1 ≤ sizeLine; decide), fun t ht => q t _ upd_same ((Same.refl H).new ht)⟩⟩
  | give i =>
    obtain ⟨p, rfl, h⟩ := hr
    have hv' : rvs[((n : Nat) : Int).toNat]? = some (.ref p) := by simpa using hv
    refine ⟨_, rfl, _, rfl, ixT hrt (by omega) hv' (ixT h (by decide) rfl ?_)⟩
    refine ⟨_, rfl, .inl ⟨rfl, _, rfl, yes ?_⟩⟩
    exact ⟨(by show 0 ≤ sizeLine; decide), fun t ht => q t _ upd_same ((Same.refl H).new ht)⟩
theorem r_p_places_read {K : PySem.W.Frag} {vs : List V} {H : Hp} {Q : VK} {E : XK} (h : sp_p_places_read K vs H Q E) : t_p_places_read K { nx := fun _ H' => Q .non H', rt := Q } (start N_p_places_read vs) H := by
  obtain ⟨v, r, rfl, hr, q⟩ := h
  cases r with
  | num z =>
    obtain ⟨p, rfl, h⟩ := hr
    refine ⟨_, rfl, ixT h (by decide) rfl ?_⟩
    refine ⟨_, rfl, .inl ⟨rfl, _, rfl, no (by decide +kernel) ?_⟩⟩
    refine ⟨_, rfl, .inl ⟨rfl, _, rfl, no (by decide +kernel) ?_⟩⟩
    refine ⟨_, rfl, (by show 4 ≤ sizeLine; decide), fun t ht => ⟨t, _, rfl, .inr (SqT.of upd_same), rfl, rfl, _, rfl, if_f (by decide +kernel) ?_⟩⟩
    have nt : p ≠ t := ne_of_none h ht
    exact ⟨(by show 0 ≤ sizeLine; decide), fun t2 ht2 => q t2 _ upd_same (((Same.refl H).new ht).new ht2)⟩
  | op s i j =>
    obtain ⟨p, rfl, h⟩ := hr
    refine ⟨_, rfl, ixT h (by decide) rfl ?_⟩
    refine ⟨_, rfl, .inl ⟨rfl, _, rfl, yes ?_⟩⟩
    exact ⟨_, rfl, ixT h (by decide) rfl ⟨_, rfl, ixT h (by decide) rfl ⟨(by show 2 ≤ sizeLine; decide), fun t ht => q t _ upd_same ((Same.refl H).new ht)⟩⟩⟩
  | keep i =>
    obtain ⟨p, rfl, h⟩ := hr
    refine ⟨_, rfl, ixT h (by decide) rfl ?_⟩
    refine ⟨_, rfl, .inl ⟨rfl, _, rfl, no (by decide +kernel) ?_⟩⟩
    refine ⟨_, rfl, .inl ⟨rfl, _, rfl, no (by decide +kernel) ?_⟩⟩
    refine ⟨_, rfl, (by show 4 ≤ sizeLine; decide), fun t ht => ⟨t, _, rfl, .inr (SqT.of upd_same), rfl, rfl, _, rfl, if_t (by decide +kernel) ?_⟩⟩
    have nt : p ≠ t := ne_of_none h ht
    exact ⟨_, rfl, ixT (by rw [upd_ne nt]; exact h) (by decide) rfl ⟨(by show 1 ≤ sizeLine; decide), fun t2 ht2 => q t2 _ upd_same (((Same.refl H).new ht).new ht2)⟩⟩
  | say i =>
    obtain ⟨p, rfl, h⟩ := hr
    refine ⟨_, rfl, ixT h (by decide) rfl ?_⟩
    refine ⟨_, rfl, .inl ⟨rfl, _, rfl, no (by decide +kernel) ?_⟩⟩
    refine ⟨_, rfl, .inl ⟨rfl, _, rfl, no (by decide +kernel) ?_⟩⟩
    refine ⟨_, rfl, (by show 4 ≤ sizeLine; decide), fun t ht => ⟨t, _, rfl, .inr (SqT.of upd_same), rfl, rfl, _, rfl, if_t (by decide +kernel) ?_⟩⟩
    have nt : p ≠ t := ne_of_none h ht
    exact ⟨_, rfl, ixT (by rw [upd_ne nt]; exact h) (by decide) rfl ⟨(by show 1 ≤ sizeLine; decide), fun t2 ht2 => q t2 _ upd_same (((Same.refl H).new ht).new ht2)⟩⟩
  | jump to =>
    obtain ⟨p, rfl, h⟩ := hr
    refine ⟨_, rfl, ixT h (by decide) rfl ?_⟩
    refine ⟨_, rfl, .inl ⟨rfl, _, rfl, no (by decide +kernel) ?_⟩⟩
    refine ⟨_, rfl, .inl ⟨rfl, _, rfl, no (by decide +kernel) ?_⟩⟩
    refine ⟨_, rfl, (by show 4 ≤ sizeLine; decide), fun t ht => ⟨t, _, rfl, .inr (SqT.of upd_same), rfl, rfl, _, rfl, if_f (by decide +kernel) ?_⟩⟩
    have nt : p ≠ t := ne_of_none h ht
    exact ⟨(by show 0 ≤ sizeLine; decide), fun t2 ht2 => q t2 _ upd_same (((Same.refl H).new ht).new ht2)⟩
  | test i to =>
    obtain ⟨p, rfl, h⟩ := hr
    refine ⟨_, rfl, ixT h (by decide) rfl ?_⟩
    refine ⟨_, rfl, .inl ⟨rfl, _, rfl, no (by decide +kernel) ?_⟩⟩
    refine ⟨_, rfl, .inl ⟨rfl, _, rfl, no (by decide +kernel) ?_⟩⟩
    refine ⟨_, rfl, (by show 4 ≤ sizeLine; decide), fun t ht => ⟨t, _, rfl, .inr (SqT.of upd_same), rfl, rfl, _, rfl, if_t (by decide +kernel) ?_⟩⟩
    have nt : p ≠ t := ne_of_none h ht
    exact ⟨_, rfl, ixT (by rw [upd_ne nt]; exact h) (by decide) rfl ⟨(by show 1 ≤ sizeLine; decide), fun t2 ht2 => q t2 _ upd_same (((Same.refl H).new ht).new ht2)⟩⟩
  | call k as =>
    obtain ⟨p, q1, rfl, h, h1⟩ := hr
    refine ⟨_, rfl, ixT h (by decide) rfl ?_⟩
    refine ⟨_, rfl, .inl ⟨rfl, _, rfl, no (by decide +kernel) ?_⟩⟩
    refine ⟨_, rfl, .inl ⟨rfl, _, rfl, yes ?_⟩⟩
    exact ⟨_, rfl, ixT h (by decide) rfl ⟨_, _, rfl, .inr ⟨SqT.of h1, q _ _ h1 (Same.refl H)⟩⟩⟩
  | give i =>
    obtain ⟨p, rfl, h⟩ := hr
    refine ⟨_, rfl, ixT h (by decide) rfl ?_⟩
    refine ⟨_, rfl, .inl ⟨rfl, _, rfl, no (by decide +kernel) ?_⟩⟩
    refine ⟨_, rfl, .inl ⟨rfl, _, rfl, no (by decide +kernel) ?_⟩⟩
    refine ⟨_, rfl, (by show 4 ≤ sizeLine; decide), fun t ht => ⟨t, _, rfl, .inr (SqT.of upd_same), rfl, rfl, _, rfl, if_t (by decide +kernel) ?_⟩⟩
    have nt : p ≠ t := ne_of_none h ht
    exact ⟨_, rfl, ixT (by rw [upd_ne nt]; exact h) (by decide) rfl ⟨(by show 1 ≤ sizeLine; decide), fun t2 ht2 => q t2 _ upd_same (((Same.refl H).new ht).new ht2)⟩⟩
end Bg
end
section
set_option Elab.async false
set_option linter.all false
set_option maxRecDepth 100000
set_option maxHeartbeats 4000000
namespace Bg
open PySem L2
theorem in_sil (r : CRow) : inV (.str (cword r)) [V.str "keep", V.str "jump"] = silR r := by
  cases r with
  | num z => show inV (.str "num") [V.str "keep", V.str "jump"] = false; decide +kernel
  | op s i j => show inV (.str "op") [V.str "keep", V.str "jump"] = false; decide +kernel
  | keep i => show inV (.str "keep") [V.str "keep", V.str "jump"] = true; decide +kernel
  | say i => show inV (.str "say") [V.str "keep", V.str "jump"] = false; decide +kernel
  | jump to => show inV (.str "jump") [V.str "keep", V.str "jump"] = true; decide +kernel
  | test i to => show inV (.str "test") [V.str "keep", V.str "jump"] = false; decide +kernel
  | call k as => show inV (.str "call") [V.str "keep", V.str "jump"] = false; decide +kernel
  | give i => show inV (.str "give") [V.str "keep", V.str "jump"] = false; decide +kernel
def EndsC (rs : List CRow) (n : Nat) : Prop := ∃ k, silC rs (itr (stpC rs) k n) = false
theorem noRing_of {rs : List CRow} (cl : Closed rs) (h : ∀ n, n < rs.length → EndsC rs n) : NoRingC rs := by
  intro n hn
  cases q : silC rs (itr (stpC rs) rs.length n) with
  | false => rfl
  | true =>
    obtain ⟨k, hk⟩ := h n hn
    have := itr_ever (p := silC rs) (stp_fix rs) cl.within hn q k
    rw [hk] at this; cases this
theorem in_endC (r : CRow) : inV (.str (cword r)) [V.str "jump", V.str "give"] = cEnd r := by
  cases r with
  | num z => show inV (.str "num") [V.str "jump", V.str "give"] = false; decide +kernel
  | op s i j => show inV (.str "op") [V.str "jump", V.str "give"] = false; decide +kernel
  | keep i => show inV (.str "keep") [V.str "jump", V.str "give"] = false; decide +kernel
  | say i => show inV (.str "say") [V.str "jump", V.str "give"] = false; decide +kernel
  | jump to => show inV (.str "jump") [V.str "jump", V.str "give"] = true; decide +kernel
  | test i to => show inV (.str "test") [V.str "jump", V.str "give"] = false; decide +kernel
  | call k as => show inV (.str "call") [V.str "jump", V.str "give"] = false; decide +kernel
  | give i => show inV (.str "give") [V.str "jump", V.str "give"] = true; decide +kernel
theorem last_at {H : Hp} {rvs : List V} {rs : List CRow} (hA : AllAt (CRowAt H) rvs rs) (h : rs ≠ []) : ∃ v r, atI rvs (-1) = some v ∧ rs.getLast? = some r ∧ CRowAt H v r := by
  have hp : 0 < rs.length := List.length_pos_iff.mpr h
  obtain ⟨v, r, e1, e2, hr⟩ := hA.get (i := rs.length - 1) (by omega)
  refine ⟨v, r, ?_, by rw [List.getLast?_eq_getElem?]; exact e2, hr⟩
  unfold atI ixN
  rw [if_neg (by decide), if_pos (by rw [hA.len]; omega)]
  have e : ((-1 : Int) + (rvs.length : Int)).toNat = rs.length - 1 := by rw [hA.len]; omega
  rw [e]
  exact e1
end Bg
end
section
set_option Elab.async false
set_option linter.all false
set_option maxRecDepth 100000
set_option maxHeartbeats 4000000
namespace Bg
open PySem L2
theorem r_code_row {K : PySem.W.Frag} {vs : List V} {H : Hp} {Q : VK} {E : XK} (h : sp_code_row K vs H Q E) : t_code_row K { nx := fun _ H' => Q .non H', rt := Q } (start N_code_row vs) H := by
  obtain ⟨st, cn, pl, n, k, cs, rfl, S, hk, pl1, pl16, n1, nl, hcn, csne, csl, cs4, ncn, q⟩ := h
  refine ⟨_, rfl, st, 14, k, rfl, S, by omega, by decide, by decide, fun d H1 d0 d1 S1 B1 => ?_⟩
  refine ⟨_, rfl, _, rfl, st, (pl : Int), k + 1, rfl, S1, by omega, by omega, by omega, fun i H2 i0 i1 S2 B2 => ?_⟩
  have B := B1.trans B2
  have hcn2 := B cn _ ncn hcn
  show t_code_row_9 K _ [some (.ref st), some (.int (pl : Nat)), some (.int (n : Nat)), some (.ref cn), some (.int d), some (.int i), none] H2
  refine ⟨_, rfl, _, _, rfl, rfl, _, rfl, if_dec (fun _ => ?_) (fun _ => ?_)⟩
  · refine ⟨_, rfl, st, k + 2, rfl, S2, by omega, fun z k3 H3 z0 z1 S3 l3 B3 => ⟨(by show 2 ≤ sizeLine; decide), fun t ht => ?_⟩⟩
    exact q _ (.num z) k3 _ ⟨t, rfl, upd_same⟩ ⟨z0, z1⟩ (S3.new ht) (by omega) ((B.trans B3).new ht)
  refine ⟨_, rfl, _, _, rfl, rfl, _, rfl, if_dec (fun _ => ?_) (fun _ => ?_)⟩
  · refine ⟨_, rfl, st, 5, k + 2, rfl, S2, by omega, by decide, by decide, fun e H3 e0 e1 S3 B3 => ?_⟩
    obtain ⟨c, c1, c2⟩ := sign_at e.toNat (by omega)
    refine ixS (by decide +kernel) e0 c1 ⟨_, rfl, _, rfl, _, rfl, st, (pl : Int), k + 3, rfl, S3, by omega, by omega, by omega, fun j H4 j0 j1 S4 B4 => ⟨(by show 4 ≤ sizeLine; decide), fun t ht => ?_⟩⟩
    exact q _ (.op ⟨#[c]⟩ i j) _ _ ⟨t, rfl, upd_same⟩ ⟨c2, ⟨i0, i1⟩, j0, j1⟩ (S4.new ht) (by omega) (((B.trans B3).trans B4).new ht)
  refine ⟨_, rfl, _, _, rfl, rfl, _, rfl, if_dec (fun _ => ?_) (fun _ => ?_)⟩
  · exact ⟨_, rfl, (by show 2 ≤ sizeLine; decide), fun t ht => q _ (.keep i) _ _ ⟨t, rfl, upd_same⟩ ⟨i0, i1⟩ (S2.new ht) (by omega) (B.new ht)⟩
  refine ⟨_, rfl, .inl ⟨rfl, _, rfl, if_dec (fun _ => ?_) (fun _ => ?_)⟩⟩
  · exact ⟨_, rfl, (by show 2 ≤ sizeLine; decide), fun t ht => q _ (.say i) _ _ ⟨t, rfl, upd_same⟩ ⟨i0, i1⟩ (S2.new ht) (by omega) (B.new ht)⟩
  refine ⟨_, rfl, _, _, rfl, rfl, _, rfl, if_dec (fun _ => ?_) (fun _ => ?_)⟩
  · refine ⟨_, rfl, _, rfl, _, rfl, st, (n : Int), k + 2, rfl, S2, by omega, by omega, by omega, fun j H4 j0 j1 S4 B4 => ⟨(by show 3 ≤ sizeLine; decide), fun t ht => ?_⟩⟩
    exact q _ (.test i j) _ _ ⟨t, rfl, upd_same⟩ ⟨⟨i0, i1⟩, j0, j1⟩ (S4.new ht) (by omega) ((B.trans B4).new ht)
  refine ⟨_, rfl, .inl ⟨rfl, _, rfl, if_dec (fun _ => ?_) (fun _ => ?_)⟩⟩
  · refine ⟨_, rfl, _, rfl, st, (n : Int), k + 2, rfl, S2, by omega, by omega, by omega, fun j H4 j0 j1 S4 B4 => ⟨(by show 2 ≤ sizeLine; decide), fun t ht => ?_⟩⟩
    exact q _ (.jump j) _ _ ⟨t, rfl, upd_same⟩ ⟨j0, j1⟩ (S4.new ht) (by omega) ((B.trans B4).new ht)
  refine ⟨_, rfl, .inl ⟨rfl, _, rfl, if_dec (fun _ => ?_) (fun _ => ?_)⟩⟩
  · have csp : 0 < cs.length := List.length_pos_iff.mpr csne
    refine ⟨_, rfl, _, rfl, _, _, rfl, .inl ⟨_, SqL.of hcn2, rfl⟩, st, _, k + 2, rfl, S2, by omega, by rw [intsV_len]; omega, by rw [intsV_len]; omega, fun e H3 e0 e1 S3 B3 => ?_⟩
    rw [intsV_len] at e1
    obtain ⟨j, rfl⟩ : ∃ j : Nat, e = (j : Int) := ⟨e.toNat, by omega⟩
    have jl : j < cs.length := by omega
    have hcn3 := B3 cn _ ncn hcn2
    have cj : cs[j]? = some cs[j] := List.getElem?_eq_getElem jl
    have c4 : cs[j] ≤ 4 := cs4 _ (List.getElem_mem jl)
    have cj' : (intsV cs)[((j : Nat) : Int).toNat]? = some (.int (cs[j] : Nat)) := by
      have := intsV_get cj
      simpa using this
    show t_code_row_2 K _ [some (.ref st), some (.int (pl : Nat)), some (.int (n : Nat)), some (.ref cn), some (.int d), some (.int i), some (.int (j : Nat))] H3
    refine ⟨_, rfl, _, rfl, _, rfl, ixL (SqL.of hcn3) (by omega) cj' ⟨_, rfl, by omega, by omega, fun L hL => ?_⟩⟩
    obtain ⟨ys3, hs3⟩ := S3.lst
    have nL : L ≠ st := fun z => by rw [z, hs3] at hL; cases hL
    refine comp_range (fun m σ' H' => ∃ (as : List Int) (k' : Nat) (o : Option V), σ' = [some (.ref st), some (.int (pl : Nat)), some (.int (n : Nat)), some (.ref cn), some (.int d), some (.int i), some (.int (j : Nat)), o] ∧
      H' L = some (.lst (as.map V.int)) ∧ as.length = m ∧ (∀ x ∈ as, 0 ≤ x ∧ x < pl) ∧ Stt K H' st k' ∧ k' ≤ k + 3 + m ∧ But st H H') ?_ ?_ ?_
    · exact ⟨[], k + 3, none, rfl, upd_same, rfl, by simp, S3.new hL, by omega, (B.trans B3).new hL⟩
    · rintro m σ' H' hm ⟨as, k', o, rfl, hl, al, af, S', hk', B'⟩
      have hm : m < 4 := by
        have : m < ((cs[j] : Nat) : Int).toNat := hm
        omega
      refine app_yes ⟨_, rfl, _, rfl, st, (pl : Int), k', rfl, S', by omega, by omega, by omega, fun x H4 x0 x1 S4 B4 => ?_⟩
      have h4 := B4 L _ nL hl
      refine ⟨_, h4, smallL (by rw [List.length_map]; omega), as ++ [x], k' + 1, _, rfl, ?_, by simp [al], fun y hy => ?_, S4.mono .upd_at h4 (Ne.symm nL), by omega, ?_⟩
      · rw [upd_same, List.map_append]; rfl
      · rcases List.mem_append.mp hy with z | z
        · exact af y z
        · rw [List.mem_singleton.mp z]; exact ⟨x0, x1⟩
      · exact But.past (B'.trans B4) ((B.trans B3).free nL hL) .upd_at
    · rintro σ' H4 ⟨as, k', o, _, hl, al, af, S', hk', B'⟩
      have al : as.length = cs[j] := by rw [al]; simp
      have hk' : k' ≤ k + 3 + cs[j] := by simpa using hk'
      refine ⟨L, _, rfl, .inl ⟨SqL.of hl, fun t ht => ?_⟩⟩
      refine ⟨(by show 3 ≤ sizeLine; decide), fun t2 ht2 => ?_⟩
      refine q _ (.call (j : Int) as) k' _ ⟨t2, t, rfl, upd_same, (Same.refl _).new ht2 _ _ upd_same⟩ ⟨⟨by omega, by omega⟩, fun c hc => ?_, af⟩ ((S'.new ht).new ht2) (by omega) ((B'.new ht).new ht2)
      have hc' : cs[j]? = some c := by simpa using hc
      rw [cj] at hc'; cases hc'; exact al
  · exact ⟨_, rfl, (by show 2 ≤ sizeLine; decide), fun t ht => q _ (.give i) _ _ ⟨t, rfl, upd_same⟩ ⟨i0, i1⟩ (S2.new ht) (by omega) (B.new ht)⟩
theorem ixC {K : PySem.W.Frag} {p : Addr} {xs : List V} {i : Int} {v : V} {H : Hp} {Q : VK} (h : SeqC H p xs) (h0 : 0 ≤ i) (e : xs[i.toNat]? = some v) (q : Q v H) : rIx K (.ref p) (.int i) H Q := by
  rcases h with h | h
  · exact ixL (SqL.of h) h0 e q
  · exact ixT h h0 e q
theorem word_jumpC {r : CRow} (h : V.str (cword r) = V.str "jump") : ∃ to, r = .jump to := by
  cases r with
  | jump to => exact ⟨to, rfl⟩
  | num z => exact absurd h (by show ¬ V.str "num" = V.str "jump"; decide +kernel)
  | op s i j => exact absurd h (by show ¬ V.str "op" = V.str "jump"; decide +kernel)
  | keep i => exact absurd h (by show ¬ V.str "keep" = V.str "jump"; decide +kernel)
  | say i => exact absurd h (by show ¬ V.str "say" = V.str "jump"; decide +kernel)
  | test i to => exact absurd h (by show ¬ V.str "test" = V.str "jump"; decide +kernel)
  | call k as => exact absurd h (by show ¬ V.str "call" = V.str "jump"; decide +kernel)
  | give i => exact absurd h (by show ¬ V.str "give" = V.str "jump"; decide +kernel)
theorem word_keepC {r : CRow} (h : V.str (cword r) = V.str "keep") : ∃ i, r = .keep i := by
  cases r with
  | keep i => exact ⟨i, rfl⟩
  | num z => exact absurd h (by show ¬ V.str "num" = V.str "keep"; decide +kernel)
  | op s i j => exact absurd h (by show ¬ V.str "op" = V.str "keep"; decide +kernel)
  | jump i => exact absurd h (by show ¬ V.str "jump" = V.str "keep"; decide +kernel)
  | say i => exact absurd h (by show ¬ V.str "say" = V.str "keep"; decide +kernel)
  | test i to => exact absurd h (by show ¬ V.str "test" = V.str "keep"; decide +kernel)
  | call k as => exact absurd h (by show ¬ V.str "call" = V.str "keep"; decide +kernel)
  | give i => exact absurd h (by show ¬ V.str "give" = V.str "keep"; decide +kernel)
theorem itr_lt {rs : List CRow} (cl : Closed rs) {n : Nat} (hn : n < rs.length) : ∀ k, itr (stpC rs) k n < rs.length := by
  intro k
  induction k with
  | zero => exact hn
  | succ k ih =>
    rw [itr_succ]
    cases q : silC rs (itr (stpC rs) k n) with
    | true => exact cl.within _ ih q
    | false => rw [stp_fix rs _ q]; exact ih
theorem stp_jump {rs : List CRow} {n : Nat} {to : Int} (e : rs[n]? = some (.jump to)) : stpC rs n = to.toNat := by unfold stpC; rw [e]
theorem stp_keep {rs : List CRow} {n : Nat} {i : Int} (e : rs[n]? = some (.keep i)) : stpC rs n = n + 1 := by unfold stpC; rw [e]
theorem r_silent {K : PySem.W.Frag} {vs : List V} {H : Hp} {Q : VK} {E : XK} (h : sp_silent K vs H Q E) : t_silent K { nx := fun _ H' => Q .non H', rt := Q } (start N_silent vs) H := by
  obtain ⟨l, n, rvs, rs, rfl, hl, hA, hn, cl, q⟩ := h
  have turn : ∀ (i : Nat) (x : V) (σ' : St) (H' : Hp) (D : Ends), (∃ o, σ' = [some (.ref l), some (.int (itr (stpC rs) i n : Nat)), o] ∧ H' = H) → (∀ σ2 H2, (∃ o, σ2 = [some (.ref l), some (.int (itr (stpC rs) (i + 1) n : Nat)), o] ∧ H2 = H) → D.nx σ2 H2) →
      gName 2 x σ' H' fun σ2 H2 => t_silent_2 K D σ2 H2 := by
    rintro i x σ' H' D ⟨o, rfl, rfl⟩ hD
    have atl := itr_lt cl hn i
    obtain ⟨v, r, e1, e2, hra⟩ := hA.get atl
    obtain ⟨p, xs, rfl, hp⟩ := hra.ref
    have e1' : rvs[((itr (stpC rs) i n : Nat) : Int).toNat]? = some (.ref p) := by simpa using e1
    refine ⟨_, rfl, _, rfl, ixC hl (by omega) e1' (ixT hp (by decide) rfl (.inl ⟨rfl, _, rfl, if_dec (fun hw => ?_) (fun hw => ?_)⟩))⟩
    · obtain ⟨to, rfl⟩ := word_jumpC hw
      obtain ⟨p', e', hp'⟩ := hra
      cases e'
      refine ⟨_, rfl, _, rfl, ixC hl (by omega) e1' (ixT hp' (by decide) rfl ?_)⟩
      refine hD _ _ ⟨some x, ?_, rfl⟩
      have t0 := (cl.2 _ (List.mem_of_getElem? e2) to rfl).1
      have en : itr (stpC rs) (i + 1) n = to.toNat := by rw [itr_succ]; exact stp_jump e2
      have e3 : ((itr (stpC rs) (i + 1) n : Nat) : Int) = to := by rw [en]; omega
      rw [e3]
      rfl
    · refine ⟨_, rfl, _, rfl, ixC hl (by omega) e1' (ixT hp (by decide) rfl (.inl ⟨rfl, _, rfl, if_dec (fun hw2 => ?_) (fun hw2 => ?_)⟩))⟩
      · obtain ⟨to, rfl⟩ := word_keepC hw2
        refine ⟨_, rfl, .inl ⟨_, _, rfl, rfl, ?_⟩⟩
        refine hD _ _ ⟨some x, ?_, rfl⟩
        have en : itr (stpC rs) (i + 1) n = itr (stpC rs) i n + 1 := by rw [itr_succ]; exact stp_keep e2
        have e3 : ((itr (stpC rs) (i + 1) n : Nat) : Int) = ((itr (stpC rs) i n : Nat) : Int) + 1 := by rw [en]; omega
        rw [e3]
        rfl
      · refine hD _ _ ⟨some x, ?_, rfl⟩
        have ns : silC rs (itr (stpC rs) i n) = false := by
          unfold silC
          rw [e2]
          cases r with
          | jump to => exact absurd rfl hw
          | keep i => exact absurd rfl hw2
          | num z => rfl
          | op s i j => rfl
          | say i => rfl
          | test i to => rfl
          | call k as => rfl
          | give i => rfl
        rw [itr_succ, stp_fix rs _ ns]
        rfl
  have fin : ∀ (σ' : St) (H' : Hp), (∃ o, σ' = [some (.ref l), some (.int (itr (stpC rs) rvs.length n : Nat)), o] ∧ H' = H) → t_silent_1 K { nx := fun _ H' => Q .non H', rt := Q } σ' H' := by
    rintro σ' H' ⟨o, rfl, rfl⟩
    rw [hA.len]
    have atl := itr_lt cl hn rs.length
    obtain ⟨v, r, e1, e2, hra⟩ := hA.get atl
    obtain ⟨p, xs, rfl, hp⟩ := hra.ref
    have e1' : rvs[((itr (stpC rs) rs.length n : Nat) : Int).toNat]? = some (.ref p) := by simpa using e1
    refine ⟨_, rfl, _, rfl, ixC hl (by omega) e1' (ixT hp (by decide) rfl ⟨(by show 2 ≤ sizeLine; decide), fun t ht => ⟨t, _, rfl, .inr (SqT.of upd_same), rfl, rfl, ?_⟩⟩)⟩
    show Q (.bl (inV (.str (cword r)) [V.str "keep", V.str "jump"])) _
    rw [in_sil]
    have e3 : silC rs (itr (stpC rs) rs.length n) = silR r := by unfold silC; rw [e2]
    rw [← e3]
    exact q _ ((Same.refl _).new ht)
  rcases hl with hl' | hl'
  · refine .inl ⟨_, rfl, l, rfl, ⟨_, SqL.of hl'⟩, for_list (xs := rvs) (fun i σ' H' => ∃ o, σ' = [some (.ref l), some (.int (itr (stpC rs) i n : Nat)), o] ∧ H' = H) ⟨none, rfl, rfl⟩ ?_ ?_ fin⟩
    · rintro i σ' H' _ ⟨o, _, rfl⟩; exact SqL.of hl'
    · intro i x σ' H' _ hi
      exact turn i x σ' H' _ hi fun σ2 H2 z => z
  · refine .inr ⟨_, rfl, l, rfl, ⟨_, SqT.of hl'⟩, for_tup (xs := rvs) (fun i σ' H' => ∃ o, σ' = [some (.ref l), some (.int (itr (stpC rs) i n : Nat)), o] ∧ H' = H) ⟨none, rfl, rfl⟩ ?_ ?_ fin⟩
    · rintro i σ' H' _ ⟨o, _, rfl⟩; exact SqT.of hl'
    · intro i x σ' H' _ hi
      exact turn i x σ' H' _ hi fun σ2 H2 z => z
end Bg
end
section
set_option Elab.async false
set_option linter.all false
set_option maxRecDepth 100000
set_option maxHeartbeats 4000000
namespace Bg
open PySem L2
theorem ixN_last {n : Nat} (h : 0 < n) : ixN n (-1) = some (n - 1) := by
  unfold ixN
  rw [if_neg (by decide), if_pos (by omega)]
  congr 1
  omega
theorem setLast {p : Addr} {xs : List V} {v : V} {H : Hp} {Q : Hp → Prop} (h : H p = some (.lst xs)) (h1 : 0 < xs.length) (q : Q (upd H p (.lst (xs.set (xs.length - 1) v)))) : rSetL (.ref p) (.int (-1)) v H Q :=
  ⟨p, xs, -1, _, rfl, rfl, h, ixN_last h1, q⟩
theorem ixL1 {K : PySem.W.Frag} {p : Addr} {xs : List V} {i : Int} {v : V} {H : Hp} {Q : VK} (h : H p = some (.lst xs)) (e : atI xs i = some v) (q : Q v H) : rIx K (.ref p) (.int i) H Q := .inl ⟨p, xs, i, v, rfl, rfl, SqL.of h, e, q⟩
theorem ends_set {rs : List CRow} {n : Nat} {r0 : CRow} (hn : n < rs.length) (h0 : silR r0 = false) : ∀ k m, silC rs (itr (stpC rs) k m) = false → EndsC (rs.set n r0) m := by
  have atn : silC (rs.set n r0) n = false := by unfold silC; rw [List.getElem?_set_self hn]; exact h0
  intro k
  induction k with
  | zero =>
    intro m hm
    by_cases e : n = m
    · subst e; exact ⟨0, atn⟩
    · refine ⟨0, ?_⟩
      show silC (rs.set n r0) m = false
      unfold silC
      rw [List.getElem?_set_ne e]
      exact hm
  | succ k ih =>
    intro m hm
    by_cases e : n = m
    · subst e; exact ⟨0, atn⟩
    · obtain ⟨k', hk'⟩ := ih (stpC rs m) hm
      refine ⟨k' + 1, ?_⟩
      show silC (rs.set n r0) (itr (stpC (rs.set n r0)) k' (stpC (rs.set n r0) m)) = false
      have e2 : stpC (rs.set n r0) m = stpC rs m := by unfold stpC; rw [List.getElem?_set_ne e]
      rw [e2]; exact hk'
theorem last_set {rs : List CRow} {n : Nat} {r0 : CRow} (hl : rs.getLast?.map cEnd = some true) (h0 : n = rs.length - 1 → cEnd r0 = true) : (rs.set n r0).getLast?.map cEnd = some true := by
  rw [List.getLast?_eq_getElem?, List.length_set]
  rw [List.getLast?_eq_getElem?] at hl
  by_cases e : n = rs.length - 1
  · have hp : rs.length - 1 < rs.length := by
      cases rs with
      | nil => cases hl
      | cons a r => simp
    rw [← e] at hp ⊢
    rw [List.getElem?_set_self hp]
    exact congrArg some (h0 e)
  · rw [List.getElem?_set_ne e]; exact hl
theorem made_closed {pl : Nat} {cs : List Nat} {rs : List CRow} (h : ∀ r ∈ rs, MadeRow pl rs.length cs r) (hl : rs.getLast?.map cEnd = some true) : Closed rs := by
  refine ⟨hl, fun r hr to e => ?_⟩
  have m := h r hr
  cases r with
  | jump t => cases e; exact m
  | test i t => cases e; exact m.2
  | num z => cases e
  | op s i j => cases e
  | keep i => cases e
  | say i => cases e
  | call k as => cases e
  | give i => cases e
theorem mem_setC {rs : List CRow} {n : Nat} {r0 r : CRow} (h : r ∈ rs.set n r0) : r ∈ rs ∨ r = r0 := List.mem_or_eq_of_mem_set h
theorem r_code_part {K : PySem.W.Frag} {vs : List V} {H : Hp} {Q : VK} {E : XK} (h : sp_code_part K vs H Q E) : t_code_part K { nx := fun _ H' => Q .non H', rt := Q } (start N_code_part vs) H := by
  obtain ⟨st, cn, pl, m, k, cs, rfl, S, hk, pl1, pl16, m1, ml, hcn, csne, csl, cs4, ncn, q⟩ := h
  refine ⟨_, rfl, _, rfl, st, (m : Int), k, rfl, S, by omega, by omega, by omega, fun d H1 d0 d1 S1 B1 => .inl ⟨_, _, rfl, rfl, ?_⟩⟩
  obtain ⟨n, hn⟩ : ∃ n : Nat, (1 : Int) + d = (n : Int) := ⟨(1 + d).toNat, by omega⟩
  have n1 : 1 ≤ n := by omega
  have nm : n ≤ m := by omega
  show t_code_part_5 K _ [some (.ref st), some (.int (pl : Nat)), some (.ref cn), some (.int (m : Nat)), some (.int (1 + d)), none, none] H1
  rw [hn]
  have hcn1 := B1 cn _ ncn hcn
  refine ⟨_, rfl, _, rfl, by omega, by omega, fun L hL => ?_⟩
  obtain ⟨ys1, hs1⟩ := S1.lst
  have nL : L ≠ st := fun z => by rw [z, hs1] at hL; cases hL
  have HL : H L = none := B1.free nL hL
  refine comp_range (fun i σ' H' => ∃ (rvs : List V) (rs : List CRow) (k' : Nat) (o : Option V), σ' = [some (.ref st), some (.int (pl : Nat)), some (.ref cn), some (.int (m : Nat)), some (.int (n : Nat)), none, o] ∧
    H' L = some (.lst rvs) ∧ AllAt (CRowAt H') rvs rs ∧ rs.length = i ∧ (∀ r ∈ rs, MadeRow pl n cs r) ∧ Stt K H' st k' ∧ k' ≤ k + 1 + 10 * i ∧ But st H H') ?_ ?_ ?_
  · exact ⟨[], [], k + 1, none, rfl, upd_same, .nil, rfl, by simp, S1.new hL, by omega, B1.new hL⟩
  · rintro i σ' H' hi ⟨rvs, rs, k', o, rfl, hrl, hA, rlen, ro, S', hk', B'⟩
    have hi : i < n := by simpa using hi
    refine app_yes ⟨_, rfl, _, rfl, _, rfl, _, rfl, st, cn, pl, n, k', cs, rfl, S', by omega, pl1, pl16, n1, by omega, B' cn _ ncn hcn, csne, csl, cs4, ncn, fun v r k2 H2 hv hr S2 l2 B2 => ?_⟩
    have h2 := B2 L _ nL hrl
    have t2 : Tp H' H2 := by obtain ⟨_, e⟩ := S'.lst; exact .of_but B2 e
    have t3 : Tp H2 (upd H2 L (.lst (rvs ++ [v]))) := (Tp.refl H2).lst h2
    refine ⟨_, h2, smallL (by rw [hA.len]; omega), rvs ++ [v], rs ++ [r], k2, _, rfl, upd_same, (hA.imp fun _ _ z => (z.mono t2).mono t3).snoc (hv.mono t3), by simp [rlen], fun r' hr' => ?_, S2.mono .upd_at h2 (Ne.symm nL), by omega, ?_⟩
    · rcases List.mem_append.mp hr' with z | z
      · exact ro r' z
      · rw [List.mem_singleton.mp z]; exact hr
    · exact But.past (B'.trans B2) HL .upd_at
  · rintro σ' H2 ⟨rvs, rs, k2, o, _, hrl, hA, rlen, ro, S2, hk2, B2⟩
    have rlen : rs.length = n := by simpa using rlen
    have hk2 : k2 ≤ k + 1 + 10 * n := by simpa using hk2
    have rne : rs ≠ [] := fun z => by rw [z] at rlen; simp at rlen; omega
    show t_code_part_4 K _ [some (.ref st), some (.int (pl : Nat)), some (.ref cn), some (.int (m : Nat)), some (.int (n : Nat)), some (.ref L), none] H2
    have main : ∀ (rvs : List V) (rs : List CRow) (k3 : Nat) (H3 : Hp), H3 L = some (.lst rvs) → AllAt (CRowAt H3) rvs rs → rs.length = n → (∀ r ∈ rs, MadeRow pl n cs r) → rs.getLast?.map cEnd = some true → Stt K H3 st k3 → k3 ≤ k + 2 + 10 * n → But st H H3 →
        t_code_part_3 K { nx := fun _ H' => Q .non H', rt := Q } [some (.ref st), some (.int (pl : Nat)), some (.ref cn), some (.int (m : Nat)), some (.int (n : Nat)), some (.ref L), none] H3 := fun rvs rs k3 H3 hrl hA rlen ro hlast S3 hk3 B3 => by
      refine ⟨_, rfl, _, rfl, by omega, by omega, for_range (n := ((n : Nat) : Int).toNat) (fun i σ' H' => ∃ (rvs : List V) (rs : List CRow) (o : Option V), σ' = [some (.ref st), some (.int (pl : Nat)), some (.ref cn), some (.int (m : Nat)), some (.int (n : Nat)), some (.ref L), o] ∧
        H' L = some (.lst rvs) ∧ AllAt (CRowAt H') rvs rs ∧ rs.length = n ∧ (∀ r ∈ rs, MadeRow pl n cs r) ∧ rs.getLast?.map cEnd = some true ∧ (∀ x, x < i → EndsC rs x) ∧ Stt K H' st k3 ∧ But st H H')
        ⟨rvs, rs, none, rfl, hrl, hA, rlen, ro, hlast, fun x hx => by omega, S3, B3⟩ ?_ ?_⟩
      · rintro i σ' H4 hi ⟨rvs, rs, o, rfl, hrl, hA, rlen, ro, hlast, en, S4, B4⟩
        have hi : i < n := by simpa using hi
        have cl : Closed rs := made_closed (pl := pl) (cs := cs) (by rw [rlen]; exact ro) hlast
        have e0 : (0 : Int) + (i : Int) = ((i : Nat) : Int) := by omega
        rw [e0]
        refine ⟨_, rfl, _, rfl, L, i, rvs, rs, rfl, .inl hrl, hA, by omega, cl, fun H5 s5 => ⟨_, rfl, if_bl (fun hs => ?_) (fun hs => ?_)⟩⟩
        · -- rows[n] = [('say', 0), ('give', 0)][int(n == many - 1)]
          refine ⟨(by show 2 ≤ sizeLine; decide), fun t1 ht1 => ⟨(by show 2 ≤ sizeLine; decide), fun t2 ht2 => ⟨(by show 2 ≤ sizeLine; decide), fun T hT => ?_⟩⟩⟩
          have s6 : Same H5 (upd (upd (upd H5 t1 (.tup [.str "say", .int 0])) t2 (.tup [.str "give", .int 0])) T (.lst [.ref t1, .ref t2])) := (((Same.refl H5).new ht1).new ht2).new hT
          have g1 : upd (upd (upd H5 t1 (.tup [.str "say", .int 0])) t2 (.tup [.str "give", .int 0])) T (.lst [.ref t1, .ref t2]) t1 = some (.tup [.str "say", .int 0]) := ((Same.refl _).new ht2 |>.new hT) _ _ upd_same
          have g2 : upd (upd (upd H5 t1 (.tup [.str "say", .int 0])) t2 (.tup [.str "give", .int 0])) T (.lst [.ref t1, .ref t2]) t2 = some (.tup [.str "give", .int 0]) := ((Same.refl _).new hT) _ _ upd_same
          have gT : upd (upd (upd H5 t1 (.tup [.str "say", .int 0])) t2 (.tup [.str "give", .int 0])) T (.lst [.ref t1, .ref t2]) T = some (.lst [.ref t1, .ref t2]) := upd_same
          generalize upd (upd (upd H5 t1 (.tup [.str "say", .int 0])) t2 (.tup [.str "give", .int 0])) T (.lst [.ref t1, .ref t2]) = H6 at s6 g1 g2 gT ⊢
          have S6 := s5.trans s6
          have hrl6 := S6 _ _ hrl
          have hA6 := hA.imp fun _ _ z => z.mono (Tp.of_same S6)
          have put : ∀ (tt : Addr) (r0 : CRow), CRowAt H6 (.ref tt) r0 → silR r0 = false → MadeRow pl n cs r0 → (i = rs.length - 1 → cEnd r0 = true) →
              gSub (tVar 5) (tVar 6) rSetL (.ref tt) [some (.ref st), some (.int (pl : Nat)), some (.ref cn), some (.int (m : Nat)), some (.int (n : Nat)), some (.ref L), some (.int (i : Nat))] H6 fun σ2 H2 => ∃ (rvs : List V) (rs : List CRow) (o : Option V), σ2 = [some (.ref st), some (.int (pl : Nat)), some (.ref cn), some (.int (m : Nat)), some (.int (n : Nat)), some (.ref L), o] ∧
                H2 L = some (.lst rvs) ∧ AllAt (CRowAt H2) rvs rs ∧ rs.length = n ∧ (∀ r ∈ rs, MadeRow pl n cs r) ∧ rs.getLast?.map cEnd = some true ∧ (∀ x, x < i + 1 → EndsC rs x) ∧ Stt K H2 st k3 ∧ But st H H2 := fun tt r0 h0 z0 m0 l0 => by
            refine ⟨_, rfl, _, rfl, setL hrl6 (by omega) (by rw [hA.len]; simp; omega) ?_⟩
            have t7 : Tp H6 (upd H6 L (.lst (rvs.set ((i : Nat) : Int).toNat (.ref tt)))) := (Tp.refl H6).lst hrl6
            refine ⟨rvs.set ((i : Nat) : Int).toNat (.ref tt), rs.set i r0, _, rfl, upd_same, ?_, by rw [List.length_set]; exact rlen, fun r hr => ?_, last_set hlast l0, fun x hx => ?_, (S4.same S6).mono .upd_at hrl6 (Ne.symm nL), But.past (fun b u nb hb => S6 _ _ (B4 b u nb hb)) HL .upd_at⟩
            · have := (hA6.imp fun _ _ z => z.mono t7).set (j := i) (h0.mono t7)
              simpa using this
            · rcases mem_setC hr with z | z
              · exact ro r z
              · rw [z]; exact m0
            · by_cases e : x = i
              · subst e
                refine ⟨0, ?_⟩
                show silC (rs.set x r0) x = false
                unfold silC; rw [List.getElem?_set_self (by omega)]; exact z0
              · obtain ⟨kk, hkk⟩ := en x (by omega)
                exact ends_set (by omega) z0 kk x hkk
          refine ⟨_, rfl, _, rfl, _, _, rfl, rfl, .inl ⟨rfl, .inr ⟨_, rfl, ?_⟩⟩⟩
          by_cases e : i = n - 1
          · have e2 : V.int (i : Nat) = V.int (((n : Nat) : Int) - 1) := by congr 1; omega
            rw [decide_eq_true e2]
            exact ixL (SqL.of gT) (by decide) rfl (put t2 (.give 0) ⟨t2, rfl, g2⟩ rfl ⟨by decide, by omega⟩ fun _ => rfl)
          · have e2 : ¬ V.int (i : Nat) = V.int (((n : Nat) : Int) - 1) := fun z => e (by have := V.int.inj z; omega)
            rw [decide_eq_false e2]
            exact ixL (SqL.of gT) (by decide) rfl (put t1 (.say 0) ⟨t1, rfl, g1⟩ rfl ⟨by decide, by omega⟩ fun z => absurd z (by omega))
        · refine ⟨rvs, rs, _, rfl, s5 _ _ hrl, hA.imp fun _ _ z => z.mono (Tp.of_same s5), rlen, ro, hlast, fun x hx => ?_, S4.same s5, fun b u nb hb => s5 _ _ (B4 b u nb hb)⟩
          by_cases e : x = i
          · subst e; exact ⟨rs.length, hs⟩
          · exact en x (by omega)
      · rintro σ' H4 ⟨rvs, rs, o, rfl, hrl, hA, rlen, ro, hlast, en, S4, B4⟩
        have en : ∀ x, x < n → EndsC rs x := by simpa using en
        have cl : Closed rs := made_closed (pl := pl) (cs := cs) (by rw [rlen]; exact ro) hlast
        refine ⟨_, rfl, L, rvs, rfl, .inl ⟨SqL.of hrl, fun t ht => ?_⟩⟩
        have s5 : Same H4 (upd H4 t (.tup rvs)) := (Same.refl H4).new ht
        exact q t rvs rs k3 _ upd_same (hA.imp fun _ _ z => z.mono (Tp.of_same s5)) (by omega) (by omega) (by rw [rlen]; exact ro) hlast (noRing_of cl (by rw [rlen]; exact en)) (S4.new ht) (by omega) (B4.new ht)
    obtain ⟨lv, lr, l1, l2, l3⟩ := last_at hA rne
    obtain ⟨lp, lxs, rfl, hlp⟩ := l3.ref
    refine ⟨_, rfl, _, rfl, ixL1 hrl l1 (ixT hlp (by decide) rfl ⟨(by show 2 ≤ sizeLine; decide), fun t ht => ⟨t, _, rfl, .inr (SqT.of upd_same), rfl, rfl, _, rfl, ?_⟩⟩)⟩
    have s3 : Same H2 (upd H2 t (.tup [.str "jump", .str "give"])) := (Same.refl H2).new ht
    have B3 : But st H (upd H2 t (.tup [.str "jump", .str "give"])) := B2.new ht
    generalize upd H2 t (.tup [.str "jump", .str "give"]) = H3 at s3 B3 ⊢
    have S3 := S2.same s3
    have hrl3 := s3 _ _ hrl
    have hA3 := hA.imp fun _ _ z => z.mono (Tp.of_same s3)
    refine if_bl (fun hb => ?_) (fun hb => ?_)
    · refine ⟨_, rfl, _, rfl, st, (pl : Int), k2, rfl, S3, by omega, by omega, by omega, fun x H4 x0 x1 S4 B4 => ⟨(by show 2 ≤ sizeLine; decide), fun t2 ht2 => ?_⟩⟩
      have hrl4 := B4 L _ nL hrl3
      have t4 : Tp H3 H4 := by obtain ⟨_, e⟩ := S3.lst; exact .of_but B4 e
      have hrl5 : upd H4 t2 (.tup [.str "give", .int x]) L = some (.lst rvs) := by rw [upd_ne (ne_of_none hrl4 ht2)]; exact hrl4
      have t5 : Tp H3 (upd H4 t2 (.tup [.str "give", .int x])) := t4.new ht2
      refine ⟨_, rfl, _, rfl, setLast hrl5 (by rw [hA.len]; omega) ?_⟩
      have t6 : Tp (upd H4 t2 (.tup [.str "give", .int x])) (upd (upd H4 t2 (.tup [.str "give", .int x])) L (.lst (rvs.set (rvs.length - 1) (.ref t2)))) := (Tp.refl _).lst hrl5
      refine main (rvs.set (rvs.length - 1) (.ref t2)) (rs.set (rs.length - 1) (.give x)) (k2 + 1) _ upd_same ?_ (by rw [List.length_set]; exact rlen) (fun r hr => ?_) ?_ ((S4.new ht2).mono .upd_at hrl5 (Ne.symm nL)) (by omega) (But.past ((B3.trans B4).new ht2) HL .upd_at)
      · have hg : CRowAt (upd (upd H4 t2 (.tup [.str "give", .int x])) L (.lst (rvs.set (rvs.length - 1) (.ref t2)))) (.ref t2) (.give x) := ⟨t2, rfl, t6 _ _ upd_same⟩
        have this := ((hA3.imp fun _ _ z => z.mono t5).imp fun _ _ z => z.mono t6).set (j := rvs.length - 1) hg
        have e2 : rs.set (rvs.length - 1) (.give x) = rs.set (rs.length - 1) (.give x) := by rw [hA.len]
        rw [e2] at this
        exact this
      · rcases mem_setC hr with z | z
        · exact ro r z
        · rw [z]; exact ⟨x0, x1⟩
      · rw [List.getLast?_eq_getElem?, List.length_set, List.getElem?_set_self (by omega)]
        rfl
    · have eEnd : cEnd lr = true := by rw [← in_endC]; simpa using hb
      exact main rvs rs k2 H3 hrl3 hA3 rlen ro (by rw [l2]; exact congrArg some eEnd) S3 (by omega) B3
end Bg
end
section
set_option Elab.async false
set_option linter.all false
set_option maxRecDepth 100000
set_option maxHeartbeats 4000000
namespace Bg
open PySem L2
theorem made_fits {pl : Nat} {cs : List Nat} {ps : List CPart} {rs : List CRow} (hc : ps.map (·.1) = cs.map fun (c : Nat) => ((c : Nat) : Int)) (h : ∀ r ∈ rs, MadeRow pl rs.length cs r) : ∀ r ∈ rs, RowFits pl ps rs.length r := by
  intro r hr
  have m := h r hr
  cases r with
  | num z => exact ⟨fun i hi => by (cases hi), fun to e => by (cases e), fun k as e => by (cases e)⟩
  | op s i j =>
    refine ⟨fun x hx => ?_, fun to e => by (cases e), fun k as e => by (cases e)⟩
    rcases List.mem_cons.mp hx with z | z
    · rw [z]; exact m.2.1
    · rw [List.mem_singleton.mp z]; exact m.2.2
  | keep i => exact ⟨fun x hx => by rw [List.mem_singleton.mp hx]; exact m, fun to e => by (cases e), fun k as e => by (cases e)⟩
  | say i => exact ⟨fun x hx => by rw [List.mem_singleton.mp hx]; exact m, fun to e => by (cases e), fun k as e => by (cases e)⟩
  | jump t => exact ⟨fun i hi => by (cases hi), fun to e => by cases e; exact m, fun k as e => by (cases e)⟩
  | test i t => exact ⟨fun x hx => by rw [List.mem_singleton.mp hx]; exact m.1, fun to e => by cases e; exact m.2, fun k as e => by (cases e)⟩
  | call k as =>
    refine ⟨fun x hx => m.2.2 x hx, fun to e => by (cases e), fun k' as' e => ?_⟩
    cases e
    have hl : ps.length = cs.length := by have := congrArg List.length hc; simpa using this
    refine ⟨m.1.1, by rw [hl]; exact m.1.2, fun b hb => ?_⟩
    have e1 : (ps.map (·.1))[k.toNat]? = some b.1 := by rw [List.getElem?_map, hb]; rfl
    rw [hc, List.getElem?_map] at e1
    cases e2 : cs[k.toNat]? with
    | none => rw [e2] at e1; cases e1
    | some c =>
      rw [e2] at e1
      have e3 : ((c : Nat) : Int) = b.1 := Option.some.inj e1
      rw [← e3, m.2.1 c e2]
  | give i => exact ⟨fun x hx => by rw [List.mem_singleton.mp hx]; exact m, fun to e => by (cases e), fun k as e => by (cases e)⟩
theorem made_ats {pl n : Nat} {cs : List Nat} (c4 : ∀ c ∈ cs, c ≤ 4) {r : CRow} (m : MadeRow pl n cs r) : (placesOf r).length ≤ 4 := by
  cases r with
  | call k as =>
    show as.length ≤ 4
    have h1 := m.1
    have hk : k.toNat < cs.length := by omega
    have := m.2.1 cs[k.toNat] (List.getElem?_eq_getElem hk)
    rw [this]
    exact c4 _ (List.getElem_mem hk)
  | num z => show 0 ≤ 4; decide
  | op s i j => show 2 ≤ 4; decide
  | keep i => show 1 ≤ 4; decide
  | say i => show 1 ≤ 4; decide
  | jump t => show 0 ≤ 4; decide
  | test i t => show 1 ≤ 4; decide
  | give i => show 1 ≤ 4; decide
theorem intsV_of' {ns : List Nat} {i : Nat} {x : V} (h : (intsV ns)[i]? = some x) : ∃ n, ns[i]? = some n ∧ x = .int (n : Nat) := by
  unfold intsV at h
  rw [List.getElem?_map] at h
  cases e : ns[i]? with
  | none => rw [e] at h; cases h
  | some n => rw [e] at h; exact ⟨n, rfl, (Option.some.inj h).symm⟩
theorem r_code {K : PySem.W.Frag} {vs : List V} {H : Hp} {Q : VK} {E : XK} (h : sp_code K vs H Q E) : t_code K { nx := fun _ H' => Q .non H', rt := Q } (start N_code vs) H := by
  obtain ⟨st, m, n, k, rfl, S, hk, m1, ml, n1, nl, q⟩ := h
  refine ⟨_, rfl, st, 4, k, rfl, S, by omega, by decide, by decide, fun a H1 a0 a1 S1 B1 => .inl ⟨_, _, rfl, rfl, ?_⟩⟩
  refine ⟨_, rfl, st, 16, k + 1, rfl, S1, by omega, by decide, by decide, fun b H2 b0 b1 S2 B2 => .inl ⟨_, _, rfl, rfl, ?_⟩⟩
  refine ⟨(by show 2 ≤ sizeLine; decide), fun L1 n3 => ?_⟩
  obtain ⟨ys2, hs2⟩ := S2.lst
  have nL1 : L1 ≠ st := fun z => by rw [z, hs2] at n3; cases n3
  refine ⟨_, rfl, st, 2, k + 2, rfl, S2.new n3, by omega, by decide, by decide, fun c H3 c0 c1 S3 B3 => ?_⟩
  have h3 := B3 L1 _ nL1 upd_same
  have B : But st H H3 := ((B1.trans B2).new n3).trans B3
  have main : ∀ pl : Nat, 1 ≤ pl → pl ≤ 16 → t_code_2 K { nx := fun _ H' => Q .non H', rt := Q } [some (.ref st), some (.int (m : Nat)), some (.int (n : Nat)), some (.int (pl : Nat)), none] H3 := fun pl pl1 pl16 => by
    refine ⟨_, rfl, _, rfl, by omega, by omega, fun L hL => ?_⟩
    obtain ⟨ys3, hs3⟩ := S3.lst
    have nL : L ≠ st := fun z => by rw [z, hs3] at hL; cases hL
    have HL : H L = none := B.free nL hL
    refine comp_range (fun i σ' H' => ∃ (cs : List Nat) (o : Option V), σ' = [some (.ref st), some (.int (m : Nat)), some (.int (n : Nat)), some (.int (pl : Nat)), none, o] ∧ H' L = some (.lst (intsV cs)) ∧ cs.length = i ∧ (∀ c ∈ cs, c ≤ 4) ∧ Stt K H' st (k + 3 + i) ∧ But st H H') ?_ ?_ ?_
    · exact ⟨[], none, rfl, upd_same, rfl, by simp, S3.new hL, B.new hL⟩
    · rintro i σ' H' hi ⟨cs, o, rfl, hl, cl, c4, S', B'⟩
      have hi : i < n := by simpa using hi
      refine app_yes ⟨_, rfl, st, 5, k + 3 + i, rfl, S', by omega, by decide, by decide, fun x H4 x0 x1 S4 B4 => ?_⟩
      have h4 := B4 L _ nL hl
      obtain ⟨y, rfl⟩ : ∃ y : Nat, x = (y : Int) := ⟨x.toNat, by omega⟩
      refine ⟨_, h4, smallL (by rw [intsV_len]; omega), cs ++ [y], _, rfl, ?_, by simp [cl], fun z hz => ?_, S4.mono .upd_at h4 (Ne.symm nL), But.past (B'.trans B4) HL .upd_at⟩
      · rw [upd_same]; unfold intsV; rw [List.map_append]; rfl
      · rcases List.mem_append.mp hz with w | w
        · exact c4 z w
        · rw [List.mem_singleton.mp w]; omega
    · rintro σ' H4 ⟨cs, o, _, hl, cl, c4, S4, B4⟩
      have cl : cs.length = n := by simpa using cl
      have csne : cs ≠ [] := fun z => by rw [z] at cl; simp at cl; omega
      have S4 : Stt K H4 st (k + 3 + n) := by simpa using S4
      show t_code_1 K _ [some (.ref st), some (.int (m : Nat)), some (.int (n : Nat)), some (.int (pl : Nat)), some (.ref L)] H4
      refine ⟨_, rfl, .inl ⟨_, rfl, L, rfl, ⟨_, SqL.of hl⟩, fun D hD => ?_⟩⟩
      obtain ⟨ys4, hs4⟩ := S4.lst
      have nD : D ≠ st := fun z => by rw [z, hs4] at hD; cases hD
      have HD : H D = none := B4.free nD hD
      have nLD : L ≠ D := ne_of_none hl hD
      refine comp_list (xs := intsV cs) (fun i σ' H' => ∃ (pvs : List V) (ps : List CPart) (k' : Nat) (o : Option V), σ' = [some (.ref st), some (.int (m : Nat)), some (.int (n : Nat)), some (.int (pl : Nat)), some (.ref L), o] ∧ H' L = some (.lst (intsV cs)) ∧ H' D = some (.lst pvs) ∧ AllAt (CPartAt H') pvs ps ∧
        ps.map (·.1) = (cs.take i).map (fun (c : Nat) => ((c : Nat) : Int)) ∧ (∀ b ∈ ps, 1 ≤ b.2.length ∧ b.2.length ≤ m ∧ (∀ r ∈ b.2, MadeRow pl b.2.length cs r) ∧ b.2.getLast?.map cEnd = some true ∧ NoRingC b.2) ∧ Stt K H' st k' ∧ k' ≤ k + 3 + n + 2000 * i ∧ But st H H') ?_ ?_ ?_ ?_
      · exact ⟨[], [], _, none, rfl, by rw [upd_ne nLD]; exact hl, upd_same, .nil, by simp, by simp, S4.new hD, by omega, B4.new hD⟩
      · rintro i σ' H' _ ⟨pvs, ps, k', o, _, hl', _⟩
        exact SqL.of hl'
      · rintro i x σ' H' hx ⟨pvs, ps, k', o, rfl, hl', hD', hA', pm, pok, S', hk', B'⟩
        obtain ⟨ct, hct, rfl⟩ := intsV_of' hx
        have il : i < cs.length := (List.getElem?_eq_some_iff.mp hct).1
        refine app_yes ⟨_, rfl, _, rfl, _, rfl, _, rfl, _, rfl, st, L, pl, m, k', cs, rfl, S', by omega, pl1, pl16, m1, ml, hl', csne, by omega, c4, nL, fun p rvs rs k5 H5 hp hA hr1 hr2 hm hlast hring S5 l5 B5 => ⟨(by show 2 ≤ sizeLine; decide), fun t ht => ?_⟩⟩
        have t5 : Tp H' H5 := by obtain ⟨_, e⟩ := S'.lst; exact .of_but B5 e
        have hD5 := B5 D _ nD hD'
        have hD6 : upd H5 t (.tup [.int (ct : Nat), .ref p]) D = some (.lst pvs) := by rw [upd_ne (ne_of_none hD5 ht)]; exact hD5
        have hL6 : upd H5 t (.tup [.int (ct : Nat), .ref p]) L = some (.lst (intsV cs)) := by rw [upd_ne (ne_of_none (B5 L _ nL hl') ht)]; exact B5 L _ nL hl'
        have t6 : Tp H5 (upd H5 t (.tup [.int (ct : Nat), .ref p])) := (Tp.refl H5).new ht
        have t7 : Tp (upd H5 t (.tup [.int (ct : Nat), .ref p])) (upd (upd H5 t (.tup [.int (ct : Nat), .ref p])) D (.lst (pvs ++ [.ref t]))) := (Tp.refl _).lst hD6
        have pl' : ps.length = i := by
          have := congrArg List.length pm
          simpa [List.length_take, Nat.min_eq_left (Nat.le_of_lt il)] using this
        refine ⟨_, hD6, smallL (by rw [hA'.len]; omega), pvs ++ [.ref t], ps ++ [(((ct : Nat) : Int), rs)], k5, _, rfl, by rw [upd_ne nLD]; exact hL6, upd_same, ?_, ?_, fun b hb => ?_, (S5.new ht).mono .upd_at hD6 (Ne.symm nD), by omega, But.past ((B'.trans B5).new ht) HD .upd_at⟩
        · exact ((hA'.imp fun _ _ z => z.mono (t5.trans (t6.trans t7)))).snoc (r := (((ct : Nat) : Int), rs)) ⟨t, p, rvs, rfl, t7 _ _ upd_same, t7 _ _ (t6 _ _ hp), hA.imp fun _ _ z => z.mono (t6.trans t7)⟩
        · rw [List.map_append, pm, List.take_add_one, hct, List.map_append]; rfl
        · rcases List.mem_append.mp hb with z | z
          · exact pok b z
          · rw [List.mem_singleton.mp z]; exact ⟨hr1, hr2, hm, hlast, hring⟩
      · rintro σ' H5 ⟨pvs, ps, k', o, _, hl', hD', hA', pm, pok, S', hk', B'⟩
        rw [intsV_len] at hk' pm
        rw [List.take_length] at pm
        refine ⟨D, pvs, rfl, .inl ⟨SqL.of hD', fun t ht => ?_⟩⟩
        refine ⟨(by show 2 ≤ sizeLine; decide), fun t2 ht2 => ?_⟩
        have tt : Tp H5 (upd (upd H5 t (.tup pvs)) t2 (.tup [.int (pl : Nat), .ref t])) := ((Tp.refl H5).new ht).new ht2
        have plen : ps.length = n := by have := congrArg List.length pm; simp at this; omega
        refine q _ (((pl : Nat) : Int), ps) k' _ ⟨t2, t, pvs, rfl, upd_same, (Same.refl _).new ht2 _ _ upd_same, hA'.imp fun _ _ z => z.mono tt⟩ ⟨⟨⟨by show (1 : Int) ≤ (pl : Nat); omega, by show ((pl : Nat) : Int) ≤ 16; omega⟩, fun b hb => ?_⟩, plen, fun b hb => ⟨(pok b hb).1, (pok b hb).2.1⟩, fun b hb r hr => made_ats c4 ((pok b hb).2.2.1 r hr), fun b hb z hz => (pok b hb).2.2.1 _ hz, fun b hb s i j hz => ((pok b hb).2.2.1 _ hz).1⟩ ((S'.new ht).new ht2) ?_ ((B'.new ht).new ht2)
        · obtain ⟨p1, p2, p3, p4, p5⟩ := pok b hb
          refine ⟨?_, fun z => by rw [z] at p1; simp at p1, p4, made_fits pm p3, p5⟩
          have hb1 : b.1 ∈ ps.map (·.1) := List.mem_map.mpr ⟨b, hb, rfl⟩
          rw [pm] at hb1
          obtain ⟨c, hc, e⟩ := List.mem_map.mp hb1
          have := c4 c hc
          rw [← e]
          exact ⟨by omega, by omega⟩
        · have : 2000 * cs.length ≤ 2000 * 10 := Nat.mul_le_mul_left _ (by omega)
          omega
  rcases (by omega : c = 0 ∨ c = 1) with rfl | rfl
  · refine ixL (SqL.of h3) (by decide) rfl ?_
    have := main (1 + a.toNat) (by omega) (by omega)
    have e : ((1 + a.toNat : Nat) : Int) = 1 + a := by omega
    rw [e] at this
    exact this
  · refine ixL (SqL.of h3) (by decide) rfl ?_
    have := main (1 + b.toNat) (by omega) (by omega)
    have e : ((1 + b.toNat : Nat) : Int) = 1 + b := by omega
    rw [e] at this
    exact this
end Bg
end
section
set_option Elab.async false
set_option linter.all false
set_option maxRecDepth 100000
set_option maxHeartbeats 4000000
namespace Bg
open PySem L2
theorem r_BeltFrame_init {K : PySem.W.Frag} (T : TxtM K) {vs : List V} {H : Hp} {Q : VK} {E : XK} (h : sp_BeltFrame_init K vs H Q E) : t_BeltFrame_init K { nx := fun _ H' => Q .non H', rt := Q } (start N_BeltFrame_init vs) H := by
  obtain ⟨x, dx, p, r, n, rfl, hx, q⟩ := h
  refine ⟨_, rfl, _, rfl, x, _, dx, _, rfl, hx, T.clF, T.nFp, (by show 0 < 1000; decide), ?_⟩
  refine ⟨_, rfl, _, rfl, x, _, dx, _, rfl, upd_same, T.clF, T.nFr, (by show 1 < 1000; decide), ?_⟩
  refine ⟨_, rfl, _, rfl, x, _, dx, _, rfl, upd_same, T.clF, T.nFb, (by show 2 < 1000; decide), ?_⟩
  show Q .non _
  rw [upd_upd, upd_upd]
  exact q
theorem AllAt.unsnoc {α : Type} {R : V → α → Prop} {vs : List V} {rs : List α} {v : V} {r : α} (h : AllAt R (vs ++ [v]) (rs ++ [r])) : AllAt R vs rs ∧ R v r := by
  have l : vs.length = rs.length := by have := h.len; simp at this; exact this
  refine ⟨⟨l, fun i v' r' a b => h.at_ i v' r' ?_ ?_⟩, h.at_ vs.length v r ?_ ?_⟩
  · rw [List.getElem?_append_left (List.getElem?_eq_some_iff.mp a).1]; exact a
  · rw [List.getElem?_append_left (List.getElem?_eq_some_iff.mp b).1]; exact b
  · rw [List.getElem?_append_right (Nat.le_refl _), Nat.sub_self]; rfl
  · rw [l, List.getElem?_append_right (Nat.le_refl _), Nat.sub_self]; rfl
theorem mf_ne {C C' : Addr} {dx dx' ol sl : Addr} {cv o p r d : V} : HO.ins C dx (bFs p r d) ≠ HO.ins C' dx' (mFs cv ol sl o) := fun z => by
  injection z with _ _ z
  have := congrArg List.length z
  exact absurd this (by show ¬ 3 = 4; decide)
theorem MachX.last {K : PySem.W.Frag} {H : Hp} {w a : Addr} {cv : V} {dx ol sl : Addr} {fvs : List V} {n : Nat} {fs : List MFr} {f : MFr} {said : List Int} {out : V} (X : MachX K H w cv dx ol sl (fvs ++ [.ref a]) n ⟨fs ++ [f], said, out⟩) :
    ∃ dxa b, H a = some (.ins (clsAt K "BeltFrame") dxa (bFs (.int (f.part : Nat)) (.int (f.row : Nat)) (.ref b))) ∧ H b = some (.tup (f.belt.map V.int)) := by
  obtain ⟨_, a', dxa, b, e, h1, h2⟩ := X.fr.unsnoc
  injection e with e
  subst e
  exact ⟨dxa, b, h1, h2⟩
theorem MachX.put {K : PySem.W.Frag} {H H' : Hp} {w a : Addr} {cv : V} {dx ol sl : Addr} {fvs : List V} {n : Nat} {fs : List MFr} {f : MFr} {said : List Int} {out : V} (X : MachX K H w cv dx ol sl (fvs ++ [.ref a]) n ⟨fs ++ [f], said, out⟩)
    {f' : MFr} {dxa b' : Addr} (B : But a H H') (ha : H' a = some (.ins (clsAt K "BeltFrame") dxa (bFs (.int (f'.part : Nat)) (.int (f'.row : Nat)) (.ref b')))) (hb : H' b' = some (.tup (f'.belt.map V.int))) :
    MachX K H' w cv dx ol sl (fvs ++ [.ref a]) n ⟨fs ++ [f'], said, out⟩ ∧ Steps (Own w ol sl (fvs ++ [.ref a])) (Own w ol sl (fvs ++ [.ref a])) H H' := by
  obtain ⟨dx0, b0, h0, _⟩ := X.last
  have nw : w ≠ a := fun z => by have := X.at_; rw [z, h0] at this; injection this with this; exact mf_ne this
  have no : ol ≠ a := ne_of X.op h0 (by intro z; cases z)
  have ns : sl ≠ a := ne_of X.sp h0 (by intro z; cases z)
  have na : V.ref a ∉ fvs := fun m => by
    have := X.nd
    rw [List.nodup_append] at this
    exact this.2.2 _ m _ (List.mem_singleton.mpr rfl) rfl
  refine ⟨⟨B _ _ nw X.at_, B _ _ no X.op, B _ _ ns X.sp, X.ne, ?_, X.nd, X.few, X.saw⟩, ⟨fun b o nb e => B b o (fun z => nb (.inr (.inr (.inr (by rw [z]; exact List.mem_append_right _ List.mem_cons_self))))) e, fun b h => .inl h, fun b h => B.free (fun z => by rw [z, ha] at h; cases h) h⟩⟩
  obtain ⟨A, _⟩ := X.fr.unsnoc
  refine AllAt.snoc ⟨A.len, fun i v g hv hg => (A.at_ i v g hv hg).keep (fun c e o ho => B c o (fun z => na ?_) ho) fun p xs hp => B p _ (fun z => by rw [z, h0] at hp; cases hp) hp⟩ ⟨a, dxa, b', rfl, ha, hb⟩
  rw [← z, ← e]
  exact List.mem_of_getElem? hv
theorem code_rows {H : Hp} {cv : V} {c : Code} {k : Nat} {b : CPart} (C : CodeAt H cv c) (hb : c.2[k]? = some b) : ∃ pc qc pvs pt rt rvs, cv = .ref pc ∧ H pc = some (.tup [.int c.1, .ref qc]) ∧ H qc = some (.tup pvs) ∧ pvs[((k : Nat) : Int).toNat]? = some (.ref pt) ∧ H pt = some (.tup [.int b.1, .ref rt]) ∧ H rt = some (.tup rvs) ∧ AllAt (CRowAt H) rvs b.2 := by
  obtain ⟨pc, qc, pvs, e, h1, h2, A⟩ := C
  obtain ⟨v, b', e1, e2, pt, rt, rvs, rfl, h3, h4, h5⟩ := A.get (List.getElem?_eq_some_iff.mp hb).1
  rw [hb] at e2; cases e2
  exact ⟨pc, qc, pvs, pt, rt, rvs, e, h1, h2, by simpa using e1, h3, h4, h5⟩
theorem stl_len (rs : List CRow) : ∀ (k : Nat) (p : Nat × List Int), (stl rs k p).2.length = p.2.length
  | 0, p => rfl
  | k + 1, p => by
    show (stl rs k (stl1 rs p)).2.length = _
    rw [stl_len rs k]
    unfold stl1
    cases e : rs[p.1]? with
    | none => rfl
    | some r =>
      cases r with
      | keep i => exact pushI_len _ _
      | _ => rfl
theorem sil_in (r : CRow) : inV (.str (cword r)) [.str "keep", .str "jump"] = silR r := by
  cases r with
  | num z => exact (by decide +kernel : inV (.str "num") [.str "keep", .str "jump"] = false)
  | op s i j => exact (by decide +kernel : inV (.str "op") [.str "keep", .str "jump"] = false)
  | keep i => exact (by decide +kernel : inV (.str "keep") [.str "keep", .str "jump"] = true)
  | say i => exact (by decide +kernel : inV (.str "say") [.str "keep", .str "jump"] = false)
  | jump t => exact (by decide +kernel : inV (.str "jump") [.str "keep", .str "jump"] = true)
  | test i t => exact (by decide +kernel : inV (.str "test") [.str "keep", .str "jump"] = false)
  | call k as => exact (by decide +kernel : inV (.str "call") [.str "keep", .str "jump"] = false)
  | give i => exact (by decide +kernel : inV (.str "give") [.str "keep", .str "jump"] = false)
theorem stl_lt {rs : List CRow} (W : Within rs) : ∀ (k : Nat) (p : Nat × List Int), p.1 < rs.length → (stl rs k p).1 < rs.length
  | 0, p, h1 => h1
  | k + 1, p, h1 => by
    refine stl_lt W k (stl1 rs p) ?_
    rw [stl1_row]
    cases e : silC rs p.1 with
    | true => exact W p.1 h1 e
    | false => rw [stp_fix rs p.1 e]; exact h1
theorem r_Machine_go_on {K : PySem.W.Frag} (T : TxtM K) {vs : List V} {H : Hp} {Q : VK} {E : XK} (h : sp_Machine_go_on K vs H Q E) : t_Machine_go_on K { nx := fun _ H' => Q .non H', rt := Q } (start N_Machine_go_on vs) H := by
  obtain ⟨w, a, dx, ol, sl, cv, to, n, fvs, fs, f, said, out, c, b, rfl, X, C, ok, hb, hbl, tl, q⟩ := h
  obtain ⟨dxa, b0, ha, hb0⟩ := X.last
  obtain ⟨pc, qc, pvs, pt, rt, rvs, rfl, h1, h2, e1, h3, h4, hR⟩ := code_rows C hb
  have W := within_ok ok hb
  have pf := part_ok ok hb
  refine ⟨_, rfl, w, _, dx, _, _, rfl, X.at_, T.clM, T.nMc, rfl, ixT h1 (by decide) rfl ⟨_, rfl, a, _, dxa, _, _, rfl, ha, T.clF, T.nFp, rfl, ixT h2 (by omega) e1 (ixT h3 (by decide) rfl ?_)⟩⟩
  show t_Machine_go_on_5 K _ [some (.ref w), some (.ref a), some (.int (to : Nat)), some (.ref rt), none] H
  refine ⟨_, rfl, _, rfl, a, _, dxa, _, rfl, ha, T.clF, T.nFr, (by show 3 < 1000; decide), ?_⟩
  obtain ⟨X1, s1⟩ := X.put (f' := ⟨f.part, to, f.belt⟩) (b' := b0) (.upd_at (o := .ins (clsAt K "BeltFrame") dxa (bFs (.int (f.part : Nat)) (.int (to : Nat)) (.ref b0)))) upd_same (by rw [upd_ne (ne_of hb0 ha (by intro z; cases z))]; exact hb0)
  show t_Machine_go_on_4 K _ [some (.ref w), some (.ref a), some (.int (to : Nat)), some (.ref rt), none] (upd H a (.ins (clsAt K "BeltFrame") dxa (bFs (.int (f.part : Nat)) (.int (to : Nat)) (.ref b0))))
  generalize upd H a (.ins (clsAt K "BeltFrame") dxa (bFs (.int (f.part : Nat)) (.int (to : Nat)) (.ref b0))) = H1 at X1 s1 ⊢
  refine ⟨fun u σ' H' => ∃ k o, k ≤ b.2.length ∧ u = b.2.length - k ∧ σ' = [some (.ref w), some (.ref a), some (.int (to : Nat)), some (.ref rt), o] ∧ MachX K H' w (.ref pc) dx ol sl (fvs ++ [.ref a]) n ⟨fs ++ [⟨f.part, (stl b.2 k (to, f.belt)).1, (stl b.2 k (to, f.belt)).2⟩], said, out⟩ ∧ Steps (Own w ol sl (fvs ++ [.ref a])) (Own w ol sl (fvs ++ [.ref a])) H H', ⟨_, 0, none, Nat.zero_le _, rfl, rfl, X1, s1⟩, ?_⟩
  rintro u σ' H2 ⟨k, o, kl, rfl, rfl, X2, s2⟩
  obtain ⟨dx2, b2, ha2, hb2⟩ := X2.last
  have t2 := X.tp s2
  have h42 := t2 _ _ h4
  have hR2 := hR.imp fun _ _ z => z.mono t2
  have rl := stl_lt W k (to, f.belt) tl
  have bl : (stl b.2 k (to, f.belt)).2.length = c.1.toNat := (stl_len _ _ _).trans hbl
  have es := stl_succ b.2 k (to, f.belt)
  generalize hp0 : stl b.2 k (to, f.belt) = p0 at X2 ha2 hb2 rl bl es
  obtain ⟨v, r, ev, er, ra⟩ := hR2.get rl
  have ev' : rvs[((p0.1 : Nat) : Int).toNat]? = some v := by simpa using ev
  obtain ⟨p, xs, rfl, hp⟩ := ra.ref
  refine ⟨_, rfl, _, rfl, a, _, dx2, _, _, rfl, ha2, T.clF, T.nFr, rfl, ixT h42 (by omega) ev' (ixT hp (by decide) rfl ⟨(by show 2 ≤ sizeLine; decide), fun t ht => ⟨t, _, rfl, .inr (SqT.of upd_same), rfl, rfl, _, rfl, ?_⟩⟩)⟩
  show if inV (.str (cword r)) [.str "keep", .str "jump"] = true then _ else _
  rw [sil_in]
  have sm : Same H2 (upd H2 t (.tup [.str "keep", .str "jump"])) := (Same.refl H2).new ht
  have X3 := X2.same sm
  have s3 := s2.trans (Steps.same sm)
  have ha3 := sm _ _ ha2
  have hb3 := sm _ _ hb2
  have h43 := sm _ _ h42
  have ra3 := ra.mono (.of_same sm)
  generalize upd H2 t (.tup [.str "keep", .str "jump"]) = H3 at sm X3 s3 ha3 hb3 h43 ra3 ⊢
  have rf := pf.2.2.2.1 r (List.mem_of_getElem? er)
  refine if_bl (fun hs => ?_) (fun hs => ?_)
  · -- not past the last
    have kl2 : k < b.2.length := by
      apply Classical.byContradiction
      intro z
      have ek : k = b.2.length := by omega
      have nr := pf.2.2.2.2 to tl
      rw [← stl_row b.2 b.2.length (to, f.belt), ← ek, hp0] at nr
      unfold silC at nr
      rw [er] at nr
      have nr : silR r = false := nr
      rw [hs] at nr; cases nr
    refine ⟨fun σ2 H' => ∃ o, σ2 = [some (.ref w), some (.ref a), some (.int (to : Nat)), some (.ref rt), o] ∧ MachX K H' w (.ref pc) dx ol sl (fvs ++ [.ref a]) n ⟨fs ++ [⟨f.part, (stl b.2 (k + 1) (to, f.belt)).1, (stl b.2 (k + 1) (to, f.belt)).2⟩], said, out⟩ ∧ Steps (Own w ol sl (fvs ++ [.ref a])) (Own w ol sl (fvs ++ [.ref a])) H H', ?_, ?_⟩
    · rintro σ2 H' ⟨o', rfl, X', s'⟩
      exact ⟨b.2.length - (k + 1), by omega, k + 1, o', by omega, rfl, rfl, X', s'⟩
    have fin : ∀ (bl' : List Int) (row' : Nat) (o' : Option V) (H' : Hp) (dx' b' : Addr), MachX K H' w (.ref pc) dx ol sl (fvs ++ [.ref a]) n ⟨fs ++ [⟨f.part, p0.1, bl'⟩], said, out⟩ → Steps (Own w ol sl (fvs ++ [.ref a])) (Own w ol sl (fvs ++ [.ref a])) H H' → stl1 b.2 p0 = (row', bl') → ((cleads (p0.1 : Nat) r).map V.int)[0]? = some (.int (row' : Nat)) →
        t_Machine_go_on_1 K { nx := fun σ2 H' => ∃ o, σ2 = [some (.ref w), some (.ref a), some (.int (to : Nat)), some (.ref rt), o] ∧ MachX K H' w (.ref pc) dx ol sl (fvs ++ [.ref a]) n ⟨fs ++ [⟨f.part, (stl b.2 (k + 1) (to, f.belt)).1, (stl b.2 (k + 1) (to, f.belt)).2⟩], said, out⟩ ∧ Steps (Own w ol sl (fvs ++ [.ref a])) (Own w ol sl (fvs ++ [.ref a])) H H', rt := Q, ct := fun σ2 H' => ∃ o, σ2 = [some (.ref w), some (.ref a), some (.int (to : Nat)), some (.ref rt), o] ∧ MachX K H' w (.ref pc) dx ol sl (fvs ++ [.ref a]) n ⟨fs ++ [⟨f.part, (stl b.2 (k + 1) (to, f.belt)).1, (stl b.2 (k + 1) (to, f.belt)).2⟩], said, out⟩ ∧ Steps (Own w ol sl (fvs ++ [.ref a])) (Own w ol sl (fvs ++ [.ref a])) H H', bk := fun _ H' => Q .non H' } [some (.ref w), some (.ref a), some (.int (to : Nat)), some (.ref rt), o'] H' := fun bl' row' o' H' dx' b' X' s' e0 e00 => by
      obtain ⟨dx4, b4, ha4, hb4⟩ := X'.last
      have t4 := X.tp s'
      have hR4 := hR.imp fun _ _ z => z.mono t4
      obtain ⟨v4, r4, ev4, er4, ra4⟩ := hR4.get rl
      rw [ev] at ev4; cases ev4
      rw [er] at er4; cases er4
      refine ⟨_, rfl, _, rfl, a, _, dx4, _, _, rfl, ha4, T.clF, T.nFr, rfl, rt, p0.1, rvs, _, r, rfl, t4 _ _ h4, ev, ra4, fun g H5 hg s5 => ixT hg (by decide) e00 ⟨_, rfl, a, _, dx4, _, rfl, s5 _ _ ha4, T.clF, T.nFr, (by show 3 < 1000; decide), ?_⟩⟩
      have X5 := X'.same s5
      obtain ⟨X6, s6⟩ := X5.put (f' := ⟨f.part, row', bl'⟩) (b' := b4) (.upd_at (o := .ins (clsAt K "BeltFrame") dx4 (bFs (.int (f.part : Nat)) (.int (row' : Nat)) (.ref b4)))) upd_same (by rw [upd_ne (ne_of (s5 _ _ hb4) (s5 _ _ ha4) (by intro z; cases z))]; exact s5 _ _ hb4)
      refine ⟨_, rfl, ?_, (s'.trans (Steps.same s5)).trans s6⟩
      rw [es, e0]
      exact X6
    cases r with
    | keep i =>
      have i0 : 0 ≤ i ∧ i < c.1 := rf.1 i (by show i ∈ [i]; exact List.mem_cons_self)
      have il : i.toNat < p0.2.length := by omega
      have e0 : stl1 b.2 p0 = (p0.1 + 1, pushI p0.2 (ati p0.2 i)) := by unfold stl1; rw [er]
      refine .inr ⟨_, rfl, _, rfl, a, _, dx2, _, _, rfl, ha3, T.clF, T.nFr, rfl, ixT h43 (by omega) ev' ⟨_, _, rfl, ra3, fun g H4 hg s4 => ⟨g, rfl, ⟨_, SqT.of hg⟩, ?_⟩⟩⟩
      refine for_tup (xs := [.int i]) (fun j σ' H' => ∃ o, σ' = [some (.ref w), some (.ref a), some (.int (to : Nat)), some (.ref rt), o] ∧ MachX K H' w (.ref pc) dx ol sl (fvs ++ [.ref a]) n ⟨fs ++ [⟨f.part, p0.1, if j = 0 then p0.2 else pushI p0.2 (ati p0.2 i)⟩], said, out⟩ ∧ Steps (Own w ol sl (fvs ++ [.ref a])) (Own w ol sl (fvs ++ [.ref a])) H H' ∧ H' g = some (.tup [.int i])) ?_ ?_ ?_ ?_
      · exact ⟨o, rfl, X3.same s4, s3.trans (Steps.same s4), hg⟩
      · rintro j σ' H' _ ⟨_, _, _, _, hg'⟩
        exact SqT.of hg'
      · rintro j x σ' H5 hx ⟨o5, rfl, X5, s5, hg5⟩
        obtain rfl : j = 0 := by
          have := (List.getElem?_eq_some_iff.mp hx).1
          simp at this; exact this
        cases hx
        rw [if_pos rfl] at X5
        obtain ⟨dx5, b5, ha5, hb5⟩ := X5.last
        have gi : (p0.2.map V.int)[i.toNat]? = some (.int p0.2[i.toNat]) := by rw [List.getElem?_map, List.getElem?_eq_getElem il]; rfl
        have ea : ati p0.2 i = p0.2[i.toNat] := by unfold ati; rw [List.getElem?_eq_getElem il]; rfl
        refine ⟨_, rfl, a, _, dx5, _, _, rfl, ha5, T.clF, T.nFb, rfl, _, rfl, a, _, dx5, _, _, rfl, ha5, T.clF, T.nFb, rfl, _, rfl, ixT hb5 i0.1 gi ⟨b5, _, _, rfl, hb5, ?_, ?_, fun g2 H6 h6 s6 => ⟨_, rfl, a, _, dx5, _, rfl, s6 _ _ ha5, T.clF, T.nFb, (by show 3 < 1000; decide), ?_⟩⟩⟩
        · intro z
          have := congrArg List.length z
          rw [List.length_map] at this
          rw [this] at il; exact absurd il (Nat.not_lt_zero _)
        · rw [List.length_map, bl]; have := ok.fits.1; omega
        have X6 := X5.same s6
        rw [push_i] at h6
        obtain ⟨X7, s7⟩ := X6.put (f' := ⟨f.part, p0.1, pushI p0.2 (ati p0.2 i)⟩) (b' := g2) (.upd_at (o := .ins (clsAt K "BeltFrame") dx5 (bFs (.int (f.part : Nat)) (.int (p0.1 : Nat)) (.ref g2)))) upd_same (by rw [upd_ne (ne_of h6 (s6 _ _ ha5) (by intro z; cases z)), h6, ea])
        refine ⟨_, rfl, X7, (s5.trans (Steps.same s6)).trans s7, ?_⟩
        show upd H6 a _ g = _
        rw [upd_ne (ne_of hg5 ha5 (by intro z; cases z))]
        exact s6 _ _ hg5
      · rintro σ' H5 ⟨o5, rfl, X5, s5, hg5⟩
        have X5 : MachX K H5 w (.ref pc) dx ol sl (fvs ++ [.ref a]) n ⟨fs ++ [⟨f.part, p0.1, pushI p0.2 (ati p0.2 i)⟩], said, out⟩ := X5
        exact fin _ (p0.1 + 1) o5 H5 dx2 b2 X5 s5 e0 rfl
    | jump t0 =>
      have g0 : 0 ≤ t0 := (rf.2.1 t0 rfl).1
      have e0 : stl1 b.2 p0 = (t0.toNat, p0.2) := by unfold stl1; rw [er]
      refine .inr ⟨_, rfl, _, rfl, a, _, dx2, _, _, rfl, ha3, T.clF, T.nFr, rfl, ixT h43 (by omega) ev' ⟨_, _, rfl, ra3, fun g H4 hg s4 => ⟨g, rfl, ⟨_, SqT.of hg⟩, ?_⟩⟩⟩
      refine for_tup (xs := []) (fun j σ' H' => σ' = [some (.ref w), some (.ref a), some (.int (to : Nat)), some (.ref rt), o] ∧ H' = H4) ⟨rfl, rfl⟩ ?_ ?_ ?_
      · rintro j σ' H' _ ⟨_, rfl⟩
        exact SqT.of hg
      · rintro j x σ' H5 hx
        cases hx
      · rintro σ' H5 ⟨rfl, rfl⟩
        exact fin _ t0.toNat o H5 dx2 b2 (X3.same s4) (s3.trans (Steps.same s4)) e0 (by show some (V.int t0) = some (V.int ((t0.toNat : Nat) : Int)); congr 2; omega)
    | num z => cases hs
    | op s i j => cases hs
    | say i => cases hs
    | test i t0 => cases hs
    | call k as => cases hs
    | give i => cases hs
  · -- stands
    have ef : stl b.2 b.2.length (to, f.belt) = p0 := by
      rw [← hp0]
      refine stl_stop ?_ kl
      rw [hp0]
      unfold silC
      rw [er]; exact hs
    refine q H3 ?_ s3
    unfold goOn
    rw [ef]
    exact X3
end Bg
end
section
set_option Elab.async false
set_option linter.all false
set_option maxRecDepth 100000
set_option maxHeartbeats 4000000
namespace Bg
open PySem L2
theorem MachX.ref {K : PySem.W.Frag} {H : Hp} {w : Addr} {cv : V} {dx ol sl : Addr} {fvs : List V} {n : Nat} {st : MSt} (X : MachX K H w cv dx ol sl fvs n st) {v : V} (m : v ∈ fvs) : ∃ a o, v = .ref a ∧ H a = some o := by
  obtain ⟨i, hi⟩ := List.getElem?_of_mem m
  obtain ⟨f, _, a, dx, b', e, h1, _⟩ := X.fr.of_v hi
  exact ⟨a, _, e, h1⟩
theorem r_Machine_enter {K : PySem.W.Frag} (T : TxtM K) {vs : List V} {H : Hp} {Q : VK} {E : XK} (h : sp_Machine_enter K vs H Q E) : t_Machine_enter K { nx := fun _ H' => Q .non H', rt := Q } (start N_Machine_enter vs) H := by
  obtain ⟨w, q0, cv, k, n, O, st, zs, c, rfl, ⟨dx, ol, sl, fvs, X, rfl⟩, C, ok, kl, hq, hn, q⟩ := h
  have hb := List.getElem?_eq_getElem kl
  obtain ⟨pc, qc, pvs, pt, rt, rvs, rfl, h1, h2, e1, h3, h4, hR⟩ := code_rows C hb
  have pl := ok.fits.1
  refine ⟨_, rfl, _, rfl, w, _, dx, _, _, rfl, X.at_, T.clM, T.nMc, rfl, ixT h1 (by decide) rfl ⟨_, rfl, c.1.toNat, q0, .int 0, zs.map V.int, ?_, hq, by omega, by omega, fun g H1 hg s1 => ?_⟩⟩
  · show [V.int c.1, V.ref q0, V.int 0] = _
    rw [show ((c.1.toNat : Nat) : Int) = c.1 by omega]
  rw [begun_i] at hg
  intro x dxx nx ndx nexx
  have Hx : H x = none := s1.free nx
  have Hdx : H dxx = none := s1.free ndx
  refine ⟨x, dxx, _, _, _, rfl, upd_same, rfl, ?_⟩
  rw [upd_upd]
  have S1 : Same H1 (upd (upd H1 dxx (.own x)) x (.ins (clsAt K "BeltFrame") dxx (bFs (.int (k : Nat)) (.int 0) (.ref g)))) := by
    intro b o e
    rw [upd_ne (ne_of_none e nx), upd_ne (ne_of_none e ndx)]; exact e
  have S : Same H (upd (upd H1 dxx (.own x)) x (.ins (clsAt K "BeltFrame") dxx (bFs (.int (k : Nat)) (.int 0) (.ref g)))) := s1.trans S1
  have gx : upd (upd H1 dxx (.own x)) x (.ins (clsAt K "BeltFrame") dxx (bFs (.int (k : Nat)) (.int 0) (.ref g))) x = some (.ins (clsAt K "BeltFrame") dxx (bFs (.int (k : Nat)) (.int 0) (.ref g))) := upd_same
  have gg := S1 _ _ hg
  show t_Machine_enter_2 K _ [some (.ref w), some (.int (k : Nat)), some (.ref q0), some (.ref x)] _
  generalize upd (upd H1 dxx (.own x)) x (.ins (clsAt K "BeltFrame") dxx (bFs (.int (k : Nat)) (.int 0) (.ref g))) = H2 at S1 S gx gg ⊢
  have X2 := X.same S
  have fz : fvs.length < sizeLine := smallL (by have := X.few; omega)
  refine ⟨_, rfl, w, _, dx, _, _, rfl, X2.at_, T.clM, T.nMo, rfl, .inl ⟨rfl, _, SqL.of X2.op⟩, _, rfl, ol, _, _, rfl, rfl, X2.op, fz, ?_⟩
  have nwo : w ≠ ol := ne_of X2.at_ X2.op (by intro z; cases z)
  have nxo : x ≠ ol := ne_of gx X2.op (by intro z; cases z)
  have ngo : g ≠ ol := ne_of gg X2.op (by intro z; cases z)
  have nxf : V.ref x ∉ fvs := fun m => by
    obtain ⟨a, o, e, ho⟩ := X.ref m
    injection e with e
    subst e
    rw [Hx] at ho; cases ho
  have X3 : MachX K (upd H2 ol (.lst (fvs ++ [.ref x]))) w (.ref pc) dx ol sl (fvs ++ [.ref x]) (n + 1) ⟨st.fs ++ [⟨k, 0, belt0 c zs⟩], st.said, st.out⟩ := by
    refine ⟨by rw [upd_ne nwo]; exact X2.at_, upd_same, by rw [upd_ne X.ne.symm]; exact X2.sp, X.ne, ?_, ?_, by rw [List.length_append]; exact Nat.succ_le_succ X.few, Nat.le_succ_of_le X.saw⟩
    · refine AllAt.snoc (r := (⟨k, 0, belt0 c zs⟩ : MFr)) ⟨X2.fr.len, fun i v f hv hf => (X2.fr.at_ i v f hv hf).keep (fun a e o ho => ?_) fun p xs hp => ?_⟩ ⟨x, dxx, g, rfl, by rw [upd_ne nxo]; exact gx, by rw [upd_ne ngo]; exact gg⟩
      · obtain ⟨a', dxa, b', e', ha', _⟩ := X2.fr.at_ i v f hv hf
        rw [e'] at e; injection e with e; subst e
        rw [upd_ne (ne_of ha' X2.op (by intro z; cases z))]; exact ho
      · rw [upd_ne (ne_of hp X2.op (by intro z; cases z))]; exact hp
    · rw [List.nodup_append]
      refine ⟨X.nd, by simp, fun a ha b hb => ?_⟩
      rw [List.mem_singleton.mp hb]
      rintro rfl
      exact nxf ha
  have s3 : Steps (Own w ol sl fvs) (Own w ol sl (fvs ++ [.ref x])) H (upd H2 ol (.lst (fvs ++ [.ref x]))) := by
    refine ⟨fun b o nb e => ?_, fun b hb => ?_, fun b h => S.free (live_upd h)⟩
    · rw [upd_ne (fun z => nb (.inr (.inl z)))]; exact S b o e
    · rcases hb with z | z | z | z
      · exact .inl (.inl z)
      · exact .inl (.inr (.inl z))
      · exact .inl (.inr (.inr (.inl z)))
      · rcases List.mem_append.mp z with z | z
        · exact .inl (.inr (.inr (.inr z)))
        · have := List.mem_singleton.mp z
          injection this with this
          rw [this]; exact .inr Hx
  have C3 : CodeAt (upd H2 ol (.lst (fvs ++ [.ref x]))) (.ref pc) c := C.mono (X.tp s3)
  show t_Machine_enter_1 K _ [some (.ref w), some (.int (k : Nat)), some (.ref q0), some (.ref x)] _
  generalize upd H2 ol (.lst (fvs ++ [.ref x])) = H3 at X3 s3 C3 ⊢
  refine ⟨_, rfl, w, dx, _, rfl, X3.at_, rfl, _, rfl, w, x, dx, ol, sl, .ref pc, 0, n + 1, fvs, st.fs, ⟨k, 0, belt0 c zs⟩, st.said, st.out, c, c.2[k], rfl, X3, C3, ok, hb, belt0_len _ _, List.length_pos_iff.mpr (part_ok ok hb).2.1, fun H' X' s' => q H' _ ⟨dx, ol, sl, _, ?_, rfl⟩ (s3.trans s')⟩
  unfold openF
  rw [rowsOf_eq hb]
  exact X'
theorem r_Machine_init {K : PySem.W.Frag} (T : TxtM K) {vs : List V} {H : Hp} {Q : VK} {E : XK} (h : sp_Machine_init K vs H Q E) : t_Machine_init K { nx := fun _ H' => Q .non H', rt := Q } (start N_Machine_init vs) H := by
  obtain ⟨w, dx, q0, cv, k, zs, c, rfl, hw, C, ok, kl, hq, q⟩ := h
  refine ⟨_, rfl, w, dx, _, rfl, hw, T.run, fun ol sl H1 no ns os w1 o1 p1 B1 => ?_⟩
  refine ⟨_, rfl, _, rfl, w, _, dx, _, rfl, w1, T.clM, T.nMc, (by show 3 < 1000; decide), ?_⟩
  have wo : ol ≠ w := ne_of o1 w1 (by intro z; cases z)
  have ws : sl ≠ w := ne_of p1 w1 (by intro z; cases z)
  have hwq : q0 ≠ w := fun z => by rw [z] at hq; rcases hq with e | e <;> (rw [hw] at e; cases e)
  have B : But w H (upd H1 w (.ins (clsAt K "Machine") dx (L2.putF "code" cv (rFs ol sl)))) := fun b o nb e => by rw [upd_ne nb]; exact B1 b o nb e
  have w3 : upd H1 w (.ins (clsAt K "Machine") dx (L2.putF "code" cv (rFs ol sl))) w = some (.ins (clsAt K "Machine") dx (mFs cv ol sl .non)) := upd_same
  have o3 : upd H1 w (.ins (clsAt K "Machine") dx (L2.putF "code" cv (rFs ol sl))) ol = some (.lst []) := by rw [upd_ne wo]; exact o1
  have p3 : upd H1 w (.ins (clsAt K "Machine") dx (L2.putF "code" cv (rFs ol sl))) sl = some (.lst []) := by rw [upd_ne ws]; exact p1
  generalize upd H1 w (.ins (clsAt K "Machine") dx (L2.putF "code" cv (rFs ol sl))) = H3 at B w3 o3 p3 ⊢
  have tp : Tp H H3 := fun p xs e => B p _ (fun z => by rw [z, hw] at e; cases e) e
  have X3 : MachX K H3 w cv dx ol sl [] 0 ⟨[], [], .non⟩ := ⟨w3, o3, p3, os, .nil, List.nodup_nil, Nat.le_refl _, Nat.le_refl _⟩
  have s0 : Steps (fun b => b = w) (Own w ol sl []) H H3 := by
    refine ⟨fun b o nb e => B b o nb e, fun b hb => ?_, fun b h => B.free (fun z => by rw [z, w3] at h; cases h) h⟩
    rcases hb with z | z | z | z
    · exact .inl z
    · rw [z]; exact .inr no
    · rw [z]; exact .inr ns
    · cases z
  exact ⟨_, rfl, w, dx, _, rfl, w3, rfl, _, rfl, _, rfl, w, q0, cv, k, 0, _, ⟨[], [], .non⟩, zs, c, rfl, ⟨dx, ol, sl, [], X3, rfl⟩, C.mono tp, ok, kl, hq.imp (B _ _ hwq) (B _ _ hwq), by decide, fun H' O' X' s' => q H' O' X' (s0.trans s')⟩
theorem MachX.snoc {K : PySem.W.Frag} {H : Hp} {w : Addr} {cv : V} {dx ol sl : Addr} {fvs : List V} {n : Nat} {fs : List MFr} {f : MFr} {said : List Int} {out : V} (X : MachX K H w cv dx ol sl fvs n ⟨fs ++ [f], said, out⟩) : ∃ fvs' a, fvs = fvs' ++ [.ref a] := by
  rcases List.eq_nil_or_concat fvs with rfl | ⟨fvs', v, e⟩
  · have := X.fr.len
    simp at this
  · rw [List.concat_eq_append] at e
    subst e
    obtain ⟨_, a, dxa, b, e, _⟩ := X.fr.unsnoc
    exact ⟨fvs', a, by rw [e]⟩
theorem MachX.pop {K : PySem.W.Frag} {H : Hp} {w : Addr} {cv v : V} {dx ol sl : Addr} {fvs : List V} {n : Nat} {fs : List MFr} {f : MFr} {said : List Int} {out : V} (X : MachX K H w cv dx ol sl (fvs ++ [v]) n ⟨fs ++ [f], said, out⟩) :
    MachX K (upd H ol (.lst fvs)) w cv dx ol sl fvs n ⟨fs, said, out⟩ ∧ Steps (Own w ol sl (fvs ++ [v])) (Own w ol sl fvs) H (upd H ol (.lst fvs)) := by
  have n0 : w ≠ ol := ne_of X.at_ X.op (by intro z; cases z)
  obtain ⟨A, _⟩ := X.fr.unsnoc
  refine ⟨⟨by rw [upd_ne n0]; exact X.at_, upd_same, by rw [upd_ne X.ne.symm]; exact X.sp, X.ne, ⟨A.len, fun i u f hu hf => (A.at_ i u f hu hf).keep (fun a e o ho => ?_) fun p xs hp => ?_⟩, (List.nodup_append.mp X.nd).1, ?_, X.saw⟩, ⟨fun b o nb e => ?_, fun b hb => .inl ?_, fun b h => live_upd h⟩⟩
  · obtain ⟨a', dxa, b', e', ha', _⟩ := A.at_ i u f hu hf
    rw [e'] at e; injection e with e; subst e
    rw [upd_ne (ne_of ha' X.op (by intro z; cases z))]; exact ho
  · rw [upd_ne (ne_of hp X.op (by intro z; cases z))]; exact hp
  · have := X.few
    rw [List.length_append] at this
    exact Nat.le_of_succ_le this
  · rw [upd_ne (fun z => nb (.inr (.inl z)))]; exact e
  · rcases hb with z | z | z | z
    · exact .inl z
    · exact .inr (.inl z)
    · exact .inr (.inr (.inl z))
    · exact .inr (.inr (.inr (List.mem_append_left _ z)))
theorem MachX.gives {K : PySem.W.Frag} {H : Hp} {w : Addr} {cv : V} {dx ol sl : Addr} {fvs : List V} {n : Nat} {fs : List MFr} {said : List Int} {out : V} (X : MachX K H w cv dx ol sl fvs n ⟨fs, said, out⟩) (v : V) :
    MachX K (upd H w (.ins (clsAt K "Machine") dx (mFs cv ol sl v))) w cv dx ol sl fvs n ⟨fs, said, v⟩ ∧ Steps (Own w ol sl fvs) (Own w ol sl fvs) H (upd H w (.ins (clsAt K "Machine") dx (mFs cv ol sl v))) := by
  refine ⟨⟨upd_same, by rw [upd_ne (ne_of X.op X.at_ (by intro z; cases z))]; exact X.op, by rw [upd_ne (ne_of X.sp X.at_ (by intro z; cases z))]; exact X.sp, X.ne, ⟨X.fr.len, fun i u f hu hf => (X.fr.at_ i u f hu hf).keep (fun a e o ho => ?_) fun p xs hp => ?_⟩, X.nd, X.few, X.saw⟩, ⟨fun b o nb e => ?_, fun b hb => .inl hb, fun b h => live_upd h⟩⟩
  · obtain ⟨a', dxa, b', e', ha', _⟩ := X.fr.at_ i u f hu hf
    rw [e'] at e; injection e with e; subst e
    rw [upd_ne (fun z => by rw [z, X.at_] at ha'; injection ha' with ha'; exact mf_ne ha'.symm)]; exact ho
  · rw [upd_ne (ne_of hp X.at_ (by intro z; cases z))]; exact hp
  · rw [upd_ne (fun z => nb (.inl z))]; exact e
theorem MachX.say {K : PySem.W.Frag} {H : Hp} {w : Addr} {cv : V} {dx ol sl : Addr} {fvs : List V} {n : Nat} {fs : List MFr} {said : List Int} {out : V} (X : MachX K H w cv dx ol sl fvs n ⟨fs, said, out⟩) (i : Int) :
    MachX K (upd H sl (.lst (said.map V.int ++ [.int i]))) w cv dx ol sl fvs (n + 1) ⟨fs, said ++ [i], out⟩ ∧ Steps (Own w ol sl fvs) (Own w ol sl fvs) H (upd H sl (.lst (said.map V.int ++ [.int i]))) := by
  have n0 : w ≠ sl := ne_of X.at_ X.sp (by intro z; cases z)
  refine ⟨⟨by rw [upd_ne n0]; exact X.at_, by rw [upd_ne X.ne]; exact X.op, by rw [upd_same, List.map_append]; rfl, X.ne, ⟨X.fr.len, fun i u f hu hf => (X.fr.at_ i u f hu hf).keep (fun a e o ho => ?_) fun p xs hp => ?_⟩, X.nd, Nat.le_succ_of_le X.few, ?_⟩, ⟨fun b o nb e => ?_, fun b hb => .inl hb, fun b h => live_upd h⟩⟩
  · obtain ⟨a', dxa, b', e', ha', _⟩ := X.fr.at_ i u f hu hf
    rw [e'] at e; injection e with e; subst e
    rw [upd_ne (ne_of ha' X.sp (by intro z; cases z))]; exact ho
  · rw [upd_ne (ne_of hp X.sp (by intro z; cases z))]; exact hp
  · have := X.saw
    show (said ++ [i]).length ≤ n + 1
    rw [List.length_append]
    exact Nat.succ_le_succ this
  · rw [upd_ne (fun z => nb (.inr (.inr (.inl z))))]; exact e
end Bg
end
section
set_option Elab.async false
set_option linter.all false
set_option maxRecDepth 100000
set_option maxHeartbeats 4000000
namespace Bg
open PySem L2
theorem at_lastI {α : Type} {xs : List α} {x : α} : atI (xs ++ [x]) (-1) = some x := by
  unfold atI ixN
  rw [if_neg (by decide), List.length_append, List.length_singleton, if_pos (by omega)]
  show (xs ++ [x])[_]? = _
  have : ((-1 : Int) + ((xs.length + 1 : Nat) : Int)).toNat = xs.length := by omega
  rw [this, List.getElem?_append_right (Nat.le_refl _), Nat.sub_self]; rfl
theorem ixLastI {K : PySem.W.Frag} {p : Addr} {xs : List V} {v : V} {H : Hp} {Q : VK} (h : H p = some (.lst (xs ++ [v]))) (q : Q v H) : rIx K (.ref p) (.int (-1)) H Q := .inl ⟨p, _, _, v, rfl, rfl, SqL.of h, at_lastI, q⟩
theorem r_Machine_leave {K : PySem.W.Frag} (T : TxtM K) {vs : List V} {H : Hp} {Q : VK} {E : XK} (h : sp_Machine_leave K vs H Q E) : t_Machine_leave K { nx := fun _ H' => Q .non H', rt := Q } (start N_Machine_leave vs) H := by
  obtain ⟨w, cv, z, n, O, fs, f, said, out, c, rfl, ⟨dx, ol, sl, fvs0, X, rfl⟩, C, ok, mo, hn, q⟩ := h
  obtain ⟨fvs, a, rfl⟩ := X.snoc
  obtain ⟨X1, s1⟩ := X.pop
  refine ⟨_, rfl, w, _, dx, _, _, rfl, X.at_, T.clM, T.nMo, rfl, .inl ⟨rfl, _, SqL.of X.op⟩, ol, _, .ref a, rfl, rfl, X.op, ?_, ?_⟩
  · rw [List.length_append, List.length_singleton, Nat.add_sub_cancel, List.getElem?_append_right (Nat.le_refl _), Nat.sub_self]; rfl
  rw [List.dropLast_concat]
  have C1 := C.mono (X.tp s1)
  generalize upd H ol (.lst fvs) = H1 at X1 s1 C1 ⊢
  refine ⟨_, rfl, w, dx, _, rfl, X1.at_, rfl, w, _, dx, ol, _, fvs, rfl, X1.at_, T.run, rfl, X1.op, fun bb hbb => ⟨bb, rfl, ?_⟩⟩
  rcases List.eq_nil_or_concat fs with rfl | ⟨gs, g, e⟩
  · have ef : fvs = [] := List.length_eq_zero_iff.mp (by have := X1.fr.len; simpa using this)
    refine if_t (hbb.mpr ef) ⟨_, rfl, _, rfl, w, _, dx, _, rfl, X1.at_, T.clM, T.nMu, (by show 4 < 1000; decide), ?_⟩
    obtain ⟨X2, s2⟩ := X1.gives (.int z)
    exact q _ _ ⟨dx, ol, sl, _, X2.up (Nat.le_succ n), rfl⟩ (s1.trans s2)
  · rw [List.concat_eq_append] at e
    subst e
    have e1 : (gs ++ [g]).getLast? = some g := by simp
    simp only [e1, List.dropLast_concat] at q
    obtain ⟨fv2, a2, rfl⟩ := X1.snoc
    refine if_f (Bool.eq_false_iff.mpr fun z => absurd (hbb.mp z) (by simp)) ?_
    refine ⟨_, rfl, w, _, dx, _, _, rfl, X1.at_, T.clM, T.nMo, rfl, _, rfl, ixLastI X1.op ?_⟩
    show t_Machine_leave_2 K _ [some (.ref w), some (.int z), some (.ref a2)] H1
    obtain ⟨dxa, b0, ha, hb0⟩ := X1.last
    have hg : FrOk c g := mo.frs g (List.mem_append_left _ (List.mem_append_right _ List.mem_cons_self))
    obtain ⟨kk, as, ec⟩ := mo.wait g (by show g ∈ (gs ++ [g] ++ [f]).dropLast; rw [List.dropLast_concat]; exact List.mem_append_right _ List.mem_cons_self)
    obtain ⟨b2, r2, hb2, er2, hr2, _⟩ := hg.at_
    have pl := ok.fits.1
    have ne : g.belt.map V.int ≠ [] := fun y => by
      have := congrArg List.length y
      rw [List.length_map, hg.len] at this
      simp at this; omega
    refine ⟨_, rfl, a2, _, dxa, _, _, rfl, ha, T.clF, T.nFb, rfl, _, rfl, b0, _, _, rfl, hb0, ne, by rw [List.length_map, hg.len]; omega, fun p H2 hp s2 => ⟨_, rfl, a2, _, dxa, _, rfl, s2 _ _ ha, T.clF, T.nFb, (by show 3 < 1000; decide), ?_⟩⟩
    rw [push_i] at hp
    have X2 := X1.same s2
    obtain ⟨X3, s3⟩ := X2.put (f' := ⟨g.part, g.row, pushI g.belt z⟩) (b' := p) (.upd_at (o := .ins (clsAt K "BeltFrame") dxa (bFs (.int (g.part : Nat)) (.int (g.row : Nat)) (.ref p)))) upd_same (by rw [upd_ne (ne_of hp (s2 _ _ ha) (by intro y; cases y))]; exact hp)
    have s13 := (s1.trans (Steps.same s2)).trans s3
    have C3 := C.mono (X.tp s13)
    show t_Machine_leave_1 K _ [some (.ref w), some (.int z), some (.ref a2)] (upd H2 a2 (.ins (clsAt K "BeltFrame") dxa (bFs (.int (g.part : Nat)) (.int (g.row : Nat)) (.ref p))))
    generalize upd H2 a2 (.ins (clsAt K "BeltFrame") dxa (bFs (.int (g.part : Nat)) (.int (g.row : Nat)) (.ref p))) = H3 at X3 s3 s13 C3 ⊢
    obtain ⟨dx3, b3, ha3, _⟩ := X3.last
    have nl : g.row + 1 < b2.2.length := next_lt ok hb2 hr2 (by
      rw [er2, hr2] at ec
      rw [Option.some.inj ec]; rfl)
    refine ⟨_, rfl, w, dx, _, rfl, X3.at_, rfl, _, rfl, _, rfl, a2, _, dx3, _, _, rfl, ha3, T.clF, T.nFr, rfl, .inl ⟨_, _, rfl, rfl, ?_⟩⟩
    refine ⟨w, a2, dx, ol, sl, cv, g.row + 1, n, fv2, gs, ⟨g.part, g.row, pushI g.belt z⟩, said, out, c, b2, rfl, X3, C3, ok, hb2, (pushI_len _ _).trans hg.len, nl, fun H' X' s' => q H' _ ⟨dx, ol, sl, _, ?_, rfl⟩ (s13.trans s')⟩
    unfold shutF
    rw [er2]
    exact X'.up (Nat.le_succ n)
theorem work_endM {K : PySem.W.Frag} (T : TxtM K) {w a dx ol sl : Addr} {cv rv tk : V} {to n : Nat} {H0 H : Hp} {fvs : List V} {fs : List MFr} {f : MFr} {said : List Int} {out : V} {c : Code} {b : CPart} {nx : St → Hp → Prop} {Q : VK} (X : MachX K H w cv dx ol sl (fvs ++ [.ref a]) n ⟨fs ++ [f], said, out⟩) (C : CodeAt H cv c) (ok : CodeOk c) (hb : c.2[f.part]? = some b) (fl : f.belt.length = c.1.toNat) (tl : to < b.2.length)
    (q : ∀ H', MachX K H' w cv dx ol sl (fvs ++ [.ref a]) n ⟨fs ++ [goOn b.2 f to], said, out⟩ → Steps (Own w ol sl (fvs ++ [.ref a])) (Own w ol sl (fvs ++ [.ref a])) H H' → nx [some (.ref w), some (.ref a), some rv, some tk, some (.int (to : Nat))] H') :
    t_Machine_work_1 K { nx := nx, rt := Q } [some (.ref w), some (.ref a), some rv, some tk, some (.int (to : Nat))] H :=
  ⟨_, rfl, w, dx, _, rfl, X.at_, rfl, _, rfl, _, rfl, w, a, dx, ol, sl, cv, to, n, fvs, fs, f, said, out, c, b, rfl, X, C, ok, hb, fl, tl, q⟩
theorem r_Machine_work {K : PySem.W.Frag} (T : TxtM K) {vs : List V} {H : Hp} {Q : VK} {E : XK} (h : sp_Machine_work K vs H Q E) : t_Machine_work K { nx := fun _ H' => Q .non H', rt := Q } (start N_Machine_work vs) H := by
  obtain ⟨w, a, dx, ol, sl, tk, cv, rv, r, n, fvs, fs, f, said, out, c, rfl, X, C, ok, mo, hn, hr, ra, wk, htk, q⟩ := h
  obtain ⟨dxa, b0, ha, hb0⟩ := X.last
  have hf : FrOk c f := mo.frs f (List.mem_append_right _ List.mem_cons_self)
  obtain ⟨b, r', hb, er, hr', _⟩ := hf.at_
  rw [er] at hr
  rw [hr] at hr'; cases hr'
  have pl := ok.fits.1
  have rf := (part_ok ok hb).2.2.2.1 r (List.mem_of_getElem? hr)
  have ne : f.belt.map V.int ≠ [] := fun y => by
    have := congrArg List.length y
    rw [List.length_map, hf.len] at this
    simp at this; omega
  have fle : (f.belt.map V.int).length ≤ 1000 := by rw [List.length_map, hf.len]; omega
  unfold mstepF at q
  rw [er] at q
  simp only [hr] at q
  refine ⟨_, rfl, a, _, dxa, _, _, rfl, ha, T.clF, T.nFr, rfl, .inl ⟨_, _, rfl, rfl, ?_⟩⟩
  show t_Machine_work_2 K _ [some (.ref w), some (.ref a), some rv, some (.ref tk), some (.int ((f.row + 1 : Nat) : Int))] H
  have pushes : ∀ (z : Int) (p : Addr) (H2 : Hp), H2 p = some (.tup ((pushI f.belt z).map V.int)) → Same H H2 → f.row + 1 < b.2.length → (∀ H', MachX K H' w cv dx ol sl (fvs ++ [.ref a]) (n + 1) ⟨fs ++ [goOn b.2 ⟨f.part, f.row, pushI f.belt z⟩ (f.row + 1)], said, out⟩ → Steps (Own w ol sl (fvs ++ [.ref a])) (Own w ol sl (fvs ++ [.ref a])) H H' → Q .non H') →
      t_Machine_work_1 K { nx := fun _ H' => Q .non H', rt := Q } [some (.ref w), some (.ref a), some rv, some (.ref tk), some (.int ((f.row + 1 : Nat) : Int))] (upd H2 a (.ins (clsAt K "BeltFrame") dxa (bFs (.int (f.part : Nat)) (.int (f.row : Nat)) (.ref p)))) := fun z p H2 hp s2 nl q' => by
    have X2 := X.same s2
    obtain ⟨X3, s3⟩ := X2.put (f' := ⟨f.part, f.row, pushI f.belt z⟩) (b' := p) (.upd_at (o := .ins (clsAt K "BeltFrame") dxa (bFs (.int (f.part : Nat)) (.int (f.row : Nat)) (.ref p)))) upd_same (by rw [upd_ne (ne_of hp (s2 _ _ ha) (by intro y; cases y))]; exact hp)
    have s13 := (Steps.same s2).trans s3
    exact work_endM (H0 := H) T X3 (C.mono (X.tp s13)) ok (f := ⟨f.part, f.row, pushI f.belt z⟩) hb ((pushI_len _ _).trans hf.len) nl fun H' X' s' => q' H' (X'.up (Nat.le_succ n)) (s13.trans s')
  cases r with
  | keep i => cases wk
  | jump t0 => cases wk
  | call k as => cases wk
  | give i => cases wk
  | num z =>
    obtain ⟨p, rfl, hp⟩ := ra
    have nl := next_lt ok hb hr rfl
    refine ⟨_, rfl, ixT hp (by decide) rfl (.inl ⟨rfl, _, rfl, yes ?_⟩)⟩
    refine ⟨_, rfl, a, _, dxa, _, _, rfl, ha, T.clF, T.nFb, rfl, _, rfl, ixT hp (by decide) rfl ⟨b0, _, _, rfl, hb0, ne, fle, fun g H2 hg s2 => ⟨_, rfl, a, _, dxa, _, rfl, s2 _ _ ha, T.clF, T.nFb, (by show 3 < 1000; decide), ?_⟩⟩⟩
    rw [push_i] at hg
    exact pushes z g H2 hg s2 nl q
  | op s i j =>
    obtain ⟨p, rfl, hp⟩ := ra
    have nl := next_lt ok hb hr rfl
    refine ⟨_, rfl, ixT hp (by decide) rfl (.inl ⟨rfl, _, rfl, no (by intro y; cases y) ?_⟩)⟩
    refine ⟨_, rfl, ixT hp (by decide) rfl (.inl ⟨rfl, _, rfl, yes ?_⟩)⟩
    refine ⟨_, rfl, a, _, dxa, _, _, rfl, ha, T.clF, T.nFb, rfl, _, rfl, ixT hp (by decide) rfl ⟨_, rfl, ixL (SqL.of htk) (by decide) rfl ⟨_, rfl, ixL (SqL.of htk) (by decide) rfl ⟨s, ati f.belt i, ati f.belt j, rfl, ati_wth hf.wth i, ati_wth hf.wth j, b0, _, _, rfl, hb0, ne, fle, fun g H2 hg s2 => ⟨_, rfl, a, _, dxa, _, rfl, s2 _ _ ha, T.clF, T.nFb, (by show 3 < 1000; decide), ?_⟩⟩⟩⟩⟩
    rw [push_i] at hg
    exact pushes _ g H2 hg s2 nl q
  | say i =>
    obtain ⟨p, rfl, hp⟩ := ra
    have nl := next_lt ok hb hr rfl
    refine ⟨_, rfl, ixT hp (by decide) rfl (.inl ⟨rfl, _, rfl, no (by intro y; cases y) ?_⟩)⟩
    refine ⟨_, rfl, ixT hp (by decide) rfl (.inl ⟨rfl, _, rfl, no (by intro y; cases y) ?_⟩)⟩
    refine ⟨_, rfl, ixT hp (by decide) rfl (.inl ⟨rfl, _, rfl, yes ?_⟩)⟩
    refine ⟨_, rfl, w, _, dx, _, _, rfl, X.at_, T.clM, T.nMs, rfl, .inl ⟨rfl, _, SqL.of X.sp⟩, _, rfl, ixL (SqL.of htk) (by decide) rfl ⟨sl, _, _, rfl, rfl, X.sp, smallL (by rw [List.length_map]; have := X.saw; have : said.length ≤ n := this; omega), ?_⟩⟩
    obtain ⟨X2, s2⟩ := X.say (ati f.belt i)
    exact work_endM (H0 := H) T X2 (C.mono (X.tp s2)) ok hb hf.len nl fun H' X' s' => q H' X' (s2.trans s')
  | test i t0 =>
    obtain ⟨p, rfl, hp⟩ := ra
    have nl := next_lt ok hb hr rfl
    have g0 := rf.2.1 t0 rfl
    have q : ∀ H', MachX K H' w cv dx ol sl (fvs ++ [.ref a]) (n + 1) ⟨fs ++ [goOn b.2 f (if ati f.belt i = 0 then f.row + 1 else t0.toNat)], said, out⟩ → Steps (Own w ol sl (fvs ++ [.ref a])) (Own w ol sl (fvs ++ [.ref a])) H H' → Q .non H' := q
    refine ⟨_, rfl, ixT hp (by decide) rfl (.inl ⟨rfl, _, rfl, no (by intro y; cases y) ?_⟩)⟩
    refine ⟨_, rfl, ixT hp (by decide) rfl (.inl ⟨rfl, _, rfl, no (by intro y; cases y) ?_⟩)⟩
    refine ⟨_, rfl, ixT hp (by decide) rfl (.inl ⟨rfl, _, rfl, no (by intro y; cases y) ?_⟩)⟩
    refine ⟨_, rfl, ixT hp (by decide) rfl (.inl ⟨rfl, _, rfl, yes ?_⟩)⟩
    refine ⟨_, rfl, ixL (SqL.of htk) (by decide) rfl (.inl ⟨rfl, _, rfl, if_not (fun h0 => ?_) fun h0 => ?_⟩)⟩
    · rw [if_neg (fun y => h0 (by rw [y]))] at q
      refine ⟨_, rfl, .ref p, .test i t0, rfl, ⟨p, rfl, hp⟩, ?_⟩
      have et : V.int t0 = V.int ((t0.toNat : Nat) : Int) := by congr 1; omega
      show t_Machine_work_1 K _ [some (.ref w), some (.ref a), some (.ref p), some (.ref tk), some (.int t0)] H
      rw [et]
      exact work_endM (H0 := H) T (X.up (Nat.le_succ n)) C ok hb hf.len (by omega) fun H' X' s' => q H' X' s'
    · rw [if_pos (V.int.inj h0)] at q
      exact work_endM (H0 := H) T (X.up (Nat.le_succ n)) C ok hb hf.len nl fun H' X' s' => q H' X' s'
end Bg
end
section
set_option Elab.async false
set_option linter.all false
set_option maxRecDepth 100000
set_option maxHeartbeats 4000000
namespace Bg
open PySem L2
theorem intsI_get {zs : List Int} {i : Nat} {z : Int} (h : zs[i]? = some z) : (zs.map V.int)[i]? = some (.int z) := by rw [List.getElem?_map, h]; rfl
theorem intsI_of {zs : List Int} {i : Nat} {v : V} (h : (zs.map V.int)[i]? = some v) : ∃ z, zs[i]? = some z ∧ v = .int z := by
  rw [List.getElem?_map] at h
  cases e : zs[i]? with
  | none => rw [e] at h; cases h
  | some z => rw [e] at h; exact ⟨z, rfl, (Option.some.inj h).symm⟩
theorem r_Machine_step {K : PySem.W.Frag} (T : TxtM K) {vs : List V} {H : Hp} {Q : VK} {E : XK} (h : sp_Machine_step K vs H Q E) : t_Machine_step K { nx := fun _ H' => Q .non H', rt := Q } (start N_Machine_step vs) H := by
  obtain ⟨w, cv, n, O, st, c, rfl, ⟨dx, ol, sl, fvs0, X, rfl⟩, C, ok, mo, hn, q⟩ := h
  obtain ⟨sfs, said, out⟩ := st
  refine ⟨_, rfl, w, dx, _, rfl, X.at_, rfl, w, _, dx, ol, _, fvs0, rfl, X.at_, T.run, rfl, X.op, fun bb hbb => ⟨bb, rfl, ?_⟩⟩
  rcases List.eq_nil_or_concat sfs with rfl | ⟨fs, f, e⟩
  · have ef : fvs0 = [] := List.length_eq_zero_iff.mp (by have := X.fr.len; simpa using this)
    exact if_t (hbb.mpr ef) (q H _ ⟨dx, ol, sl, _, X.up (Nat.le_succ n), rfl⟩ (.refl H))
  rw [List.concat_eq_append] at e
  subst e
  rw [mstep_snoc] at q
  obtain ⟨fvs, a, rfl⟩ := X.snoc
  refine if_f (Bool.eq_false_iff.mpr fun z => absurd (hbb.mp z) (by simp)) ?_
  refine ⟨_, rfl, w, _, dx, _, _, rfl, X.at_, T.clM, T.nMo, rfl, _, rfl, ixLastI X.op ?_⟩
  show t_Machine_step_3 K _ [some (.ref w), some (.ref a), none, none] H
  obtain ⟨dxa, b0, ha, hb0⟩ := X.last
  have hf : FrOk c f := mo.frs f (List.mem_append_right _ List.mem_cons_self)
  obtain ⟨b, r, hb, er, hr, hs⟩ := hf.at_
  obtain ⟨pc, qc, pvs, pt, rt, rvs, rfl, h1, h2, e1, h3, h4, hR⟩ := code_rows C hb
  obtain ⟨v, r', ev, er', ra⟩ := hR.get (List.getElem?_eq_some_iff.mp hr).1
  rw [hr] at er'; cases er'
  have ev' : rvs[((f.row : Nat) : Int).toNat]? = some v := by simpa using ev
  have rf := (part_ok ok hb).2.2.2.1 r (List.mem_of_getElem? hr)
  refine ⟨_, rfl, w, _, dx, _, _, rfl, X.at_, T.clM, T.nMc, rfl, ixT h1 (by decide) rfl ⟨_, rfl, a, _, dxa, _, _, rfl, ha, T.clF, T.nFp, rfl, ixT h2 (by omega) e1 (ixT h3 (by decide) rfl ⟨_, rfl, a, _, dxa, _, _, rfl, ha, T.clF, T.nFr, rfl, ixT h4 (by omega) ev' ?_⟩)⟩⟩
  show t_Machine_step_2 K _ [some (.ref w), some (.ref a), some v, none] H
  have pl := ok.fits.1
  refine .inr ⟨_, rfl, v, r, rfl, ra, fun t H1 ht s1 => ⟨t, rfl, ⟨_, SqT.of ht⟩, fun L hL => ?_⟩⟩
  refine comp_tup (xs := (placesOf r).map V.int) (fun j σ' H' => ∃ (o : Option V), σ' = [some (.ref w), some (.ref a), some v, none, o] ∧ H' L = some (.lst ((((placesOf r).take j).map (ati f.belt)).map V.int)) ∧ Same H1 H') ?_ ?_ ?_ ?_
  · exact ⟨none, rfl, by rw [List.take_zero]; exact upd_same, (Same.refl H1).new hL⟩
  · rintro j σ' H' _ ⟨o, _, _, s'⟩
    exact SqT.of (s' _ _ ht)
  · rintro j x σ' H' hx ⟨o, rfl, hl, s'⟩
    obtain ⟨i, hi, rfl⟩ := intsI_of hx
    have ir := rf.1 i (List.mem_of_getElem? hi)
    have il : i.toNat < f.belt.length := by rw [hf.len]; omega
    have S := s1.trans s'
    have ea : ati f.belt i = f.belt[i.toNat] := by unfold ati; rw [List.getElem?_eq_getElem il]; rfl
    have few : ((((placesOf r).take j).map (ati f.belt)).map V.int).length ≤ 4 := by
      rw [List.length_map, List.length_map, List.length_take]
      have : (placesOf r).length ≤ 4 := by
        cases r with
        | call k as =>
          have cf := rf.2.2 k as rfl
          have hk : k.toNat < c.2.length := by have := cf.1; have := cf.2.1; omega
          have e2 := cf.2.2 _ (List.getElem?_eq_getElem hk)
          have m2 := (part_ok ok (List.getElem?_eq_getElem hk)).1
          show as.length ≤ 4
          omega
        | num z => show 0 ≤ 4; decide
        | op s i j => show 2 ≤ 4; decide
        | keep i => show 1 ≤ 4; decide
        | say i => show 1 ≤ 4; decide
        | jump t => show 0 ≤ 4; decide
        | test i t => show 1 ≤ 4; decide
        | give i => show 1 ≤ 4; decide
      omega
    refine app_yes ⟨_, rfl, a, _, dxa, _, _, rfl, S _ _ ha, T.clF, T.nFb, rfl, _, rfl, ixT (S _ _ hb0) ir.1 (intsI_get (List.getElem?_eq_getElem il)) ⟨_, hl, smallL (by omega), _, rfl, ?_, ?_⟩⟩
    · rw [upd_same, List.take_add_one, hi, List.map_append, List.map_append]
      show some (HO.lst (_ ++ [V.int f.belt[i.toNat]])) = some (HO.lst (_ ++ [V.int (ati f.belt i)]))
      rw [ea]
    · intro b u hb2
      have nb : b ≠ L := ne_of_none hb2 hL
      rw [upd_ne nb]; exact s' b u hb2
  · rintro σ' H2 ⟨o, _, hl, s2⟩
    rw [List.length_map, List.take_length] at hl
    have S2 := s1.trans s2
    have X2 := X.same S2
    have C2 := C.mono (.of_same S2)
    have ra2 := ra.mono (.of_same S2)
    show t_Machine_step_1 K _ [some (.ref w), some (.ref a), some v, some (.ref L)] H2
    by_cases wk : isWorkC r = true
    · obtain ⟨p, xs, rfl, hp⟩ := ra2.ref
      have n1 : ¬ V.str (cword r) = V.str "call" := by cases r <;> first | (cases wk; done) | (intro z; cases z)
      have n2 : ¬ V.str (cword r) = V.str "give" := by cases r <;> first | (cases wk; done) | (intro z; cases z)
      refine ⟨_, rfl, ixT hp (by decide) rfl (.inl ⟨rfl, _, rfl, no n1 ?_⟩)⟩
      refine ⟨_, rfl, ixT hp (by decide) rfl (.inl ⟨rfl, _, rfl, no n2 ?_⟩)⟩
      refine ⟨_, rfl, w, dx, _, rfl, X2.at_, rfl, _, rfl, _, rfl, _, rfl, w, a, dx, ol, sl, L, .ref pc, .ref p, r, n, fvs, fs, f, said, out, c, rfl, X2, C2, ok, mo, hn, by rw [er]; exact hr, ra2, wk, hl, fun H' X' s' => q H' _ ⟨dx, ol, sl, _, X', rfl⟩ ((Steps.same S2).trans s')⟩
    unfold mstepF at q
    rw [er] at q
    simp only [hr] at q
    cases r with
    | num z => exact absurd rfl wk
    | op s i j => exact absurd rfl wk
    | say i => exact absurd rfl wk
    | test i t0 => exact absurd rfl wk
    | keep i => cases hs
    | jump t0 => cases hs
    | call k as =>
      obtain ⟨p, q1, rfl, hp, hq1⟩ := ra2
      have cf := rf.2.2 k as rfl
      have hk : k.toNat < c.2.length := by have := cf.1; have := cf.2.1; omega
      have ek : V.int k = V.int ((k.toNat : Nat) : Int) := by have := cf.1; congr 1; omega
      refine ⟨_, rfl, ixT hp (by decide) rfl (.inl ⟨rfl, _, rfl, yes ?_⟩)⟩
      refine ⟨_, rfl, w, dx, _, rfl, X2.at_, rfl, _, rfl, ixT hp (by decide) rfl ⟨_, rfl, w, L, .ref pc, k.toNat, n, _, ⟨fs ++ [f], said, out⟩, as.map (ati f.belt), c, by rw [ek]; rfl, ⟨dx, ol, sl, _, X2, rfl⟩, C2, ok, hk, .inl hl, hn, fun H' O' X' s' => q H' O' X' ((Steps.same S2).trans s')⟩⟩
    | give i =>
      obtain ⟨p, rfl, hp⟩ := ra2
      refine ⟨_, rfl, ixT hp (by decide) rfl (.inl ⟨rfl, _, rfl, no (by intro z; cases z) ?_⟩)⟩
      refine ⟨_, rfl, ixT hp (by decide) rfl (.inl ⟨rfl, _, rfl, yes ?_⟩)⟩
      refine ⟨_, rfl, w, dx, _, rfl, X2.at_, rfl, _, rfl, ixL (SqL.of hl) (by decide) rfl ⟨w, .ref pc, ati f.belt i, n, _, fs, f, said, out, c, rfl, ⟨dx, ol, sl, _, X2, rfl⟩, C2, ok, mo, hn, fun H' O' X' s' => q H' O' ?_ ((Steps.same S2).trans s')⟩⟩
      cases e2 : fs.getLast? with
      | none => rw [e2] at X'; exact X'
      | some g => rw [e2] at X'; exact X'
theorem mstep_end {c : Code} {st : MSt} (h : st.fs = []) : mstep c st = st := by unfold mstep; rw [h]; rfl
theorem msteps_end {c : Code} : ∀ (k : Nat) {st : MSt}, st.fs = [] → msteps c k st = st
  | 0, _, _ => rfl
  | k + 1, st, h => by show msteps c k (mstep c st) = st; rw [mstep_end h]; exact msteps_end k h
theorem mcount_le (c : Code) : ∀ (m : Nat) (st : MSt), mcount c m st ≤ m
  | 0, _ => Nat.le_refl _
  | m + 1, st => by
    unfold mcount
    split
    · exact Nat.zero_le _
    · exact Nat.succ_le_succ (mcount_le c m _)
theorem mcount_go (c : Code) : ∀ (m : Nat) (st : MSt) (j : Nat), j < mcount c m st → (msteps c j st).fs ≠ []
  | 0, _, j, h => absurd h (Nat.not_lt_zero _)
  | m + 1, st, j, h => by
    unfold mcount at h
    by_cases e : st.fs.isEmpty = true
    · rw [if_pos e] at h; exact absurd h (Nat.not_lt_zero _)
    · rw [if_neg e] at h
      cases j with
      | zero => intro z; exact e (by show st.fs.isEmpty = true; rw [show st.fs = [] from z]; rfl)
      | succ j => exact mcount_go c m (mstep c st) j (by omega)
theorem mcount_fin (c : Code) : ∀ (m : Nat) (st : MSt), msteps c m st = msteps c (mcount c m st) st ∧ ((msteps c (mcount c m st) st).fs = [] ∨ mcount c m st = m)
  | 0, _ => ⟨rfl, .inr rfl⟩
  | m + 1, st => by
    unfold mcount
    by_cases e : st.fs.isEmpty = true
    · rw [if_pos e]
      have e' : st.fs = [] := List.isEmpty_iff.mp e
      exact ⟨msteps_end _ e', .inl e'⟩
    · rw [if_neg e]
      obtain ⟨a, b⟩ := mcount_fin c m (mstep c st)
      refine ⟨a, b.imp (fun z => z) fun z => by rw [z]⟩
theorem r_p_stepped {K : PySem.W.Frag} (T : TxtM K) {vs : List V} {H : Hp} {Q : VK} {E : XK} (h : sp_p_stepped K vs H Q E) : t_p_stepped K { nx := fun _ H' => Q .non H', rt := Q } (start N_p_stepped vs) H := by
  obtain ⟨w, cv, most, O, c, st, rfl, X0, C, ok, mo, hm, q⟩ := h
  obtain ⟨ef, ee⟩ := mcount_fin c most st
  have ml := mcount_le c most st
  have go := mcount_go c most st
  rw [ef] at q
  generalize mcount c most st = m at ee ml go q
  refine ⟨fun u σ' H' => ∃ j O', j ≤ m ∧ u = m - j ∧ σ' = [some (.ref w), some (.int (most : Nat)), some (.int (j : Nat)), none] ∧ MachAt K H' w cv O' (j + 1) (msteps c j st) ∧ Steps O O' H H', ⟨m, 0, O, Nat.zero_le _, rfl, rfl, X0, .refl H⟩, ?_⟩
  rintro u σ' H' ⟨j, O', hj, rfl, rfl, X, s⟩
  have C' := C.mono (X0.tp s)
  have moj := MOk.steps ok j mo
  obtain ⟨dx, ol, sl, fvs, X', rfl⟩ := X
  have fl := X'.fr.len
  have fe : fvs = [] ↔ (msteps c j st).fs = [] := ⟨fun z => List.length_eq_zero_iff.mp (by rw [← fl, z]; rfl), fun z => List.length_eq_zero_iff.mp (by rw [fl, z]; rfl)⟩
  by_cases jm : j < m
  · have ne1 := go j jm
    refine ⟨_, rfl, _, rfl, _, _, rfl, rfl, _, rfl, if_t (decide_eq_true (by omega)) ?_⟩
    refine ⟨_, rfl, w, dx, _, rfl, X'.at_, rfl, w, _, dx, ol, _, fvs, rfl, X'.at_, T.run, rfl, X'.op, fun bb hbb => ⟨bb, rfl, ?_⟩⟩
    have : bb = false := Bool.eq_false_iff.mpr fun z => ne1 (fe.mp (hbb.mp z))
    subst this
    refine iteT ⟨fun σ2 H2 => ∃ O2, σ2 = [some (.ref w), some (.int (most : Nat)), some (.int ((j + 1 : Nat) : Int)), none] ∧ MachAt K H2 w cv O2 (j + 2) (msteps c (j + 1) st) ∧ Steps O O2 H H2, ?_, ?_⟩
    · rintro σ2 H2 ⟨O2, rfl, X2, s2⟩
      exact ⟨m - (j + 1), by omega, j + 1, O2, jm, rfl, rfl, X2, s2⟩
    · refine ⟨_, rfl, w, dx, _, rfl, X'.at_, rfl, w, cv, j + 1, _, msteps c j st, c, rfl, ⟨dx, ol, sl, _, X', rfl⟩, C', ok, moj, by omega, fun H2 O2 X2 s2 => ?_⟩
      refine ⟨_, rfl, _, _, rfl, rfl, O2, rfl, ?_, s.trans s2⟩
      rw [msteps_succ]; exact X2
  · have ej : j = m := by omega
    subst ej
    refine ⟨_, rfl, _, rfl, _, _, rfl, rfl, _, rfl, ?_⟩
    have fin : t_p_stepped_2 K { nx := fun _ H' => Q .non H', rt := Q } [some (.ref w), some (.int (most : Nat)), some (.int (j : Nat)), none] H' := by
      refine ⟨_, rfl, w, dx, _, rfl, X'.at_, rfl, w, _, dx, ol, _, fvs, rfl, X'.at_, T.run, rfl, X'.op, fun bb hbb => ⟨bb, rfl, ?_⟩⟩
      have key : ∀ (v : Str), v = mword (msteps c j st) → t_p_stepped_1 K { nx := fun _ H' => Q .non H', rt := Q } [some (.ref w), some (.int (most : Nat)), some (.int (j : Nat)), some (.str v)] H' := by
        intro v ev
        refine ⟨_, rfl, _, rfl, w, dx, _, rfl, X'.at_, rfl, w, _, dx, sl, _, _, rfl, X'.at_, T.run, rfl, X'.sp, fun l nl => ?_⟩
        have sl1 := (Same.refl H').new (o := .lst ((msteps c j st).said.map V.int)) nl
        have X2 := X'.same sl1
        refine ⟨_, rfl, w, dx, _, rfl, X2.at_, rfl, w, _, dx, _, _, rfl, X2.at_, T.run, rfl, _, rfl, by show 4 ≤ sizeLine; decide, fun p np => ?_⟩
        have Hl : H l = none := s.live l nl
        refine q p l _ _ (by rw [upd_same, ev]) ?_ Hl ((s.trans (Steps.same sl1)).trans (Steps.same ((Same.refl _).new np)))
        rw [upd_ne (fun z => by rw [← z, upd_same] at np; cases np), upd_same]
      refine if_bl (fun e => ?_) fun e => ?_
      · exact key "given" (by unfold mword; rw [fe.mp (hbb.mp e)]; rfl)
      · refine key "spent" ?_
        unfold mword
        have : (msteps c j st).fs ≠ [] := fun z => by rw [hbb.mpr (fe.mpr z)] at e; cases e
        rw [if_neg (by simpa using this)]
    by_cases c0 : j < most
    · refine if_t (decide_eq_true (by omega)) ?_
      refine ⟨_, rfl, w, dx, _, rfl, X'.at_, rfl, w, _, dx, ol, _, fvs, rfl, X'.at_, T.run, rfl, X'.op, fun bb hbb => ⟨bb, rfl, ?_⟩⟩
      have : bb = true := hbb.mpr (fe.mpr (ee.resolve_right (by omega)))
      subst this
      exact iteF fin
    · exact if_f (decide_eq_false (by omega)) (iteF fin)
theorem r_p_run_belt {K : PySem.W.Frag} (T : TxtM K) {vs : List V} {H : Hp} {Q : VK} {E : XK} (h : sp_p_run_belt K vs H Q E) : t_p_run_belt K { nx := fun _ H' => Q .non H', rt := Q } (start N_p_run_belt vs) H := by
  obtain ⟨q0, cv, k, most, zs, c, rfl, C, ok, kl, hq, hz, hm, q⟩ := h
  refine ⟨_, rfl, _, rfl, _, rfl, fun w dxw nw ndx ne => ?_⟩
  have S0 : Same H (upd (upd H dxw (.own w)) w (.ins (clsAt K "Machine") dxw [])) := (Same.new (Same.refl H) ndx).trans ((Same.refl _).new (by rw [upd_ne (Ne.symm ne)]; exact nw))
  have hw : upd (upd H dxw (.own w)) w (.ins (clsAt K "Machine") dxw []) w = some (.ins (clsAt K "Machine") dxw []) := upd_same
  generalize upd (upd H dxw (.own w)) w (.ins (clsAt K "Machine") dxw []) = H0 at S0 hw ⊢
  refine ⟨w, dxw, q0, cv, k, zs, c, rfl, hw, C.mono (.of_same S0), ok, kl, hq.imp (S0 _ _) (S0 _ _), fun H1 O1 X1 s1 => ⟨rfl, ?_⟩⟩
  have t1 : Tp H0 H1 := fun p xs e => s1.out p _ (fun z => by rw [z, hw] at e; cases e) e
  have hb := List.getElem?_eq_getElem kl
  have mo : MOk c ⟨[openF c k zs], [], .non⟩ := by
    refine ⟨fun f hf => ?_, fun f hf => by (cases hf)⟩
    rw [List.mem_singleton.mp hf]
    unfold openF
    rw [rowsOf_eq hb]
    exact goOn_ok ok (f := ⟨k, 0, belt0 c zs⟩) hb (belt0_len _ _) (belt0_wth c hz) (List.length_pos_iff.mpr (part_ok ok hb).2.1)
  refine ⟨_, rfl, w, cv, most, O1, c, _, rfl, X1, (C.mono (.of_same S0)).mono t1, ok, mo, hm, fun p l H2 O2 h2 hl nl s2 => q p l H2 h2 hl ?_ ?_⟩
  · exact S0.free (s1.live l nl)
  · intro b o e
    have nb : b ≠ w := fun z => by rw [z, nw] at e; cases e
    exact (s1.trans s2).out b o nb (S0 b o e)
end Bg
end
section
set_option Elab.async false
set_option linter.all false
set_option maxRecDepth 100000
set_option maxHeartbeats 4000000
namespace Bg
open PySem L2
theorem tup_new {t : TA} {σ : St} {H : Hp} {Q : VK} (xs : List V) (pure : ∀ R : List V → Hp → Prop, R xs H → t σ H R) (hl : xs.length ≤ 100) (q : ∀ p H', H' p = some (.tup xs) → Same H H' → Q (.ref p) H') : tTup t σ H Q :=
  pure _ ⟨Nat.le_trans hl (by decide), fun p np => q p _ upd_same ((Same.refl H).new np)⟩
theorem tup_open {t : TA} {σ : St} {H : Hp} {Q : VK} (h : t σ H fun xs H1 => xs.length ≤ sizeLine ∧ ∀ p, H1 p = none → Q (.ref p) (upd H1 p (.tup xs))) : tTup t σ H Q := h
theorem asg_open {te : TE} {g : TG} {u : TS} {D : Ends} {σ : St} {H : Hp} (h : te σ H fun x H1 => g x σ H1 (u D)) : tSeq (tAsg te g) u D σ H := h
theorem ret_open {te : TE} {D : Ends} {σ : St} {H : Hp} (h : te σ H D.rt) : tRet te D σ H := h
theorem cons_open {ta : TE} {tr : TA} {σ : St} {H : Hp} {Q : List V → Hp → Prop} (h : ta σ H fun x H1 => tr σ H1 fun xs H2 => Q (x :: xs) H2) : tCons ta tr σ H Q := h
theorem cons_c {v : V} {tr : TA} {σ : St} {H : Hp} {Q : List V → Hp → Prop} (h : tr σ H fun xs H2 => Q (v :: xs) H2) : tCons (tC v) tr σ H Q := h
theorem cons_v {i : Nat} {v : V} {tr : TA} {σ : St} {H : Hp} {Q : List V → Hp → Prop} (e : σ[i]? = some (some v)) (h : tr σ H fun xs H2 => Q (v :: xs) H2) : tCons (tVar i) tr σ H Q := ⟨v, e, h⟩
theorem cons_tup {t tr : TA} {σ : St} {H : Hp} {Q : List V → Hp → Prop} (xs : List V) (pure : ∀ R : List V → Hp → Prop, R xs H → t σ H R) (hl : xs.length ≤ 100) (q : ∀ p H', H' p = some (.tup xs) → Same H H' → tr σ H' fun ys H2 => Q (.ref p :: ys) H2) : tCons (tTup t) tr σ H Q := tup_new xs pure hl q
theorem catT_new {K : PySem.W.Frag} {a b : Addr} {xs ys : List V} {H : Hp} {Q : VK} (ha : H a = some (.tup xs)) (hb : H b = some (.tup ys)) (ne : xs ≠ []) (ne' : ys ≠ []) (hl : xs.length + ys.length ≤ 100) (q : ∀ p H', H' p = some (.tup (xs ++ ys)) → Same H H' → Q (.ref p) H') : rPlus K (.ref a) (.ref b) H Q :=
  .inr (.inr (.inr ⟨a, b, xs, ys, rfl, rfl, SqT.of ha, SqT.of hb, ne, Nat.le_trans hl (by decide), fun z => absurd z ne', fun _ p np => q p _ upd_same ((Same.refl H).new np)⟩))
theorem AllAt.cons {α : Type} {R : V → α → Prop} {vs : List V} {rs : List α} {v : V} {r : α} (q : R v r) (h : AllAt R vs rs) : AllAt R (v :: vs) (r :: rs) := ⟨by simp [h.len], fun i v' r' a b => by
  match i with
  | 0 => cases a; cases b; exact q
  | i + 1 => exact h.at_ i v' r' a b⟩
theorem lst_open {t : TA} {σ : St} {H : Hp} {Q : VK} (h : t σ H fun xs H1 => xs.length ≤ sizeLine ∧ ∀ p, H1 p = none → Q (.ref p) (upd H1 p (.lst xs))) : tLst t σ H Q := h
end Bg
end
section
set_option Elab.async false
set_option linter.all false
set_option maxRecDepth 100000
set_option maxHeartbeats 4000000
namespace Bg
open PySem L2
theorem r_Machine_frames {K : PySem.W.Frag} (T : TxtM K) {vs : List V} {H : Hp} {Q : VK} {E : XK} (h : sp_Machine_frames K vs H Q E) : t_Machine_frames K { nx := fun _ H' => Q .non H', rt := Q } (start N_Machine_frames vs) H := by
  obtain ⟨w, cv, O, n, st, rfl, ⟨dx, ol, sl, fvs, X, rfl⟩, hn, q⟩ := h
  refine .inl ⟨_, rfl, w, _, dx, _, _, rfl, X.at_, T.clM, T.nMo, rfl, ol, rfl, ⟨_, SqL.of X.op⟩, fun D hD => ?_⟩
  refine comp_list (xs := fvs) (fun i σ' H' => ∃ (ws : List V) (o : Option V), σ' = [some (.ref w), o] ∧ H' D = some (.lst ws) ∧ AllAt (FrT H') ws (st.fs.take i) ∧ Same H H') ?_ ?_ ?_ ?_
  · exact ⟨[], none, rfl, upd_same, by rw [List.take_zero]; exact .nil, (Same.refl H).new hD⟩
  · rintro i σ' H' _ ⟨_, _, _, _, _, s'⟩
    exact SqL.of (s' _ _ X.op)
  · rintro i x σ' H1 hx ⟨ws, o, rfl, hw, A, s1⟩
    obtain ⟨f, hf, a, dxa, b, rfl, ha, hb⟩ := X.fr.of_v hx
    have il := (List.getElem?_eq_some_iff.mp hf).1
    have fl := X.fr.len
    have fw := X.few
    have ha1 := s1 _ _ ha
    refine app_yes ⟨_, rfl, a, _, dxa, _, _, rfl, ha1, T.clF, T.nFp, rfl, _, rfl, a, _, dxa, _, _, rfl, ha1, T.clF, T.nFr, rfl, _, rfl, a, _, dxa, _, _, rfl, ha1, T.clF, T.nFb, rfl, (by show 3 ≤ sizeLine; decide), fun p np => ?_⟩
    have nD : D ≠ p := ne_of_none hw np
    have hw2 : upd H1 p (.tup [.int (f.part : Nat), .int (f.row : Nat), .ref b]) D = some (.lst ws) := by rw [upd_ne nD]; exact hw
    have al := A.len
    rw [List.length_take] at al
    have t1 : Tp H1 (upd H1 p (.tup [.int (f.part : Nat), .int (f.row : Nat), .ref b])) := (Tp.refl H1).new np
    have t2 : Tp (upd H1 p (.tup [.int (f.part : Nat), .int (f.row : Nat), .ref b])) (upd (upd H1 p (.tup [.int (f.part : Nat), .int (f.row : Nat), .ref b])) D (.lst (ws ++ [.ref p]))) := (Tp.refl _).lst hw2
    refine ⟨_, hw2, smallL (by omega), ws ++ [.ref p], _, rfl, upd_same, ?_, fun c oc hc => ?_⟩
    · rw [List.take_add_one, hf]
      exact (A.imp fun _ _ z => z.mono (t1.trans t2)).snoc ⟨p, b, rfl, t2 _ _ upd_same, (t1.trans t2) _ _ (s1 _ _ hb)⟩
    · rw [upd_ne (ne_of_none hc hD)]
      exact (s1.new np) c oc hc
  · rintro σ' H1 ⟨ws, o, _, hw, A, s1⟩
    rw [X.fr.len, List.take_length] at A
    exact q D ws H1 hD hw A s1
end Bg
end
section
set_option Elab.async false
set_option linter.all false
set_option maxRecDepth 100000
set_option maxHeartbeats 4000000
namespace Bg
open PySem L2
end Bg
end
section
set_option Elab.async false
set_option linter.all false
set_option maxRecDepth 100000
set_option maxHeartbeats 4000000
namespace Bg
open PySem L2
end Bg
end
section
set_option Elab.async false
set_option linter.all false
set_option maxRecDepth 100000
set_option maxHeartbeats 4000000
namespace Bg
open PySem L2
end Bg
end
section
set_option Elab.async false
set_option linter.all false
set_option maxRecDepth 100000
set_option maxHeartbeats 4000000
namespace Bg
open PySem L2
end Bg
end
section
set_option Elab.async false
set_option linter.all false
set_option maxRecDepth 100000
set_option maxHeartbeats 4000000
namespace Bg
open PySem L2
structure OutOk (st : MSt) : Prop where
  go : st.fs ≠ [] → st.out = .non
  or : st.out = .non ∨ ∃ z, st.out = .int z
theorem OutOk.step {c : Code} {st : MSt} (h : OutOk st) : OutOk (mstep c st) := by
  obtain ⟨fs0, said, out⟩ := st
  rcases List.eq_nil_or_concat fs0 with rfl | ⟨fs, f, e⟩
  · exact h
  rw [List.concat_eq_append] at e
  subst e
  have on : out = .non := h.go (by simp)
  subst on
  rw [mstep_snoc]
  unfold mstepF
  cases e : (rowsOf c f.part)[f.row]? with
  | none => simp only [e]; exact ⟨fun _ => rfl, .inl rfl⟩
  | some r =>
    cases r with
    | give i =>
      cases e2 : fs.getLast? with
      | none => simp only [e, e2]; exact ⟨fun z => absurd rfl z, .inr ⟨_, rfl⟩⟩
      | some g => simp only [e, e2]; exact ⟨fun _ => rfl, .inl rfl⟩
    | num z => simp only [e]; exact ⟨fun _ => rfl, .inl rfl⟩
    | op s i j => simp only [e]; exact ⟨fun _ => rfl, .inl rfl⟩
    | keep i => simp only [e]; exact ⟨fun _ => rfl, .inl rfl⟩
    | say i => simp only [e]; exact ⟨fun _ => rfl, .inl rfl⟩
    | jump t => simp only [e]; exact ⟨fun _ => rfl, .inl rfl⟩
    | test i t => simp only [e]; exact ⟨fun _ => rfl, .inl rfl⟩
    | call k as => simp only [e]; exact ⟨fun _ => rfl, .inl rfl⟩
theorem OutOk.steps {c : Code} : ∀ (k : Nat) {st : MSt}, OutOk st → OutOk (msteps c k st)
  | 0, _, h => h
  | k + 1, _, h => OutOk.steps k h.step
theorem open_ok {c : Code} (ok : CodeOk c) {k : Nat} (kl : k < c.2.length) {zs : List Int} (hz : ∀ z ∈ zs, Wth z) : MOk c ⟨[openF c k zs], [], .non⟩ := by
  have hb := List.getElem?_eq_getElem kl
  refine ⟨fun f hf => ?_, fun f hf => by (cases hf)⟩
  rw [List.mem_singleton.mp hf]
  unfold openF
  rw [rowsOf_eq hb]
  exact goOn_ok ok (f := ⟨k, 0, belt0 c zs⟩) hb (belt0_len _ _) (belt0_wth c hz) (List.length_pos_iff.mpr (part_ok ok hb).2.1)
end Bg
end
section
set_option Elab.async false
set_option linter.all false
set_option maxRecDepth 100000
set_option maxHeartbeats 4000000
namespace Bg
open PySem L2
theorem mcount_all (c : Code) {k : Nat} {st : MSt} (h : (msteps c k st).fs ≠ []) : mcount c k st = k := by
  obtain ⟨a, b⟩ := mcount_fin c k st
  rcases b with b | b
  · rw [← a] at b; exact absurd b h
  · exact b
theorem msteps_more (c : Code) {k : Nat} {st : MSt} (h : (msteps c k st).fs = []) : ∀ d, msteps c (k + d) st = msteps c k st := fun d => by rw [msteps_add]; exact msteps_end d h
theorem mcount_succ (c : Code) : ∀ (k : Nat) (st : MSt), mcount c (k + 1) st = if (msteps c k st).fs.isEmpty then mcount c k st else mcount c k st + 1
  | 0, st => rfl
  | k + 1, st => by
    show (if st.fs.isEmpty then 0 else mcount c (k + 1) (mstep c st) + 1) = _
    rw [mcount_succ c k (mstep c st)]
    show _ = (if (msteps c k (mstep c st)).fs.isEmpty then (if st.fs.isEmpty then 0 else mcount c k (mstep c st) + 1) else (if st.fs.isEmpty then 0 else mcount c k (mstep c st) + 1) + 1)
    by_cases e : st.fs.isEmpty = true
    · have e' := List.isEmpty_iff.mp e
      rw [mstep_end e', msteps_end k e', if_pos e, if_pos e, if_pos e]
    · rw [if_neg e, if_neg e]
      split <;> rfl
theorem mcount_more (c : Code) {k : Nat} {st : MSt} (h : (msteps c k st).fs = []) : ∀ d, mcount c (k + d) st = mcount c k st
  | 0 => rfl
  | d + 1 => by
    rw [← Nat.add_assoc, mcount_succ, msteps_more c h d, h]
    exact mcount_more c h d
theorem tr_more (c : Code) {k : Nat} {st : MSt} (h : (msteps c k st).fs = []) (d : Nat) : trOf c (k + d) st = trOf c k st := by
  unfold trOf
  rw [msteps_more c h, mcount_more c h]
theorem said_step (c : Code) (st : MSt) : ∃ t, (mstep c st).said = st.said ++ t := by
  obtain ⟨fs0, said, out⟩ := st
  rcases List.eq_nil_or_concat fs0 with rfl | ⟨fs, f, e⟩
  · exact ⟨[], by simp [mstep]⟩
  rw [List.concat_eq_append] at e
  subst e
  rw [mstep_snoc]
  unfold mstepF
  cases e : (rowsOf c f.part)[f.row]? with
  | none => simp only [e]; exact ⟨[], by simp⟩
  | some r =>
    cases r with
    | give i =>
      cases e2 : fs.getLast? with
      | none => simp only [e, e2]; exact ⟨[], by simp⟩
      | some g => simp only [e, e2]; exact ⟨[], by simp⟩
    | say i => simp only [e]; exact ⟨_, rfl⟩
    | _ => simp only [e]; exact ⟨[], by simp⟩
theorem msteps_zero_out {c : Code} {k : Nat} {zs : List Int} (m : Nat) : OutOk (msteps c m ⟨[openF c k zs], [], .non⟩) := OutOk.steps m ⟨fun _ => rfl, .inl rfl⟩
theorem out_eq {v : V} (h : OutV v) : flatV v = true ∧ eqV v v = true := by
  rcases h with e | ⟨z, e⟩
  · rw [e]; exact ⟨rfl, rfl⟩
  · rw [e]; exact ⟨rfl, by show (z == z) = true; simp⟩
theorem ints_eqN {K : PySem.W.Frag} {H : Hp} {l m : Addr} {zs : List Int} {d : Nat} (hl : H l = some (.lst (zs.map V.int))) (hm : H m = some (.lst (zs.map V.int))) : EqN K H (d + 1) (.ref l) (.ref m) true := by
  by_cases e : l = m
  · subst e; exact .same
  · have ea : (List.replicate (zs.map V.int).length true).all id = true := by simp
    rw [← ea]
    refine .lists (us := zs.map V.int) (vs := zs.map V.int) e (SqL.of hl) (SqL.of hm) rfl (by simp) fun j x y b hx hy hb => ?_
    rw [hx] at hy; cases hy
    have : b = true := by
      have := List.mem_of_getElem? hb
      exact (List.mem_replicate.mp this).2
    subst this
    rw [List.getElem?_map] at hx
    cases e2 : zs[j]? with
    | none => rw [e2] at hx; cases hx
    | some z =>
      rw [e2] at hx
      cases hx
      have : eqV (.int z) (.int z) = true := by show (z == z) = true; simp
      rw [← this]
      exact .flat rfl rfl
theorem told_eqN {K : PySem.W.Frag} {neg : Bool} {H : Hp} {p q l m : Addr} {d : TR} {Q : VK} (hp : TAt H p l d) (hq : TAt H q m d) (ho : OutV d.out) (k : Q (.bl (!neg)) H) : rEqN K neg (.ref p) (.ref q) H Q := by
  refine ⟨p, q, _, _, rfl, rfl, .inr ⟨SqT.of hp.1, SqT.of hq.1, rfl⟩, .inr ⟨[true, true, true, true], rfl, rfl, fun j a b e ha hb he => ?_, by cases neg <;> exact k⟩⟩
  have fl : ∀ {v : V}, flatV v = true ∧ eqV v v = true → EqN K H 4 v v true := fun {v} h => by
    rw [← h.2]; exact .flat h.1 h.1
  match j with
  | 0 => cases ha; cases hb; cases he; exact fl ⟨rfl, by show (d.word == d.word) = true; simp⟩
  | 1 => cases ha; cases hb; cases he; exact ints_eqN hp.2 hq.2
  | 2 => cases ha; cases hb; cases he; exact fl (out_eq ho)
  | 3 => cases ha; cases hb; cases he; exact fl ⟨rfl, by show (((d.steps : Nat) : Int) == ((d.steps : Nat) : Int)) = true; simp⟩
  | j + 4 => simp at ha
theorem r_alike {K : PySem.W.Frag} {vs : List V} {H : Hp} {Q : VK} {E : XK} (h : sp_alike K vs H Q E) : t_alike K { nx := fun _ H' => Q .non H', rt := Q } (start N_alike vs) H := by
  obtain ⟨p, q0, l, m, d, rfl, hp, hq, ho, q⟩ := h
  refine ⟨_, rfl, _, _, _, rfl, .tup_tuple (SqT.of hp.1), _, rfl, iteF ?_⟩
  refine ⟨_, rfl, _, _, rfl, .inr ⟨_, SqT.of hp.1, rfl⟩, .inr (.inr (.inl ⟨rfl, _, rfl, if_f (by rfl) ?_⟩))⟩
  refine ⟨_, rfl, ixT hp.1 (by decide) rfl ⟨_, _, _, rfl, .lst_list (SqL.of hp.2), _, rfl, iteF ?_⟩⟩
  show t_alike_1 K _ [some (.ref p), some (.ref q0)] H
  refine ⟨_, rfl, _, rfl, .inl (told_eqN hp hq ho ⟨_, rfl, if_t rfl ?_⟩)⟩
  exact ⟨_, rfl, ixT hp.1 (by decide) rfl ⟨_, _, _, rfl, .int_int _, true, rfl, iteT ⟨_, rfl, ixT hp.1 (by decide) rfl ⟨_, _, _, rfl, .int_bool _, _, rfl, q _ (Same.refl H)⟩⟩⟩⟩
end Bg
end
section
set_option Elab.async false
set_option linter.all false
set_option maxRecDepth 100000
set_option maxHeartbeats 4000000
namespace Bg
open PySem L2
theorem frames_none {H : Hp} {vs' : List V} {fs : List MFr} (A : AllAt (FrT H) vs' fs) : vs' = [] ↔ fs = [] := ⟨fun z => List.length_eq_zero_iff.mp (by rw [← A.len, z]; rfl), fun z => List.length_eq_zero_iff.mp (by rw [A.len, z]; rfl)⟩
theorem frames_cmp {K : PySem.W.Frag} {neg : Bool} {H : Hp} {l m : Addr} {vs' : List V} {Q : VK} (hl : H l = some (.lst vs')) (hm : H m = some (.lst [])) (k1 : vs' = [] → Q (.bl (!neg)) H) (k2 : vs' ≠ [] → Q (.bl neg) H) : rEqN K neg (.ref l) (.ref m) H Q := by
  refine ⟨l, m, vs', [], rfl, rfl, .inl ⟨SqL.of hl, SqL.of hm⟩, ?_⟩
  by_cases e : vs' = []
  · right
    subst e
    exact ⟨[], rfl, rfl, fun j a b e ha => by simp at ha, by have := k1 rfl; cases neg <;> exact this⟩
  · left
    exact ⟨fun z => e (List.length_eq_zero_iff.mp z), k2 e⟩
theorem r_due {K : PySem.W.Frag} (T : TxtM K) {vs : List V} {H : Hp} {Q : VK} {E : XK} (h : sp_due K vs H Q E) : t_due K { nx := fun _ H' => Q .non H', rt := Q } (start N_due vs) H := by
  obtain ⟨q0, cv, k, most, zs, c, rfl, C, ok, kl, hq, hz, hm, q⟩ := h
  refine ⟨_, rfl, _, rfl, _, rfl, fun w dxw nw ndx ne => ?_⟩
  have S0 : Same H (upd (upd H dxw (.own w)) w (.ins (clsAt K "Machine") dxw [])) := (Same.new (Same.refl H) ndx).trans ((Same.refl _).new (by rw [upd_ne (Ne.symm ne)]; exact nw))
  have hw : upd (upd H dxw (.own w)) w (.ins (clsAt K "Machine") dxw []) w = some (.ins (clsAt K "Machine") dxw []) := upd_same
  generalize upd (upd H dxw (.own w)) w (.ins (clsAt K "Machine") dxw []) = H0 at S0 hw ⊢
  refine ⟨w, dxw, q0, cv, k, zs, c, rfl, hw, C.mono (.of_same S0), ok, kl, hq.imp (S0 _ _) (S0 _ _), fun H1 O1 X1 s1 => ⟨rfl, ?_⟩⟩
  have t1 : Tp H0 H1 := fun p xs e => s1.out p _ (fun z => by rw [z, hw] at e; cases e) e
  have mo := open_ok ok kl hz
  have C1 := (C.mono (.of_same S0)).mono t1
  generalize est : (⟨[openF c k zs], [], .non⟩ : MSt) = st0 at X1 mo q
  have oo : ∀ j, OutOk (msteps c j st0) := fun j => by rw [← est]; exact msteps_zero_out j
  show t_due_5 K _ [some cv, some (.int (k : Nat)), some (.ref q0), some (.int (most : Nat)), some (.ref w), some (.int 0), none] H1
  refine ⟨_, rfl, _, rfl, by omega, by omega, for_range (n := most) (fun i σ' H' => ∃ O' o, σ' = [some cv, some (.int (k : Nat)), some (.ref q0), some (.int (most : Nat)), some (.ref w), some (.int (mcount c i st0 : Nat)), o] ∧ MachAt K H' w cv O' (i + 1) (msteps c i st0) ∧ Steps O1 O' H1 H') ⟨O1, _, rfl, X1, .refl H1⟩ ?_ ?_⟩
  · rintro i σ' H2 hi ⟨O2, o, rfl, X2, s2⟩
    have C2 := C1.mono (X1.tp s2)
    obtain ⟨dx, ol, sl, fvs, Y2, e2⟩ := X2
    have X2 : MachAt K H2 w cv O2 (i + 1) (msteps c i st0) := ⟨dx, ol, sl, fvs, Y2, e2⟩
    refine ⟨_, rfl, w, dx, _, rfl, Y2.at_, rfl, w, cv, O2, i + 1, _, rfl, X2, by omega, fun L vs' H3 nL hL A s3 => ⟨(by show 0 ≤ sizeLine; decide), fun M nM => ?_⟩⟩
    have s4 : Same H3 (upd H3 M (.lst [])) := (Same.refl H3).new nM
    have hL4 := s4 _ _ hL
    have hM4 : upd H3 M (.lst []) M = some (.lst []) := upd_same
    generalize upd H3 M (.lst []) = H4 at s4 hL4 hM4 ⊢
    have X4 := (X2.same s3).same s4
    have st4 : Steps O2 O2 H2 H4 := Steps.same (s3.trans s4)
    refine .inl (frames_cmp hL4 hM4 (fun e => ⟨_, rfl, if_f (by rfl) ?_⟩) fun e => ⟨_, rfl, if_t (by rfl) ?_⟩)
    · have ef := (frames_none A).mp e
      refine ⟨O2, some (.int (0 + (i : Nat))), ?_, ?_, s2.trans st4⟩
      · rw [mcount_succ, ef]; rfl
      · rw [msteps_succ, mstep_end ef]
        exact X4.up (by omega)
    · have ef : (msteps c i st0).fs ≠ [] := fun z => e ((frames_none A).mpr z)
      obtain ⟨dx, ol, sl, fvs, Y4, e4⟩ := X4
      refine ⟨_, rfl, w, dx, _, rfl, Y4.at_, rfl, w, cv, i + 1, O2, msteps c i st0, c, rfl, ⟨dx, ol, sl, fvs, Y4, e4⟩, C2.mono (.of_same (s3.trans s4)), ok, MOk.steps ok i mo, by omega, fun H5 O5 X5 s5 => ?_⟩
      refine ⟨_, rfl, .inl ⟨_, _, rfl, rfl, O5, some (.int (0 + (i : Nat))), ?_, ?_, (s2.trans st4).trans s5⟩⟩
      · rw [mcount_succ, if_neg (by simpa using ef)]; rfl
      · rw [msteps_succ]; exact X5
  · rintro σ' H2 ⟨O2, o, rfl, X2, s2⟩
    obtain ⟨dx, ol, sl, fvs, Y2, e2⟩ := X2
    have X2 : MachAt K H2 w cv O2 (most + 1) (msteps c most st0) := ⟨dx, ol, sl, fvs, Y2, e2⟩
    have nwH : ∀ {b : Addr} {o : HO}, H b = some o → b ≠ w := fun {b o} e z => by rw [z, nw] at e; cases e
    have sm : ∀ {H' : Hp}, Same H2 H' → Same H H' := fun {H'} s b o e => s b o ((s1.trans s2).out b o (nwH e) (S0 b o e))
    refine ⟨_, rfl, w, dx, _, rfl, Y2.at_, rfl, w, cv, O2, most + 1, _, rfl, X2, by omega, fun L vs' H3 nL hL A s3 => ⟨(by show 0 ≤ sizeLine; decide), fun M nM => ?_⟩⟩
    have s4 : Same H3 (upd H3 M (.lst [])) := (Same.refl H3).new nM
    have hL4 := s4 _ _ hL
    have hM4 : upd H3 M (.lst []) M = some (.lst []) := upd_same
    generalize upd H3 M (.lst []) = H4 at s4 hL4 hM4 ⊢
    have Y4 := (Y2.same s3).same s4
    have fin : ∀ (l p : Addr) (v : V) (n : Nat) (x : Str), x = mword (msteps c most st0) → v = (msteps c most st0).out → n = mcount c most st0 → H4 l = none → upd H4 l (.lst ((msteps c most st0).said.map V.int)) p = none → Q (.ref p) (upd (upd H4 l (.lst ((msteps c most st0).said.map V.int))) p (.tup [.str x, .ref l, v, .int (n : Nat)])) := by
      intro l p v n x ex ev en nl np
      subst ex ev en
      have sx : Same H2 (upd (upd H4 l (.lst ((msteps c most st0).said.map V.int))) p (.tup [.str (mword (msteps c most st0)), .ref l, (msteps c most st0).out, .int (mcount c most st0 : Nat)])) := (s3.trans s4).trans (((Same.refl H4).new nl).new np)
      refine q p l _ ⟨upd_same, ?_⟩ ?_ (sm sx)
      · rw [upd_ne (fun z => by rw [← z, upd_same] at np; cases np), upd_same]
        rfl
      · exact (sm (s3.trans s4)).free nl
    refine .inl (frames_cmp hL4 hM4 (fun e => ⟨_, rfl, if_t (by rfl) ?_⟩) fun e => ⟨_, rfl, if_f (by rfl) ?_⟩)
    · have ef := (frames_none A).mp e
      refine ret_open (tup_open (cons_c (cons_open ?_)))
      refine ⟨_, rfl, w, dx, _, rfl, Y4.at_, rfl, w, _, dx, sl, _, _, rfl, Y4.at_, T.run, rfl, Y4.sp, fun l nl => ?_⟩
      have Y5 := Y4.same ((Same.refl H4).new (o := .lst ((msteps c most st0).said.map V.int)) nl)
      refine ⟨_, rfl, w, dx, _, rfl, Y5.at_, rfl, w, _, dx, _, _, rfl, Y5.at_, T.run, rfl, _, rfl, by show 4 ≤ sizeLine; decide, fun p np => ?_⟩
      exact fin l p _ _ "given" (by unfold mword; rw [ef]; rfl) rfl rfl nl np
    · have ef : (msteps c most st0).fs ≠ [] := fun z => e ((frames_none A).mpr z)
      show t_due_1 K _ [some cv, some (.int (k : Nat)), some (.ref q0), some (.int (most : Nat)), some (.ref w), some (.int (mcount c most st0 : Nat)), o] H4
      refine ret_open (tup_open (cons_c (cons_open ?_)))
      refine ⟨_, rfl, w, dx, _, rfl, Y4.at_, rfl, w, _, dx, sl, _, _, rfl, Y4.at_, T.run, rfl, Y4.sp, fun l nl => ?_⟩
      refine ⟨_, rfl, by show 4 ≤ sizeLine; decide, fun p np => ?_⟩
      exact fin l p _ _ "spent" (by unfold mword; rw [if_neg (by simpa using ef)]) ((oo most).go ef).symm (mcount_all c ef).symm nl np
end Bg
end
section
set_option Elab.async false
set_option linter.all false
set_option maxRecDepth 100000
set_option maxHeartbeats 4000000
namespace Bg
open PySem L2
def dRows : List CRow := [.test 0 2, .give 0, .num 1, .op "-" 1 0, .call 0 [0], .op "+" 0 2, .give 0]
def dCode : Code := (5, [(1, dRows)])
theorem dCode_ok : CodeOk dCode := by
  refine ⟨⟨⟨by decide, by decide⟩, fun b hb => ?_⟩, fun b hb z hz => ?_, fun b hb s i j hz => ?_⟩
  · rw [List.mem_singleton.mp hb]
    refine ⟨⟨by decide, by decide⟩, by simp [dRows], rfl, fun r hr => ?_, fun n hn => ?_⟩
    · have go : ∀ r ∈ dRows, RowFits 5 dCode.2 7 r := by
        intro r hr
        simp only [dRows, List.mem_cons, List.not_mem_nil, or_false] at hr
        rcases hr with rfl | rfl | rfl | rfl | rfl | rfl | rfl
        · exact ⟨fun i hi => by rw [List.mem_singleton.mp hi]; decide, fun to e => by cases e; decide, fun k as e => by cases e⟩
        · exact ⟨fun i hi => by rw [List.mem_singleton.mp hi]; decide, fun to e => (by cases e), fun k as e => by cases e⟩
        · exact ⟨fun i hi => (by cases hi), fun to e => (by cases e), fun k as e => by cases e⟩
        · exact ⟨fun i hi => (by rcases List.mem_cons.mp hi with y | y; (rw [y]; decide); (rw [List.mem_singleton.mp y]; decide)), fun to e => (by cases e), fun k as e => by cases e⟩
        · exact ⟨fun i hi => by rw [List.mem_singleton.mp hi]; decide, fun to e => (by cases e), fun k as e => by cases e; exact ⟨by decide, by decide, fun b hb => by cases hb; rfl⟩⟩
        · exact ⟨fun i hi => (by rcases List.mem_cons.mp hi with y | y; (rw [y]; decide); (rw [List.mem_singleton.mp y]; decide)), fun to e => (by cases e), fun k as e => by cases e⟩
        · exact ⟨fun i hi => by rw [List.mem_singleton.mp hi]; decide, fun to e => (by cases e), fun k as e => by cases e⟩
      exact go r hr
    · have sf : ∀ n : Nat, silC dRows n = false := fun n => by
        match n with
        | 0 => rfl
        | 1 => rfl
        | 2 => rfl
        | 3 => rfl
        | 4 => rfl
        | 5 => rfl
        | 6 => rfl
        | n + 7 => rfl
      exact sf _
  · rw [List.mem_singleton.mp hb] at hz
    have hz : CRow.num z ∈ dRows := hz
    simp only [dRows, List.mem_cons, List.not_mem_nil, or_false, reduceCtorEq, false_or, CRow.num.injEq] at hz
    rw [hz]; exact ⟨by decide, by decide⟩
  · rw [List.mem_singleton.mp hb] at hz
    have hz : CRow.op s i j ∈ dRows := hz
    simp only [dRows, List.mem_cons, List.not_mem_nil, or_false, reduceCtorEq, false_or, CRow.op.injEq] at hz
    rcases hz with ⟨e, _, _⟩ | ⟨e, _, _⟩ <;> rw [e] <;> unfold signs <;> simp
def dF (n : Nat) : MFr := ⟨0, 0, [(n : Int), 0, 0, 0, 0]⟩
theorem dOpen (n : Nat) : openF dCode 0 [(n : Int)] = dF n := rfl
theorem dstep (fs : List MFr) (f : MFr) : mstep dCode ⟨fs ++ [f], [], .non⟩ = mstepF dCode fs f [] .non := mstep_snoc
theorem wsub (n : Nat) (h : n ≤ 200) : wth "-" ((n + 1 : Nat) : Int) 1 = (n : Int) := by
  have : wth "-" ((n + 1 : Nat) : Int) 1 = (((n + 1 : Nat) : Int) - 1) % 18446744073709551616 := rfl
  rw [this]; omega
theorem wadd (n : Nat) (h : n ≤ 200) : wth "+" (n : Int) 1 = ((n + 1 : Nat) : Int) := by
  have : wth "+" (n : Int) 1 = ((n : Int) + 1) % 18446744073709551616 := rfl
  rw [this]; omega
def Due (f : MFr) (n : Nat) : Prop := ∃ b r, f = ⟨0, r, (n : Int) :: b⟩ ∧ dRows[r]? = some (.give 0)
theorem give_in {fs : List MFr} {g f : MFr} {n : Nat} (h : Due f n) : mstep dCode ⟨(fs ++ [g]) ++ [f], [], .non⟩ = ⟨fs ++ [shutF dCode g (n : Int)], [], .non⟩ := by
  obtain ⟨b, r, rfl, e⟩ := h
  rw [dstep]
  unfold mstepF
  have er : (rowsOf dCode 0)[r]? = some (.give 0) := e
  simp only [er, List.getLast?_concat, List.dropLast_concat]
  rfl
theorem give_out {f : MFr} {n : Nat} (h : Due f n) : mstep dCode ⟨[f], [], .non⟩ = ⟨[], [], .int (n : Int)⟩ := by
  obtain ⟨b, r, rfl, e⟩ := h
  have := dstep [] ⟨0, r, (n : Int) :: b⟩
  rw [List.nil_append] at this
  rw [this]
  unfold mstepF
  have er : (rowsOf dCode 0)[r]? = some (.give 0) := e
  simp only [er, List.getLast?_nil]
  rfl
theorem deep_go : ∀ (n : Nat), n ≤ 200 → ∀ fs : List MFr, ∃ f, Due f n ∧ msteps dCode (6 * n + 1) ⟨fs ++ [dF n], [], .non⟩ = ⟨fs ++ [f], [], .non⟩
  | 0, _, fs => by
    refine ⟨⟨0, 1, [0, 0, 0, 0, 0]⟩, ⟨_, _, rfl, rfl⟩, ?_⟩
    show mstep dCode ⟨fs ++ [dF 0], [], .non⟩ = _
    rw [dstep]
    rfl
  | n + 1, hn, fs => by
    have h1 : mstep dCode ⟨fs ++ [dF (n + 1)], [], .non⟩ = ⟨fs ++ [⟨0, 2, [((n + 1 : Nat) : Int), 0, 0, 0, 0]⟩], [], .non⟩ := by
      rw [dstep]
      have ne : ¬ (((n + 1 : Nat) : Int) = 0) := by omega
      show (⟨fs ++ [goOn dRows (dF (n + 1)) (if ((n + 1 : Nat) : Int) = 0 then 0 + 1 else (2 : Int).toNat)], [], .non⟩ : MSt) = _
      rw [if_neg ne]
      rfl
    have h2 : mstep dCode ⟨fs ++ [⟨0, 2, [((n + 1 : Nat) : Int), 0, 0, 0, 0]⟩], [], .non⟩ = ⟨fs ++ [⟨0, 3, [1, ((n + 1 : Nat) : Int), 0, 0, 0]⟩], [], .non⟩ := by rw [dstep]; rfl
    have h3 : mstep dCode ⟨fs ++ [⟨0, 3, [1, ((n + 1 : Nat) : Int), 0, 0, 0]⟩], [], .non⟩ = ⟨fs ++ [⟨0, 4, [(n : Int), 1, ((n + 1 : Nat) : Int), 0, 0]⟩], [], .non⟩ := by
      rw [dstep, ← wsub n (by omega)]; rfl
    have h4 : mstep dCode ⟨fs ++ [⟨0, 4, [(n : Int), 1, ((n + 1 : Nat) : Int), 0, 0]⟩], [], .non⟩ = ⟨(fs ++ [⟨0, 4, [(n : Int), 1, ((n + 1 : Nat) : Int), 0, 0]⟩]) ++ [dF n], [], .non⟩ := by rw [dstep]; rfl
    obtain ⟨f, hf, e⟩ := deep_go n (by omega) (fs ++ [⟨0, 4, [(n : Int), 1, ((n + 1 : Nat) : Int), 0, 0]⟩])
    have h5 : shutF dCode ⟨0, 4, [(n : Int), 1, ((n + 1 : Nat) : Int), 0, 0]⟩ (n : Int) = ⟨0, 5, [(n : Int), (n : Int), 1, ((n + 1 : Nat) : Int), 0]⟩ := rfl
    have h6 : mstep dCode ⟨fs ++ [⟨0, 5, [(n : Int), (n : Int), 1, ((n + 1 : Nat) : Int), 0]⟩], [], .non⟩ = ⟨fs ++ [⟨0, 6, [((n + 1 : Nat) : Int), (n : Int), (n : Int), 1, ((n + 1 : Nat) : Int)]⟩], [], .non⟩ := by
      rw [dstep, ← wadd n (by omega)]
      rfl
    refine ⟨_, ⟨[(n : Int), (n : Int), 1, ((n + 1 : Nat) : Int)], 6, rfl, rfl⟩, ?_⟩
    have en : 6 * (n + 1) + 1 = 4 + ((6 * n + 1) + 2) := by omega
    rw [en, msteps_add]
    have e4 : msteps dCode 4 ⟨fs ++ [dF (n + 1)], [], .non⟩ = ⟨(fs ++ [⟨0, 4, [(n : Int), 1, ((n + 1 : Nat) : Int), 0, 0]⟩]) ++ [dF n], [], .non⟩ := by
      show mstep dCode (mstep dCode (mstep dCode (mstep dCode _))) = _
      rw [h1, h2, h3, h4]
    rw [e4, msteps_add, e]
    show mstep dCode (mstep dCode _) = _
    rw [give_in hf, h5, h6]
theorem deep_spent (n : Nat) (hn : n ≤ 200) : trOf dCode (6 * n + 1) ⟨[openF dCode 0 [(n : Int)]], [], .non⟩ = ⟨"spent", [], .non, 6 * n + 1⟩ := by
  obtain ⟨f, hf, e⟩ := deep_go n hn []
  rw [dOpen]
  have e : msteps dCode (6 * n + 1) ⟨[dF n], [], .non⟩ = ⟨[f], [], .non⟩ := e
  unfold trOf
  rw [mcount_all dCode (by rw [e]; simp), e]
  rfl
theorem deep_given (n : Nat) (hn : n ≤ 200) : trOf dCode (6 * n + 2) ⟨[openF dCode 0 [(n : Int)]], [], .non⟩ = ⟨"given", [], .int (n : Int), 6 * n + 2⟩ := by
  obtain ⟨f, hf, e⟩ := deep_go n hn []
  rw [dOpen]
  have e : msteps dCode (6 * n + 1) ⟨[dF n], [], .non⟩ = ⟨[f], [], .non⟩ := e
  have e2 : msteps dCode (6 * n + 2) ⟨[dF n], [], .non⟩ = ⟨[], [], .int (n : Int)⟩ := by
    rw [show 6 * n + 2 = (6 * n + 1) + 1 from rfl, msteps_succ, e, give_out hf]
  have e3 : mcount dCode (6 * n + 2) ⟨[dF n], [], .non⟩ = 6 * n + 2 := by
    rw [show 6 * n + 2 = (6 * n + 1) + 1 from rfl, mcount_succ, e, mcount_all dCode (by rw [e]; simp)]
    rfl
  unfold trOf
  rw [e2, e3]
  rfl
end Bg
end
section
set_option Elab.async false
set_option linter.all false
set_option maxRecDepth 100000
set_option maxHeartbeats 4000000
namespace Bg
open PySem L2
theorem run_told {K : PySem.W.Frag} {H : Hp} {q0 : Addr} {cv : V} {k most : Nat} {zs : List Int} {c : Code} {Q : VK} {mv : V} (em : mv = .int (most : Nat)) (C : CodeAt H cv c) (ok : CodeOk c) (kl : k < c.2.length) (hq : SeqAt H q0 (zs.map V.int)) (hz : ∀ z ∈ zs, Wth z) (hm : most ≤ 5000)
    (q : ∀ (p l : Addr) (H' : Hp), TAt H' p l (trOf c most ⟨[openF c k zs], [], .non⟩) → H l = none → Same H H' → Q (.ref p) H') : sp_p_run_belt K [cv, .int (k : Nat), .ref q0, mv] H Q E0 :=
  ⟨q0, cv, k, most, zs, c, by rw [em], C, ok, kl, hq, hz, hm, fun p l H' h1 h2 nl s => q p l H' ⟨h1, h2⟩ nl s⟩
theorem r_deep {K : PySem.W.Frag} {vs : List V} {H : Hp} {Q : VK} {E : XK} (h : sp_deep K vs H Q E) : t_deep K { nx := fun _ H' => Q .non H', rt := Q } (start N_deep vs) H := by
  obtain ⟨n, rfl, hn, q⟩ := h
  show t_deep K _ [some (.int (n : Nat)), none, none] H
  unfold t_deep
  refine asg_open (tup_open ?_)
  refine cons_tup [.str "test", .int 0, .int 2] (fun R h => h) (by decide) fun p1 H1 h1 s1 => ?_
  refine cons_tup [.str "give", .int 0] (fun R h => h) (by decide) fun p2 H2 h2 s2 => ?_
  refine cons_tup [.str "num", .int 1] (fun R h => h) (by decide) fun p3 H3 h3 s3 => ?_
  refine cons_tup [.str "op", .str "-", .int 1, .int 0] (fun R h => h) (by decide) fun p4 H4 h4 s4 => ?_
  refine cons_open (tup_open (cons_c (cons_c ?_)))
  refine cons_tup [.int 0] (fun R h => h) (by decide) fun p5 H5 h5 s5 => ?_
  refine nil_open ⟨(by show 3 ≤ sizeLine; decide), fun p6 n6 => ?_⟩
  have s6 : Same H5 (upd H5 p6 (.tup [.str "call", .int 0, .ref p5])) := (Same.refl H5).new n6
  have h6 : upd H5 p6 (.tup [.str "call", .int 0, .ref p5]) p6 = some (.tup [.str "call", .int 0, .ref p5]) := upd_same
  generalize upd H5 p6 (.tup [.str "call", .int 0, .ref p5]) = H6 at s6 h6 ⊢
  refine nil_open ⟨(by show 5 ≤ sizeLine; decide), fun p7 n7 => ?_⟩
  have s7 : Same H6 (upd H6 p7 (.tup [.ref p1, .ref p2, .ref p3, .ref p4, .ref p6])) := (Same.refl H6).new n7
  have h7 : upd H6 p7 (.tup [.ref p1, .ref p2, .ref p3, .ref p4, .ref p6]) p7 = some (.tup [.ref p1, .ref p2, .ref p3, .ref p4, .ref p6]) := upd_same
  generalize upd H6 p7 (.tup [.ref p1, .ref p2, .ref p3, .ref p4, .ref p6]) = H7 at s7 h7 ⊢
  show t_deep_3 K _ [some (.int (n : Nat)), some (.ref p7), none] H7
  unfold t_deep_3
  refine asg_open (tup_open (cons_c (cons_open (tup_open (cons_open (tup_open (cons_c (cons_open ?_))))))))
  refine ⟨_, rfl, ?_⟩
  refine tup_open ?_
  refine cons_tup [.str "op", .str "+", .int 0, .int 2] (fun R h => h) (by decide) fun p8 H8 h8 s8 => ?_
  refine cons_tup [.str "give", .int 0] (fun R h => h) (by decide) fun p9 H9 h9 s9 => ?_
  refine nil_open ⟨(by show 2 ≤ sizeLine; decide), fun pa na => ?_⟩
  have sa : Same H9 (upd H9 pa (.tup [.ref p8, .ref p9])) := (Same.refl H9).new na
  have ha : upd H9 pa (.tup [.ref p8, .ref p9]) pa = some (.tup [.ref p8, .ref p9]) := upd_same
  generalize upd H9 pa (.tup [.ref p8, .ref p9]) = Ha at sa ha ⊢
  refine catT_new (sa _ _ (s9 _ _ (s8 _ _ h7))) ha (by simp) (by simp) (by show 7 ≤ 100; decide) fun pb Hb hb sb => ?_
  refine nil_open ⟨(by show 2 ≤ sizeLine; decide), fun pc nc => ?_⟩
  refine nil_open ⟨(by show 1 ≤ sizeLine; decide), fun pd nd => ?_⟩
  refine nil_open ⟨(by show 2 ≤ sizeLine; decide), fun pe ne => ?_⟩
  have S3 : Same Hb (upd (upd (upd Hb pc (.tup [.int 1, .ref pb])) pd (.tup [.ref pc])) pe (.tup [.int 5, .ref pd])) := (((Same.refl Hb).new nc).new nd).new ne
  have gc : upd (upd (upd Hb pc (.tup [.int 1, .ref pb])) pd (.tup [.ref pc])) pe (.tup [.int 5, .ref pd]) pc = some (.tup [.int 1, .ref pb]) := (((Same.refl _).new nd).new ne) _ _ upd_same
  have gd : upd (upd (upd Hb pc (.tup [.int 1, .ref pb])) pd (.tup [.ref pc])) pe (.tup [.int 5, .ref pd]) pd = some (.tup [.ref pc]) := ((Same.refl _).new ne) _ _ upd_same
  have ge : upd (upd (upd Hb pc (.tup [.int 1, .ref pb])) pd (.tup [.ref pc])) pe (.tup [.int 5, .ref pd]) pe = some (.tup [.int 5, .ref pd]) := upd_same
  show t_deep_2 K _ [some (.int (n : Nat)), some (.ref p7), some (.ref pe)] (upd (upd (upd Hb pc (.tup [.int 1, .ref pb])) pd (.tup [.ref pc])) pe (.tup [.int 5, .ref pd]))
  generalize upd (upd (upd Hb pc (.tup [.int 1, .ref pb])) pd (.tup [.ref pc])) pe (.tup [.int 5, .ref pd]) = HC at S3 gc gd ge ⊢
  have A9 : Same H9 HC := (sa.trans sb).trans S3
  have A8 : Same H8 HC := s9.trans A9
  have A7 : Same H7 HC := s8.trans A8
  have A6 : Same H6 HC := s7.trans A7
  have A5 : Same H5 HC := s6.trans A6
  have A4 : Same H4 HC := s5.trans A5
  have A3 : Same H3 HC := s4.trans A4
  have A2 : Same H2 HC := s3.trans A3
  have A1 : Same H1 HC := s2.trans A2
  have A0 : Same H HC := s1.trans A1
  have C : CodeAt HC (.ref pe) dCode := by
    refine ⟨pe, pd, [.ref pc], rfl, ge, gd, .cons ⟨pc, pb, _, rfl, gc, S3 _ _ hb, ?_⟩ .nil⟩
    exact .cons ⟨p1, rfl, A1 _ _ h1⟩ (.cons ⟨p2, rfl, A2 _ _ h2⟩ (.cons ⟨p3, rfl, A3 _ _ h3⟩ (.cons ⟨p4, rfl, A4 _ _ h4⟩ (.cons ⟨p6, p5, rfl, A6 _ _ h6, A5 _ _ h5⟩ (.cons ⟨p8, rfl, A8 _ _ h8⟩ (.cons ⟨p9, rfl, A9 _ _ h9⟩ .nil))))))
  have kl : 0 < dCode.2.length := by decide
  have wn : ∀ z ∈ [((n : Nat) : Int)], Wth z := fun z hz => by rw [List.mem_singleton.mp hz]; exact ⟨by omega, by omega⟩
  have e2 : (6 : Int) * (n : Nat) + 2 = ((6 * n + 2 : Nat) : Int) := by omega
  have e1 : (6 : Int) * (n : Nat) + 1 = ((6 * n + 1 : Nat) : Int) := by omega
  have cm : CMul 6 (n : Nat) := .inl ⟨by decide, by decide⟩
  refine ⟨_, rfl, _, rfl, (by show 1 ≤ sizeLine; decide), fun L nL => ?_⟩
  have sL : Same HC (upd HC L (.lst [.int (n : Nat)])) := (Same.refl HC).new nL
  have hL : upd HC L (.lst [.int (n : Nat)]) L = some (.lst [.int (n : Nat)]) := upd_same
  generalize upd HC L (.lst [.int (n : Nat)]) = HD at sL hL ⊢
  refine ⟨_, rfl, .inl ⟨_, _, rfl, rfl, cm, .inl ⟨_, _, rfl, rfl, ?_⟩⟩⟩
  refine nil_open (run_told (k := 0) (most := 6 * n + 2) (congrArg V.int e2) (zs := [((n : Nat) : Int)]) (C.mono (.of_same sL)) dCode_ok kl (.inl hL) wn (by omega) fun f l HE hf nl sE => ?_)
  rw [deep_given n hn] at hf
  refine cons_open (tup_open (cons_c (cons_open (lst_open (nil_open ⟨(by show 0 ≤ sizeLine; decide), fun M nM => cons_v rfl (cons_open ⟨_, rfl, .inl ⟨_, _, rfl, rfl, cm, .inl ⟨_, _, rfl, rfl, nil_open ⟨(by show 4 ≤ sizeLine; decide), fun P nP => nil_open ?_⟩⟩⟩⟩)⟩)))))
  have sF : Same HE (upd (upd HE M (.lst [])) P (.tup [.str "given", .ref M, .int (n : Nat), .int (6 * (n : Nat) + 2)])) := ((Same.refl HE).new nM).new nP
  have hF : TAt (upd (upd HE M (.lst [])) P (.tup [.str "given", .ref M, .int (n : Nat), .int (6 * (n : Nat) + 2)])) P M ⟨"given", [], .int (n : Int), 6 * n + 2⟩ := ⟨by rw [upd_same, e2], ((Same.refl _).new nP) _ _ upd_same⟩
  refine ⟨f, P, l, M, _, rfl, hf.same sF, hF, .inr ⟨_, rfl⟩, fun HG sG => ⟨_, rfl, iteF ?_⟩⟩
  have sCG : Same HC HG := (((sL.trans sE).trans sF).trans sG)
  show t_deep_1 K _ [some (.int (n : Nat)), some (.ref p7), some (.ref pe)] HG
  unfold t_deep_1
  refine ret_open ?_
  refine ⟨_, rfl, _, rfl, (by show 1 ≤ sizeLine; decide), fun L2 nL2 => ?_⟩
  have sL2 : Same HG (upd HG L2 (.tup [.int (n : Nat)])) := (Same.refl HG).new nL2
  have hL2 : upd HG L2 (.tup [.int (n : Nat)]) L2 = some (.tup [.int (n : Nat)]) := upd_same
  generalize upd HG L2 (.tup [.int (n : Nat)]) = HH at sL2 hL2 ⊢
  refine ⟨_, rfl, .inl ⟨_, _, rfl, rfl, cm, .inl ⟨_, _, rfl, rfl, ?_⟩⟩⟩
  refine nil_open (run_told (k := 0) (most := 6 * n + 1) (congrArg V.int e1) (zs := [((n : Nat) : Int)]) (C.mono (.of_same (sCG.trans sL2))) dCode_ok kl (.inr hL2) wn (by omega) fun f2 l2 HI hf2 nl2 sI => ?_)
  rw [deep_spent n hn] at hf2
  refine cons_open (tup_open (cons_c (cons_open (lst_open (nil_open ⟨(by show 0 ≤ sizeLine; decide), fun M nM => cons_c (cons_open ⟨_, rfl, .inl ⟨_, _, rfl, rfl, cm, .inl ⟨_, _, rfl, rfl, nil_open ⟨(by show 4 ≤ sizeLine; decide), fun P nP => nil_open ?_⟩⟩⟩⟩)⟩)))))
  have sJ : Same HI (upd (upd HI M (.lst [])) P (.tup [.str "spent", .ref M, .non, .int (6 * (n : Nat) + 1)])) := ((Same.refl HI).new nM).new nP
  have hJ : TAt (upd (upd HI M (.lst [])) P (.tup [.str "spent", .ref M, .non, .int (6 * (n : Nat) + 1)])) P M ⟨"spent", [], .non, 6 * n + 1⟩ := ⟨by rw [upd_same, e1], ((Same.refl _).new nP) _ _ upd_same⟩
  exact ⟨f2, P, l2, M, _, rfl, hf2.same sJ, hJ, .inl rfl, fun HK sK => q HK ((((A0.trans (sCG.trans sL2)).trans sI).trans sJ).trans sK)⟩
end Bg
end
section
set_option Elab.async false
set_option linter.all false
set_option maxRecDepth 100000
set_option maxHeartbeats 4000000
namespace Bg
open PySem L2
theorem made_ok {m n : Nat} {c : Code} (h : MadeOk m n c) : CodeOk c := ⟨h.fits, fun b hb z hz => by
  have := h.nums b hb z hz
  exact ⟨this.1, this.2⟩, h.sgn⟩
theorem ints_top {K : PySem.W.Frag} {neg : Bool} {H : Hp} {l m : Addr} {zs : List Int} {Q : VK} (hl : H l = some (.lst (zs.map V.int))) (hm : H m = some (.lst (zs.map V.int))) (k : Q (.bl (!neg)) H) : rEqN K neg (.ref l) (.ref m) H Q := by
  refine ⟨l, m, _, _, rfl, rfl, .inl ⟨SqL.of hl, SqL.of hm⟩, .inr ⟨List.replicate (zs.map V.int).length true, rfl, by simp, fun j x y b hx hy hb => ?_, ?_⟩⟩
  · rw [hx] at hy; cases hy
    have : b = true := (List.mem_replicate.mp (List.mem_of_getElem? hb)).2
    subst this
    rw [List.getElem?_map] at hx
    cases e2 : zs[j]? with
    | none => rw [e2] at hx; cases hx
    | some z =>
      rw [e2] at hx
      cases hx
      have : eqV (.int z) (.int z) = true := by show (z == z) = true; simp
      rw [← this]
      exact .flat rfl rfl
  · have ea : (List.replicate (zs.map V.int).length true).all id = true := by simp
    rw [ea]
    cases neg <;> exact k
theorem word_given {st : MSt} : V.str (mword st) = V.str "given" ↔ st.fs = [] := by
  unfold mword
  constructor
  · intro h
    by_cases e : st.fs.isEmpty = true
    · exact List.isEmpty_iff.mp e
    · rw [if_neg e] at h; injection h with h; exact absurd h (by decide)
  · intro h; rw [h]; rfl
theorem word_spent {st : MSt} : V.str (mword st) = V.str "spent" ↔ st.fs ≠ [] := by
  unfold mword
  constructor
  · intro h e
    rw [e] at h
    injection h with h
    revert h
    show ¬ ((if ([] : List MFr).isEmpty then ("given" : Str) else "spent") = "spent")
    decide
  · intro h; rw [if_neg (by simpa using h)]
theorem r_law {K : PySem.W.Frag} {vs : List V} {H : Hp} {Q : VK} {E : XK} (h : sp_law K vs H Q E) : t_law K { nx := fun _ H' => Q .non H', rt := Q } (start N_law vs) H := by
  obtain ⟨scr, ns, rfl, hscr, hns, q⟩ := h
  refine ⟨_, rfl, (by show 3 ≤ sizeLine; decide), fun st hst => ?_⟩
  have S1 : Stt K (upd H st (.lst [.ref scr, .int 0, .int 0])) st 0 := ⟨scr, ns, 0, upd_same, hscr.mono (.of_same ((Same.refl H).new hst)), hns⟩
  show t_law_13 K _ [some (.ref scr), some (.ref st), none, none, none, none, none, none, none] (upd H st (.lst [.ref scr, .int 0, .int 0]))
  generalize upd H st (.lst [.ref scr, .int 0, .int 0]) = H1 at S1 ⊢
  have main : ∀ (H1 : Hp) (k0 : Nat), Stt K H1 st k0 → k0 ≤ 10 → t_law_12 K { nx := fun _ H' => Q .non H', rt := Q } [some (.ref scr), some (.ref st), none, none, none, none, none, none, none] H1 := by
    intro H1 k0 S1 hk0
    refine ⟨_, rfl, _, rfl, st, 3, k0, rfl, S1, by omega, by decide, by decide, fun d H2 d0 d1 S2 B2 => .inl ⟨_, _, rfl, rfl, ?_⟩⟩
    obtain ⟨n, hn⟩ : ∃ n : Nat, (1 : Int) + d = (n : Int) := ⟨(1 + d).toNat, by omega⟩
    refine ⟨st, 16, n, k0 + 1, (by show [V.ref st, V.int 16, V.int (1 + d)] = _; rw [hn]; rfl), S2, by omega, by decide, by decide, by omega, by omega, fun cv c k3 H3 C3 mk S3 l3 B3 => ?_⟩
    have ok := made_ok mk
    show t_law_11 K _ [some (.ref scr), some (.ref st), some cv, none, none, none, none, none, none] H3
    obtain ⟨cp, cq, pvs, rfl, hcp, hcq, hA⟩ := C3
    have C3 : CodeAt H3 (.ref cp) c := ⟨cp, cq, pvs, rfl, hcp, hcq, hA⟩
    have ln : pvs.length = n := by rw [hA.len, mk.len]
    refine ⟨_, rfl, _, rfl, ixT hcp (by decide) rfl ⟨_, _, rfl, .inr ⟨_, SqT.of hcq, rfl⟩, ?_⟩⟩
    refine ⟨st, _, k3, rfl, S3, by omega, by omega, by omega, fun e H4 e0 e1 S4 B4 => ?_⟩
    obtain ⟨k, rfl⟩ : ∃ k : Nat, e = (k : Int) := ⟨e.toNat, by omega⟩
    have kl : k < c.2.length := by rw [mk.len]; omega
    have t4 : Tp H3 H4 := .of_but B4 S3.lst.choose_spec
    have C4 := C3.mono t4
    show t_law_10 K _ [some (.ref scr), some (.ref st), some (.ref cp), some (.int (k : Nat)), none, none, none, none, none] H4
    clear hcp hcq hA
    obtain ⟨_, cq, pvs, e, hcp, hcq, hA⟩ := C4
    cases e
    have C4 : CodeAt H4 (.ref cp) c := ⟨cp, cq, pvs, rfl, hcp, hcq, hA⟩
    obtain ⟨v, b, ev, eb, ⟨pp, rr, rvs, rfl, hpp, _, _⟩⟩ := hA.get kl
    have bf := (part_ok ok eb).1
    refine ⟨_, rfl, ixT hcp (by decide) rfl ⟨_, rfl, ixT hcq (Int.natCast_nonneg _) (by rw [Int.toNat_natCast]; exact ev) (ixT hpp (by decide) rfl ⟨_, rfl, by omega, by omega, fun AL hAL => ?_⟩)⟩⟩
    have nAL : AL ≠ st := fun z => by rw [z, S4.lst.choose_spec] at hAL; cases hAL
    refine comp_range (fun i σ' H' => ∃ (zs : List Int) (k' : Nat) (o : Option V), σ' = [some (.ref scr), some (.ref st), some (.ref cp), some (.int (k : Nat)), none, none, none, none, none, o] ∧ H' AL = some (.lst (zs.map V.int)) ∧ zs.length = i ∧ (∀ z ∈ zs, Wth z) ∧ Stt K H' st k' ∧ k' ≤ 40000 + 4 * i ∧ CodeAt H' (.ref cp) c) ?_ ?_ ?_
    · exact ⟨[], _, none, rfl, upd_same, rfl, by simp, S4.new hAL, by omega, C4.mono (.of_same ((Same.refl H4).new hAL))⟩
    · rintro i σ' H' hi ⟨zs, k', o, rfl, hl, zl, zw, S', hk', c'⟩
      have hi : i < 5 := by have : i < b.1.toNat := hi; omega
      refine app_yes ⟨_, rfl, st, k', rfl, S', by omega, fun z k3 H3 z0 z1 S3 l3 B3 => ?_⟩
      have h2 := B3 AL _ nAL hl
      refine ⟨_, h2, smallL (by rw [List.length_map]; omega), zs ++ [z], k3, _, rfl, by rw [upd_same, List.map_append]; rfl, by simp [zl], fun y hy => ?_, S3.mono .upd_at h2 (Ne.symm nAL), by omega, (c'.mono (.of_but B3 S'.lst.choose_spec)).mono (.of_but .upd_at h2)⟩
      rcases List.mem_append.mp hy with y' | y'
      · exact zw y y'
      · rw [List.mem_singleton.mp y']; exact ⟨z0, z1⟩
    · rintro σ' H6 ⟨zs, k6, o, _, hal6, zl, zw, S6, hk6, C6⟩
      show t_law_9 K _ [some (.ref scr), some (.ref st), some (.ref cp), some (.int (k : Nat)), some (.ref AL), none, none, none, none] H6
      refine ⟨_, rfl, st, 40, k6, rfl, S6, by omega, by decide, by decide, fun e H7 f0 f1 S7 B7 => ?_⟩
      obtain ⟨most, rfl⟩ : ∃ most : Nat, e = (most : Int) := ⟨e.toNat, by omega⟩
      have hm : most < 40 := by omega
      have hal7 := B7 AL _ nAL hal6
      have C7 : CodeAt H7 (.ref cp) c := C6.mono (.of_but B7 S6.lst.choose_spec)
      show t_law_8 K _ [some (.ref scr), some (.ref st), some (.ref cp), some (.int (k : Nat)), some (.ref AL), some (.int (most : Nat)), none, none, none] H7
      generalize est : (⟨[openF c k zs], [], .non⟩ : MSt) = st0
      have run : ∀ {H' : Hp} {m : Nat} {mv : V} {R : VK}, mv = .int (m : Nat) → Same H7 H' → m ≤ 5000 → (∀ (p l : Addr) (H'' : Hp), TAt H'' p l (trOf c m st0) → Same H' H'' → R (.ref p) H'') → sp_p_run_belt K [.ref cp, .int (k : Nat), .ref AL, mv] H' R E0 := fun {H' m mv R} em s hm r => run_told em (C7.mono (.of_same s)) ok kl (.inl (s _ _ hal7)) zw hm fun p l H'' h1 _ s1 => r p l H'' (by rw [← est]; exact h1) s1
      have due : ∀ {H' : Hp} {m : Nat} {mv : V} {R : VK}, mv = .int (m : Nat) → Same H7 H' → m ≤ 5000 → (∀ (p l : Addr) (H'' : Hp), TAt H'' p l (trOf c m st0) → Same H' H'' → R (.ref p) H'') → sp_due K [.ref cp, .int (k : Nat), .ref AL, mv] H' R E0 := fun {H' m mv R} em s hm r => ⟨AL, .ref cp, k, m, zs, c, by rw [em], C7.mono (.of_same s), ok, kl, .inl (s _ _ hal7), zw, hm, fun p l H'' h1 _ s1 => r p l H'' (by rw [← est]; exact h1) s1⟩
      have oo : ∀ m, OutOk (msteps c m st0) := fun m => by rw [← est]; exact msteps_zero_out m
      have n0 : st0.fs ≠ [] := by rw [← est]; simp
      refine ⟨_, rfl, _, rfl, _, rfl, AL, _, rfl, .inl (SqL.of hal7), fun HL nHL => ?_⟩
      have sH : Same H7 (upd H7 HL (.lst (zs.map V.int))) := (Same.refl H7).new nHL
      have hHL : upd H7 HL (.lst (zs.map V.int)) HL = some (.lst (zs.map V.int)) := upd_same
      generalize upd H7 HL (.lst (zs.map V.int)) = H8 at sH hHL ⊢
      refine ⟨_, rfl, nil_open (run_told (most := most) rfl (C7.mono (.of_same sH)) ok kl (.inl hHL) zw (by omega) fun p1 l1 H9 T9 _ s9 => ?_)⟩
      rw [est] at T9
      have s79 := sH.trans s9
      show t_law_7 K _ [some (.ref scr), some (.ref st), some (.ref cp), some (.int (k : Nat)), some (.ref AL), some (.int (most : Nat)), some (.ref p1), none, none] H9
      refine ⟨_, rfl, _, rfl, _, rfl, _, rfl, .inl ⟨_, _, rfl, rfl, nil_open (run (m := most + 1) rfl s79 (by omega) fun p2 l2 H10 T10 s10 => ?_)⟩⟩
      have s710 := s79.trans s10
      have T9b := T9.same s10
      show t_law_6 K _ [some (.ref scr), some (.ref st), some (.ref cp), some (.int (k : Nat)), some (.ref AL), some (.int (most : Nat)), some (.ref p1), some (.ref p2), none] H10
      refine ⟨_, rfl, _, rfl, _, rfl, _, rfl, _, rfl, nil_open (due (m := most) rfl s710 (by omega) fun p3 l3 H11 T11 s11 => nil_open ⟨p1, p3, l1, l3, _, rfl, T9b.same s11, T11, (oo most).or, fun H12 s12 => ⟨_, rfl, iteF ?_⟩⟩)⟩
      have s712 := (s710.trans s11).trans s12
      have T10b := (T10.same s11).same s12
      have T9c := (T9b.same s11).same s12
      refine ⟨_, rfl, _, rfl, _, rfl, _, rfl, _, rfl, .inl ⟨_, _, rfl, rfl, nil_open (due (m := most + 1) rfl s712 (by omega) fun p4 l4 H13 T13 s13 => nil_open ⟨p2, p4, l2, l4, _, rfl, T10b.same s13, T13, (oo (most + 1)).or, fun H14 s14 => ⟨_, rfl, iteF ?_⟩⟩)⟩⟩
      have s714 := (s712.trans s13).trans s14
      have T1 := (T9c.same s13).same s14
      have T2 := (T10b.same s13).same s14
      clear T9 T9b T9c T10 T10b T11 T13
      show t_law_5 K _ [some (.ref scr), some (.ref st), some (.ref cp), some (.int (k : Nat)), some (.ref AL), some (.int (most : Nat)), some (.ref p1), some (.ref p2), none] H14
      refine ⟨_, rfl, ixT T2.1 (by decide) rfl ⟨_, rfl, ixT T1.1 (by decide) rfl ⟨_, _, rfl, .inl ⟨_, SqL.of T1.2, rfl⟩, _, rfl, .inl ⟨l2, _, rfl, SqL.of T2.2, fun CL nCL => ?_⟩⟩⟩⟩
      have ecut : cutV ((trOf c (most + 1) st0).heard.map V.int) none (some (((trOf c most st0).heard.map V.int).length : Nat)) = (trOf c most st0).heard.map V.int := by
        rw [cut_take, List.length_map, ← List.map_take]
        congr 1
        show (msteps c (most + 1) st0).said.take (msteps c most st0).said.length = (msteps c most st0).said
        obtain ⟨t, et⟩ := said_step c (msteps c most st0)
        rw [msteps_succ, et, List.take_left]
      rw [ecut] at *
      have s15 : Same H14 (upd H14 CL (.lst ((trOf c most st0).heard.map V.int))) := (Same.refl H14).new nCL
      have hCL : upd H14 CL (.lst ((trOf c most st0).heard.map V.int)) CL = some (.lst ((trOf c most st0).heard.map V.int)) := upd_same
      generalize upd H14 CL (.lst ((trOf c most st0).heard.map V.int)) = H15 at s15 hCL ⊢
      have T1 := T1.same s15
      have T2 := T2.same s15
      have s715 := s714.trans s15
      refine ⟨_, rfl, ixT T1.1 (by decide) rfl (.inl (ints_top hCL T1.2 ⟨_, rfl, if_f (by rfl) ?_⟩))⟩
      have whole : ∀ {H16 : Hp}, Same H15 H16 → t_law_4 K { nx := fun _ H' => Q .non H', rt := Q } [some (.ref scr), some (.ref st), some (.ref cp), some (.int (k : Nat)), some (.ref AL), some (.int (most : Nat)), some (.ref p1), some (.ref p2), none] H16 := by
        intro H16 s16
        refine ⟨_, rfl, _, rfl, _, rfl, nil_open (run (m := 400) rfl (s715.trans s16) (by omega) fun p3 l3 H17 T3 s17 => ?_)⟩
        have s717 := (s715.trans s16).trans s17
        have T1 := (T1.same s16).same s17
        show t_law_3 K _ [some (.ref scr), some (.ref st), some (.ref cp), some (.int (k : Nat)), some (.ref AL), some (.int (most : Nat)), some (.ref p1), some (.ref p2), some (.ref p3)] H17
        have last : t_law_2 K { nx := fun _ H' => Q .non H', rt := Q } [some (.ref scr), some (.ref st), some (.ref cp), some (.int (k : Nat)), some (.ref AL), some (.int (most : Nat)), some (.ref p1), some (.ref p2), some (.ref p3)] H17 := by
          have end_ : t_law_1 K { nx := fun _ H' => Q .non H', rt := Q } [some (.ref scr), some (.ref st), some (.ref cp), some (.int (k : Nat)), some (.ref AL), some (.int (most : Nat)), some (.ref p1), some (.ref p2), some (.ref p3)] H17 := by
            unfold t_law_1
            refine ret_open ⟨_, rfl, _, rfl, _, rfl, cons_c (nil_open (run (m := 0) rfl s717 (by omega) fun p5 l5 H18 T5 s18 => ixT T5.1 (by decide) rfl (.inr (.inr (.inl ⟨rfl, _, rfl, if_t (decide_eq_true (word_spent.mpr n0)) ?_⟩)))))⟩
            exact ⟨_, rfl, _, rfl, _, rfl, _, rfl, nil_open (run (m := most) rfl (s717.trans s18) (by omega) fun p6 l6 H19 T6 s19 => ⟨_, rfl, .inl (told_eqN T6 ((T1.same s18).same s19) (oo most).or (q _))⟩)⟩
          refine ⟨_, rfl, ixT T3.1 (by decide) rfl (.inr (.inr (.inl ⟨rfl, _, rfl, ?_⟩)))⟩
          by_cases e : (msteps c 400 st0).fs = []
          · exact if_f (decide_eq_false fun z => (word_spent.mp z) e) (iteF end_)
          · refine if_t (decide_eq_true (word_spent.mpr e)) ?_
            refine ⟨_, rfl, ixT T3.1 (by decide) rfl (.inr (.inr (.inl ⟨rfl, _, rfl, if_f ?_ ?_⟩)))⟩
            · show (!decide (V.int ((mcount c 400 st0 : Nat) : Int) = V.int 400)) = false
              rw [mcount_all c e]; rfl
            · exact ⟨_, rfl, ixT T3.1 (by decide) rfl ⟨rfl, _, rfl, if_f (by rw [show (trOf c 400 st0).out = .non from (oo 400).go e]; rfl) end_⟩⟩
        refine ⟨_, rfl, ixT T1.1 (by decide) rfl (.inr (.inr (.inl ⟨rfl, _, rfl, ?_⟩)))⟩
        by_cases e : (msteps c most st0).fs = []
        · refine if_t (decide_eq_true (word_given.mpr e)) ⟨_, rfl, _, rfl, .inl (told_eqN (l := l3) (d := trOf c most st0) ?_ T1 (oo most).or ⟨_, rfl, iteF last⟩)⟩
          have := tr_more c e (400 - most)
          rw [show most + (400 - most) = 400 by omega] at this
          rw [← this]; exact T3
        · exact if_f (decide_eq_false fun z => e (word_given.mp z)) (iteF last)
      refine ⟨_, rfl, ixT T1.1 (by decide) rfl (.inr (.inr (.inl ⟨rfl, _, rfl, ?_⟩)))⟩
      by_cases e : (msteps c most st0).fs = []
      · refine if_t (decide_eq_true (word_given.mpr e)) ⟨_, rfl, _, rfl, .inl (told_eqN (l := l2) (d := trOf c most st0) ?_ T1 (oo most).or ⟨_, rfl, iteF (whole (Same.refl H15))⟩)⟩
        rw [← tr_more c e 1]; exact T2
      · exact if_f (decide_eq_false fun z => e (word_given.mp z)) (iteF (whole (Same.refl H15)))
  refine ⟨_, rfl, st, 8, 0, rfl, S1, by omega, by decide, by decide, fun d H2 d0 d1 S2 B2 => .inr (.inr (.inl ⟨rfl, _, rfl, ?_⟩))⟩
  by_cases e : V.int d = V.int 1
  · refine if_t (decide_eq_true e) ⟨_, rfl, st, 121, 1, rfl, S2, by omega, by decide, by decide, fun d' H3 d0' d1' S3 B3 => ?_⟩
    obtain ⟨n, rfl⟩ : ∃ n : Nat, d' = (n : Int) := ⟨d'.toNat, by omega⟩
    exact nil_open ⟨n, rfl, by omega, fun H4 s4 => ⟨_, rfl, iteF (main H4 _ (S3.same s4) (by omega))⟩⟩
  · exact if_f (decide_eq_false e) (iteF (main H2 _ S2 (by omega)))
end Bg
end
set_option Elab.async false
set_option linter.all false
set_option maxRecDepth 100000
set_option maxHeartbeats 4000000
namespace Bg
open PySem PySem.Spec PyProof.Rows L2
section
variable {P : Program} {w : World} {K : PySem.W.Frag} {mg : Str → Option Value} {base : Heap}
theorem len_c_goal {vs : List V} {H : Hp} {Q : VK} {E : XK} (h : sp_c_goal K vs H Q E) : vs.length = PS_c_goal.length := by
  first | (obtain ⟨rfl, _⟩ := h; rfl) | (obtain ⟨_, rfl, _⟩ := h; rfl) | (obtain ⟨_, _, rfl, _⟩ := h; rfl) | (obtain ⟨_, _, _, rfl, _⟩ := h; rfl) | (obtain ⟨_, _, _, _, rfl, _⟩ := h; rfl) | (obtain ⟨_, _, _, _, _, rfl, _⟩ := h; rfl) | (obtain ⟨_, _, _, _, _, _, rfl, _⟩ := h; rfl) | (obtain ⟨_, _, _, _, _, _, _, rfl, _⟩ := h; rfl) | (obtain ⟨_, _, _, _, _, _, _, _, rfl, _⟩ := h; rfl) | (obtain ⟨_, _, _, _, _, _, _, _, _, rfl, _⟩ := h; rfl) | (obtain ⟨_, _, _, _, _, _, _, _, _, _, rfl, _⟩ := h; rfl) | (obtain ⟨_, _, _, _, _, _, _, _, _, _, _, rfl, _⟩ := h; rfl) | (obtain ⟨_, _, _, _, _, _, _, _, _, _, _, _, rfl, _⟩ := h; rfl) | (obtain ⟨_, _, _, _, _, _, _, _, _, _, _, _, _, rfl, _⟩ := h; rfl) | (obtain ⟨_, _, _, _, _, _, _, _, _, _, _, _, _, _, rfl, _⟩ := h; rfl) | (obtain ⟨_, _, _, _, _, _, _, _, _, _, _, _, _, _, _, rfl, _⟩ := h; rfl) | (obtain ⟨_, _, _, _, _, _, _, _, _, _, _, _, _, _, _, _, rfl, _⟩ := h; rfl) | (obtain ⟨_, _, _, _, _, _, _, _, _, _, _, _, _, _, _, _, _, rfl, _⟩ := h; rfl) | (obtain ⟨_, _, _, _, _, _, _, _, _, _, _, _, _, _, _, _, _, _, rfl, _⟩ := h; rfl) | (obtain ⟨_, _, _, _, _, _, _, _, _, _, _, _, _, _, _, _, _, _, _, rfl, _⟩ := h; rfl) | (obtain ⟨_, _, _, _, _, _, _, _, _, _, _, _, _, _, _, _, _, _, _, _, rfl, _⟩ := h; rfl) | (obtain ⟨_, _, _, _, _, _, _, _, _, _, _, _, _, _, _, _, _, _, _, _, _, rfl, _⟩ := h; rfl) | (obtain ⟨_, _, _, _, _, _, _, _, _, _, _, _, _, _, _, _, _, _, _, _, _, _, rfl, _⟩ := h; rfl) | (obtain ⟨_, _, _, _, _, _, _, _, _, _, _, _, _, _, _, _, _, _, _, _, _, _, _, rfl, _⟩ := h; rfl) | (obtain ⟨_, _, _, _, _, _, _, _, _, _, _, _, _, _, _, _, _, _, _, _, _, _, _, _, rfl, _⟩ := h; rfl) | (obtain ⟨_, _, _, _, _, _, _, _, _, _, _, _, _, _, _, _, _, _, _, _, _, _, _, _, _, rfl, _⟩ := h; rfl)
theorem ok_c_goal {f : Addr} {fd : FuncData} (F : Fun K "goal" "goal" s_c_goal f fd) (B : Blt mg)  : FnOk P w K mg base CX0 K_c_goal f fd PS_c_goal (sp_c_goal K) :=
  F.ok sc_c_goal (fun vs H Q E h => len_c_goal h) fun cdv A outer s H vs Q E hr h => ⟨_, d_c_goal B hr, r_c_goal (E := E) h⟩
theorem len_c_leads {vs : List V} {H : Hp} {Q : VK} {E : XK} (h : sp_c_leads K vs H Q E) : vs.length = PS_c_leads.length := by
  first | (obtain ⟨rfl, _⟩ := h; rfl) | (obtain ⟨_, rfl, _⟩ := h; rfl) | (obtain ⟨_, _, rfl, _⟩ := h; rfl) | (obtain ⟨_, _, _, rfl, _⟩ := h; rfl) | (obtain ⟨_, _, _, _, rfl, _⟩ := h; rfl) | (obtain ⟨_, _, _, _, _, rfl, _⟩ := h; rfl) | (obtain ⟨_, _, _, _, _, _, rfl, _⟩ := h; rfl) | (obtain ⟨_, _, _, _, _, _, _, rfl, _⟩ := h; rfl) | (obtain ⟨_, _, _, _, _, _, _, _, rfl, _⟩ := h; rfl) | (obtain ⟨_, _, _, _, _, _, _, _, _, rfl, _⟩ := h; rfl) | (obtain ⟨_, _, _, _, _, _, _, _, _, _, rfl, _⟩ := h; rfl) | (obtain ⟨_, _, _, _, _, _, _, _, _, _, _, rfl, _⟩ := h; rfl) | (obtain ⟨_, _, _, _, _, _, _, _, _, _, _, _, rfl, _⟩ := h; rfl) | (obtain ⟨_, _, _, _, _, _, _, _, _, _, _, _, _, rfl, _⟩ := h; rfl) | (obtain ⟨_, _, _, _, _, _, _, _, _, _, _, _, _, _, rfl, _⟩ := h; rfl) | (obtain ⟨_, _, _, _, _, _, _, _, _, _, _, _, _, _, _, rfl, _⟩ := h; rfl) | (obtain ⟨_, _, _, _, _, _, _, _, _, _, _, _, _, _, _, _, rfl, _⟩ := h; rfl) | (obtain ⟨_, _, _, _, _, _, _, _, _, _, _, _, _, _, _, _, _, rfl, _⟩ := h; rfl) | (obtain ⟨_, _, _, _, _, _, _, _, _, _, _, _, _, _, _, _, _, _, rfl, _⟩ := h; rfl) | (obtain ⟨_, _, _, _, _, _, _, _, _, _, _, _, _, _, _, _, _, _, _, rfl, _⟩ := h; rfl) | (obtain ⟨_, _, _, _, _, _, _, _, _, _, _, _, _, _, _, _, _, _, _, _, rfl, _⟩ := h; rfl) | (obtain ⟨_, _, _, _, _, _, _, _, _, _, _, _, _, _, _, _, _, _, _, _, _, rfl, _⟩ := h; rfl) | (obtain ⟨_, _, _, _, _, _, _, _, _, _, _, _, _, _, _, _, _, _, _, _, _, _, rfl, _⟩ := h; rfl) | (obtain ⟨_, _, _, _, _, _, _, _, _, _, _, _, _, _, _, _, _, _, _, _, _, _, _, rfl, _⟩ := h; rfl) | (obtain ⟨_, _, _, _, _, _, _, _, _, _, _, _, _, _, _, _, _, _, _, _, _, _, _, _, rfl, _⟩ := h; rfl) | (obtain ⟨_, _, _, _, _, _, _, _, _, _, _, _, _, _, _, _, _, _, _, _, _, _, _, _, _, rfl, _⟩ := h; rfl)
theorem ok_c_leads {f : Addr} {fd : FuncData} (F : Fun K "leads" "leads" s_c_leads f fd) (B : Blt mg) (c_c_goal : Callee P w K mg base "goal" PS_c_goal K_c_goal (sp_c_goal K)) : FnOk P w K mg base CX0 K_c_leads f fd PS_c_leads (sp_c_leads K) :=
  F.ok sc_c_leads (fun vs H Q E h => len_c_leads h) fun cdv A outer s H vs Q E hr h => ⟨_, d_c_leads B c_c_goal hr, r_c_leads (E := E) h⟩
theorem len_p_places_read {vs : List V} {H : Hp} {Q : VK} {E : XK} (h : sp_p_places_read K vs H Q E) : vs.length = PS_p_places_read.length := by
  first | (obtain ⟨rfl, _⟩ := h; rfl) | (obtain ⟨_, rfl, _⟩ := h; rfl) | (obtain ⟨_, _, rfl, _⟩ := h; rfl) | (obtain ⟨_, _, _, rfl, _⟩ := h; rfl) | (obtain ⟨_, _, _, _, rfl, _⟩ := h; rfl) | (obtain ⟨_, _, _, _, _, rfl, _⟩ := h; rfl) | (obtain ⟨_, _, _, _, _, _, rfl, _⟩ := h; rfl) | (obtain ⟨_, _, _, _, _, _, _, rfl, _⟩ := h; rfl) | (obtain ⟨_, _, _, _, _, _, _, _, rfl, _⟩ := h; rfl) | (obtain ⟨_, _, _, _, _, _, _, _, _, rfl, _⟩ := h; rfl) | (obtain ⟨_, _, _, _, _, _, _, _, _, _, rfl, _⟩ := h; rfl) | (obtain ⟨_, _, _, _, _, _, _, _, _, _, _, rfl, _⟩ := h; rfl) | (obtain ⟨_, _, _, _, _, _, _, _, _, _, _, _, rfl, _⟩ := h; rfl) | (obtain ⟨_, _, _, _, _, _, _, _, _, _, _, _, _, rfl, _⟩ := h; rfl) | (obtain ⟨_, _, _, _, _, _, _, _, _, _, _, _, _, _, rfl, _⟩ := h; rfl) | (obtain ⟨_, _, _, _, _, _, _, _, _, _, _, _, _, _, _, rfl, _⟩ := h; rfl) | (obtain ⟨_, _, _, _, _, _, _, _, _, _, _, _, _, _, _, _, rfl, _⟩ := h; rfl) | (obtain ⟨_, _, _, _, _, _, _, _, _, _, _, _, _, _, _, _, _, rfl, _⟩ := h; rfl) | (obtain ⟨_, _, _, _, _, _, _, _, _, _, _, _, _, _, _, _, _, _, rfl, _⟩ := h; rfl) | (obtain ⟨_, _, _, _, _, _, _, _, _, _, _, _, _, _, _, _, _, _, _, rfl, _⟩ := h; rfl) | (obtain ⟨_, _, _, _, _, _, _, _, _, _, _, _, _, _, _, _, _, _, _, _, rfl, _⟩ := h; rfl) | (obtain ⟨_, _, _, _, _, _, _, _, _, _, _, _, _, _, _, _, _, _, _, _, _, rfl, _⟩ := h; rfl) | (obtain ⟨_, _, _, _, _, _, _, _, _, _, _, _, _, _, _, _, _, _, _, _, _, _, rfl, _⟩ := h; rfl) | (obtain ⟨_, _, _, _, _, _, _, _, _, _, _, _, _, _, _, _, _, _, _, _, _, _, _, rfl, _⟩ := h; rfl) | (obtain ⟨_, _, _, _, _, _, _, _, _, _, _, _, _, _, _, _, _, _, _, _, _, _, _, _, rfl, _⟩ := h; rfl) | (obtain ⟨_, _, _, _, _, _, _, _, _, _, _, _, _, _, _, _, _, _, _, _, _, _, _, _, _, rfl, _⟩ := h; rfl)
theorem ok_p_places_read {f : Addr} {fd : FuncData} (F : Fun K "places_read" "places_read" s_p_places_read f fd) (B : Blt mg)  : FnOk P w K mg base CX0 K_p_places_read f fd PS_p_places_read (sp_p_places_read K) :=
  F.ok sc_p_places_read (fun vs H Q E h => len_p_places_read h) fun cdv A outer s H vs Q E hr h => ⟨_, d_p_places_read B hr, r_p_places_read (E := E) h⟩
theorem len_p_pushed {vs : List V} {H : Hp} {Q : VK} {E : XK} (h : sp_p_pushed K vs H Q E) : vs.length = PS_p_pushed.length := by
  first | (obtain ⟨rfl, _⟩ := h; rfl) | (obtain ⟨_, rfl, _⟩ := h; rfl) | (obtain ⟨_, _, rfl, _⟩ := h; rfl) | (obtain ⟨_, _, _, rfl, _⟩ := h; rfl) | (obtain ⟨_, _, _, _, rfl, _⟩ := h; rfl) | (obtain ⟨_, _, _, _, _, rfl, _⟩ := h; rfl) | (obtain ⟨_, _, _, _, _, _, rfl, _⟩ := h; rfl) | (obtain ⟨_, _, _, _, _, _, _, rfl, _⟩ := h; rfl) | (obtain ⟨_, _, _, _, _, _, _, _, rfl, _⟩ := h; rfl) | (obtain ⟨_, _, _, _, _, _, _, _, _, rfl, _⟩ := h; rfl) | (obtain ⟨_, _, _, _, _, _, _, _, _, _, rfl, _⟩ := h; rfl) | (obtain ⟨_, _, _, _, _, _, _, _, _, _, _, rfl, _⟩ := h; rfl) | (obtain ⟨_, _, _, _, _, _, _, _, _, _, _, _, rfl, _⟩ := h; rfl) | (obtain ⟨_, _, _, _, _, _, _, _, _, _, _, _, _, rfl, _⟩ := h; rfl) | (obtain ⟨_, _, _, _, _, _, _, _, _, _, _, _, _, _, rfl, _⟩ := h; rfl) | (obtain ⟨_, _, _, _, _, _, _, _, _, _, _, _, _, _, _, rfl, _⟩ := h; rfl) | (obtain ⟨_, _, _, _, _, _, _, _, _, _, _, _, _, _, _, _, rfl, _⟩ := h; rfl) | (obtain ⟨_, _, _, _, _, _, _, _, _, _, _, _, _, _, _, _, _, rfl, _⟩ := h; rfl) | (obtain ⟨_, _, _, _, _, _, _, _, _, _, _, _, _, _, _, _, _, _, rfl, _⟩ := h; rfl) | (obtain ⟨_, _, _, _, _, _, _, _, _, _, _, _, _, _, _, _, _, _, _, rfl, _⟩ := h; rfl) | (obtain ⟨_, _, _, _, _, _, _, _, _, _, _, _, _, _, _, _, _, _, _, _, rfl, _⟩ := h; rfl) | (obtain ⟨_, _, _, _, _, _, _, _, _, _, _, _, _, _, _, _, _, _, _, _, _, rfl, _⟩ := h; rfl) | (obtain ⟨_, _, _, _, _, _, _, _, _, _, _, _, _, _, _, _, _, _, _, _, _, _, rfl, _⟩ := h; rfl) | (obtain ⟨_, _, _, _, _, _, _, _, _, _, _, _, _, _, _, _, _, _, _, _, _, _, _, rfl, _⟩ := h; rfl) | (obtain ⟨_, _, _, _, _, _, _, _, _, _, _, _, _, _, _, _, _, _, _, _, _, _, _, _, rfl, _⟩ := h; rfl) | (obtain ⟨_, _, _, _, _, _, _, _, _, _, _, _, _, _, _, _, _, _, _, _, _, _, _, _, _, rfl, _⟩ := h; rfl)
theorem ok_p_pushed {f : Addr} {fd : FuncData} (F : Fun K "pushed" "pushed" s_p_pushed f fd) (B : Blt mg)  : FnOk P w K mg base CX0 K_p_pushed f fd PS_p_pushed (sp_p_pushed K) :=
  F.ok sc_p_pushed (fun vs H Q E h => len_p_pushed h) fun cdv A outer s H vs Q E hr h => ⟨_, d_p_pushed B hr, r_p_pushed (E := E) h⟩
theorem len_Machine_go_on {vs : List V} {H : Hp} {Q : VK} {E : XK} (h : sp_Machine_go_on K vs H Q E) : vs.length = PS_Machine_go_on.length := by
  first | (obtain ⟨rfl, _⟩ := h; rfl) | (obtain ⟨_, rfl, _⟩ := h; rfl) | (obtain ⟨_, _, rfl, _⟩ := h; rfl) | (obtain ⟨_, _, _, rfl, _⟩ := h; rfl) | (obtain ⟨_, _, _, _, rfl, _⟩ := h; rfl) | (obtain ⟨_, _, _, _, _, rfl, _⟩ := h; rfl) | (obtain ⟨_, _, _, _, _, _, rfl, _⟩ := h; rfl) | (obtain ⟨_, _, _, _, _, _, _, rfl, _⟩ := h; rfl) | (obtain ⟨_, _, _, _, _, _, _, _, rfl, _⟩ := h; rfl) | (obtain ⟨_, _, _, _, _, _, _, _, _, rfl, _⟩ := h; rfl) | (obtain ⟨_, _, _, _, _, _, _, _, _, _, rfl, _⟩ := h; rfl) | (obtain ⟨_, _, _, _, _, _, _, _, _, _, _, rfl, _⟩ := h; rfl) | (obtain ⟨_, _, _, _, _, _, _, _, _, _, _, _, rfl, _⟩ := h; rfl) | (obtain ⟨_, _, _, _, _, _, _, _, _, _, _, _, _, rfl, _⟩ := h; rfl) | (obtain ⟨_, _, _, _, _, _, _, _, _, _, _, _, _, _, rfl, _⟩ := h; rfl) | (obtain ⟨_, _, _, _, _, _, _, _, _, _, _, _, _, _, _, rfl, _⟩ := h; rfl) | (obtain ⟨_, _, _, _, _, _, _, _, _, _, _, _, _, _, _, _, rfl, _⟩ := h; rfl) | (obtain ⟨_, _, _, _, _, _, _, _, _, _, _, _, _, _, _, _, _, rfl, _⟩ := h; rfl) | (obtain ⟨_, _, _, _, _, _, _, _, _, _, _, _, _, _, _, _, _, _, rfl, _⟩ := h; rfl) | (obtain ⟨_, _, _, _, _, _, _, _, _, _, _, _, _, _, _, _, _, _, _, rfl, _⟩ := h; rfl) | (obtain ⟨_, _, _, _, _, _, _, _, _, _, _, _, _, _, _, _, _, _, _, _, rfl, _⟩ := h; rfl) | (obtain ⟨_, _, _, _, _, _, _, _, _, _, _, _, _, _, _, _, _, _, _, _, _, rfl, _⟩ := h; rfl) | (obtain ⟨_, _, _, _, _, _, _, _, _, _, _, _, _, _, _, _, _, _, _, _, _, _, rfl, _⟩ := h; rfl) | (obtain ⟨_, _, _, _, _, _, _, _, _, _, _, _, _, _, _, _, _, _, _, _, _, _, _, rfl, _⟩ := h; rfl) | (obtain ⟨_, _, _, _, _, _, _, _, _, _, _, _, _, _, _, _, _, _, _, _, _, _, _, _, rfl, _⟩ := h; rfl) | (obtain ⟨_, _, _, _, _, _, _, _, _, _, _, _, _, _, _, _, _, _, _, _, _, _, _, _, _, rfl, _⟩ := h; rfl)
theorem ok_Machine_go_on {f : Addr} {fd : FuncData} (F : Fun K "go_on" "Machine.go_on" s_Machine_go_on f fd) (B : Blt mg) (T : TxtM K) (c_c_leads : Callee P w K mg base "leads" PS_c_leads K_c_leads (sp_c_leads K)) (c_p_places_read : Callee P w K mg base "places_read" PS_p_places_read K_p_places_read (sp_p_places_read K)) (c_p_pushed : Callee P w K mg base "pushed" PS_p_pushed K_p_pushed (sp_p_pushed K)) : FnOk P w K mg base CX0 K_Machine_go_on f fd PS_Machine_go_on (sp_Machine_go_on K) :=
  F.ok sc_Machine_go_on (fun vs H Q E h => len_Machine_go_on h) fun cdv A outer s H vs Q E hr h => ⟨_, d_Machine_go_on B c_c_leads c_p_places_read c_p_pushed hr, r_Machine_go_on T (E := E) h⟩
theorem len_BeltFrame_init {vs : List V} {H : Hp} {Q : VK} {E : XK} (h : sp_BeltFrame_init K vs H Q E) : vs.length = PS_BeltFrame_init.length := by
  first | (obtain ⟨rfl, _⟩ := h; rfl) | (obtain ⟨_, rfl, _⟩ := h; rfl) | (obtain ⟨_, _, rfl, _⟩ := h; rfl) | (obtain ⟨_, _, _, rfl, _⟩ := h; rfl) | (obtain ⟨_, _, _, _, rfl, _⟩ := h; rfl) | (obtain ⟨_, _, _, _, _, rfl, _⟩ := h; rfl) | (obtain ⟨_, _, _, _, _, _, rfl, _⟩ := h; rfl) | (obtain ⟨_, _, _, _, _, _, _, rfl, _⟩ := h; rfl) | (obtain ⟨_, _, _, _, _, _, _, _, rfl, _⟩ := h; rfl) | (obtain ⟨_, _, _, _, _, _, _, _, _, rfl, _⟩ := h; rfl) | (obtain ⟨_, _, _, _, _, _, _, _, _, _, rfl, _⟩ := h; rfl) | (obtain ⟨_, _, _, _, _, _, _, _, _, _, _, rfl, _⟩ := h; rfl) | (obtain ⟨_, _, _, _, _, _, _, _, _, _, _, _, rfl, _⟩ := h; rfl) | (obtain ⟨_, _, _, _, _, _, _, _, _, _, _, _, _, rfl, _⟩ := h; rfl) | (obtain ⟨_, _, _, _, _, _, _, _, _, _, _, _, _, _, rfl, _⟩ := h; rfl) | (obtain ⟨_, _, _, _, _, _, _, _, _, _, _, _, _, _, _, rfl, _⟩ := h; rfl) | (obtain ⟨_, _, _, _, _, _, _, _, _, _, _, _, _, _, _, _, rfl, _⟩ := h; rfl) | (obtain ⟨_, _, _, _, _, _, _, _, _, _, _, _, _, _, _, _, _, rfl, _⟩ := h; rfl) | (obtain ⟨_, _, _, _, _, _, _, _, _, _, _, _, _, _, _, _, _, _, rfl, _⟩ := h; rfl) | (obtain ⟨_, _, _, _, _, _, _, _, _, _, _, _, _, _, _, _, _, _, _, rfl, _⟩ := h; rfl) | (obtain ⟨_, _, _, _, _, _, _, _, _, _, _, _, _, _, _, _, _, _, _, _, rfl, _⟩ := h; rfl) | (obtain ⟨_, _, _, _, _, _, _, _, _, _, _, _, _, _, _, _, _, _, _, _, _, rfl, _⟩ := h; rfl) | (obtain ⟨_, _, _, _, _, _, _, _, _, _, _, _, _, _, _, _, _, _, _, _, _, _, rfl, _⟩ := h; rfl) | (obtain ⟨_, _, _, _, _, _, _, _, _, _, _, _, _, _, _, _, _, _, _, _, _, _, _, rfl, _⟩ := h; rfl) | (obtain ⟨_, _, _, _, _, _, _, _, _, _, _, _, _, _, _, _, _, _, _, _, _, _, _, _, rfl, _⟩ := h; rfl) | (obtain ⟨_, _, _, _, _, _, _, _, _, _, _, _, _, _, _, _, _, _, _, _, _, _, _, _, _, rfl, _⟩ := h; rfl)
theorem ok_BeltFrame_init {f : Addr} {fd : FuncData} (F : Fun K "__init__" "BeltFrame.__init__" s_BeltFrame_init f fd) (B : Blt mg) (T : TxtM K)  : FnOk P w K mg base CX0 K_BeltFrame_init f fd PS_BeltFrame_init (sp_BeltFrame_init K) :=
  F.ok sc_BeltFrame_init (fun vs H Q E h => len_BeltFrame_init h) fun cdv A outer s H vs Q E hr h => ⟨_, d_BeltFrame_init B hr, r_BeltFrame_init T (E := E) h⟩
theorem len_p_begun {vs : List V} {H : Hp} {Q : VK} {E : XK} (h : sp_p_begun K vs H Q E) : vs.length = PS_p_begun.length := by
  first | (obtain ⟨rfl, _⟩ := h; rfl) | (obtain ⟨_, rfl, _⟩ := h; rfl) | (obtain ⟨_, _, rfl, _⟩ := h; rfl) | (obtain ⟨_, _, _, rfl, _⟩ := h; rfl) | (obtain ⟨_, _, _, _, rfl, _⟩ := h; rfl) | (obtain ⟨_, _, _, _, _, rfl, _⟩ := h; rfl) | (obtain ⟨_, _, _, _, _, _, rfl, _⟩ := h; rfl) | (obtain ⟨_, _, _, _, _, _, _, rfl, _⟩ := h; rfl) | (obtain ⟨_, _, _, _, _, _, _, _, rfl, _⟩ := h; rfl) | (obtain ⟨_, _, _, _, _, _, _, _, _, rfl, _⟩ := h; rfl) | (obtain ⟨_, _, _, _, _, _, _, _, _, _, rfl, _⟩ := h; rfl) | (obtain ⟨_, _, _, _, _, _, _, _, _, _, _, rfl, _⟩ := h; rfl) | (obtain ⟨_, _, _, _, _, _, _, _, _, _, _, _, rfl, _⟩ := h; rfl) | (obtain ⟨_, _, _, _, _, _, _, _, _, _, _, _, _, rfl, _⟩ := h; rfl) | (obtain ⟨_, _, _, _, _, _, _, _, _, _, _, _, _, _, rfl, _⟩ := h; rfl) | (obtain ⟨_, _, _, _, _, _, _, _, _, _, _, _, _, _, _, rfl, _⟩ := h; rfl) | (obtain ⟨_, _, _, _, _, _, _, _, _, _, _, _, _, _, _, _, rfl, _⟩ := h; rfl) | (obtain ⟨_, _, _, _, _, _, _, _, _, _, _, _, _, _, _, _, _, rfl, _⟩ := h; rfl) | (obtain ⟨_, _, _, _, _, _, _, _, _, _, _, _, _, _, _, _, _, _, rfl, _⟩ := h; rfl) | (obtain ⟨_, _, _, _, _, _, _, _, _, _, _, _, _, _, _, _, _, _, _, rfl, _⟩ := h; rfl) | (obtain ⟨_, _, _, _, _, _, _, _, _, _, _, _, _, _, _, _, _, _, _, _, rfl, _⟩ := h; rfl) | (obtain ⟨_, _, _, _, _, _, _, _, _, _, _, _, _, _, _, _, _, _, _, _, _, rfl, _⟩ := h; rfl) | (obtain ⟨_, _, _, _, _, _, _, _, _, _, _, _, _, _, _, _, _, _, _, _, _, _, rfl, _⟩ := h; rfl) | (obtain ⟨_, _, _, _, _, _, _, _, _, _, _, _, _, _, _, _, _, _, _, _, _, _, _, rfl, _⟩ := h; rfl) | (obtain ⟨_, _, _, _, _, _, _, _, _, _, _, _, _, _, _, _, _, _, _, _, _, _, _, _, rfl, _⟩ := h; rfl) | (obtain ⟨_, _, _, _, _, _, _, _, _, _, _, _, _, _, _, _, _, _, _, _, _, _, _, _, _, rfl, _⟩ := h; rfl)
theorem ok_p_begun {f : Addr} {fd : FuncData} (F : Fun K "begun" "begun" s_p_begun f fd) (B : Blt mg) (c_p_pushed : Callee P w K mg base "pushed" PS_p_pushed K_p_pushed (sp_p_pushed K)) : FnOk P w K mg base CX0 K_p_begun f fd PS_p_begun (sp_p_begun K) :=
  F.ok sc_p_begun (fun vs H Q E h => len_p_begun h) fun cdv A outer s H vs Q E hr h => ⟨_, d_p_begun B c_p_pushed hr, r_p_begun (E := E) h⟩
theorem len_Machine_enter {vs : List V} {H : Hp} {Q : VK} {E : XK} (h : sp_Machine_enter K vs H Q E) : vs.length = PS_Machine_enter.length := by
  first | (obtain ⟨rfl, _⟩ := h; rfl) | (obtain ⟨_, rfl, _⟩ := h; rfl) | (obtain ⟨_, _, rfl, _⟩ := h; rfl) | (obtain ⟨_, _, _, rfl, _⟩ := h; rfl) | (obtain ⟨_, _, _, _, rfl, _⟩ := h; rfl) | (obtain ⟨_, _, _, _, _, rfl, _⟩ := h; rfl) | (obtain ⟨_, _, _, _, _, _, rfl, _⟩ := h; rfl) | (obtain ⟨_, _, _, _, _, _, _, rfl, _⟩ := h; rfl) | (obtain ⟨_, _, _, _, _, _, _, _, rfl, _⟩ := h; rfl) | (obtain ⟨_, _, _, _, _, _, _, _, _, rfl, _⟩ := h; rfl) | (obtain ⟨_, _, _, _, _, _, _, _, _, _, rfl, _⟩ := h; rfl) | (obtain ⟨_, _, _, _, _, _, _, _, _, _, _, rfl, _⟩ := h; rfl) | (obtain ⟨_, _, _, _, _, _, _, _, _, _, _, _, rfl, _⟩ := h; rfl) | (obtain ⟨_, _, _, _, _, _, _, _, _, _, _, _, _, rfl, _⟩ := h; rfl) | (obtain ⟨_, _, _, _, _, _, _, _, _, _, _, _, _, _, rfl, _⟩ := h; rfl) | (obtain ⟨_, _, _, _, _, _, _, _, _, _, _, _, _, _, _, rfl, _⟩ := h; rfl) | (obtain ⟨_, _, _, _, _, _, _, _, _, _, _, _, _, _, _, _, rfl, _⟩ := h; rfl) | (obtain ⟨_, _, _, _, _, _, _, _, _, _, _, _, _, _, _, _, _, rfl, _⟩ := h; rfl) | (obtain ⟨_, _, _, _, _, _, _, _, _, _, _, _, _, _, _, _, _, _, rfl, _⟩ := h; rfl) | (obtain ⟨_, _, _, _, _, _, _, _, _, _, _, _, _, _, _, _, _, _, _, rfl, _⟩ := h; rfl) | (obtain ⟨_, _, _, _, _, _, _, _, _, _, _, _, _, _, _, _, _, _, _, _, rfl, _⟩ := h; rfl) | (obtain ⟨_, _, _, _, _, _, _, _, _, _, _, _, _, _, _, _, _, _, _, _, _, rfl, _⟩ := h; rfl) | (obtain ⟨_, _, _, _, _, _, _, _, _, _, _, _, _, _, _, _, _, _, _, _, _, _, rfl, _⟩ := h; rfl) | (obtain ⟨_, _, _, _, _, _, _, _, _, _, _, _, _, _, _, _, _, _, _, _, _, _, _, rfl, _⟩ := h; rfl) | (obtain ⟨_, _, _, _, _, _, _, _, _, _, _, _, _, _, _, _, _, _, _, _, _, _, _, _, rfl, _⟩ := h; rfl) | (obtain ⟨_, _, _, _, _, _, _, _, _, _, _, _, _, _, _, _, _, _, _, _, _, _, _, _, _, rfl, _⟩ := h; rfl)
theorem ok_Machine_enter {f : Addr} {fd : FuncData} (F : Fun K "enter" "Machine.enter" s_Machine_enter f fd) (B : Blt mg) (T : TxtM K) (cl_Machine : Cls K (clsAt K "Machine")) (m_Machine_go_on : MethOk P w K mg base (clsAt K "Machine") "go_on" PS_Machine_go_on K_Machine_go_on (sp_Machine_go_on K)) (mk_BeltFrame : MakeOk P w K mg base "BeltFrame" (clsAt K "BeltFrame") PS_BeltFrame_init K_BeltFrame_init (sp_BeltFrame_init K)) (c_p_begun : Callee P w K mg base "begun" PS_p_begun K_p_begun (sp_p_begun K)) : FnOk P w K mg base CX0 K_Machine_enter f fd PS_Machine_enter (sp_Machine_enter K) :=
  F.ok sc_Machine_enter (fun vs H Q E h => len_Machine_enter h) fun cdv A outer s H vs Q E hr h => ⟨_, d_Machine_enter B cl_Machine m_Machine_go_on mk_BeltFrame c_p_begun hr, r_Machine_enter T (E := E) h⟩
theorem len_Run_init {vs : List V} {H : Hp} {Q : VK} {E : XK} (h : sp_Run_init K vs H Q E) : vs.length = PS_Run_init.length := by
  first | (obtain ⟨rfl, _⟩ := h; rfl) | (obtain ⟨_, rfl, _⟩ := h; rfl) | (obtain ⟨_, _, rfl, _⟩ := h; rfl) | (obtain ⟨_, _, _, rfl, _⟩ := h; rfl) | (obtain ⟨_, _, _, _, rfl, _⟩ := h; rfl) | (obtain ⟨_, _, _, _, _, rfl, _⟩ := h; rfl) | (obtain ⟨_, _, _, _, _, _, rfl, _⟩ := h; rfl) | (obtain ⟨_, _, _, _, _, _, _, rfl, _⟩ := h; rfl) | (obtain ⟨_, _, _, _, _, _, _, _, rfl, _⟩ := h; rfl) | (obtain ⟨_, _, _, _, _, _, _, _, _, rfl, _⟩ := h; rfl) | (obtain ⟨_, _, _, _, _, _, _, _, _, _, rfl, _⟩ := h; rfl) | (obtain ⟨_, _, _, _, _, _, _, _, _, _, _, rfl, _⟩ := h; rfl) | (obtain ⟨_, _, _, _, _, _, _, _, _, _, _, _, rfl, _⟩ := h; rfl) | (obtain ⟨_, _, _, _, _, _, _, _, _, _, _, _, _, rfl, _⟩ := h; rfl) | (obtain ⟨_, _, _, _, _, _, _, _, _, _, _, _, _, _, rfl, _⟩ := h; rfl) | (obtain ⟨_, _, _, _, _, _, _, _, _, _, _, _, _, _, _, rfl, _⟩ := h; rfl) | (obtain ⟨_, _, _, _, _, _, _, _, _, _, _, _, _, _, _, _, rfl, _⟩ := h; rfl) | (obtain ⟨_, _, _, _, _, _, _, _, _, _, _, _, _, _, _, _, _, rfl, _⟩ := h; rfl) | (obtain ⟨_, _, _, _, _, _, _, _, _, _, _, _, _, _, _, _, _, _, rfl, _⟩ := h; rfl) | (obtain ⟨_, _, _, _, _, _, _, _, _, _, _, _, _, _, _, _, _, _, _, rfl, _⟩ := h; rfl) | (obtain ⟨_, _, _, _, _, _, _, _, _, _, _, _, _, _, _, _, _, _, _, _, rfl, _⟩ := h; rfl) | (obtain ⟨_, _, _, _, _, _, _, _, _, _, _, _, _, _, _, _, _, _, _, _, _, rfl, _⟩ := h; rfl) | (obtain ⟨_, _, _, _, _, _, _, _, _, _, _, _, _, _, _, _, _, _, _, _, _, _, rfl, _⟩ := h; rfl) | (obtain ⟨_, _, _, _, _, _, _, _, _, _, _, _, _, _, _, _, _, _, _, _, _, _, _, rfl, _⟩ := h; rfl) | (obtain ⟨_, _, _, _, _, _, _, _, _, _, _, _, _, _, _, _, _, _, _, _, _, _, _, _, rfl, _⟩ := h; rfl) | (obtain ⟨_, _, _, _, _, _, _, _, _, _, _, _, _, _, _, _, _, _, _, _, _, _, _, _, _, rfl, _⟩ := h; rfl)
theorem ok_Run_init {f : Addr} {fd : FuncData} (F : Fun K "__init__" "Run.__init__" s_Run_init f fd) (B : Blt mg)  : FnOk P w K mg base CX0 K_Run_init f fd PS_Run_init (sp_Run_init K) :=
  F.ok sc_Run_init (fun vs H Q E h => len_Run_init h) fun cdv A outer s H vs Q E hr h => ⟨_, d_Run_init B hr, r_Run_init (E := E) h⟩
theorem len_Machine_init {vs : List V} {H : Hp} {Q : VK} {E : XK} (h : sp_Machine_init K vs H Q E) : vs.length = PS_Machine_init.length := by
  first | (obtain ⟨rfl, _⟩ := h; rfl) | (obtain ⟨_, rfl, _⟩ := h; rfl) | (obtain ⟨_, _, rfl, _⟩ := h; rfl) | (obtain ⟨_, _, _, rfl, _⟩ := h; rfl) | (obtain ⟨_, _, _, _, rfl, _⟩ := h; rfl) | (obtain ⟨_, _, _, _, _, rfl, _⟩ := h; rfl) | (obtain ⟨_, _, _, _, _, _, rfl, _⟩ := h; rfl) | (obtain ⟨_, _, _, _, _, _, _, rfl, _⟩ := h; rfl) | (obtain ⟨_, _, _, _, _, _, _, _, rfl, _⟩ := h; rfl) | (obtain ⟨_, _, _, _, _, _, _, _, _, rfl, _⟩ := h; rfl) | (obtain ⟨_, _, _, _, _, _, _, _, _, _, rfl, _⟩ := h; rfl) | (obtain ⟨_, _, _, _, _, _, _, _, _, _, _, rfl, _⟩ := h; rfl) | (obtain ⟨_, _, _, _, _, _, _, _, _, _, _, _, rfl, _⟩ := h; rfl) | (obtain ⟨_, _, _, _, _, _, _, _, _, _, _, _, _, rfl, _⟩ := h; rfl) | (obtain ⟨_, _, _, _, _, _, _, _, _, _, _, _, _, _, rfl, _⟩ := h; rfl) | (obtain ⟨_, _, _, _, _, _, _, _, _, _, _, _, _, _, _, rfl, _⟩ := h; rfl) | (obtain ⟨_, _, _, _, _, _, _, _, _, _, _, _, _, _, _, _, rfl, _⟩ := h; rfl) | (obtain ⟨_, _, _, _, _, _, _, _, _, _, _, _, _, _, _, _, _, rfl, _⟩ := h; rfl) | (obtain ⟨_, _, _, _, _, _, _, _, _, _, _, _, _, _, _, _, _, _, rfl, _⟩ := h; rfl) | (obtain ⟨_, _, _, _, _, _, _, _, _, _, _, _, _, _, _, _, _, _, _, rfl, _⟩ := h; rfl) | (obtain ⟨_, _, _, _, _, _, _, _, _, _, _, _, _, _, _, _, _, _, _, _, rfl, _⟩ := h; rfl) | (obtain ⟨_, _, _, _, _, _, _, _, _, _, _, _, _, _, _, _, _, _, _, _, _, rfl, _⟩ := h; rfl) | (obtain ⟨_, _, _, _, _, _, _, _, _, _, _, _, _, _, _, _, _, _, _, _, _, _, rfl, _⟩ := h; rfl) | (obtain ⟨_, _, _, _, _, _, _, _, _, _, _, _, _, _, _, _, _, _, _, _, _, _, _, rfl, _⟩ := h; rfl) | (obtain ⟨_, _, _, _, _, _, _, _, _, _, _, _, _, _, _, _, _, _, _, _, _, _, _, _, rfl, _⟩ := h; rfl) | (obtain ⟨_, _, _, _, _, _, _, _, _, _, _, _, _, _, _, _, _, _, _, _, _, _, _, _, _, rfl, _⟩ := h; rfl)
theorem ok_Machine_init {f : Addr} {fd : FuncData} (F : Fun K "__init__" "Machine.__init__" s_Machine_init f fd) (B : Blt mg) (T : TxtM K) (cl_Machine : Cls K (clsAt K "Machine")) (m_Machine_enter : MethOk P w K mg base (clsAt K "Machine") "enter" PS_Machine_enter K_Machine_enter (sp_Machine_enter K)) (b_Run_init : BaseOk P w K mg base "Run" (clsAt K "Run") "__init__" PS_Run_init K_Run_init (sp_Run_init K)) : FnOk P w K mg base CX0 K_Machine_init f fd PS_Machine_init (sp_Machine_init K) :=
  F.ok sc_Machine_init (fun vs H Q E h => len_Machine_init h) fun cdv A outer s H vs Q E hr h => ⟨_, d_Machine_init B cl_Machine m_Machine_enter b_Run_init hr, r_Machine_init T (E := E) h⟩
theorem len_Run_said {vs : List V} {H : Hp} {Q : VK} {E : XK} (h : sp_Run_said K vs H Q E) : vs.length = PS_Run_said.length := by
  first | (obtain ⟨rfl, _⟩ := h; rfl) | (obtain ⟨_, rfl, _⟩ := h; rfl) | (obtain ⟨_, _, rfl, _⟩ := h; rfl) | (obtain ⟨_, _, _, rfl, _⟩ := h; rfl) | (obtain ⟨_, _, _, _, rfl, _⟩ := h; rfl) | (obtain ⟨_, _, _, _, _, rfl, _⟩ := h; rfl) | (obtain ⟨_, _, _, _, _, _, rfl, _⟩ := h; rfl) | (obtain ⟨_, _, _, _, _, _, _, rfl, _⟩ := h; rfl) | (obtain ⟨_, _, _, _, _, _, _, _, rfl, _⟩ := h; rfl) | (obtain ⟨_, _, _, _, _, _, _, _, _, rfl, _⟩ := h; rfl) | (obtain ⟨_, _, _, _, _, _, _, _, _, _, rfl, _⟩ := h; rfl) | (obtain ⟨_, _, _, _, _, _, _, _, _, _, _, rfl, _⟩ := h; rfl) | (obtain ⟨_, _, _, _, _, _, _, _, _, _, _, _, rfl, _⟩ := h; rfl) | (obtain ⟨_, _, _, _, _, _, _, _, _, _, _, _, _, rfl, _⟩ := h; rfl) | (obtain ⟨_, _, _, _, _, _, _, _, _, _, _, _, _, _, rfl, _⟩ := h; rfl) | (obtain ⟨_, _, _, _, _, _, _, _, _, _, _, _, _, _, _, rfl, _⟩ := h; rfl) | (obtain ⟨_, _, _, _, _, _, _, _, _, _, _, _, _, _, _, _, rfl, _⟩ := h; rfl) | (obtain ⟨_, _, _, _, _, _, _, _, _, _, _, _, _, _, _, _, _, rfl, _⟩ := h; rfl) | (obtain ⟨_, _, _, _, _, _, _, _, _, _, _, _, _, _, _, _, _, _, rfl, _⟩ := h; rfl) | (obtain ⟨_, _, _, _, _, _, _, _, _, _, _, _, _, _, _, _, _, _, _, rfl, _⟩ := h; rfl) | (obtain ⟨_, _, _, _, _, _, _, _, _, _, _, _, _, _, _, _, _, _, _, _, rfl, _⟩ := h; rfl) | (obtain ⟨_, _, _, _, _, _, _, _, _, _, _, _, _, _, _, _, _, _, _, _, _, rfl, _⟩ := h; rfl) | (obtain ⟨_, _, _, _, _, _, _, _, _, _, _, _, _, _, _, _, _, _, _, _, _, _, rfl, _⟩ := h; rfl) | (obtain ⟨_, _, _, _, _, _, _, _, _, _, _, _, _, _, _, _, _, _, _, _, _, _, _, rfl, _⟩ := h; rfl) | (obtain ⟨_, _, _, _, _, _, _, _, _, _, _, _, _, _, _, _, _, _, _, _, _, _, _, _, rfl, _⟩ := h; rfl) | (obtain ⟨_, _, _, _, _, _, _, _, _, _, _, _, _, _, _, _, _, _, _, _, _, _, _, _, _, rfl, _⟩ := h; rfl)
theorem ok_Run_said {f : Addr} {fd : FuncData} (F : Fun K "said" "Run.said" s_Run_said f fd) (B : Blt mg)  : FnOk P w K mg base CX0 K_Run_said f fd PS_Run_said (sp_Run_said K) :=
  F.ok sc_Run_said (fun vs H Q E h => len_Run_said h) fun cdv A outer s H vs Q E hr h => ⟨_, d_Run_said B hr, r_Run_said (E := E) h⟩
theorem len_Run_answer {vs : List V} {H : Hp} {Q : VK} {E : XK} (h : sp_Run_answer K vs H Q E) : vs.length = PS_Run_answer.length := by
  first | (obtain ⟨rfl, _⟩ := h; rfl) | (obtain ⟨_, rfl, _⟩ := h; rfl) | (obtain ⟨_, _, rfl, _⟩ := h; rfl) | (obtain ⟨_, _, _, rfl, _⟩ := h; rfl) | (obtain ⟨_, _, _, _, rfl, _⟩ := h; rfl) | (obtain ⟨_, _, _, _, _, rfl, _⟩ := h; rfl) | (obtain ⟨_, _, _, _, _, _, rfl, _⟩ := h; rfl) | (obtain ⟨_, _, _, _, _, _, _, rfl, _⟩ := h; rfl) | (obtain ⟨_, _, _, _, _, _, _, _, rfl, _⟩ := h; rfl) | (obtain ⟨_, _, _, _, _, _, _, _, _, rfl, _⟩ := h; rfl) | (obtain ⟨_, _, _, _, _, _, _, _, _, _, rfl, _⟩ := h; rfl) | (obtain ⟨_, _, _, _, _, _, _, _, _, _, _, rfl, _⟩ := h; rfl) | (obtain ⟨_, _, _, _, _, _, _, _, _, _, _, _, rfl, _⟩ := h; rfl) | (obtain ⟨_, _, _, _, _, _, _, _, _, _, _, _, _, rfl, _⟩ := h; rfl) | (obtain ⟨_, _, _, _, _, _, _, _, _, _, _, _, _, _, rfl, _⟩ := h; rfl) | (obtain ⟨_, _, _, _, _, _, _, _, _, _, _, _, _, _, _, rfl, _⟩ := h; rfl) | (obtain ⟨_, _, _, _, _, _, _, _, _, _, _, _, _, _, _, _, rfl, _⟩ := h; rfl) | (obtain ⟨_, _, _, _, _, _, _, _, _, _, _, _, _, _, _, _, _, rfl, _⟩ := h; rfl) | (obtain ⟨_, _, _, _, _, _, _, _, _, _, _, _, _, _, _, _, _, _, rfl, _⟩ := h; rfl) | (obtain ⟨_, _, _, _, _, _, _, _, _, _, _, _, _, _, _, _, _, _, _, rfl, _⟩ := h; rfl) | (obtain ⟨_, _, _, _, _, _, _, _, _, _, _, _, _, _, _, _, _, _, _, _, rfl, _⟩ := h; rfl) | (obtain ⟨_, _, _, _, _, _, _, _, _, _, _, _, _, _, _, _, _, _, _, _, _, rfl, _⟩ := h; rfl) | (obtain ⟨_, _, _, _, _, _, _, _, _, _, _, _, _, _, _, _, _, _, _, _, _, _, rfl, _⟩ := h; rfl) | (obtain ⟨_, _, _, _, _, _, _, _, _, _, _, _, _, _, _, _, _, _, _, _, _, _, _, rfl, _⟩ := h; rfl) | (obtain ⟨_, _, _, _, _, _, _, _, _, _, _, _, _, _, _, _, _, _, _, _, _, _, _, _, rfl, _⟩ := h; rfl) | (obtain ⟨_, _, _, _, _, _, _, _, _, _, _, _, _, _, _, _, _, _, _, _, _, _, _, _, _, rfl, _⟩ := h; rfl)
theorem ok_Run_answer {f : Addr} {fd : FuncData} (F : Fun K "answer" "Run.answer" s_Run_answer f fd) (B : Blt mg)  : FnOk P w K mg base CX0 K_Run_answer f fd PS_Run_answer (sp_Run_answer K) :=
  F.ok sc_Run_answer (fun vs H Q E h => len_Run_answer h) fun cdv A outer s H vs Q E hr h => ⟨_, d_Run_answer B hr, r_Run_answer (E := E) h⟩
theorem len_Run_ended {vs : List V} {H : Hp} {Q : VK} {E : XK} (h : sp_Run_ended K vs H Q E) : vs.length = PS_Run_ended.length := by
  first | (obtain ⟨rfl, _⟩ := h; rfl) | (obtain ⟨_, rfl, _⟩ := h; rfl) | (obtain ⟨_, _, rfl, _⟩ := h; rfl) | (obtain ⟨_, _, _, rfl, _⟩ := h; rfl) | (obtain ⟨_, _, _, _, rfl, _⟩ := h; rfl) | (obtain ⟨_, _, _, _, _, rfl, _⟩ := h; rfl) | (obtain ⟨_, _, _, _, _, _, rfl, _⟩ := h; rfl) | (obtain ⟨_, _, _, _, _, _, _, rfl, _⟩ := h; rfl) | (obtain ⟨_, _, _, _, _, _, _, _, rfl, _⟩ := h; rfl) | (obtain ⟨_, _, _, _, _, _, _, _, _, rfl, _⟩ := h; rfl) | (obtain ⟨_, _, _, _, _, _, _, _, _, _, rfl, _⟩ := h; rfl) | (obtain ⟨_, _, _, _, _, _, _, _, _, _, _, rfl, _⟩ := h; rfl) | (obtain ⟨_, _, _, _, _, _, _, _, _, _, _, _, rfl, _⟩ := h; rfl) | (obtain ⟨_, _, _, _, _, _, _, _, _, _, _, _, _, rfl, _⟩ := h; rfl) | (obtain ⟨_, _, _, _, _, _, _, _, _, _, _, _, _, _, rfl, _⟩ := h; rfl) | (obtain ⟨_, _, _, _, _, _, _, _, _, _, _, _, _, _, _, rfl, _⟩ := h; rfl) | (obtain ⟨_, _, _, _, _, _, _, _, _, _, _, _, _, _, _, _, rfl, _⟩ := h; rfl) | (obtain ⟨_, _, _, _, _, _, _, _, _, _, _, _, _, _, _, _, _, rfl, _⟩ := h; rfl) | (obtain ⟨_, _, _, _, _, _, _, _, _, _, _, _, _, _, _, _, _, _, rfl, _⟩ := h; rfl) | (obtain ⟨_, _, _, _, _, _, _, _, _, _, _, _, _, _, _, _, _, _, _, rfl, _⟩ := h; rfl) | (obtain ⟨_, _, _, _, _, _, _, _, _, _, _, _, _, _, _, _, _, _, _, _, rfl, _⟩ := h; rfl) | (obtain ⟨_, _, _, _, _, _, _, _, _, _, _, _, _, _, _, _, _, _, _, _, _, rfl, _⟩ := h; rfl) | (obtain ⟨_, _, _, _, _, _, _, _, _, _, _, _, _, _, _, _, _, _, _, _, _, _, rfl, _⟩ := h; rfl) | (obtain ⟨_, _, _, _, _, _, _, _, _, _, _, _, _, _, _, _, _, _, _, _, _, _, _, rfl, _⟩ := h; rfl) | (obtain ⟨_, _, _, _, _, _, _, _, _, _, _, _, _, _, _, _, _, _, _, _, _, _, _, _, rfl, _⟩ := h; rfl) | (obtain ⟨_, _, _, _, _, _, _, _, _, _, _, _, _, _, _, _, _, _, _, _, _, _, _, _, _, rfl, _⟩ := h; rfl)
theorem ok_Run_ended {f : Addr} {fd : FuncData} (F : Fun K "ended" "Run.ended" s_Run_ended f fd) (B : Blt mg)  : FnOk P w K mg base CX0 K_Run_ended f fd PS_Run_ended (sp_Run_ended K) :=
  F.ok sc_Run_ended (fun vs H Q E h => len_Run_ended h) fun cdv A outer s H vs Q E hr h => ⟨_, d_Run_ended B hr, r_Run_ended (E := E) h⟩
theorem len_Machine_leave {vs : List V} {H : Hp} {Q : VK} {E : XK} (h : sp_Machine_leave K vs H Q E) : vs.length = PS_Machine_leave.length := by
  first | (obtain ⟨rfl, _⟩ := h; rfl) | (obtain ⟨_, rfl, _⟩ := h; rfl) | (obtain ⟨_, _, rfl, _⟩ := h; rfl) | (obtain ⟨_, _, _, rfl, _⟩ := h; rfl) | (obtain ⟨_, _, _, _, rfl, _⟩ := h; rfl) | (obtain ⟨_, _, _, _, _, rfl, _⟩ := h; rfl) | (obtain ⟨_, _, _, _, _, _, rfl, _⟩ := h; rfl) | (obtain ⟨_, _, _, _, _, _, _, rfl, _⟩ := h; rfl) | (obtain ⟨_, _, _, _, _, _, _, _, rfl, _⟩ := h; rfl) | (obtain ⟨_, _, _, _, _, _, _, _, _, rfl, _⟩ := h; rfl) | (obtain ⟨_, _, _, _, _, _, _, _, _, _, rfl, _⟩ := h; rfl) | (obtain ⟨_, _, _, _, _, _, _, _, _, _, _, rfl, _⟩ := h; rfl) | (obtain ⟨_, _, _, _, _, _, _, _, _, _, _, _, rfl, _⟩ := h; rfl) | (obtain ⟨_, _, _, _, _, _, _, _, _, _, _, _, _, rfl, _⟩ := h; rfl) | (obtain ⟨_, _, _, _, _, _, _, _, _, _, _, _, _, _, rfl, _⟩ := h; rfl) | (obtain ⟨_, _, _, _, _, _, _, _, _, _, _, _, _, _, _, rfl, _⟩ := h; rfl) | (obtain ⟨_, _, _, _, _, _, _, _, _, _, _, _, _, _, _, _, rfl, _⟩ := h; rfl) | (obtain ⟨_, _, _, _, _, _, _, _, _, _, _, _, _, _, _, _, _, rfl, _⟩ := h; rfl) | (obtain ⟨_, _, _, _, _, _, _, _, _, _, _, _, _, _, _, _, _, _, rfl, _⟩ := h; rfl) | (obtain ⟨_, _, _, _, _, _, _, _, _, _, _, _, _, _, _, _, _, _, _, rfl, _⟩ := h; rfl) | (obtain ⟨_, _, _, _, _, _, _, _, _, _, _, _, _, _, _, _, _, _, _, _, rfl, _⟩ := h; rfl) | (obtain ⟨_, _, _, _, _, _, _, _, _, _, _, _, _, _, _, _, _, _, _, _, _, rfl, _⟩ := h; rfl) | (obtain ⟨_, _, _, _, _, _, _, _, _, _, _, _, _, _, _, _, _, _, _, _, _, _, rfl, _⟩ := h; rfl) | (obtain ⟨_, _, _, _, _, _, _, _, _, _, _, _, _, _, _, _, _, _, _, _, _, _, _, rfl, _⟩ := h; rfl) | (obtain ⟨_, _, _, _, _, _, _, _, _, _, _, _, _, _, _, _, _, _, _, _, _, _, _, _, rfl, _⟩ := h; rfl) | (obtain ⟨_, _, _, _, _, _, _, _, _, _, _, _, _, _, _, _, _, _, _, _, _, _, _, _, _, rfl, _⟩ := h; rfl)
theorem ok_Machine_leave {f : Addr} {fd : FuncData} (F : Fun K "leave" "Machine.leave" s_Machine_leave f fd) (B : Blt mg) (T : TxtM K) (cl_Machine : Cls K (clsAt K "Machine")) (m_Machine_ended : MethOk P w K mg base (clsAt K "Machine") "ended" PS_Run_ended K_Run_ended (sp_Run_ended K)) (m_Machine_go_on : MethOk P w K mg base (clsAt K "Machine") "go_on" PS_Machine_go_on K_Machine_go_on (sp_Machine_go_on K)) (c_p_pushed : Callee P w K mg base "pushed" PS_p_pushed K_p_pushed (sp_p_pushed K)) : FnOk P w K mg base CX0 K_Machine_leave f fd PS_Machine_leave (sp_Machine_leave K) :=
  F.ok sc_Machine_leave (fun vs H Q E h => len_Machine_leave h) fun cdv A outer s H vs Q E hr h => ⟨_, d_Machine_leave B cl_Machine m_Machine_ended m_Machine_go_on c_p_pushed hr, r_Machine_leave T (E := E) h⟩
theorem len_p_unbounded {vs : List V} {H : Hp} {Q : VK} {E : XK} (h : sp_p_unbounded K vs H Q E) : vs.length = PS_p_unbounded.length := by
  first | (obtain ⟨rfl, _⟩ := h; rfl) | (obtain ⟨_, rfl, _⟩ := h; rfl) | (obtain ⟨_, _, rfl, _⟩ := h; rfl) | (obtain ⟨_, _, _, rfl, _⟩ := h; rfl) | (obtain ⟨_, _, _, _, rfl, _⟩ := h; rfl) | (obtain ⟨_, _, _, _, _, rfl, _⟩ := h; rfl) | (obtain ⟨_, _, _, _, _, _, rfl, _⟩ := h; rfl) | (obtain ⟨_, _, _, _, _, _, _, rfl, _⟩ := h; rfl) | (obtain ⟨_, _, _, _, _, _, _, _, rfl, _⟩ := h; rfl) | (obtain ⟨_, _, _, _, _, _, _, _, _, rfl, _⟩ := h; rfl) | (obtain ⟨_, _, _, _, _, _, _, _, _, _, rfl, _⟩ := h; rfl) | (obtain ⟨_, _, _, _, _, _, _, _, _, _, _, rfl, _⟩ := h; rfl) | (obtain ⟨_, _, _, _, _, _, _, _, _, _, _, _, rfl, _⟩ := h; rfl) | (obtain ⟨_, _, _, _, _, _, _, _, _, _, _, _, _, rfl, _⟩ := h; rfl) | (obtain ⟨_, _, _, _, _, _, _, _, _, _, _, _, _, _, rfl, _⟩ := h; rfl) | (obtain ⟨_, _, _, _, _, _, _, _, _, _, _, _, _, _, _, rfl, _⟩ := h; rfl) | (obtain ⟨_, _, _, _, _, _, _, _, _, _, _, _, _, _, _, _, rfl, _⟩ := h; rfl) | (obtain ⟨_, _, _, _, _, _, _, _, _, _, _, _, _, _, _, _, _, rfl, _⟩ := h; rfl) | (obtain ⟨_, _, _, _, _, _, _, _, _, _, _, _, _, _, _, _, _, _, rfl, _⟩ := h; rfl) | (obtain ⟨_, _, _, _, _, _, _, _, _, _, _, _, _, _, _, _, _, _, _, rfl, _⟩ := h; rfl) | (obtain ⟨_, _, _, _, _, _, _, _, _, _, _, _, _, _, _, _, _, _, _, _, rfl, _⟩ := h; rfl) | (obtain ⟨_, _, _, _, _, _, _, _, _, _, _, _, _, _, _, _, _, _, _, _, _, rfl, _⟩ := h; rfl) | (obtain ⟨_, _, _, _, _, _, _, _, _, _, _, _, _, _, _, _, _, _, _, _, _, _, rfl, _⟩ := h; rfl) | (obtain ⟨_, _, _, _, _, _, _, _, _, _, _, _, _, _, _, _, _, _, _, _, _, _, _, rfl, _⟩ := h; rfl) | (obtain ⟨_, _, _, _, _, _, _, _, _, _, _, _, _, _, _, _, _, _, _, _, _, _, _, _, rfl, _⟩ := h; rfl) | (obtain ⟨_, _, _, _, _, _, _, _, _, _, _, _, _, _, _, _, _, _, _, _, _, _, _, _, _, rfl, _⟩ := h; rfl)
theorem ok_p_unbounded {f : Addr} {fd : FuncData} (F : Fun K "unbounded" "unbounded" s_p_unbounded f fd) (B : Blt mg)  : FnOk P w K mg base CX0 K_p_unbounded f fd PS_p_unbounded (sp_p_unbounded K) :=
  F.ok sc_p_unbounded (fun vs H Q E h => len_p_unbounded h) fun cdv A outer s H vs Q E hr h => ⟨_, d_p_unbounded B hr, r_p_unbounded (E := E) h⟩
theorem len_p_worth {vs : List V} {H : Hp} {Q : VK} {E : XK} (h : sp_p_worth K vs H Q E) : vs.length = PS_p_worth.length := by
  first | (obtain ⟨rfl, _⟩ := h; rfl) | (obtain ⟨_, rfl, _⟩ := h; rfl) | (obtain ⟨_, _, rfl, _⟩ := h; rfl) | (obtain ⟨_, _, _, rfl, _⟩ := h; rfl) | (obtain ⟨_, _, _, _, rfl, _⟩ := h; rfl) | (obtain ⟨_, _, _, _, _, rfl, _⟩ := h; rfl) | (obtain ⟨_, _, _, _, _, _, rfl, _⟩ := h; rfl) | (obtain ⟨_, _, _, _, _, _, _, rfl, _⟩ := h; rfl) | (obtain ⟨_, _, _, _, _, _, _, _, rfl, _⟩ := h; rfl) | (obtain ⟨_, _, _, _, _, _, _, _, _, rfl, _⟩ := h; rfl) | (obtain ⟨_, _, _, _, _, _, _, _, _, _, rfl, _⟩ := h; rfl) | (obtain ⟨_, _, _, _, _, _, _, _, _, _, _, rfl, _⟩ := h; rfl) | (obtain ⟨_, _, _, _, _, _, _, _, _, _, _, _, rfl, _⟩ := h; rfl) | (obtain ⟨_, _, _, _, _, _, _, _, _, _, _, _, _, rfl, _⟩ := h; rfl) | (obtain ⟨_, _, _, _, _, _, _, _, _, _, _, _, _, _, rfl, _⟩ := h; rfl) | (obtain ⟨_, _, _, _, _, _, _, _, _, _, _, _, _, _, _, rfl, _⟩ := h; rfl) | (obtain ⟨_, _, _, _, _, _, _, _, _, _, _, _, _, _, _, _, rfl, _⟩ := h; rfl) | (obtain ⟨_, _, _, _, _, _, _, _, _, _, _, _, _, _, _, _, _, rfl, _⟩ := h; rfl) | (obtain ⟨_, _, _, _, _, _, _, _, _, _, _, _, _, _, _, _, _, _, rfl, _⟩ := h; rfl) | (obtain ⟨_, _, _, _, _, _, _, _, _, _, _, _, _, _, _, _, _, _, _, rfl, _⟩ := h; rfl) | (obtain ⟨_, _, _, _, _, _, _, _, _, _, _, _, _, _, _, _, _, _, _, _, rfl, _⟩ := h; rfl) | (obtain ⟨_, _, _, _, _, _, _, _, _, _, _, _, _, _, _, _, _, _, _, _, _, rfl, _⟩ := h; rfl) | (obtain ⟨_, _, _, _, _, _, _, _, _, _, _, _, _, _, _, _, _, _, _, _, _, _, rfl, _⟩ := h; rfl) | (obtain ⟨_, _, _, _, _, _, _, _, _, _, _, _, _, _, _, _, _, _, _, _, _, _, _, rfl, _⟩ := h; rfl) | (obtain ⟨_, _, _, _, _, _, _, _, _, _, _, _, _, _, _, _, _, _, _, _, _, _, _, _, rfl, _⟩ := h; rfl) | (obtain ⟨_, _, _, _, _, _, _, _, _, _, _, _, _, _, _, _, _, _, _, _, _, _, _, _, _, rfl, _⟩ := h; rfl)
theorem ok_p_worth {f : Addr} {fd : FuncData} (F : Fun K "worth" "worth" s_p_worth f fd) (B : Blt mg) (c_p_unbounded : Callee P w K mg base "unbounded" PS_p_unbounded K_p_unbounded (sp_p_unbounded K)) : FnOk P w K mg base CX0 K_p_worth f fd PS_p_worth (sp_p_worth K) :=
  F.ok sc_p_worth (fun vs H Q E h => len_p_worth h) fun cdv A outer s H vs Q E hr h => ⟨_, d_p_worth B c_p_unbounded hr, r_p_worth (E := E) h⟩
theorem len_Machine_work {vs : List V} {H : Hp} {Q : VK} {E : XK} (h : sp_Machine_work K vs H Q E) : vs.length = PS_Machine_work.length := by
  first | (obtain ⟨rfl, _⟩ := h; rfl) | (obtain ⟨_, rfl, _⟩ := h; rfl) | (obtain ⟨_, _, rfl, _⟩ := h; rfl) | (obtain ⟨_, _, _, rfl, _⟩ := h; rfl) | (obtain ⟨_, _, _, _, rfl, _⟩ := h; rfl) | (obtain ⟨_, _, _, _, _, rfl, _⟩ := h; rfl) | (obtain ⟨_, _, _, _, _, _, rfl, _⟩ := h; rfl) | (obtain ⟨_, _, _, _, _, _, _, rfl, _⟩ := h; rfl) | (obtain ⟨_, _, _, _, _, _, _, _, rfl, _⟩ := h; rfl) | (obtain ⟨_, _, _, _, _, _, _, _, _, rfl, _⟩ := h; rfl) | (obtain ⟨_, _, _, _, _, _, _, _, _, _, rfl, _⟩ := h; rfl) | (obtain ⟨_, _, _, _, _, _, _, _, _, _, _, rfl, _⟩ := h; rfl) | (obtain ⟨_, _, _, _, _, _, _, _, _, _, _, _, rfl, _⟩ := h; rfl) | (obtain ⟨_, _, _, _, _, _, _, _, _, _, _, _, _, rfl, _⟩ := h; rfl) | (obtain ⟨_, _, _, _, _, _, _, _, _, _, _, _, _, _, rfl, _⟩ := h; rfl) | (obtain ⟨_, _, _, _, _, _, _, _, _, _, _, _, _, _, _, rfl, _⟩ := h; rfl) | (obtain ⟨_, _, _, _, _, _, _, _, _, _, _, _, _, _, _, _, rfl, _⟩ := h; rfl) | (obtain ⟨_, _, _, _, _, _, _, _, _, _, _, _, _, _, _, _, _, rfl, _⟩ := h; rfl) | (obtain ⟨_, _, _, _, _, _, _, _, _, _, _, _, _, _, _, _, _, _, rfl, _⟩ := h; rfl) | (obtain ⟨_, _, _, _, _, _, _, _, _, _, _, _, _, _, _, _, _, _, _, rfl, _⟩ := h; rfl) | (obtain ⟨_, _, _, _, _, _, _, _, _, _, _, _, _, _, _, _, _, _, _, _, rfl, _⟩ := h; rfl) | (obtain ⟨_, _, _, _, _, _, _, _, _, _, _, _, _, _, _, _, _, _, _, _, _, rfl, _⟩ := h; rfl) | (obtain ⟨_, _, _, _, _, _, _, _, _, _, _, _, _, _, _, _, _, _, _, _, _, _, rfl, _⟩ := h; rfl) | (obtain ⟨_, _, _, _, _, _, _, _, _, _, _, _, _, _, _, _, _, _, _, _, _, _, _, rfl, _⟩ := h; rfl) | (obtain ⟨_, _, _, _, _, _, _, _, _, _, _, _, _, _, _, _, _, _, _, _, _, _, _, _, rfl, _⟩ := h; rfl) | (obtain ⟨_, _, _, _, _, _, _, _, _, _, _, _, _, _, _, _, _, _, _, _, _, _, _, _, _, rfl, _⟩ := h; rfl)
theorem ok_Machine_work {f : Addr} {fd : FuncData} (F : Fun K "work" "Machine.work" s_Machine_work f fd) (B : Blt mg) (T : TxtM K) (cl_Machine : Cls K (clsAt K "Machine")) (m_Machine_go_on : MethOk P w K mg base (clsAt K "Machine") "go_on" PS_Machine_go_on K_Machine_go_on (sp_Machine_go_on K)) (c_p_pushed : Callee P w K mg base "pushed" PS_p_pushed K_p_pushed (sp_p_pushed K)) (c_p_worth : Callee P w K mg base "worth" PS_p_worth K_p_worth (sp_p_worth K)) (c_c_goal : Callee P w K mg base "goal" PS_c_goal K_c_goal (sp_c_goal K)) : FnOk P w K mg base CX0 K_Machine_work f fd PS_Machine_work (sp_Machine_work K) :=
  F.ok sc_Machine_work (fun vs H Q E h => len_Machine_work h) fun cdv A outer s H vs Q E hr h => ⟨_, d_Machine_work B cl_Machine m_Machine_go_on c_p_pushed c_p_worth c_c_goal hr, r_Machine_work T (E := E) h⟩
theorem len_Machine_step {vs : List V} {H : Hp} {Q : VK} {E : XK} (h : sp_Machine_step K vs H Q E) : vs.length = PS_Machine_step.length := by
  first | (obtain ⟨rfl, _⟩ := h; rfl) | (obtain ⟨_, rfl, _⟩ := h; rfl) | (obtain ⟨_, _, rfl, _⟩ := h; rfl) | (obtain ⟨_, _, _, rfl, _⟩ := h; rfl) | (obtain ⟨_, _, _, _, rfl, _⟩ := h; rfl) | (obtain ⟨_, _, _, _, _, rfl, _⟩ := h; rfl) | (obtain ⟨_, _, _, _, _, _, rfl, _⟩ := h; rfl) | (obtain ⟨_, _, _, _, _, _, _, rfl, _⟩ := h; rfl) | (obtain ⟨_, _, _, _, _, _, _, _, rfl, _⟩ := h; rfl) | (obtain ⟨_, _, _, _, _, _, _, _, _, rfl, _⟩ := h; rfl) | (obtain ⟨_, _, _, _, _, _, _, _, _, _, rfl, _⟩ := h; rfl) | (obtain ⟨_, _, _, _, _, _, _, _, _, _, _, rfl, _⟩ := h; rfl) | (obtain ⟨_, _, _, _, _, _, _, _, _, _, _, _, rfl, _⟩ := h; rfl) | (obtain ⟨_, _, _, _, _, _, _, _, _, _, _, _, _, rfl, _⟩ := h; rfl) | (obtain ⟨_, _, _, _, _, _, _, _, _, _, _, _, _, _, rfl, _⟩ := h; rfl) | (obtain ⟨_, _, _, _, _, _, _, _, _, _, _, _, _, _, _, rfl, _⟩ := h; rfl) | (obtain ⟨_, _, _, _, _, _, _, _, _, _, _, _, _, _, _, _, rfl, _⟩ := h; rfl) | (obtain ⟨_, _, _, _, _, _, _, _, _, _, _, _, _, _, _, _, _, rfl, _⟩ := h; rfl) | (obtain ⟨_, _, _, _, _, _, _, _, _, _, _, _, _, _, _, _, _, _, rfl, _⟩ := h; rfl) | (obtain ⟨_, _, _, _, _, _, _, _, _, _, _, _, _, _, _, _, _, _, _, rfl, _⟩ := h; rfl) | (obtain ⟨_, _, _, _, _, _, _, _, _, _, _, _, _, _, _, _, _, _, _, _, rfl, _⟩ := h; rfl) | (obtain ⟨_, _, _, _, _, _, _, _, _, _, _, _, _, _, _, _, _, _, _, _, _, rfl, _⟩ := h; rfl) | (obtain ⟨_, _, _, _, _, _, _, _, _, _, _, _, _, _, _, _, _, _, _, _, _, _, rfl, _⟩ := h; rfl) | (obtain ⟨_, _, _, _, _, _, _, _, _, _, _, _, _, _, _, _, _, _, _, _, _, _, _, rfl, _⟩ := h; rfl) | (obtain ⟨_, _, _, _, _, _, _, _, _, _, _, _, _, _, _, _, _, _, _, _, _, _, _, _, rfl, _⟩ := h; rfl) | (obtain ⟨_, _, _, _, _, _, _, _, _, _, _, _, _, _, _, _, _, _, _, _, _, _, _, _, _, rfl, _⟩ := h; rfl)
theorem ok_Machine_step {f : Addr} {fd : FuncData} (F : Fun K "step" "Machine.step" s_Machine_step f fd) (B : Blt mg) (T : TxtM K) (cl_Machine : Cls K (clsAt K "Machine")) (m_Machine_enter : MethOk P w K mg base (clsAt K "Machine") "enter" PS_Machine_enter K_Machine_enter (sp_Machine_enter K)) (m_Machine_leave : MethOk P w K mg base (clsAt K "Machine") "leave" PS_Machine_leave K_Machine_leave (sp_Machine_leave K)) (m_Machine_work : MethOk P w K mg base (clsAt K "Machine") "work" PS_Machine_work K_Machine_work (sp_Machine_work K)) (m_Machine_ended : MethOk P w K mg base (clsAt K "Machine") "ended" PS_Run_ended K_Run_ended (sp_Run_ended K)) (c_p_places_read : Callee P w K mg base "places_read" PS_p_places_read K_p_places_read (sp_p_places_read K)) : FnOk P w K mg base CX0 K_Machine_step f fd PS_Machine_step (sp_Machine_step K) :=
  F.ok sc_Machine_step (fun vs H Q E h => len_Machine_step h) fun cdv A outer s H vs Q E hr h => ⟨_, d_Machine_step B cl_Machine m_Machine_enter m_Machine_leave m_Machine_work m_Machine_ended c_p_places_read hr, r_Machine_step T (E := E) h⟩
theorem len_p_stepped {vs : List V} {H : Hp} {Q : VK} {E : XK} (h : sp_p_stepped K vs H Q E) : vs.length = PS_p_stepped.length := by
  first | (obtain ⟨rfl, _⟩ := h; rfl) | (obtain ⟨_, rfl, _⟩ := h; rfl) | (obtain ⟨_, _, rfl, _⟩ := h; rfl) | (obtain ⟨_, _, _, rfl, _⟩ := h; rfl) | (obtain ⟨_, _, _, _, rfl, _⟩ := h; rfl) | (obtain ⟨_, _, _, _, _, rfl, _⟩ := h; rfl) | (obtain ⟨_, _, _, _, _, _, rfl, _⟩ := h; rfl) | (obtain ⟨_, _, _, _, _, _, _, rfl, _⟩ := h; rfl) | (obtain ⟨_, _, _, _, _, _, _, _, rfl, _⟩ := h; rfl) | (obtain ⟨_, _, _, _, _, _, _, _, _, rfl, _⟩ := h; rfl) | (obtain ⟨_, _, _, _, _, _, _, _, _, _, rfl, _⟩ := h; rfl) | (obtain ⟨_, _, _, _, _, _, _, _, _, _, _, rfl, _⟩ := h; rfl) | (obtain ⟨_, _, _, _, _, _, _, _, _, _, _, _, rfl, _⟩ := h; rfl) | (obtain ⟨_, _, _, _, _, _, _, _, _, _, _, _, _, rfl, _⟩ := h; rfl) | (obtain ⟨_, _, _, _, _, _, _, _, _, _, _, _, _, _, rfl, _⟩ := h; rfl) | (obtain ⟨_, _, _, _, _, _, _, _, _, _, _, _, _, _, _, rfl, _⟩ := h; rfl) | (obtain ⟨_, _, _, _, _, _, _, _, _, _, _, _, _, _, _, _, rfl, _⟩ := h; rfl) | (obtain ⟨_, _, _, _, _, _, _, _, _, _, _, _, _, _, _, _, _, rfl, _⟩ := h; rfl) | (obtain ⟨_, _, _, _, _, _, _, _, _, _, _, _, _, _, _, _, _, _, rfl, _⟩ := h; rfl) | (obtain ⟨_, _, _, _, _, _, _, _, _, _, _, _, _, _, _, _, _, _, _, rfl, _⟩ := h; rfl) | (obtain ⟨_, _, _, _, _, _, _, _, _, _, _, _, _, _, _, _, _, _, _, _, rfl, _⟩ := h; rfl) | (obtain ⟨_, _, _, _, _, _, _, _, _, _, _, _, _, _, _, _, _, _, _, _, _, rfl, _⟩ := h; rfl) | (obtain ⟨_, _, _, _, _, _, _, _, _, _, _, _, _, _, _, _, _, _, _, _, _, _, rfl, _⟩ := h; rfl) | (obtain ⟨_, _, _, _, _, _, _, _, _, _, _, _, _, _, _, _, _, _, _, _, _, _, _, rfl, _⟩ := h; rfl) | (obtain ⟨_, _, _, _, _, _, _, _, _, _, _, _, _, _, _, _, _, _, _, _, _, _, _, _, rfl, _⟩ := h; rfl) | (obtain ⟨_, _, _, _, _, _, _, _, _, _, _, _, _, _, _, _, _, _, _, _, _, _, _, _, _, rfl, _⟩ := h; rfl)
theorem ok_p_stepped {f : Addr} {fd : FuncData} (F : Fun K "stepped" "stepped" s_p_stepped f fd) (B : Blt mg) (T : TxtM K) (cl_Machine : Cls K (clsAt K "Machine")) (m_Machine_said : MethOk P w K mg base (clsAt K "Machine") "said" PS_Run_said K_Run_said (sp_Run_said K)) (m_Machine_answer : MethOk P w K mg base (clsAt K "Machine") "answer" PS_Run_answer K_Run_answer (sp_Run_answer K)) (m_Machine_ended : MethOk P w K mg base (clsAt K "Machine") "ended" PS_Run_ended K_Run_ended (sp_Run_ended K)) (m_Machine_step : MethOk P w K mg base (clsAt K "Machine") "step" PS_Machine_step K_Machine_step (sp_Machine_step K)) : FnOk P w K mg base CX0 K_p_stepped f fd PS_p_stepped (sp_p_stepped K) :=
  F.ok sc_p_stepped (fun vs H Q E h => len_p_stepped h) fun cdv A outer s H vs Q E hr h => ⟨_, d_p_stepped B cl_Machine m_Machine_said m_Machine_answer m_Machine_ended m_Machine_step hr, r_p_stepped T (E := E) h⟩
theorem len_p_run_belt {vs : List V} {H : Hp} {Q : VK} {E : XK} (h : sp_p_run_belt K vs H Q E) : vs.length = PS_p_run_belt.length := by
  first | (obtain ⟨rfl, _⟩ := h; rfl) | (obtain ⟨_, rfl, _⟩ := h; rfl) | (obtain ⟨_, _, rfl, _⟩ := h; rfl) | (obtain ⟨_, _, _, rfl, _⟩ := h; rfl) | (obtain ⟨_, _, _, _, rfl, _⟩ := h; rfl) | (obtain ⟨_, _, _, _, _, rfl, _⟩ := h; rfl) | (obtain ⟨_, _, _, _, _, _, rfl, _⟩ := h; rfl) | (obtain ⟨_, _, _, _, _, _, _, rfl, _⟩ := h; rfl) | (obtain ⟨_, _, _, _, _, _, _, _, rfl, _⟩ := h; rfl) | (obtain ⟨_, _, _, _, _, _, _, _, _, rfl, _⟩ := h; rfl) | (obtain ⟨_, _, _, _, _, _, _, _, _, _, rfl, _⟩ := h; rfl) | (obtain ⟨_, _, _, _, _, _, _, _, _, _, _, rfl, _⟩ := h; rfl) | (obtain ⟨_, _, _, _, _, _, _, _, _, _, _, _, rfl, _⟩ := h; rfl) | (obtain ⟨_, _, _, _, _, _, _, _, _, _, _, _, _, rfl, _⟩ := h; rfl) | (obtain ⟨_, _, _, _, _, _, _, _, _, _, _, _, _, _, rfl, _⟩ := h; rfl) | (obtain ⟨_, _, _, _, _, _, _, _, _, _, _, _, _, _, _, rfl, _⟩ := h; rfl) | (obtain ⟨_, _, _, _, _, _, _, _, _, _, _, _, _, _, _, _, rfl, _⟩ := h; rfl) | (obtain ⟨_, _, _, _, _, _, _, _, _, _, _, _, _, _, _, _, _, rfl, _⟩ := h; rfl) | (obtain ⟨_, _, _, _, _, _, _, _, _, _, _, _, _, _, _, _, _, _, rfl, _⟩ := h; rfl) | (obtain ⟨_, _, _, _, _, _, _, _, _, _, _, _, _, _, _, _, _, _, _, rfl, _⟩ := h; rfl) | (obtain ⟨_, _, _, _, _, _, _, _, _, _, _, _, _, _, _, _, _, _, _, _, rfl, _⟩ := h; rfl) | (obtain ⟨_, _, _, _, _, _, _, _, _, _, _, _, _, _, _, _, _, _, _, _, _, rfl, _⟩ := h; rfl) | (obtain ⟨_, _, _, _, _, _, _, _, _, _, _, _, _, _, _, _, _, _, _, _, _, _, rfl, _⟩ := h; rfl) | (obtain ⟨_, _, _, _, _, _, _, _, _, _, _, _, _, _, _, _, _, _, _, _, _, _, _, rfl, _⟩ := h; rfl) | (obtain ⟨_, _, _, _, _, _, _, _, _, _, _, _, _, _, _, _, _, _, _, _, _, _, _, _, rfl, _⟩ := h; rfl) | (obtain ⟨_, _, _, _, _, _, _, _, _, _, _, _, _, _, _, _, _, _, _, _, _, _, _, _, _, rfl, _⟩ := h; rfl)
theorem ok_p_run_belt {f : Addr} {fd : FuncData} {dV : Value} (F : FunD K "run_belt" "run_belt" s_p_run_belt dV f fd) (B : Blt mg) (T : TxtM K) (mk_Machine : MakeOk P w K mg base "Machine" (clsAt K "Machine") PS_Machine_init K_Machine_init (sp_Machine_init K)) (c_p_stepped : Callee P w K mg base "stepped" PS_p_stepped K_p_stepped (sp_p_stepped K)) : FnOk P w K mg base CX0 K_p_run_belt f fd PS_p_run_belt (sp_p_run_belt K) :=
  F.ok sc_p_run_belt (fun vs H Q E h => len_p_run_belt h) fun cdv A outer s H vs Q E hr h => ⟨_, d_p_run_belt B mk_Machine c_p_stepped hr, r_p_run_belt T (E := E) h⟩
theorem len_Machine_frames {vs : List V} {H : Hp} {Q : VK} {E : XK} (h : sp_Machine_frames K vs H Q E) : vs.length = PS_Machine_frames.length := by
  first | (obtain ⟨rfl, _⟩ := h; rfl) | (obtain ⟨_, rfl, _⟩ := h; rfl) | (obtain ⟨_, _, rfl, _⟩ := h; rfl) | (obtain ⟨_, _, _, rfl, _⟩ := h; rfl) | (obtain ⟨_, _, _, _, rfl, _⟩ := h; rfl) | (obtain ⟨_, _, _, _, _, rfl, _⟩ := h; rfl) | (obtain ⟨_, _, _, _, _, _, rfl, _⟩ := h; rfl) | (obtain ⟨_, _, _, _, _, _, _, rfl, _⟩ := h; rfl) | (obtain ⟨_, _, _, _, _, _, _, _, rfl, _⟩ := h; rfl) | (obtain ⟨_, _, _, _, _, _, _, _, _, rfl, _⟩ := h; rfl) | (obtain ⟨_, _, _, _, _, _, _, _, _, _, rfl, _⟩ := h; rfl) | (obtain ⟨_, _, _, _, _, _, _, _, _, _, _, rfl, _⟩ := h; rfl) | (obtain ⟨_, _, _, _, _, _, _, _, _, _, _, _, rfl, _⟩ := h; rfl) | (obtain ⟨_, _, _, _, _, _, _, _, _, _, _, _, _, rfl, _⟩ := h; rfl) | (obtain ⟨_, _, _, _, _, _, _, _, _, _, _, _, _, _, rfl, _⟩ := h; rfl) | (obtain ⟨_, _, _, _, _, _, _, _, _, _, _, _, _, _, _, rfl, _⟩ := h; rfl) | (obtain ⟨_, _, _, _, _, _, _, _, _, _, _, _, _, _, _, _, rfl, _⟩ := h; rfl) | (obtain ⟨_, _, _, _, _, _, _, _, _, _, _, _, _, _, _, _, _, rfl, _⟩ := h; rfl) | (obtain ⟨_, _, _, _, _, _, _, _, _, _, _, _, _, _, _, _, _, _, rfl, _⟩ := h; rfl) | (obtain ⟨_, _, _, _, _, _, _, _, _, _, _, _, _, _, _, _, _, _, _, rfl, _⟩ := h; rfl) | (obtain ⟨_, _, _, _, _, _, _, _, _, _, _, _, _, _, _, _, _, _, _, _, rfl, _⟩ := h; rfl) | (obtain ⟨_, _, _, _, _, _, _, _, _, _, _, _, _, _, _, _, _, _, _, _, _, rfl, _⟩ := h; rfl) | (obtain ⟨_, _, _, _, _, _, _, _, _, _, _, _, _, _, _, _, _, _, _, _, _, _, rfl, _⟩ := h; rfl) | (obtain ⟨_, _, _, _, _, _, _, _, _, _, _, _, _, _, _, _, _, _, _, _, _, _, _, rfl, _⟩ := h; rfl) | (obtain ⟨_, _, _, _, _, _, _, _, _, _, _, _, _, _, _, _, _, _, _, _, _, _, _, _, rfl, _⟩ := h; rfl) | (obtain ⟨_, _, _, _, _, _, _, _, _, _, _, _, _, _, _, _, _, _, _, _, _, _, _, _, _, rfl, _⟩ := h; rfl)
theorem ok_Machine_frames {f : Addr} {fd : FuncData} (F : Fun K "frames" "Machine.frames" s_Machine_frames f fd) (B : Blt mg) (T : TxtM K)  : FnOk P w K mg base CX0 K_Machine_frames f fd PS_Machine_frames (sp_Machine_frames K) :=
  F.ok sc_Machine_frames (fun vs H Q E h => len_Machine_frames h) fun cdv A outer s H vs Q E hr h => ⟨_, d_Machine_frames B hr, r_Machine_frames T (E := E) h⟩
theorem len_due {vs : List V} {H : Hp} {Q : VK} {E : XK} (h : sp_due K vs H Q E) : vs.length = PS_due.length := by
  first | (obtain ⟨rfl, _⟩ := h; rfl) | (obtain ⟨_, rfl, _⟩ := h; rfl) | (obtain ⟨_, _, rfl, _⟩ := h; rfl) | (obtain ⟨_, _, _, rfl, _⟩ := h; rfl) | (obtain ⟨_, _, _, _, rfl, _⟩ := h; rfl) | (obtain ⟨_, _, _, _, _, rfl, _⟩ := h; rfl) | (obtain ⟨_, _, _, _, _, _, rfl, _⟩ := h; rfl) | (obtain ⟨_, _, _, _, _, _, _, rfl, _⟩ := h; rfl) | (obtain ⟨_, _, _, _, _, _, _, _, rfl, _⟩ := h; rfl) | (obtain ⟨_, _, _, _, _, _, _, _, _, rfl, _⟩ := h; rfl) | (obtain ⟨_, _, _, _, _, _, _, _, _, _, rfl, _⟩ := h; rfl) | (obtain ⟨_, _, _, _, _, _, _, _, _, _, _, rfl, _⟩ := h; rfl) | (obtain ⟨_, _, _, _, _, _, _, _, _, _, _, _, rfl, _⟩ := h; rfl) | (obtain ⟨_, _, _, _, _, _, _, _, _, _, _, _, _, rfl, _⟩ := h; rfl) | (obtain ⟨_, _, _, _, _, _, _, _, _, _, _, _, _, _, rfl, _⟩ := h; rfl) | (obtain ⟨_, _, _, _, _, _, _, _, _, _, _, _, _, _, _, rfl, _⟩ := h; rfl) | (obtain ⟨_, _, _, _, _, _, _, _, _, _, _, _, _, _, _, _, rfl, _⟩ := h; rfl) | (obtain ⟨_, _, _, _, _, _, _, _, _, _, _, _, _, _, _, _, _, rfl, _⟩ := h; rfl) | (obtain ⟨_, _, _, _, _, _, _, _, _, _, _, _, _, _, _, _, _, _, rfl, _⟩ := h; rfl) | (obtain ⟨_, _, _, _, _, _, _, _, _, _, _, _, _, _, _, _, _, _, _, rfl, _⟩ := h; rfl) | (obtain ⟨_, _, _, _, _, _, _, _, _, _, _, _, _, _, _, _, _, _, _, _, rfl, _⟩ := h; rfl) | (obtain ⟨_, _, _, _, _, _, _, _, _, _, _, _, _, _, _, _, _, _, _, _, _, rfl, _⟩ := h; rfl) | (obtain ⟨_, _, _, _, _, _, _, _, _, _, _, _, _, _, _, _, _, _, _, _, _, _, rfl, _⟩ := h; rfl) | (obtain ⟨_, _, _, _, _, _, _, _, _, _, _, _, _, _, _, _, _, _, _, _, _, _, _, rfl, _⟩ := h; rfl) | (obtain ⟨_, _, _, _, _, _, _, _, _, _, _, _, _, _, _, _, _, _, _, _, _, _, _, _, rfl, _⟩ := h; rfl) | (obtain ⟨_, _, _, _, _, _, _, _, _, _, _, _, _, _, _, _, _, _, _, _, _, _, _, _, _, rfl, _⟩ := h; rfl)
theorem ok_due {f : Addr} {fd : FuncData} (F : Fun K "_law_due" "_law_due" s_due f fd) (B : Blt mg) (T : TxtM K) (cl_Machine : Cls K (clsAt K "Machine")) (m_Machine_said : MethOk P w K mg base (clsAt K "Machine") "said" PS_Run_said K_Run_said (sp_Run_said K)) (m_Machine_frames : MethOk P w K mg base (clsAt K "Machine") "frames" PS_Machine_frames K_Machine_frames (sp_Machine_frames K)) (m_Machine_answer : MethOk P w K mg base (clsAt K "Machine") "answer" PS_Run_answer K_Run_answer (sp_Run_answer K)) (m_Machine_step : MethOk P w K mg base (clsAt K "Machine") "step" PS_Machine_step K_Machine_step (sp_Machine_step K)) (mk_Machine : MakeOk P w K mg base "Machine" (clsAt K "Machine") PS_Machine_init K_Machine_init (sp_Machine_init K)) : FnOk P w K mg base CX0 K_due f fd PS_due (sp_due K) :=
  F.ok sc_due (fun vs H Q E h => len_due h) fun cdv A outer s H vs Q E hr h => ⟨_, d_due B cl_Machine m_Machine_said m_Machine_frames m_Machine_answer m_Machine_step mk_Machine hr, r_due T (E := E) h⟩
theorem len_alike {vs : List V} {H : Hp} {Q : VK} {E : XK} (h : sp_alike K vs H Q E) : vs.length = PS_alike.length := by
  first | (obtain ⟨rfl, _⟩ := h; rfl) | (obtain ⟨_, rfl, _⟩ := h; rfl) | (obtain ⟨_, _, rfl, _⟩ := h; rfl) | (obtain ⟨_, _, _, rfl, _⟩ := h; rfl) | (obtain ⟨_, _, _, _, rfl, _⟩ := h; rfl) | (obtain ⟨_, _, _, _, _, rfl, _⟩ := h; rfl) | (obtain ⟨_, _, _, _, _, _, rfl, _⟩ := h; rfl) | (obtain ⟨_, _, _, _, _, _, _, rfl, _⟩ := h; rfl) | (obtain ⟨_, _, _, _, _, _, _, _, rfl, _⟩ := h; rfl) | (obtain ⟨_, _, _, _, _, _, _, _, _, rfl, _⟩ := h; rfl) | (obtain ⟨_, _, _, _, _, _, _, _, _, _, rfl, _⟩ := h; rfl) | (obtain ⟨_, _, _, _, _, _, _, _, _, _, _, rfl, _⟩ := h; rfl) | (obtain ⟨_, _, _, _, _, _, _, _, _, _, _, _, rfl, _⟩ := h; rfl) | (obtain ⟨_, _, _, _, _, _, _, _, _, _, _, _, _, rfl, _⟩ := h; rfl) | (obtain ⟨_, _, _, _, _, _, _, _, _, _, _, _, _, _, rfl, _⟩ := h; rfl) | (obtain ⟨_, _, _, _, _, _, _, _, _, _, _, _, _, _, _, rfl, _⟩ := h; rfl) | (obtain ⟨_, _, _, _, _, _, _, _, _, _, _, _, _, _, _, _, rfl, _⟩ := h; rfl) | (obtain ⟨_, _, _, _, _, _, _, _, _, _, _, _, _, _, _, _, _, rfl, _⟩ := h; rfl) | (obtain ⟨_, _, _, _, _, _, _, _, _, _, _, _, _, _, _, _, _, _, rfl, _⟩ := h; rfl) | (obtain ⟨_, _, _, _, _, _, _, _, _, _, _, _, _, _, _, _, _, _, _, rfl, _⟩ := h; rfl) | (obtain ⟨_, _, _, _, _, _, _, _, _, _, _, _, _, _, _, _, _, _, _, _, rfl, _⟩ := h; rfl) | (obtain ⟨_, _, _, _, _, _, _, _, _, _, _, _, _, _, _, _, _, _, _, _, _, rfl, _⟩ := h; rfl) | (obtain ⟨_, _, _, _, _, _, _, _, _, _, _, _, _, _, _, _, _, _, _, _, _, _, rfl, _⟩ := h; rfl) | (obtain ⟨_, _, _, _, _, _, _, _, _, _, _, _, _, _, _, _, _, _, _, _, _, _, _, rfl, _⟩ := h; rfl) | (obtain ⟨_, _, _, _, _, _, _, _, _, _, _, _, _, _, _, _, _, _, _, _, _, _, _, _, rfl, _⟩ := h; rfl) | (obtain ⟨_, _, _, _, _, _, _, _, _, _, _, _, _, _, _, _, _, _, _, _, _, _, _, _, _, rfl, _⟩ := h; rfl)
theorem ok_alike {f : Addr} {fd : FuncData} (F : Fun K "_law_alike" "_law_alike" s_alike f fd) (B : Blt mg)  : FnOk P w K mg base CX0 K_alike f fd PS_alike (sp_alike K) :=
  F.ok sc_alike (fun vs H Q E h => len_alike h) fun cdv A outer s H vs Q E hr h => ⟨_, d_alike B hr, r_alike (E := E) h⟩
theorem len_draw {vs : List V} {H : Hp} {Q : VK} {E : XK} (h : sp_draw K vs H Q E) : vs.length = PS_draw.length := by
  first | (obtain ⟨rfl, _⟩ := h; rfl) | (obtain ⟨_, rfl, _⟩ := h; rfl) | (obtain ⟨_, _, rfl, _⟩ := h; rfl) | (obtain ⟨_, _, _, rfl, _⟩ := h; rfl) | (obtain ⟨_, _, _, _, rfl, _⟩ := h; rfl) | (obtain ⟨_, _, _, _, _, rfl, _⟩ := h; rfl) | (obtain ⟨_, _, _, _, _, _, rfl, _⟩ := h; rfl) | (obtain ⟨_, _, _, _, _, _, _, rfl, _⟩ := h; rfl) | (obtain ⟨_, _, _, _, _, _, _, _, rfl, _⟩ := h; rfl) | (obtain ⟨_, _, _, _, _, _, _, _, _, rfl, _⟩ := h; rfl) | (obtain ⟨_, _, _, _, _, _, _, _, _, _, rfl, _⟩ := h; rfl) | (obtain ⟨_, _, _, _, _, _, _, _, _, _, _, rfl, _⟩ := h; rfl) | (obtain ⟨_, _, _, _, _, _, _, _, _, _, _, _, rfl, _⟩ := h; rfl) | (obtain ⟨_, _, _, _, _, _, _, _, _, _, _, _, _, rfl, _⟩ := h; rfl) | (obtain ⟨_, _, _, _, _, _, _, _, _, _, _, _, _, _, rfl, _⟩ := h; rfl) | (obtain ⟨_, _, _, _, _, _, _, _, _, _, _, _, _, _, _, rfl, _⟩ := h; rfl) | (obtain ⟨_, _, _, _, _, _, _, _, _, _, _, _, _, _, _, _, rfl, _⟩ := h; rfl) | (obtain ⟨_, _, _, _, _, _, _, _, _, _, _, _, _, _, _, _, _, rfl, _⟩ := h; rfl) | (obtain ⟨_, _, _, _, _, _, _, _, _, _, _, _, _, _, _, _, _, _, rfl, _⟩ := h; rfl) | (obtain ⟨_, _, _, _, _, _, _, _, _, _, _, _, _, _, _, _, _, _, _, rfl, _⟩ := h; rfl) | (obtain ⟨_, _, _, _, _, _, _, _, _, _, _, _, _, _, _, _, _, _, _, _, rfl, _⟩ := h; rfl) | (obtain ⟨_, _, _, _, _, _, _, _, _, _, _, _, _, _, _, _, _, _, _, _, _, rfl, _⟩ := h; rfl) | (obtain ⟨_, _, _, _, _, _, _, _, _, _, _, _, _, _, _, _, _, _, _, _, _, _, rfl, _⟩ := h; rfl) | (obtain ⟨_, _, _, _, _, _, _, _, _, _, _, _, _, _, _, _, _, _, _, _, _, _, _, rfl, _⟩ := h; rfl) | (obtain ⟨_, _, _, _, _, _, _, _, _, _, _, _, _, _, _, _, _, _, _, _, _, _, _, _, rfl, _⟩ := h; rfl) | (obtain ⟨_, _, _, _, _, _, _, _, _, _, _, _, _, _, _, _, _, _, _, _, _, _, _, _, _, rfl, _⟩ := h; rfl)
theorem ok_draw {f : Addr} {fd : FuncData} (F : Fun K "_law_draw" "_law_draw" s_draw f fd) (B : Blt mg)  : FnOk P w K mg base CX0 K_draw f fd PS_draw (sp_draw K) :=
  F.ok sc_draw (fun vs H Q E h => len_draw h) fun cdv A outer s H vs Q E hr h => ⟨_, d_draw B hr, r_draw (E := E) h⟩
theorem len_worth {vs : List V} {H : Hp} {Q : VK} {E : XK} (h : sp_worth K vs H Q E) : vs.length = PS_worth.length := by
  first | (obtain ⟨rfl, _⟩ := h; rfl) | (obtain ⟨_, rfl, _⟩ := h; rfl) | (obtain ⟨_, _, rfl, _⟩ := h; rfl) | (obtain ⟨_, _, _, rfl, _⟩ := h; rfl) | (obtain ⟨_, _, _, _, rfl, _⟩ := h; rfl) | (obtain ⟨_, _, _, _, _, rfl, _⟩ := h; rfl) | (obtain ⟨_, _, _, _, _, _, rfl, _⟩ := h; rfl) | (obtain ⟨_, _, _, _, _, _, _, rfl, _⟩ := h; rfl) | (obtain ⟨_, _, _, _, _, _, _, _, rfl, _⟩ := h; rfl) | (obtain ⟨_, _, _, _, _, _, _, _, _, rfl, _⟩ := h; rfl) | (obtain ⟨_, _, _, _, _, _, _, _, _, _, rfl, _⟩ := h; rfl) | (obtain ⟨_, _, _, _, _, _, _, _, _, _, _, rfl, _⟩ := h; rfl) | (obtain ⟨_, _, _, _, _, _, _, _, _, _, _, _, rfl, _⟩ := h; rfl) | (obtain ⟨_, _, _, _, _, _, _, _, _, _, _, _, _, rfl, _⟩ := h; rfl) | (obtain ⟨_, _, _, _, _, _, _, _, _, _, _, _, _, _, rfl, _⟩ := h; rfl) | (obtain ⟨_, _, _, _, _, _, _, _, _, _, _, _, _, _, _, rfl, _⟩ := h; rfl) | (obtain ⟨_, _, _, _, _, _, _, _, _, _, _, _, _, _, _, _, rfl, _⟩ := h; rfl) | (obtain ⟨_, _, _, _, _, _, _, _, _, _, _, _, _, _, _, _, _, rfl, _⟩ := h; rfl) | (obtain ⟨_, _, _, _, _, _, _, _, _, _, _, _, _, _, _, _, _, _, rfl, _⟩ := h; rfl) | (obtain ⟨_, _, _, _, _, _, _, _, _, _, _, _, _, _, _, _, _, _, _, rfl, _⟩ := h; rfl) | (obtain ⟨_, _, _, _, _, _, _, _, _, _, _, _, _, _, _, _, _, _, _, _, rfl, _⟩ := h; rfl) | (obtain ⟨_, _, _, _, _, _, _, _, _, _, _, _, _, _, _, _, _, _, _, _, _, rfl, _⟩ := h; rfl) | (obtain ⟨_, _, _, _, _, _, _, _, _, _, _, _, _, _, _, _, _, _, _, _, _, _, rfl, _⟩ := h; rfl) | (obtain ⟨_, _, _, _, _, _, _, _, _, _, _, _, _, _, _, _, _, _, _, _, _, _, _, rfl, _⟩ := h; rfl) | (obtain ⟨_, _, _, _, _, _, _, _, _, _, _, _, _, _, _, _, _, _, _, _, _, _, _, _, rfl, _⟩ := h; rfl) | (obtain ⟨_, _, _, _, _, _, _, _, _, _, _, _, _, _, _, _, _, _, _, _, _, _, _, _, _, rfl, _⟩ := h; rfl)
theorem ok_worth {f : Addr} {fd : FuncData} (F : Fun K "_law_worth" "_law_worth" s_worth f fd) (B : Blt mg) (c_draw : Callee P w K mg base "_law_draw" PS_draw K_draw (sp_draw K)) : FnOk P w K mg base CX0 K_worth f fd PS_worth (sp_worth K) :=
  F.ok sc_worth (fun vs H Q E h => len_worth h) fun cdv A outer s H vs Q E hr h => ⟨_, d_worth B c_draw hr, r_worth (E := E) h⟩
theorem len_silent {vs : List V} {H : Hp} {Q : VK} {E : XK} (h : sp_silent K vs H Q E) : vs.length = PS_silent.length := by
  first | (obtain ⟨rfl, _⟩ := h; rfl) | (obtain ⟨_, rfl, _⟩ := h; rfl) | (obtain ⟨_, _, rfl, _⟩ := h; rfl) | (obtain ⟨_, _, _, rfl, _⟩ := h; rfl) | (obtain ⟨_, _, _, _, rfl, _⟩ := h; rfl) | (obtain ⟨_, _, _, _, _, rfl, _⟩ := h; rfl) | (obtain ⟨_, _, _, _, _, _, rfl, _⟩ := h; rfl) | (obtain ⟨_, _, _, _, _, _, _, rfl, _⟩ := h; rfl) | (obtain ⟨_, _, _, _, _, _, _, _, rfl, _⟩ := h; rfl) | (obtain ⟨_, _, _, _, _, _, _, _, _, rfl, _⟩ := h; rfl) | (obtain ⟨_, _, _, _, _, _, _, _, _, _, rfl, _⟩ := h; rfl) | (obtain ⟨_, _, _, _, _, _, _, _, _, _, _, rfl, _⟩ := h; rfl) | (obtain ⟨_, _, _, _, _, _, _, _, _, _, _, _, rfl, _⟩ := h; rfl) | (obtain ⟨_, _, _, _, _, _, _, _, _, _, _, _, _, rfl, _⟩ := h; rfl) | (obtain ⟨_, _, _, _, _, _, _, _, _, _, _, _, _, _, rfl, _⟩ := h; rfl) | (obtain ⟨_, _, _, _, _, _, _, _, _, _, _, _, _, _, _, rfl, _⟩ := h; rfl) | (obtain ⟨_, _, _, _, _, _, _, _, _, _, _, _, _, _, _, _, rfl, _⟩ := h; rfl) | (obtain ⟨_, _, _, _, _, _, _, _, _, _, _, _, _, _, _, _, _, rfl, _⟩ := h; rfl) | (obtain ⟨_, _, _, _, _, _, _, _, _, _, _, _, _, _, _, _, _, _, rfl, _⟩ := h; rfl) | (obtain ⟨_, _, _, _, _, _, _, _, _, _, _, _, _, _, _, _, _, _, _, rfl, _⟩ := h; rfl) | (obtain ⟨_, _, _, _, _, _, _, _, _, _, _, _, _, _, _, _, _, _, _, _, rfl, _⟩ := h; rfl) | (obtain ⟨_, _, _, _, _, _, _, _, _, _, _, _, _, _, _, _, _, _, _, _, _, rfl, _⟩ := h; rfl) | (obtain ⟨_, _, _, _, _, _, _, _, _, _, _, _, _, _, _, _, _, _, _, _, _, _, rfl, _⟩ := h; rfl) | (obtain ⟨_, _, _, _, _, _, _, _, _, _, _, _, _, _, _, _, _, _, _, _, _, _, _, rfl, _⟩ := h; rfl) | (obtain ⟨_, _, _, _, _, _, _, _, _, _, _, _, _, _, _, _, _, _, _, _, _, _, _, _, rfl, _⟩ := h; rfl) | (obtain ⟨_, _, _, _, _, _, _, _, _, _, _, _, _, _, _, _, _, _, _, _, _, _, _, _, _, rfl, _⟩ := h; rfl)
theorem ok_silent {f : Addr} {fd : FuncData} (F : Fun K "_law_silent" "_law_silent" s_silent f fd) (B : Blt mg)  : FnOk P w K mg base CX0 K_silent f fd PS_silent (sp_silent K) :=
  F.ok sc_silent (fun vs H Q E h => len_silent h) fun cdv A outer s H vs Q E hr h => ⟨_, d_silent B hr, r_silent (E := E) h⟩
theorem len_code_row {vs : List V} {H : Hp} {Q : VK} {E : XK} (h : sp_code_row K vs H Q E) : vs.length = PS_code_row.length := by
  first | (obtain ⟨rfl, _⟩ := h; rfl) | (obtain ⟨_, rfl, _⟩ := h; rfl) | (obtain ⟨_, _, rfl, _⟩ := h; rfl) | (obtain ⟨_, _, _, rfl, _⟩ := h; rfl) | (obtain ⟨_, _, _, _, rfl, _⟩ := h; rfl) | (obtain ⟨_, _, _, _, _, rfl, _⟩ := h; rfl) | (obtain ⟨_, _, _, _, _, _, rfl, _⟩ := h; rfl) | (obtain ⟨_, _, _, _, _, _, _, rfl, _⟩ := h; rfl) | (obtain ⟨_, _, _, _, _, _, _, _, rfl, _⟩ := h; rfl) | (obtain ⟨_, _, _, _, _, _, _, _, _, rfl, _⟩ := h; rfl) | (obtain ⟨_, _, _, _, _, _, _, _, _, _, rfl, _⟩ := h; rfl) | (obtain ⟨_, _, _, _, _, _, _, _, _, _, _, rfl, _⟩ := h; rfl) | (obtain ⟨_, _, _, _, _, _, _, _, _, _, _, _, rfl, _⟩ := h; rfl) | (obtain ⟨_, _, _, _, _, _, _, _, _, _, _, _, _, rfl, _⟩ := h; rfl) | (obtain ⟨_, _, _, _, _, _, _, _, _, _, _, _, _, _, rfl, _⟩ := h; rfl) | (obtain ⟨_, _, _, _, _, _, _, _, _, _, _, _, _, _, _, rfl, _⟩ := h; rfl) | (obtain ⟨_, _, _, _, _, _, _, _, _, _, _, _, _, _, _, _, rfl, _⟩ := h; rfl) | (obtain ⟨_, _, _, _, _, _, _, _, _, _, _, _, _, _, _, _, _, rfl, _⟩ := h; rfl) | (obtain ⟨_, _, _, _, _, _, _, _, _, _, _, _, _, _, _, _, _, _, rfl, _⟩ := h; rfl) | (obtain ⟨_, _, _, _, _, _, _, _, _, _, _, _, _, _, _, _, _, _, _, rfl, _⟩ := h; rfl) | (obtain ⟨_, _, _, _, _, _, _, _, _, _, _, _, _, _, _, _, _, _, _, _, rfl, _⟩ := h; rfl) | (obtain ⟨_, _, _, _, _, _, _, _, _, _, _, _, _, _, _, _, _, _, _, _, _, rfl, _⟩ := h; rfl) | (obtain ⟨_, _, _, _, _, _, _, _, _, _, _, _, _, _, _, _, _, _, _, _, _, _, rfl, _⟩ := h; rfl) | (obtain ⟨_, _, _, _, _, _, _, _, _, _, _, _, _, _, _, _, _, _, _, _, _, _, _, rfl, _⟩ := h; rfl) | (obtain ⟨_, _, _, _, _, _, _, _, _, _, _, _, _, _, _, _, _, _, _, _, _, _, _, _, rfl, _⟩ := h; rfl) | (obtain ⟨_, _, _, _, _, _, _, _, _, _, _, _, _, _, _, _, _, _, _, _, _, _, _, _, _, rfl, _⟩ := h; rfl)
theorem ok_code_row {f : Addr} {fd : FuncData} (F : Fun K "_law_code_row" "_law_code_row" s_code_row f fd) (B : Blt mg) (c_draw : Callee P w K mg base "_law_draw" PS_draw K_draw (sp_draw K)) (c_worth : Callee P w K mg base "_law_worth" PS_worth K_worth (sp_worth K)) : FnOk P w K mg base CX0 K_code_row f fd PS_code_row (sp_code_row K) :=
  F.ok sc_code_row (fun vs H Q E h => len_code_row h) fun cdv A outer s H vs Q E hr h => ⟨_, d_code_row B c_draw c_worth hr, r_code_row (E := E) h⟩
theorem len_code_part {vs : List V} {H : Hp} {Q : VK} {E : XK} (h : sp_code_part K vs H Q E) : vs.length = PS_code_part.length := by
  first | (obtain ⟨rfl, _⟩ := h; rfl) | (obtain ⟨_, rfl, _⟩ := h; rfl) | (obtain ⟨_, _, rfl, _⟩ := h; rfl) | (obtain ⟨_, _, _, rfl, _⟩ := h; rfl) | (obtain ⟨_, _, _, _, rfl, _⟩ := h; rfl) | (obtain ⟨_, _, _, _, _, rfl, _⟩ := h; rfl) | (obtain ⟨_, _, _, _, _, _, rfl, _⟩ := h; rfl) | (obtain ⟨_, _, _, _, _, _, _, rfl, _⟩ := h; rfl) | (obtain ⟨_, _, _, _, _, _, _, _, rfl, _⟩ := h; rfl) | (obtain ⟨_, _, _, _, _, _, _, _, _, rfl, _⟩ := h; rfl) | (obtain ⟨_, _, _, _, _, _, _, _, _, _, rfl, _⟩ := h; rfl) | (obtain ⟨_, _, _, _, _, _, _, _, _, _, _, rfl, _⟩ := h; rfl) | (obtain ⟨_, _, _, _, _, _, _, _, _, _, _, _, rfl, _⟩ := h; rfl) | (obtain ⟨_, _, _, _, _, _, _, _, _, _, _, _, _, rfl, _⟩ := h; rfl) | (obtain ⟨_, _, _, _, _, _, _, _, _, _, _, _, _, _, rfl, _⟩ := h; rfl) | (obtain ⟨_, _, _, _, _, _, _, _, _, _, _, _, _, _, _, rfl, _⟩ := h; rfl) | (obtain ⟨_, _, _, _, _, _, _, _, _, _, _, _, _, _, _, _, rfl, _⟩ := h; rfl) | (obtain ⟨_, _, _, _, _, _, _, _, _, _, _, _, _, _, _, _, _, rfl, _⟩ := h; rfl) | (obtain ⟨_, _, _, _, _, _, _, _, _, _, _, _, _, _, _, _, _, _, rfl, _⟩ := h; rfl) | (obtain ⟨_, _, _, _, _, _, _, _, _, _, _, _, _, _, _, _, _, _, _, rfl, _⟩ := h; rfl) | (obtain ⟨_, _, _, _, _, _, _, _, _, _, _, _, _, _, _, _, _, _, _, _, rfl, _⟩ := h; rfl) | (obtain ⟨_, _, _, _, _, _, _, _, _, _, _, _, _, _, _, _, _, _, _, _, _, rfl, _⟩ := h; rfl) | (obtain ⟨_, _, _, _, _, _, _, _, _, _, _, _, _, _, _, _, _, _, _, _, _, _, rfl, _⟩ := h; rfl) | (obtain ⟨_, _, _, _, _, _, _, _, _, _, _, _, _, _, _, _, _, _, _, _, _, _, _, rfl, _⟩ := h; rfl) | (obtain ⟨_, _, _, _, _, _, _, _, _, _, _, _, _, _, _, _, _, _, _, _, _, _, _, _, rfl, _⟩ := h; rfl) | (obtain ⟨_, _, _, _, _, _, _, _, _, _, _, _, _, _, _, _, _, _, _, _, _, _, _, _, _, rfl, _⟩ := h; rfl)
theorem ok_code_part {f : Addr} {fd : FuncData} (F : Fun K "_law_code_part" "_law_code_part" s_code_part f fd) (B : Blt mg) (c_silent : Callee P w K mg base "_law_silent" PS_silent K_silent (sp_silent K)) (c_draw : Callee P w K mg base "_law_draw" PS_draw K_draw (sp_draw K)) (c_code_row : Callee P w K mg base "_law_code_row" PS_code_row K_code_row (sp_code_row K)) : FnOk P w K mg base CX0 K_code_part f fd PS_code_part (sp_code_part K) :=
  F.ok sc_code_part (fun vs H Q E h => len_code_part h) fun cdv A outer s H vs Q E hr h => ⟨_, d_code_part B c_silent c_draw c_code_row hr, r_code_part (E := E) h⟩
theorem len_code {vs : List V} {H : Hp} {Q : VK} {E : XK} (h : sp_code K vs H Q E) : vs.length = PS_code.length := by
  first | (obtain ⟨rfl, _⟩ := h; rfl) | (obtain ⟨_, rfl, _⟩ := h; rfl) | (obtain ⟨_, _, rfl, _⟩ := h; rfl) | (obtain ⟨_, _, _, rfl, _⟩ := h; rfl) | (obtain ⟨_, _, _, _, rfl, _⟩ := h; rfl) | (obtain ⟨_, _, _, _, _, rfl, _⟩ := h; rfl) | (obtain ⟨_, _, _, _, _, _, rfl, _⟩ := h; rfl) | (obtain ⟨_, _, _, _, _, _, _, rfl, _⟩ := h; rfl) | (obtain ⟨_, _, _, _, _, _, _, _, rfl, _⟩ := h; rfl) | (obtain ⟨_, _, _, _, _, _, _, _, _, rfl, _⟩ := h; rfl) | (obtain ⟨_, _, _, _, _, _, _, _, _, _, rfl, _⟩ := h; rfl) | (obtain ⟨_, _, _, _, _, _, _, _, _, _, _, rfl, _⟩ := h; rfl) | (obtain ⟨_, _, _, _, _, _, _, _, _, _, _, _, rfl, _⟩ := h; rfl) | (obtain ⟨_, _, _, _, _, _, _, _, _, _, _, _, _, rfl, _⟩ := h; rfl) | (obtain ⟨_, _, _, _, _, _, _, _, _, _, _, _, _, _, rfl, _⟩ := h; rfl) | (obtain ⟨_, _, _, _, _, _, _, _, _, _, _, _, _, _, _, rfl, _⟩ := h; rfl) | (obtain ⟨_, _, _, _, _, _, _, _, _, _, _, _, _, _, _, _, rfl, _⟩ := h; rfl) | (obtain ⟨_, _, _, _, _, _, _, _, _, _, _, _, _, _, _, _, _, rfl, _⟩ := h; rfl) | (obtain ⟨_, _, _, _, _, _, _, _, _, _, _, _, _, _, _, _, _, _, rfl, _⟩ := h; rfl) | (obtain ⟨_, _, _, _, _, _, _, _, _, _, _, _, _, _, _, _, _, _, _, rfl, _⟩ := h; rfl) | (obtain ⟨_, _, _, _, _, _, _, _, _, _, _, _, _, _, _, _, _, _, _, _, rfl, _⟩ := h; rfl) | (obtain ⟨_, _, _, _, _, _, _, _, _, _, _, _, _, _, _, _, _, _, _, _, _, rfl, _⟩ := h; rfl) | (obtain ⟨_, _, _, _, _, _, _, _, _, _, _, _, _, _, _, _, _, _, _, _, _, _, rfl, _⟩ := h; rfl) | (obtain ⟨_, _, _, _, _, _, _, _, _, _, _, _, _, _, _, _, _, _, _, _, _, _, _, rfl, _⟩ := h; rfl) | (obtain ⟨_, _, _, _, _, _, _, _, _, _, _, _, _, _, _, _, _, _, _, _, _, _, _, _, rfl, _⟩ := h; rfl) | (obtain ⟨_, _, _, _, _, _, _, _, _, _, _, _, _, _, _, _, _, _, _, _, _, _, _, _, _, rfl, _⟩ := h; rfl)
theorem ok_code {f : Addr} {fd : FuncData} (F : Fun K "_law_code" "_law_code" s_code f fd) (B : Blt mg) (c_code_part : Callee P w K mg base "_law_code_part" PS_code_part K_code_part (sp_code_part K)) (c_draw : Callee P w K mg base "_law_draw" PS_draw K_draw (sp_draw K)) : FnOk P w K mg base CX0 K_code f fd PS_code (sp_code K) :=
  F.ok sc_code (fun vs H Q E h => len_code h) fun cdv A outer s H vs Q E hr h => ⟨_, d_code B c_code_part c_draw hr, r_code (E := E) h⟩
theorem len_deep {vs : List V} {H : Hp} {Q : VK} {E : XK} (h : sp_deep K vs H Q E) : vs.length = PS_deep.length := by
  first | (obtain ⟨rfl, _⟩ := h; rfl) | (obtain ⟨_, rfl, _⟩ := h; rfl) | (obtain ⟨_, _, rfl, _⟩ := h; rfl) | (obtain ⟨_, _, _, rfl, _⟩ := h; rfl) | (obtain ⟨_, _, _, _, rfl, _⟩ := h; rfl) | (obtain ⟨_, _, _, _, _, rfl, _⟩ := h; rfl) | (obtain ⟨_, _, _, _, _, _, rfl, _⟩ := h; rfl) | (obtain ⟨_, _, _, _, _, _, _, rfl, _⟩ := h; rfl) | (obtain ⟨_, _, _, _, _, _, _, _, rfl, _⟩ := h; rfl) | (obtain ⟨_, _, _, _, _, _, _, _, _, rfl, _⟩ := h; rfl) | (obtain ⟨_, _, _, _, _, _, _, _, _, _, rfl, _⟩ := h; rfl) | (obtain ⟨_, _, _, _, _, _, _, _, _, _, _, rfl, _⟩ := h; rfl) | (obtain ⟨_, _, _, _, _, _, _, _, _, _, _, _, rfl, _⟩ := h; rfl) | (obtain ⟨_, _, _, _, _, _, _, _, _, _, _, _, _, rfl, _⟩ := h; rfl) | (obtain ⟨_, _, _, _, _, _, _, _, _, _, _, _, _, _, rfl, _⟩ := h; rfl) | (obtain ⟨_, _, _, _, _, _, _, _, _, _, _, _, _, _, _, rfl, _⟩ := h; rfl) | (obtain ⟨_, _, _, _, _, _, _, _, _, _, _, _, _, _, _, _, rfl, _⟩ := h; rfl) | (obtain ⟨_, _, _, _, _, _, _, _, _, _, _, _, _, _, _, _, _, rfl, _⟩ := h; rfl) | (obtain ⟨_, _, _, _, _, _, _, _, _, _, _, _, _, _, _, _, _, _, rfl, _⟩ := h; rfl) | (obtain ⟨_, _, _, _, _, _, _, _, _, _, _, _, _, _, _, _, _, _, _, rfl, _⟩ := h; rfl) | (obtain ⟨_, _, _, _, _, _, _, _, _, _, _, _, _, _, _, _, _, _, _, _, rfl, _⟩ := h; rfl) | (obtain ⟨_, _, _, _, _, _, _, _, _, _, _, _, _, _, _, _, _, _, _, _, _, rfl, _⟩ := h; rfl) | (obtain ⟨_, _, _, _, _, _, _, _, _, _, _, _, _, _, _, _, _, _, _, _, _, _, rfl, _⟩ := h; rfl) | (obtain ⟨_, _, _, _, _, _, _, _, _, _, _, _, _, _, _, _, _, _, _, _, _, _, _, rfl, _⟩ := h; rfl) | (obtain ⟨_, _, _, _, _, _, _, _, _, _, _, _, _, _, _, _, _, _, _, _, _, _, _, _, rfl, _⟩ := h; rfl) | (obtain ⟨_, _, _, _, _, _, _, _, _, _, _, _, _, _, _, _, _, _, _, _, _, _, _, _, _, rfl, _⟩ := h; rfl)
theorem ok_deep {f : Addr} {fd : FuncData} (F : Fun K "_law_deep" "_law_deep" s_deep f fd) (B : Blt mg) (c_p_run_belt : Callee P w K mg base "run_belt" PS_p_run_belt K_p_run_belt (sp_p_run_belt K)) (c_alike : Callee P w K mg base "_law_alike" PS_alike K_alike (sp_alike K)) : FnOk P w K mg base CX0 K_deep f fd PS_deep (sp_deep K) :=
  fun_okQ F sc_deep (fun vs H Q E h => len_deep h) fun cdv A outer s H vs Q E hr h => ⟨_, d_deep B c_p_run_belt c_alike hr, r_deep (E := E) h⟩
theorem len_law {vs : List V} {H : Hp} {Q : VK} {E : XK} (h : sp_law K vs H Q E) : vs.length = PS_law.length := by
  first | (obtain ⟨rfl, _⟩ := h; rfl) | (obtain ⟨_, rfl, _⟩ := h; rfl) | (obtain ⟨_, _, rfl, _⟩ := h; rfl) | (obtain ⟨_, _, _, rfl, _⟩ := h; rfl) | (obtain ⟨_, _, _, _, rfl, _⟩ := h; rfl) | (obtain ⟨_, _, _, _, _, rfl, _⟩ := h; rfl) | (obtain ⟨_, _, _, _, _, _, rfl, _⟩ := h; rfl) | (obtain ⟨_, _, _, _, _, _, _, rfl, _⟩ := h; rfl) | (obtain ⟨_, _, _, _, _, _, _, _, rfl, _⟩ := h; rfl) | (obtain ⟨_, _, _, _, _, _, _, _, _, rfl, _⟩ := h; rfl) | (obtain ⟨_, _, _, _, _, _, _, _, _, _, rfl, _⟩ := h; rfl) | (obtain ⟨_, _, _, _, _, _, _, _, _, _, _, rfl, _⟩ := h; rfl) | (obtain ⟨_, _, _, _, _, _, _, _, _, _, _, _, rfl, _⟩ := h; rfl) | (obtain ⟨_, _, _, _, _, _, _, _, _, _, _, _, _, rfl, _⟩ := h; rfl) | (obtain ⟨_, _, _, _, _, _, _, _, _, _, _, _, _, _, rfl, _⟩ := h; rfl) | (obtain ⟨_, _, _, _, _, _, _, _, _, _, _, _, _, _, _, rfl, _⟩ := h; rfl) | (obtain ⟨_, _, _, _, _, _, _, _, _, _, _, _, _, _, _, _, rfl, _⟩ := h; rfl) | (obtain ⟨_, _, _, _, _, _, _, _, _, _, _, _, _, _, _, _, _, rfl, _⟩ := h; rfl) | (obtain ⟨_, _, _, _, _, _, _, _, _, _, _, _, _, _, _, _, _, _, rfl, _⟩ := h; rfl) | (obtain ⟨_, _, _, _, _, _, _, _, _, _, _, _, _, _, _, _, _, _, _, rfl, _⟩ := h; rfl) | (obtain ⟨_, _, _, _, _, _, _, _, _, _, _, _, _, _, _, _, _, _, _, _, rfl, _⟩ := h; rfl) | (obtain ⟨_, _, _, _, _, _, _, _, _, _, _, _, _, _, _, _, _, _, _, _, _, rfl, _⟩ := h; rfl) | (obtain ⟨_, _, _, _, _, _, _, _, _, _, _, _, _, _, _, _, _, _, _, _, _, _, rfl, _⟩ := h; rfl) | (obtain ⟨_, _, _, _, _, _, _, _, _, _, _, _, _, _, _, _, _, _, _, _, _, _, _, rfl, _⟩ := h; rfl) | (obtain ⟨_, _, _, _, _, _, _, _, _, _, _, _, _, _, _, _, _, _, _, _, _, _, _, _, rfl, _⟩ := h; rfl) | (obtain ⟨_, _, _, _, _, _, _, _, _, _, _, _, _, _, _, _, _, _, _, _, _, _, _, _, _, rfl, _⟩ := h; rfl)
theorem ok_law {f : Addr} {fd : FuncData} (F : Fun K "law" "law" s_law f fd) (B : Blt mg) (c_p_run_belt : Callee P w K mg base "run_belt" PS_p_run_belt K_p_run_belt (sp_p_run_belt K)) (c_p_run_belt_d1 : CalleeD P w K mg base "run_belt" PS_p_run_belt K_p_run_belt [.int 400] (sp_p_run_belt K)) (c_due : Callee P w K mg base "_law_due" PS_due K_due (sp_due K)) (c_alike : Callee P w K mg base "_law_alike" PS_alike K_alike (sp_alike K)) (c_draw : Callee P w K mg base "_law_draw" PS_draw K_draw (sp_draw K)) (c_worth : Callee P w K mg base "_law_worth" PS_worth K_worth (sp_worth K)) (c_code : Callee P w K mg base "_law_code" PS_code K_code (sp_code K)) (c_deep : Callee P w K mg base "_law_deep" PS_deep K_deep (sp_deep K)) : FnOk P w K mg base CX0 K_law f fd PS_law (sp_law K) :=
  F.ok sc_law (fun vs H Q E h => len_law h) fun cdv A outer s H vs Q E hr h => ⟨_, d_law B c_p_run_belt c_p_run_belt_d1 c_due c_alike c_draw c_worth c_code c_deep hr, r_law (E := E) h⟩
end
theorem all_mk {l : PySem.W.OpenLaw} {w : World} {K : PySem.W.Frag} {h : Heap} {mg : Str → Option Value} {fa : Addr} (X : K.In h) (G : h.Ns mainGlobals mg) (hfa : mg "law" = some (.ref fa))
    {C_BeltFrame : Addr} (zc_BeltFrame : PySem.W.nsIn K mainGlobals "BeltFrame" = some (some (.ref C_BeltFrame))) (pg_BeltFrame : PySem.W.plainGet K C_BeltFrame Str.empty = true) (hd_BeltFrame : PySem.W.hasDictIn K C_BeltFrame = true) (po_BeltFrame : PySem.W.plainOver K C_BeltFrame = true) (sa_BeltFrame : PySem.W.findIn K (.ref C_BeltFrame) "__setattr__" = some (some (.builtin "object.__setattr__"))) (ma_BeltFrame : PySem.W.makesIn K C_BeltFrame = true) (kp_BeltFrame : PySem.W.keepIn K (.ref C_BeltFrame) = true)
    {C_Machine : Addr} (zc_Machine : PySem.W.nsIn K mainGlobals "Machine" = some (some (.ref C_Machine))) (pg_Machine : PySem.W.plainGet K C_Machine Str.empty = true) (hd_Machine : PySem.W.hasDictIn K C_Machine = true) (po_Machine : PySem.W.plainOver K C_Machine = true) (sa_Machine : PySem.W.findIn K (.ref C_Machine) "__setattr__" = some (some (.builtin "object.__setattr__"))) (ma_Machine : PySem.W.makesIn K C_Machine = true) (kp_Machine : PySem.W.keepIn K (.ref C_Machine) = true)
    {C_Run : Addr} (zc_Run : PySem.W.nsIn K mainGlobals "Run" = some (some (.ref C_Run)))
    (hg_Run : PySem.W.specialIn K (.ref C_Run) "__getattribute__" = some (some (.builtin "type.__getattribute__"))) (rd_Run : PySem.W.readsIn K C_Run (.type "type") = true)
    (no_0 : PySem.W.findIn K (.ref C_Machine) "opened" = some none)
    (no_1 : PySem.W.findIn K (.ref C_Machine) "spoken" = some none)
    (no_2 : PySem.W.findIn K (.ref C_Machine) "outcome" = some none)
    (no_3 : PySem.W.findIn K (.ref C_Machine) "code" = some none)
    (no_4 : PySem.W.findIn K (.ref C_BeltFrame) "part" = some none)
    (no_5 : PySem.W.findIn K (.ref C_BeltFrame) "row" = some none)
    (no_6 : PySem.W.findIn K (.ref C_BeltFrame) "belt" = some none)
    {od0 an0 : Option Addr} {sl0 : Array (Option Value)} {oc0 kV0 dc0 pm0 cd0 ct0 : Value} {f0 : Addr}
    (a0 : PySem.W.nsIn K mainGlobals "goal" = some (some (.ref f0)))
    (l0 : K.lookup f0 = some ⟨oc0, od0, .func (PySem.W.fnOf "goal" "goal" (defArgs s_c_goal) (defBody s_c_goal) (defScope s_c_goal) .none kV0 dc0 pm0 an0 cd0 ct0), sl0⟩) (c0 : PySem.W.codeIn K cd0 "goal" = true) (k0 : PySem.W.keepIn K (.ref f0) = true)
    {od1 an1 : Option Addr} {sl1 : Array (Option Value)} {oc1 kV1 dc1 pm1 cd1 ct1 : Value} {f1 : Addr}
    (a1 : PySem.W.nsIn K mainGlobals "leads" = some (some (.ref f1)))
    (l1 : K.lookup f1 = some ⟨oc1, od1, .func (PySem.W.fnOf "leads" "leads" (defArgs s_c_leads) (defBody s_c_leads) (defScope s_c_leads) .none kV1 dc1 pm1 an1 cd1 ct1), sl1⟩) (c1 : PySem.W.codeIn K cd1 "leads" = true) (k1 : PySem.W.keepIn K (.ref f1) = true)
    {od2 an2 : Option Addr} {sl2 : Array (Option Value)} {oc2 kV2 dc2 pm2 cd2 ct2 : Value} {f2 : Addr}
    (a2 : PySem.W.nsIn K mainGlobals "places_read" = some (some (.ref f2)))
    (l2 : K.lookup f2 = some ⟨oc2, od2, .func (PySem.W.fnOf "places_read" "places_read" (defArgs s_p_places_read) (defBody s_p_places_read) (defScope s_p_places_read) .none kV2 dc2 pm2 an2 cd2 ct2), sl2⟩) (c2 : PySem.W.codeIn K cd2 "places_read" = true) (k2 : PySem.W.keepIn K (.ref f2) = true)
    {od3 an3 : Option Addr} {sl3 : Array (Option Value)} {oc3 kV3 dc3 pm3 cd3 ct3 : Value} {f3 : Addr}
    (a3 : PySem.W.nsIn K mainGlobals "pushed" = some (some (.ref f3)))
    (l3 : K.lookup f3 = some ⟨oc3, od3, .func (PySem.W.fnOf "pushed" "pushed" (defArgs s_p_pushed) (defBody s_p_pushed) (defScope s_p_pushed) .none kV3 dc3 pm3 an3 cd3 ct3), sl3⟩) (c3 : PySem.W.codeIn K cd3 "pushed" = true) (k3 : PySem.W.keepIn K (.ref f3) = true)
    {od4 an4 : Option Addr} {sl4 : Array (Option Value)} {oc4 kV4 dc4 pm4 cd4 ct4 : Value} {f4 : Addr}
    (a4 : PySem.W.findIn K (.ref C_Machine) "go_on" = some (some (.ref f4)))
    (l4 : K.lookup f4 = some ⟨oc4, od4, .func (PySem.W.fnOf "go_on" "Machine.go_on" (defArgs s_Machine_go_on) (defBody s_Machine_go_on) (defScope s_Machine_go_on) .none kV4 dc4 pm4 an4 cd4 ct4), sl4⟩) (c4 : PySem.W.codeIn K cd4 "Machine.go_on" = true) (k4 : PySem.W.keepIn K (.ref f4) = true)
    (i4 : PySem.W.isFn K (.ref f4) = true)
    {od5 an5 : Option Addr} {sl5 : Array (Option Value)} {oc5 kV5 dc5 pm5 cd5 ct5 : Value} {f5 : Addr}
    (a5 : PySem.W.findIn K (.ref C_BeltFrame) "__init__" = some (some (.ref f5)))
    (l5 : K.lookup f5 = some ⟨oc5, od5, .func (PySem.W.fnOf "__init__" "BeltFrame.__init__" (defArgs s_BeltFrame_init) (defBody s_BeltFrame_init) (defScope s_BeltFrame_init) .none kV5 dc5 pm5 an5 cd5 ct5), sl5⟩) (c5 : PySem.W.codeIn K cd5 "BeltFrame.__init__" = true) (k5 : PySem.W.keepIn K (.ref f5) = true)
    (i5 : PySem.W.isFn K (.ref f5) = true)
    {od6 an6 : Option Addr} {sl6 : Array (Option Value)} {oc6 kV6 dc6 pm6 cd6 ct6 : Value} {f6 : Addr}
    (a6 : PySem.W.nsIn K mainGlobals "begun" = some (some (.ref f6)))
    (l6 : K.lookup f6 = some ⟨oc6, od6, .func (PySem.W.fnOf "begun" "begun" (defArgs s_p_begun) (defBody s_p_begun) (defScope s_p_begun) .none kV6 dc6 pm6 an6 cd6 ct6), sl6⟩) (c6 : PySem.W.codeIn K cd6 "begun" = true) (k6 : PySem.W.keepIn K (.ref f6) = true)
    {od7 an7 : Option Addr} {sl7 : Array (Option Value)} {oc7 kV7 dc7 pm7 cd7 ct7 : Value} {f7 : Addr}
    (a7 : PySem.W.findIn K (.ref C_Machine) "enter" = some (some (.ref f7)))
    (l7 : K.lookup f7 = some ⟨oc7, od7, .func (PySem.W.fnOf "enter" "Machine.enter" (defArgs s_Machine_enter) (defBody s_Machine_enter) (defScope s_Machine_enter) .none kV7 dc7 pm7 an7 cd7 ct7), sl7⟩) (c7 : PySem.W.codeIn K cd7 "Machine.enter" = true) (k7 : PySem.W.keepIn K (.ref f7) = true)
    (i7 : PySem.W.isFn K (.ref f7) = true)
    {od8 an8 : Option Addr} {sl8 : Array (Option Value)} {oc8 kV8 dc8 pm8 cd8 ct8 : Value} {f8 : Addr}
    (a8 : PySem.W.findCls K (.ref C_Run) (.type "type") "__init__" = some (.val (.ref f8)))
    (l8 : K.lookup f8 = some ⟨oc8, od8, .func (PySem.W.fnOf "__init__" "Run.__init__" (defArgs s_Run_init) (defBody s_Run_init) (defScope s_Run_init) .none kV8 dc8 pm8 an8 cd8 ct8), sl8⟩) (c8 : PySem.W.codeIn K cd8 "Run.__init__" = true) (k8 : PySem.W.keepIn K (.ref f8) = true)
    (i8 : PySem.W.isFn K (.ref f8) = true)
    {od9 an9 : Option Addr} {sl9 : Array (Option Value)} {oc9 kV9 dc9 pm9 cd9 ct9 : Value} {f9 : Addr}
    (a9 : PySem.W.findIn K (.ref C_Machine) "__init__" = some (some (.ref f9)))
    (l9 : K.lookup f9 = some ⟨oc9, od9, .func (PySem.W.fnOf "__init__" "Machine.__init__" (defArgs s_Machine_init) (defBody s_Machine_init) (defScope s_Machine_init) .none kV9 dc9 pm9 an9 cd9 ct9), sl9⟩) (c9 : PySem.W.codeIn K cd9 "Machine.__init__" = true) (k9 : PySem.W.keepIn K (.ref f9) = true)
    (i9 : PySem.W.isFn K (.ref f9) = true)
    {od10 an10 : Option Addr} {sl10 : Array (Option Value)} {oc10 kV10 dc10 pm10 cd10 ct10 : Value} {f10 : Addr}
    (a10 : PySem.W.findIn K (.ref C_Machine) "said" = some (some (.ref f10)))
    (l10 : K.lookup f10 = some ⟨oc10, od10, .func (PySem.W.fnOf "said" "Run.said" (defArgs s_Run_said) (defBody s_Run_said) (defScope s_Run_said) .none kV10 dc10 pm10 an10 cd10 ct10), sl10⟩) (c10 : PySem.W.codeIn K cd10 "Run.said" = true) (k10 : PySem.W.keepIn K (.ref f10) = true)
    (i10 : PySem.W.isFn K (.ref f10) = true)
    {od11 an11 : Option Addr} {sl11 : Array (Option Value)} {oc11 kV11 dc11 pm11 cd11 ct11 : Value} {f11 : Addr}
    (a11 : PySem.W.findIn K (.ref C_Machine) "answer" = some (some (.ref f11)))
    (l11 : K.lookup f11 = some ⟨oc11, od11, .func (PySem.W.fnOf "answer" "Run.answer" (defArgs s_Run_answer) (defBody s_Run_answer) (defScope s_Run_answer) .none kV11 dc11 pm11 an11 cd11 ct11), sl11⟩) (c11 : PySem.W.codeIn K cd11 "Run.answer" = true) (k11 : PySem.W.keepIn K (.ref f11) = true)
    (i11 : PySem.W.isFn K (.ref f11) = true)
    {od12 an12 : Option Addr} {sl12 : Array (Option Value)} {oc12 kV12 dc12 pm12 cd12 ct12 : Value} {f12 : Addr}
    (a12 : PySem.W.findIn K (.ref C_Machine) "ended" = some (some (.ref f12)))
    (l12 : K.lookup f12 = some ⟨oc12, od12, .func (PySem.W.fnOf "ended" "Run.ended" (defArgs s_Run_ended) (defBody s_Run_ended) (defScope s_Run_ended) .none kV12 dc12 pm12 an12 cd12 ct12), sl12⟩) (c12 : PySem.W.codeIn K cd12 "Run.ended" = true) (k12 : PySem.W.keepIn K (.ref f12) = true)
    (i12 : PySem.W.isFn K (.ref f12) = true)
    {od13 an13 : Option Addr} {sl13 : Array (Option Value)} {oc13 kV13 dc13 pm13 cd13 ct13 : Value} {f13 : Addr}
    (a13 : PySem.W.findIn K (.ref C_Machine) "leave" = some (some (.ref f13)))
    (l13 : K.lookup f13 = some ⟨oc13, od13, .func (PySem.W.fnOf "leave" "Machine.leave" (defArgs s_Machine_leave) (defBody s_Machine_leave) (defScope s_Machine_leave) .none kV13 dc13 pm13 an13 cd13 ct13), sl13⟩) (c13 : PySem.W.codeIn K cd13 "Machine.leave" = true) (k13 : PySem.W.keepIn K (.ref f13) = true)
    (i13 : PySem.W.isFn K (.ref f13) = true)
    {od14 an14 : Option Addr} {sl14 : Array (Option Value)} {oc14 kV14 dc14 pm14 cd14 ct14 : Value} {f14 : Addr}
    (a14 : PySem.W.nsIn K mainGlobals "unbounded" = some (some (.ref f14)))
    (l14 : K.lookup f14 = some ⟨oc14, od14, .func (PySem.W.fnOf "unbounded" "unbounded" (defArgs s_p_unbounded) (defBody s_p_unbounded) (defScope s_p_unbounded) .none kV14 dc14 pm14 an14 cd14 ct14), sl14⟩) (c14 : PySem.W.codeIn K cd14 "unbounded" = true) (k14 : PySem.W.keepIn K (.ref f14) = true)
    {od15 an15 : Option Addr} {sl15 : Array (Option Value)} {oc15 kV15 dc15 pm15 cd15 ct15 : Value} {f15 : Addr}
    (a15 : PySem.W.nsIn K mainGlobals "worth" = some (some (.ref f15)))
    (l15 : K.lookup f15 = some ⟨oc15, od15, .func (PySem.W.fnOf "worth" "worth" (defArgs s_p_worth) (defBody s_p_worth) (defScope s_p_worth) .none kV15 dc15 pm15 an15 cd15 ct15), sl15⟩) (c15 : PySem.W.codeIn K cd15 "worth" = true) (k15 : PySem.W.keepIn K (.ref f15) = true)
    {od16 an16 : Option Addr} {sl16 : Array (Option Value)} {oc16 kV16 dc16 pm16 cd16 ct16 : Value} {f16 : Addr}
    (a16 : PySem.W.findIn K (.ref C_Machine) "work" = some (some (.ref f16)))
    (l16 : K.lookup f16 = some ⟨oc16, od16, .func (PySem.W.fnOf "work" "Machine.work" (defArgs s_Machine_work) (defBody s_Machine_work) (defScope s_Machine_work) .none kV16 dc16 pm16 an16 cd16 ct16), sl16⟩) (c16 : PySem.W.codeIn K cd16 "Machine.work" = true) (k16 : PySem.W.keepIn K (.ref f16) = true)
    (i16 : PySem.W.isFn K (.ref f16) = true)
    {od17 an17 : Option Addr} {sl17 : Array (Option Value)} {oc17 kV17 dc17 pm17 cd17 ct17 : Value} {f17 : Addr}
    (a17 : PySem.W.findIn K (.ref C_Machine) "step" = some (some (.ref f17)))
    (l17 : K.lookup f17 = some ⟨oc17, od17, .func (PySem.W.fnOf "step" "Machine.step" (defArgs s_Machine_step) (defBody s_Machine_step) (defScope s_Machine_step) .none kV17 dc17 pm17 an17 cd17 ct17), sl17⟩) (c17 : PySem.W.codeIn K cd17 "Machine.step" = true) (k17 : PySem.W.keepIn K (.ref f17) = true)
    (i17 : PySem.W.isFn K (.ref f17) = true)
    {od18 an18 : Option Addr} {sl18 : Array (Option Value)} {oc18 kV18 dc18 pm18 cd18 ct18 : Value} {f18 : Addr}
    (a18 : PySem.W.nsIn K mainGlobals "stepped" = some (some (.ref f18)))
    (l18 : K.lookup f18 = some ⟨oc18, od18, .func (PySem.W.fnOf "stepped" "stepped" (defArgs s_p_stepped) (defBody s_p_stepped) (defScope s_p_stepped) .none kV18 dc18 pm18 an18 cd18 ct18), sl18⟩) (c18 : PySem.W.codeIn K cd18 "stepped" = true) (k18 : PySem.W.keepIn K (.ref f18) = true)
    {od19 an19 : Option Addr} {sl19 : Array (Option Value)} {oc19 kV19 dc19 pm19 cd19 ct19 : Value} {f19 : Addr}
    {dt19_0 : Tok}
    {T19 : Addr} {ocT19 : Value} {odT19 : Option Addr} {nT19 : Nat} {slT19 : Array (Option Value)}
    (a19 : PySem.W.nsIn K mainGlobals "run_belt" = some (some (.ref f19)))
    (l19 : K.lookup f19 = some ⟨oc19, od19, .func (PySem.W.fnOf "run_belt" "run_belt" (defArgs s_p_run_belt) (defBody s_p_run_belt) (defScope s_p_run_belt) (.ref T19) kV19 dc19 pm19 an19 cd19 ct19), sl19⟩) (c19 : PySem.W.codeIn K cd19 "run_belt" = true) (k19 : PySem.W.keepIn K (.ref f19) = true)
    (t19 : K.lookup T19 = some ⟨ocT19, odT19, .seq #[(Value.int 400 dt19_0)] nT19, slT19⟩)
    {od20 an20 : Option Addr} {sl20 : Array (Option Value)} {oc20 kV20 dc20 pm20 cd20 ct20 : Value} {f20 : Addr}
    (a20 : PySem.W.findIn K (.ref C_Machine) "frames" = some (some (.ref f20)))
    (l20 : K.lookup f20 = some ⟨oc20, od20, .func (PySem.W.fnOf "frames" "Machine.frames" (defArgs s_Machine_frames) (defBody s_Machine_frames) (defScope s_Machine_frames) .none kV20 dc20 pm20 an20 cd20 ct20), sl20⟩) (c20 : PySem.W.codeIn K cd20 "Machine.frames" = true) (k20 : PySem.W.keepIn K (.ref f20) = true)
    (i20 : PySem.W.isFn K (.ref f20) = true)
    {od21 an21 : Option Addr} {sl21 : Array (Option Value)} {oc21 kV21 dc21 pm21 cd21 ct21 : Value} {f21 : Addr}
    (a21 : PySem.W.nsIn K mainGlobals "_law_due" = some (some (.ref f21)))
    (l21 : K.lookup f21 = some ⟨oc21, od21, .func (PySem.W.fnOf "_law_due" "_law_due" (defArgs s_due) (defBody s_due) (defScope s_due) .none kV21 dc21 pm21 an21 cd21 ct21), sl21⟩) (c21 : PySem.W.codeIn K cd21 "_law_due" = true) (k21 : PySem.W.keepIn K (.ref f21) = true)
    {od22 an22 : Option Addr} {sl22 : Array (Option Value)} {oc22 kV22 dc22 pm22 cd22 ct22 : Value} {f22 : Addr}
    (a22 : PySem.W.nsIn K mainGlobals "_law_alike" = some (some (.ref f22)))
    (l22 : K.lookup f22 = some ⟨oc22, od22, .func (PySem.W.fnOf "_law_alike" "_law_alike" (defArgs s_alike) (defBody s_alike) (defScope s_alike) .none kV22 dc22 pm22 an22 cd22 ct22), sl22⟩) (c22 : PySem.W.codeIn K cd22 "_law_alike" = true) (k22 : PySem.W.keepIn K (.ref f22) = true)
    {od23 an23 : Option Addr} {sl23 : Array (Option Value)} {oc23 kV23 dc23 pm23 cd23 ct23 : Value} {f23 : Addr}
    (a23 : PySem.W.nsIn K mainGlobals "_law_draw" = some (some (.ref f23)))
    (l23 : K.lookup f23 = some ⟨oc23, od23, .func (PySem.W.fnOf "_law_draw" "_law_draw" (defArgs s_draw) (defBody s_draw) (defScope s_draw) .none kV23 dc23 pm23 an23 cd23 ct23), sl23⟩) (c23 : PySem.W.codeIn K cd23 "_law_draw" = true) (k23 : PySem.W.keepIn K (.ref f23) = true)
    {od24 an24 : Option Addr} {sl24 : Array (Option Value)} {oc24 kV24 dc24 pm24 cd24 ct24 : Value} {f24 : Addr}
    (a24 : PySem.W.nsIn K mainGlobals "_law_worth" = some (some (.ref f24)))
    (l24 : K.lookup f24 = some ⟨oc24, od24, .func (PySem.W.fnOf "_law_worth" "_law_worth" (defArgs s_worth) (defBody s_worth) (defScope s_worth) .none kV24 dc24 pm24 an24 cd24 ct24), sl24⟩) (c24 : PySem.W.codeIn K cd24 "_law_worth" = true) (k24 : PySem.W.keepIn K (.ref f24) = true)
    {od25 an25 : Option Addr} {sl25 : Array (Option Value)} {oc25 kV25 dc25 pm25 cd25 ct25 : Value} {f25 : Addr}
    (a25 : PySem.W.nsIn K mainGlobals "_law_silent" = some (some (.ref f25)))
    (l25 : K.lookup f25 = some ⟨oc25, od25, .func (PySem.W.fnOf "_law_silent" "_law_silent" (defArgs s_silent) (defBody s_silent) (defScope s_silent) .none kV25 dc25 pm25 an25 cd25 ct25), sl25⟩) (c25 : PySem.W.codeIn K cd25 "_law_silent" = true) (k25 : PySem.W.keepIn K (.ref f25) = true)
    {od26 an26 : Option Addr} {sl26 : Array (Option Value)} {oc26 kV26 dc26 pm26 cd26 ct26 : Value} {f26 : Addr}
    (a26 : PySem.W.nsIn K mainGlobals "_law_code_row" = some (some (.ref f26)))
    (l26 : K.lookup f26 = some ⟨oc26, od26, .func (PySem.W.fnOf "_law_code_row" "_law_code_row" (defArgs s_code_row) (defBody s_code_row) (defScope s_code_row) .none kV26 dc26 pm26 an26 cd26 ct26), sl26⟩) (c26 : PySem.W.codeIn K cd26 "_law_code_row" = true) (k26 : PySem.W.keepIn K (.ref f26) = true)
    {od27 an27 : Option Addr} {sl27 : Array (Option Value)} {oc27 kV27 dc27 pm27 cd27 ct27 : Value} {f27 : Addr}
    (a27 : PySem.W.nsIn K mainGlobals "_law_code_part" = some (some (.ref f27)))
    (l27 : K.lookup f27 = some ⟨oc27, od27, .func (PySem.W.fnOf "_law_code_part" "_law_code_part" (defArgs s_code_part) (defBody s_code_part) (defScope s_code_part) .none kV27 dc27 pm27 an27 cd27 ct27), sl27⟩) (c27 : PySem.W.codeIn K cd27 "_law_code_part" = true) (k27 : PySem.W.keepIn K (.ref f27) = true)
    {od28 an28 : Option Addr} {sl28 : Array (Option Value)} {oc28 kV28 dc28 pm28 cd28 ct28 : Value} {f28 : Addr}
    (a28 : PySem.W.nsIn K mainGlobals "_law_code" = some (some (.ref f28)))
    (l28 : K.lookup f28 = some ⟨oc28, od28, .func (PySem.W.fnOf "_law_code" "_law_code" (defArgs s_code) (defBody s_code) (defScope s_code) .none kV28 dc28 pm28 an28 cd28 ct28), sl28⟩) (c28 : PySem.W.codeIn K cd28 "_law_code" = true) (k28 : PySem.W.keepIn K (.ref f28) = true)
    {od29 an29 : Option Addr} {sl29 : Array (Option Value)} {oc29 kV29 dc29 pm29 cd29 ct29 : Value} {f29 : Addr}
    (a29 : PySem.W.nsIn K mainGlobals "_law_deep" = some (some (.ref f29)))
    (l29 : K.lookup f29 = some ⟨oc29, od29, .func (PySem.W.fnOf "_law_deep" "_law_deep" (defArgs s_deep) (defBody s_deep) (defScope s_deep) .none kV29 dc29 pm29 an29 cd29 ct29), sl29⟩) (c29 : PySem.W.codeIn K cd29 "_law_deep" = true) (k29 : PySem.W.keepIn K (.ref f29) = true)
    {od30 an30 : Option Addr} {sl30 : Array (Option Value)} {oc30 kV30 dc30 pm30 cd30 ct30 : Value} {f30 : Addr}
    (a30 : PySem.W.nsIn K mainGlobals "law" = some (some (.ref f30)))
    (l30 : K.lookup f30 = some ⟨oc30, od30, .func (PySem.W.fnOf "law" "law" (defArgs s_law) (defBody s_law) (defScope s_law) .none kV30 dc30 pm30 an30 cd30 ct30), sl30⟩) (c30 : PySem.W.codeIn K cd30 "law" = true) (k30 : PySem.W.keepIn K (.ref f30) = true)
    (z_len : PySem.W.nsIn K mainGlobals "len" = some none) (z_range : PySem.W.nsIn K mainGlobals "range" = some none) (z_divmod : PySem.W.nsIn K mainGlobals "divmod" = some none) (z_max : PySem.W.nsIn K mainGlobals "max" = some none) (z_min : PySem.W.nsIn K mainGlobals "min" = some none) (z_sum : PySem.W.nsIn K mainGlobals "sum" = some none) (z_all : PySem.W.nsIn K mainGlobals "all" = some none) (z_isinstance : PySem.W.nsIn K mainGlobals "isinstance" = some none) (z_int : PySem.W.nsIn K mainGlobals "int" = some none) (z_bool : PySem.W.nsIn K mainGlobals "bool" = some none) (z_list : PySem.W.nsIn K mainGlobals "list" = some none) (z_tuple : PySem.W.nsIn K mainGlobals "tuple" = some none) (z_enumerate : PySem.W.nsIn K mainGlobals "enumerate" = some none) (z_zip : PySem.W.nsIn K mainGlobals "zip" = some none) (z_sorted : PySem.W.nsIn K mainGlobals "sorted" = some none) (z_set : PySem.W.nsIn K mainGlobals "set" = some none) (z_dict : PySem.W.nsIn K mainGlobals "dict" = some none) (z_str : PySem.W.nsIn K mainGlobals "str" = some none) (z_any : PySem.W.nsIn K mainGlobals "any" = some none) (z_reversed : PySem.W.nsIn K mainGlobals "reversed" = some none) (z_abs : PySem.W.nsIn K mainGlobals "abs" = some none) :
    ∃ fd : FuncData, (∀ (s : Shared) (v : Value), BindsTo s fd ⟨[v], []⟩ [("_law_script", v)]) ∧ ∀ base : Heap, K.In base → base.Ns mainGlobals mg → FnOk l.prog w K mg base CX0 K_law fa fd PS_law (sp_law K) := by
  have e := hfa.symm.trans (PySem.W.mg_of X G a30)
  cases e
  have B : Blt mg := ⟨PySem.W.mg_none_of X G z_len, PySem.W.mg_none_of X G z_range, PySem.W.mg_none_of X G z_divmod, PySem.W.mg_none_of X G z_max, PySem.W.mg_none_of X G z_min, PySem.W.mg_none_of X G z_sum, PySem.W.mg_none_of X G z_all, PySem.W.mg_none_of X G z_isinstance, PySem.W.mg_none_of X G z_int, PySem.W.mg_none_of X G z_bool, PySem.W.mg_none_of X G z_list, PySem.W.mg_none_of X G z_tuple, PySem.W.mg_none_of X G z_enumerate, PySem.W.mg_none_of X G z_zip, PySem.W.mg_none_of X G z_sorted, PySem.W.mg_none_of X G z_set, PySem.W.mg_none_of X G z_dict, PySem.W.mg_none_of X G z_str, PySem.W.mg_none_of X G z_any, PySem.W.mg_none_of X G z_reversed, PySem.W.mg_none_of X G z_abs⟩
  have eC_Run : clsAt K "Run" = C_Run := clsAt_of zc_Run
  have eC_BeltFrame : clsAt K "BeltFrame" = C_BeltFrame := clsAt_of zc_BeltFrame
  have cl_BeltFrame : Cls K (clsAt K "BeltFrame") := by rw [eC_BeltFrame]; exact ⟨pg_BeltFrame, hd_BeltFrame, po_BeltFrame, sa_BeltFrame⟩
  have eC_Machine : clsAt K "Machine" = C_Machine := clsAt_of zc_Machine
  have cl_Machine : Cls K (clsAt K "Machine") := by rw [eC_Machine]; exact ⟨pg_Machine, hd_Machine, po_Machine, sa_Machine⟩
  have T : TxtM K := ⟨cl_Machine, cl_BeltFrame, (by rw [eC_Machine]; exact no_0), (by rw [eC_Machine]; exact no_1), (by rw [eC_Machine]; exact no_2), (by rw [eC_Machine]; exact no_3), (by rw [eC_BeltFrame]; exact no_4), (by rw [eC_BeltFrame]; exact no_5), (by rw [eC_BeltFrame]; exact no_6)⟩
  have F0 := fun_mk (st := s_c_goal) l0 c0 k0
  have b0 := F0.binds (ps := PS_c_goal) fun _ _ _ _ _ _ us hl => match us, hl with | [_], _ => rfl
  have F1 := fun_mk (st := s_c_leads) l1 c1 k1
  have b1 := F1.binds (ps := PS_c_leads) fun _ _ _ _ _ _ us hl => match us, hl with | [_, _], _ => rfl
  have F2 := fun_mk (st := s_p_places_read) l2 c2 k2
  have b2 := F2.binds (ps := PS_p_places_read) fun _ _ _ _ _ _ us hl => match us, hl with | [_], _ => rfl
  have F3 := fun_mk (st := s_p_pushed) l3 c3 k3
  have b3 := F3.binds (ps := PS_p_pushed) fun _ _ _ _ _ _ us hl => match us, hl with | [_, _], _ => rfl
  have F4 := fun_mk (st := s_Machine_go_on) l4 c4 k4
  have b4 := F4.binds (ps := PS_Machine_go_on) fun _ _ _ _ _ _ us hl => match us, hl with | [_, _, _], _ => rfl
  have F5 := fun_mk (st := s_BeltFrame_init) l5 c5 k5
  have b5 := F5.binds (ps := PS_BeltFrame_init) fun _ _ _ _ _ _ us hl => match us, hl with | [_, _, _, _], _ => rfl
  have F6 := fun_mk (st := s_p_begun) l6 c6 k6
  have b6 := F6.binds (ps := PS_p_begun) fun _ _ _ _ _ _ us hl => match us, hl with | [_, _, _], _ => rfl
  have F7 := fun_mk (st := s_Machine_enter) l7 c7 k7
  have b7 := F7.binds (ps := PS_Machine_enter) fun _ _ _ _ _ _ us hl => match us, hl with | [_, _, _], _ => rfl
  have F8 := fun_mk (st := s_Run_init) l8 c8 k8
  have b8 := F8.binds (ps := PS_Run_init) fun _ _ _ _ _ _ us hl => match us, hl with | [_], _ => rfl
  have F9 := fun_mk (st := s_Machine_init) l9 c9 k9
  have b9 := F9.binds (ps := PS_Machine_init) fun _ _ _ _ _ _ us hl => match us, hl with | [_, _, _, _], _ => rfl
  have F10 := fun_mk (st := s_Run_said) l10 c10 k10
  have b10 := F10.binds (ps := PS_Run_said) fun _ _ _ _ _ _ us hl => match us, hl with | [_], _ => rfl
  have F11 := fun_mk (st := s_Run_answer) l11 c11 k11
  have b11 := F11.binds (ps := PS_Run_answer) fun _ _ _ _ _ _ us hl => match us, hl with | [_], _ => rfl
  have F12 := fun_mk (st := s_Run_ended) l12 c12 k12
  have b12 := F12.binds (ps := PS_Run_ended) fun _ _ _ _ _ _ us hl => match us, hl with | [_], _ => rfl
  have F13 := fun_mk (st := s_Machine_leave) l13 c13 k13
  have b13 := F13.binds (ps := PS_Machine_leave) fun _ _ _ _ _ _ us hl => match us, hl with | [_, _], _ => rfl
  have F14 := fun_mk (st := s_p_unbounded) l14 c14 k14
  have b14 := F14.binds (ps := PS_p_unbounded) fun _ _ _ _ _ _ us hl => match us, hl with | [_, _, _], _ => rfl
  have F15 := fun_mk (st := s_p_worth) l15 c15 k15
  have b15 := F15.binds (ps := PS_p_worth) fun _ _ _ _ _ _ us hl => match us, hl with | [_, _, _], _ => rfl
  have F16 := fun_mk (st := s_Machine_work) l16 c16 k16
  have b16 := F16.binds (ps := PS_Machine_work) fun _ _ _ _ _ _ us hl => match us, hl with | [_, _, _, _], _ => rfl
  have F17 := fun_mk (st := s_Machine_step) l17 c17 k17
  have b17 := F17.binds (ps := PS_Machine_step) fun _ _ _ _ _ _ us hl => match us, hl with | [_], _ => rfl
  have F18 := fun_mk (st := s_p_stepped) l18 c18 k18
  have b18 := F18.binds (ps := PS_p_stepped) fun _ _ _ _ _ _ us hl => match us, hl with | [_, _], _ => rfl
  have F19 := funD_mk (st := s_p_run_belt) l19 c19 k19
  have F20 := fun_mk (st := s_Machine_frames) l20 c20 k20
  have b20 := F20.binds (ps := PS_Machine_frames) fun _ _ _ _ _ _ us hl => match us, hl with | [_], _ => rfl
  have F21 := fun_mk (st := s_due) l21 c21 k21
  have b21 := F21.binds (ps := PS_due) fun _ _ _ _ _ _ us hl => match us, hl with | [_, _, _, _], _ => rfl
  have F22 := fun_mk (st := s_alike) l22 c22 k22
  have b22 := F22.binds (ps := PS_alike) fun _ _ _ _ _ _ us hl => match us, hl with | [_, _], _ => rfl
  have F23 := fun_mk (st := s_draw) l23 c23 k23
  have b23 := F23.binds (ps := PS_draw) fun _ _ _ _ _ _ us hl => match us, hl with | [_, _], _ => rfl
  have F24 := fun_mk (st := s_worth) l24 c24 k24
  have b24 := F24.binds (ps := PS_worth) fun _ _ _ _ _ _ us hl => match us, hl with | [_], _ => rfl
  have F25 := fun_mk (st := s_silent) l25 c25 k25
  have b25 := F25.binds (ps := PS_silent) fun _ _ _ _ _ _ us hl => match us, hl with | [_, _], _ => rfl
  have F26 := fun_mk (st := s_code_row) l26 c26 k26
  have b26 := F26.binds (ps := PS_code_row) fun _ _ _ _ _ _ us hl => match us, hl with | [_, _, _, _], _ => rfl
  have F27 := fun_mk (st := s_code_part) l27 c27 k27
  have b27 := F27.binds (ps := PS_code_part) fun _ _ _ _ _ _ us hl => match us, hl with | [_, _, _, _], _ => rfl
  have F28 := fun_mk (st := s_code) l28 c28 k28
  have b28 := F28.binds (ps := PS_code) fun _ _ _ _ _ _ us hl => match us, hl with | [_, _, _], _ => rfl
  have F29 := fun_mk (st := s_deep) l29 c29 k29
  have b29 := F29.binds (ps := PS_deep) fun _ _ _ _ _ _ us hl => match us, hl with | [_], _ => rfl
  have F30 := fun_mk (st := s_law) l30 c30 k30
  refine ⟨PySem.W.fnOf "law" "law" (defArgs s_law) (defBody s_law) (defScope s_law) .none kV30 dc30 pm30 an30 cd30 ct30, fun s v => .of_eq rfl, fun base _ _ => ?_⟩
  have c_c_goal : Callee l.prog w K mg base "goal" PS_c_goal K_c_goal (sp_c_goal K) := ⟨⟨_, _, PySem.W.mg_of X G a0, k0, b0, ok_c_goal F0 B⟩⟩
  have c_c_leads : Callee l.prog w K mg base "leads" PS_c_leads K_c_leads (sp_c_leads K) := ⟨⟨_, _, PySem.W.mg_of X G a1, k1, b1, ok_c_leads F1 B c_c_goal⟩⟩
  have c_p_places_read : Callee l.prog w K mg base "places_read" PS_p_places_read K_p_places_read (sp_p_places_read K) := ⟨⟨_, _, PySem.W.mg_of X G a2, k2, b2, ok_p_places_read F2 B⟩⟩
  have c_p_pushed : Callee l.prog w K mg base "pushed" PS_p_pushed K_p_pushed (sp_p_pushed K) := ⟨⟨_, _, PySem.W.mg_of X G a3, k3, b3, ok_p_pushed F3 B⟩⟩
  have m_Machine_go_on : MethOk l.prog w K mg base (clsAt K "Machine") "go_on" PS_Machine_go_on K_Machine_go_on (sp_Machine_go_on K) := ⟨⟨f4, _, by rw [eC_Machine]; exact ⟨a4, i4, k4⟩, b4, ok_Machine_go_on F4 B T c_c_leads c_p_places_read c_p_pushed⟩⟩
  have mk_BeltFrame : MakeOk l.prog w K mg base "BeltFrame" (clsAt K "BeltFrame") PS_BeltFrame_init K_BeltFrame_init (sp_BeltFrame_init K) := ⟨⟨f5, _, PySem.W.mg_of X G zc_BeltFrame |>.trans (by rw [eC_BeltFrame]), by rw [eC_BeltFrame]; exact ⟨ma_BeltFrame, a5, i5, kp_BeltFrame⟩, b5, ok_BeltFrame_init F5 B T⟩⟩
  have c_p_begun : Callee l.prog w K mg base "begun" PS_p_begun K_p_begun (sp_p_begun K) := ⟨⟨_, _, PySem.W.mg_of X G a6, k6, b6, ok_p_begun F6 B c_p_pushed⟩⟩
  have m_Machine_enter : MethOk l.prog w K mg base (clsAt K "Machine") "enter" PS_Machine_enter K_Machine_enter (sp_Machine_enter K) := ⟨⟨f7, _, by rw [eC_Machine]; exact ⟨a7, i7, k7⟩, b7, ok_Machine_enter F7 B T cl_Machine m_Machine_go_on mk_BeltFrame c_p_begun⟩⟩
  have b_Run_init : BaseOk l.prog w K mg base "Run" (clsAt K "Run") "__init__" PS_Run_init K_Run_init (sp_Run_init K) := ⟨⟨f8, _, PySem.W.mg_of X G zc_Run |>.trans (by rw [eC_Run]), by rw [eC_Run]; exact hg_Run, by rw [eC_Run]; exact rd_Run, by rw [eC_Run]; exact a8, k8, b8, ok_Run_init F8 B⟩⟩
  have mk_Machine : MakeOk l.prog w K mg base "Machine" (clsAt K "Machine") PS_Machine_init K_Machine_init (sp_Machine_init K) := ⟨⟨f9, _, PySem.W.mg_of X G zc_Machine |>.trans (by rw [eC_Machine]), by rw [eC_Machine]; exact ⟨ma_Machine, a9, i9, kp_Machine⟩, b9, ok_Machine_init F9 B T cl_Machine m_Machine_enter b_Run_init⟩⟩
  have m_Machine_said : MethOk l.prog w K mg base (clsAt K "Machine") "said" PS_Run_said K_Run_said (sp_Run_said K) := ⟨⟨f10, _, by rw [eC_Machine]; exact ⟨a10, i10, k10⟩, b10, ok_Run_said F10 B⟩⟩
  have m_Machine_answer : MethOk l.prog w K mg base (clsAt K "Machine") "answer" PS_Run_answer K_Run_answer (sp_Run_answer K) := ⟨⟨f11, _, by rw [eC_Machine]; exact ⟨a11, i11, k11⟩, b11, ok_Run_answer F11 B⟩⟩
  have m_Machine_ended : MethOk l.prog w K mg base (clsAt K "Machine") "ended" PS_Run_ended K_Run_ended (sp_Run_ended K) := ⟨⟨f12, _, by rw [eC_Machine]; exact ⟨a12, i12, k12⟩, b12, ok_Run_ended F12 B⟩⟩
  have m_Machine_leave : MethOk l.prog w K mg base (clsAt K "Machine") "leave" PS_Machine_leave K_Machine_leave (sp_Machine_leave K) := ⟨⟨f13, _, by rw [eC_Machine]; exact ⟨a13, i13, k13⟩, b13, ok_Machine_leave F13 B T cl_Machine m_Machine_ended m_Machine_go_on c_p_pushed⟩⟩
  have c_p_unbounded : Callee l.prog w K mg base "unbounded" PS_p_unbounded K_p_unbounded (sp_p_unbounded K) := ⟨⟨_, _, PySem.W.mg_of X G a14, k14, b14, ok_p_unbounded F14 B⟩⟩
  have c_p_worth : Callee l.prog w K mg base "worth" PS_p_worth K_p_worth (sp_p_worth K) := ⟨⟨_, _, PySem.W.mg_of X G a15, k15, b15, ok_p_worth F15 B c_p_unbounded⟩⟩
  have m_Machine_work : MethOk l.prog w K mg base (clsAt K "Machine") "work" PS_Machine_work K_Machine_work (sp_Machine_work K) := ⟨⟨f16, _, by rw [eC_Machine]; exact ⟨a16, i16, k16⟩, b16, ok_Machine_work F16 B T cl_Machine m_Machine_go_on c_p_pushed c_p_worth c_c_goal⟩⟩
  have m_Machine_step : MethOk l.prog w K mg base (clsAt K "Machine") "step" PS_Machine_step K_Machine_step (sp_Machine_step K) := ⟨⟨f17, _, by rw [eC_Machine]; exact ⟨a17, i17, k17⟩, b17, ok_Machine_step F17 B T cl_Machine m_Machine_enter m_Machine_leave m_Machine_work m_Machine_ended c_p_places_read⟩⟩
  have c_p_stepped : Callee l.prog w K mg base "stepped" PS_p_stepped K_p_stepped (sp_p_stepped K) := ⟨⟨_, _, PySem.W.mg_of X G a18, k18, b18, ok_p_stepped F18 B T cl_Machine m_Machine_said m_Machine_answer m_Machine_ended m_Machine_step⟩⟩
  have b19_0 : Binds K _ PS_p_run_belt [] := fun s us X hl => match us, (show us.length = 4 from by rw [List.append_nil] at hl; exact hl) with | [_, _, _, _], _ => PySem.W.binds_K (fd := PySem.W.fnOf "run_belt" "run_belt" (defArgs s_p_run_belt) (defBody s_p_run_belt) (defScope s_p_run_belt) (.ref T19) kV19 dc19 pm19 an19 cd19 ct19) X rfl t19 rfl rfl rfl
  have c_p_run_belt : Callee l.prog w K mg base "run_belt" PS_p_run_belt K_p_run_belt (sp_p_run_belt K) := ⟨⟨_, _, PySem.W.mg_of X G a19, k19, b19_0, ok_p_run_belt F19 B T mk_Machine c_p_stepped⟩⟩
  have b19_1 : Binds K _ PS_p_run_belt [(Value.int 400 dt19_0)] := fun s us X hl => match us, (show us.length = 3 from by rw [List.length_append] at hl; exact Nat.succ.inj hl) with | [_, _, _], _ => PySem.W.binds_K (fd := PySem.W.fnOf "run_belt" "run_belt" (defArgs s_p_run_belt) (defBody s_p_run_belt) (defScope s_p_run_belt) (.ref T19) kV19 dc19 pm19 an19 cd19 ct19) X rfl t19 rfl rfl rfl
  have c_p_run_belt_d1 : CalleeD l.prog w K mg base "run_belt" PS_p_run_belt K_p_run_belt [.int 400] (sp_p_run_belt K) := ⟨⟨_, _, _, PySem.W.mg_of X G a19, k19, b19_1, .cons ⟨_, rfl⟩ .nil, ok_p_run_belt F19 B T mk_Machine c_p_stepped⟩⟩
  have m_Machine_frames : MethOk l.prog w K mg base (clsAt K "Machine") "frames" PS_Machine_frames K_Machine_frames (sp_Machine_frames K) := ⟨⟨f20, _, by rw [eC_Machine]; exact ⟨a20, i20, k20⟩, b20, ok_Machine_frames F20 B T⟩⟩
  have c_due : Callee l.prog w K mg base "_law_due" PS_due K_due (sp_due K) := ⟨⟨_, _, PySem.W.mg_of X G a21, k21, b21, ok_due F21 B T cl_Machine m_Machine_said m_Machine_frames m_Machine_answer m_Machine_step mk_Machine⟩⟩
  have c_alike : Callee l.prog w K mg base "_law_alike" PS_alike K_alike (sp_alike K) := ⟨⟨_, _, PySem.W.mg_of X G a22, k22, b22, ok_alike F22 B⟩⟩
  have c_draw : Callee l.prog w K mg base "_law_draw" PS_draw K_draw (sp_draw K) := ⟨⟨_, _, PySem.W.mg_of X G a23, k23, b23, ok_draw F23 B⟩⟩
  have c_worth : Callee l.prog w K mg base "_law_worth" PS_worth K_worth (sp_worth K) := ⟨⟨_, _, PySem.W.mg_of X G a24, k24, b24, ok_worth F24 B c_draw⟩⟩
  have c_silent : Callee l.prog w K mg base "_law_silent" PS_silent K_silent (sp_silent K) := ⟨⟨_, _, PySem.W.mg_of X G a25, k25, b25, ok_silent F25 B⟩⟩
  have c_code_row : Callee l.prog w K mg base "_law_code_row" PS_code_row K_code_row (sp_code_row K) := ⟨⟨_, _, PySem.W.mg_of X G a26, k26, b26, ok_code_row F26 B c_draw c_worth⟩⟩
  have c_code_part : Callee l.prog w K mg base "_law_code_part" PS_code_part K_code_part (sp_code_part K) := ⟨⟨_, _, PySem.W.mg_of X G a27, k27, b27, ok_code_part F27 B c_silent c_draw c_code_row⟩⟩
  have c_code : Callee l.prog w K mg base "_law_code" PS_code K_code (sp_code K) := ⟨⟨_, _, PySem.W.mg_of X G a28, k28, b28, ok_code F28 B c_code_part c_draw⟩⟩
  have c_deep : Callee l.prog w K mg base "_law_deep" PS_deep K_deep (sp_deep K) := ⟨⟨_, _, PySem.W.mg_of X G a29, k29, b29, ok_deep F29 B c_p_run_belt c_alike⟩⟩
  exact ok_law F30 B c_p_run_belt c_p_run_belt_d1 c_due c_alike c_draw c_worth c_code c_deep
theorem scr_of {K : PySem.W.Frag} {H : Hp} {a : Addr} {ns : List Int} (o : Only H) (h : SqL K H a (ns.map V.int)) : ScrAt K H a ns := by
  rcases h with (h | h) | h
  · rcases o a with z | ⟨ob, xs, z⟩ <;> rw [h] at z <;> cases z
  · exact .inl h
  · exact .inr h
theorem walk {l : PySem.W.OpenLaw} {q : Program} {loose : List Str} {XP : (Str → Option Value) → Heap → Prop} {YP : World → Heap → Prop} {d : DefRec} {K : Params → PySem.W.Frag} (hn : l.most = some 63) (hdf : d.params.defaults = [])
    (hY : ∀ (w : World) (h : Heap), YP w h → (K w.params).In h)
    (F : ∀ (w : World) (mg : Str → Option Value) (fa : Addr) (h : Heap), (K w.params).In h → h.Ns mainGlobals mg → mg d.name = some (.ref fa) →
      ∃ fd : FuncData, (∀ (s : Shared) (u : Value), BindsTo s fd ⟨[u], []⟩ [("_law_script", u)]) ∧ ∀ base : Heap, (K w.params).In base → base.Ns mainGlobals mg → FnOk l.prog w (K w.params) mg base CX0 K_law fa fd PS_law (sp_law (K w.params))) :
    PySem.W.WalkO q loose XP YP l.row.toRowW d [] (fun f vs => PySem.call f vs) :=
  L2.walk_of (n := 63) (k := K_law) (x := "_law_script") (CX := fun _ => CX0) (sp := fun w => sp_law (K w.params)) hn (by decide) hdf ⟨rfl, by decide, by decide⟩ hY F (fun _ _ a ns hl hO hS => ⟨a, ns, rfl, scr_of hO hS, hl, fun _ => rfl⟩) fun _ _ _ _ _ z => z
end Bg
open PySem PySem.W PyProof.Rows
set_option maxRecDepth 100000 in
set_option maxHeartbeats 0 in
theorem PySem.Challenge.cw_beltgarth_k46_whole_budgets_holds : PySem.Challenge.rw_beltgarth_k46_whole_budgets.Holds := by
  w_on; o_law; k_head; (case hw => w_witness2)
  k_fill
  refine Bg.walk (l := PySem.Challenge.rw_beltgarth_k46_whole_budgets) rfl rfl (fun w h Y => PySem.W.kIn_of Y) ?F
  case F =>
    intro w mg fa h KX G hmg
    refine' Bg.all_mk KX G hmg ?zc_BeltFrame ?pg_BeltFrame ?hd_BeltFrame ?po_BeltFrame ?sa_BeltFrame ?ma_BeltFrame ?kp_BeltFrame ?zc_Machine ?pg_Machine ?hd_Machine ?po_Machine ?sa_Machine ?ma_Machine ?kp_Machine ?zc_Run ?hg_Run ?rd_Run ?no_0 ?no_1 ?no_2 ?no_3 ?no_4 ?no_5 ?no_6 ?a0 ?l0 ?c0 ?k0 ?a1 ?l1 ?c1 ?k1 ?a2 ?l2 ?c2 ?k2 ?a3 ?l3 ?c3 ?k3 ?a4 ?l4 ?c4 ?k4 ?i4 ?a5 ?l5 ?c5 ?k5 ?i5 ?a6 ?l6 ?c6 ?k6 ?a7 ?l7 ?c7 ?k7 ?i7 ?a8 ?l8 ?c8 ?k8 ?i8 ?a9 ?l9 ?c9 ?k9 ?i9 ?a10 ?l10 ?c10 ?k10 ?i10 ?a11 ?l11 ?c11 ?k11 ?i11 ?a12 ?l12 ?c12 ?k12 ?i12 ?a13 ?l13 ?c13 ?k13 ?i13 ?a14 ?l14 ?c14 ?k14 ?a15 ?l15 ?c15 ?k15 ?a16 ?l16 ?c16 ?k16 ?i16 ?a17 ?l17 ?c17 ?k17 ?i17 ?a18 ?l18 ?c18 ?k18 ?a19 ?l19 ?c19 ?k19 ?t19 ?a20 ?l20 ?c20 ?k20 ?i20 ?a21 ?l21 ?c21 ?k21 ?a22 ?l22 ?c22 ?k22 ?a23 ?l23 ?c23 ?k23 ?a24 ?l24 ?c24 ?k24 ?a25 ?l25 ?c25 ?k25 ?a26 ?l26 ?c26 ?k26 ?a27 ?l27 ?c27 ?k27 ?a28 ?l28 ?c28 ?k28 ?a29 ?l29 ?c29 ?k29 ?a30 ?l30 ?c30 ?k30 ?z_len ?z_range ?z_divmod ?z_max ?z_min ?z_sum ?z_all ?z_isinstance ?z_int ?z_bool ?z_list ?z_tuple ?z_enumerate ?z_zip ?z_sorted ?z_set ?z_dict ?z_str ?z_any ?z_reversed ?z_abs
    (case zc_BeltFrame => k_is)
    (case pg_BeltFrame => k_is)
    (case hd_BeltFrame => k_is)
    (case po_BeltFrame => k_is)
    (case sa_BeltFrame => k_is)
    (case ma_BeltFrame => k_is)
    (case kp_BeltFrame => k_is)
    (case zc_Machine => k_is)
    (case pg_Machine => k_is)
    (case hd_Machine => k_is)
    (case po_Machine => k_is)
    (case sa_Machine => k_is)
    (case ma_Machine => k_is)
    (case kp_Machine => k_is)
    (case zc_Run => k_is)
    (case hg_Run => k_is)
    (case rd_Run => k_is)
    (case no_0 => k_is)
    (case no_1 => k_is)
    (case no_2 => k_is)
    (case no_3 => k_is)
    (case no_4 => k_is)
    (case no_5 => k_is)
    (case no_6 => k_is)
    (case a0 => k_is)
    (case l0 => k_is)
    (case c0 => k_is)
    (case k0 => k_is)
    (case a1 => k_is)
    (case l1 => k_is)
    (case c1 => k_is)
    (case k1 => k_is)
    (case a2 => k_is)
    (case l2 => k_is)
    (case c2 => k_is)
    (case k2 => k_is)
    (case a3 => k_is)
    (case l3 => k_is)
    (case c3 => k_is)
    (case k3 => k_is)
    (case a4 => k_is)
    (case l4 => k_is)
    (case c4 => k_is)
    (case k4 => k_is)
    (case i4 => k_is)
    (case a5 => k_is)
    (case l5 => k_is)
    (case c5 => k_is)
    (case k5 => k_is)
    (case i5 => k_is)
    (case a6 => k_is)
    (case l6 => k_is)
    (case c6 => k_is)
    (case k6 => k_is)
    (case a7 => k_is)
    (case l7 => k_is)
    (case c7 => k_is)
    (case k7 => k_is)
    (case i7 => k_is)
    (case a8 => k_is)
    (case l8 => k_is)
    (case c8 => k_is)
    (case k8 => k_is)
    (case i8 => k_is)
    (case a9 => k_is)
    (case l9 => k_is)
    (case c9 => k_is)
    (case k9 => k_is)
    (case i9 => k_is)
    (case a10 => k_is)
    (case l10 => k_is)
    (case c10 => k_is)
    (case k10 => k_is)
    (case i10 => k_is)
    (case a11 => k_is)
    (case l11 => k_is)
    (case c11 => k_is)
    (case k11 => k_is)
    (case i11 => k_is)
    (case a12 => k_is)
    (case l12 => k_is)
    (case c12 => k_is)
    (case k12 => k_is)
    (case i12 => k_is)
    (case a13 => k_is)
    (case l13 => k_is)
    (case c13 => k_is)
    (case k13 => k_is)
    (case i13 => k_is)
    (case a14 => k_is)
    (case l14 => k_is)
    (case c14 => k_is)
    (case k14 => k_is)
    (case a15 => k_is)
    (case l15 => k_is)
    (case c15 => k_is)
    (case k15 => k_is)
    (case a16 => k_is)
    (case l16 => k_is)
    (case c16 => k_is)
    (case k16 => k_is)
    (case i16 => k_is)
    (case a17 => k_is)
    (case l17 => k_is)
    (case c17 => k_is)
    (case k17 => k_is)
    (case i17 => k_is)
    (case a18 => k_is)
    (case l18 => k_is)
    (case c18 => k_is)
    (case k18 => k_is)
    (case a19 => k_is)
    (case l19 => k_is)
    (case c19 => k_is)
    (case k19 => k_is)
    (case t19 => k_is)
    (case a20 => k_is)
    (case l20 => k_is)
    (case c20 => k_is)
    (case k20 => k_is)
    (case i20 => k_is)
    (case a21 => k_is)
    (case l21 => k_is)
    (case c21 => k_is)
    (case k21 => k_is)
    (case a22 => k_is)
    (case l22 => k_is)
    (case c22 => k_is)
    (case k22 => k_is)
    (case a23 => k_is)
    (case l23 => k_is)
    (case c23 => k_is)
    (case k23 => k_is)
    (case a24 => k_is)
    (case l24 => k_is)
    (case c24 => k_is)
    (case k24 => k_is)
    (case a25 => k_is)
    (case l25 => k_is)
    (case c25 => k_is)
    (case k25 => k_is)
    (case a26 => k_is)
    (case l26 => k_is)
    (case c26 => k_is)
    (case k26 => k_is)
    (case a27 => k_is)
    (case l27 => k_is)
    (case c27 => k_is)
    (case k27 => k_is)
    (case a28 => k_is)
    (case l28 => k_is)
    (case c28 => k_is)
    (case k28 => k_is)
    (case a29 => k_is)
    (case l29 => k_is)
    (case c29 => k_is)
    (case k29 => k_is)
    (case a30 => k_is)
    (case l30 => k_is)
    (case c30 => k_is)
    (case k30 => k_is)
    (case z_len => k_is)
    (case z_range => k_is)
    (case z_divmod => k_is)
    (case z_max => k_is)
    (case z_min => k_is)
    (case z_sum => k_is)
    (case z_all => k_is)
    (case z_isinstance => k_is)
    (case z_int => k_is)
    (case z_bool => k_is)
    (case z_list => k_is)
    (case z_tuple => k_is)
    (case z_enumerate => k_is)
    (case z_zip => k_is)
    (case z_sorted => k_is)
    (case z_set => k_is)
    (case z_dict => k_is)
    (case z_str => k_is)
    (case z_any => k_is)
    (case z_reversed => k_is)
    (case z_abs => k_is)
