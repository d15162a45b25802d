import PyProof.Rows.All
import Wide.All
import OpenK.AllK
import Wide.FinOn
import Lean
import PyProof.EqAt
import PyProof.EqKinds
import PyProof.TupleCall
import PySem.Challenge.RW_beltgarth_k51_names_on_belts
section
set_option Elab.async false
set_option linter.all false
set_option maxRecDepth 100000
namespace L2
open PySem PySem.Spec PyProof.Rows
abbrev Key := Sum Int Str
def keyIs : Key → Value → Bool
  | .inl k, v => Value.isInt k v
  | .inr x, v => Value.isStrOf x v
def keyH (w : World) : Key → Int
  | .inl k => hashInt k
  | .inr x => hashStr w x
theorem keyIs_shape : ∀ {k : Key} {v : Value}, keyIs k v = true → (∃ i t, k = Sum.inl i ∧ v = Value.int i t) ∨ (∃ x t, k = Sum.inr x ∧ v = Value.str x t)
  | .inl i, v, h => by
    obtain ⟨t, e⟩ := Value.isInt_shape (k := i) (v := v) h
    exact .inl ⟨i, t, rfl, e⟩
  | .inr x, v, h => by
    obtain ⟨t, e⟩ := Value.isStrOf_shape (x := x) (v := v) h
    exact .inr ⟨x, t, rfl, e⟩
theorem key_ll (a b : Int) : decide ((Sum.inl a : Key) = Sum.inl b) = (a == b) := by
  by_cases e : a = b
  · subst e; simp
  · have h : ¬ (Sum.inl a : Key) = Sum.inl b := fun q => e (Sum.inl.inj q)
    rw [decide_eq_false h]
    exact (beq_eq_false_iff_ne.mpr e).symm
theorem key_rr (a b : Str) : decide ((Sum.inr a : Key) = Sum.inr b) = decide (a = b) := by
  by_cases e : a = b
  · subst e; simp
  · have h : ¬ (Sum.inr a : Key) = Sum.inr b := fun q => e (Sum.inr.inj q)
    rw [decide_eq_false h, decide_eq_false e]
theorem key_lr (a : Int) (b : Str) : decide ((Sum.inl a : Key) = Sum.inr b) = false := decide_eq_false (fun q => nomatch q)
theorem key_rl (a : Str) (b : Int) : decide ((Sum.inr a : Key) = Sum.inl b) = false := decide_eq_false (fun q => nomatch q)
def mixKind (prog : Program) (w : World) : PySem.KeyKind prog w Key where
  is := keyIs
  hash := keyH w
  inj := fun v a b ha hb => by
    rcases keyIs_shape ha with ⟨i, t, rfl, rfl⟩ | ⟨x, t, rfl, rfl⟩
    · rcases keyIs_shape hb with ⟨j, u, rfl, e⟩ | ⟨y, u, rfl, e⟩
      · injection e with e1 _; rw [e1]
      · exact nomatch e
    · rcases keyIs_shape hb with ⟨j, u, rfl, e⟩ | ⟨y, u, rfl, e⟩
      · exact nomatch e
      · injection e with e1 _; rw [e1]
  byValue := fun k v h => by
    rcases keyIs_shape h with ⟨i, t, rfl, rfl⟩ | ⟨x, t, rfl, rfl⟩ <;> rfl
  pyHash := fun hv h => by
    rcases keyIs_shape hv with ⟨i, t, rfl, rfl⟩ | ⟨x, t, rfl, rfl⟩
    · exact wpAny_pyHash_int h
    · exact wpAny_pyHash_str h
  eqBool := fun hu hv h => by
    rcases keyIs_shape hu with ⟨i, t, rfl, rfl⟩ | ⟨x, t, rfl, rfl⟩
    · rcases keyIs_shape hv with ⟨j, u, rfl, rfl⟩ | ⟨y, u, rfl, rfl⟩
      · rw [key_ll] at h; exact wpAny_eqBool_int h
      · rw [key_lr] at h; exact SeqAt.EqAt.int_str i t y u _ _ _ _ h
    · rcases keyIs_shape hv with ⟨j, u, rfl, rfl⟩ | ⟨y, u, rfl, rfl⟩
      · rw [key_rl] at h; exact SeqAt.EqAt.str_int x t j u _ _ _ _ h
      · rw [key_rr] at h; exact wpAny_eqBool_str h
  «strs» := fun k x t v h => by
    rcases keyIs_shape h with ⟨i, u, rfl, e⟩ | ⟨y, u, rfl, e⟩
    · exact nomatch e
    · injection e with e1 _
      subst e1
      cases v <;> rfl
end L2
namespace L2
open PySem PySem.Spec PyProof.Rows
inductive V where
  | non | bl (b : Bool) | int (i : Int) | str (x : Str) | byt (b : Array UInt8) | flt (b : UInt64) | ref (a : Addr) | ty (n : String)
  deriving DecidableEq
def RelV : V → Value → Prop
  | .non, u => u = Value.none
  | .bl b, u => u = Value.bool b
  | .int i, u => ∃ t, u = Value.int i t
  | .str x, u => ∃ t, u = Value.str x t
  | .byt b, u => ∃ t, u = Value.bytes b t
  | .flt b, u => ∃ t, u = Value.float b t
  | .ref a, u => u = Value.ref a
  | .ty n, u => u = Value.type n
abbrev Vals : List V → List Value → Prop := Paired RelV
theorem Vals.length {xs : List V} {us : List Value} (r : Vals xs us) : xs.length = us.length := Paired.length r
theorem Vals.get : ∀ {xs : List V} {us : List Value} {i : Nat} {x : V}, Vals xs us → xs[i]? = some x → ∃ u, us[i]? = some u ∧ RelV x u
  | _, _, _, _, .nil, e => by simp at e
  | _, _, 0, _, .cons r _, e => by simp at e; subst e; exact ⟨_, rfl, r⟩
  | _, _, i + 1, x, .cons _ t, e => by
    obtain ⟨u, h1, h2⟩ := Vals.get (i := i) (x := x) t (by simpa using e)
    exact ⟨u, by simpa using h1, h2⟩
theorem Vals.set {x : V} {u : Value} (r : RelV x u) : ∀ {xs : List V} {us : List Value} (i : Nat), Vals xs us → Vals (xs.set i x) (us.set i u)
  | _, _, _, .nil => .nil
  | _, _, 0, .cons _ t => .cons r t
  | _, _, i + 1, .cons q t => .cons q (Vals.set r i t)
theorem Vals.append : ∀ {xs ys : List V} {us ws : List Value}, Vals xs us → Vals ys ws → Vals (xs ++ ys) (us ++ ws)
  | _, _, _, _, .nil, s => s
  | _, _, _, _, .cons r t, s => .cons r (Vals.append t s)
theorem Vals.take : ∀ {xs : List V} {us : List Value} (n : Nat), Vals xs us → Vals (xs.take n) (us.take n)
  | _, _, 0, _ => .nil
  | _, _, _ + 1, .nil => .nil
  | _, _, n + 1, .cons r t => .cons r (Vals.take n t)
theorem Vals.drop : ∀ {xs : List V} {us : List Value} (n : Nat), Vals xs us → Vals (xs.drop n) (us.drop n)
  | _, _, 0, r => r
  | _, _, _ + 1, .nil => .nil
  | _, _, n + 1, .cons _ t => Vals.drop n t
def RelO : Option V → Option Value → Prop
  | some v, some u => RelV v u
  | none, none => True
  | _, _ => False
def KV {κ : Type} : List (κ × V) → List (κ × Value) → Prop := Paired fun (p : κ × V) (q : κ × Value) => p.1 = q.1 ∧ RelV p.2 q.2
def kV : Key → V
  | .inl i => .int i
  | .inr x => .str x
inductive HO where
  /-- a list -/
  | lst (xs : List V)
  /-- a tuple (never changes) -/
  | tup (xs : List V)
  /-- a dict whose keys are ints and texts; one whose keys are tuples of ints and texts (the empty one is both) -/
  | dK (kvs : List (Key × V)) | dT (kvs : List (List Key × V))
  /-- a set of ints: its members, its size -/
  | set (S : Int → Bool) (n : Nat)
  /-- an instance of the class at C, its dict at dx, its attributes -/
  | ins (C dx : Addr) (fs : List (Str × V))
  /-- the dict of the instance at x -/
  | own (x : Addr)
  /-- the dict of an exception -/
  | xd (fs : List (Str × V))
  /-- a bound method, f of x -/
  | met (f x : Addr)
  /-- a range object lo, lo + 1, .. below hi -/
  | rng (lo hi : Int)
  /-- a thing that is known to the object (the script; a dict while a loop walks it): read, never written while it is so -/
  | frz (o : Obj) (u : HO)
  /-- a code object's table -/
  | tbl (ps : Array Value)
  /-- any other thing, by what is true of its one object (a def of one's own: SetO a S n := HO.ext fun h => ..) -/
  | ext (φ : Heap → Prop)
abbrev Hp := Addr → Option HO
def upd (H : Hp) (a : Addr) (o : HO) : Hp := fun b => if b = a then some o else H b
theorem upd_same {H : Hp} {a : Addr} {o : HO} : upd H a o a = some o := by unfold upd; rw [if_pos rfl]
theorem upd_ne {H : Hp} {a b : Addr} {o : HO} (h : b ≠ a) : upd H a o b = H b := by unfold upd; rw [if_neg h]
theorem ne_of_none {H : Hp} {a b : Addr} {o : HO} (h : H a = some o) (h' : H b = none) : a ≠ b := by
  intro e; subst e; rw [h] at h'; cases h'
def IsTupN (h : Heap) (a : Addr) (items : Array Value) : Prop := ∃ o, h.get? a = some o ∧ (o.cls = .type "tuple" ∧ o.dict = none) ∧ ∃ n, o.data = .seq items n
theorem IsTupN.tup {h : Heap} {a : Addr} {items : Array Value} (x : IsTupN h a items) : IsTup h a items := let ⟨o, e, c, n⟩ := x; ⟨o, e, c.1, n⟩
theorem IsTupN.lt {h : Heap} {a : Addr} {items : Array Value} (x : IsTupN h a items) : a < h.objs.size := let ⟨_, e, _⟩ := x; Heap.lt_size e
theorem IsTupN.new (h : Heap) (items : Array Value) : IsTupN (h.push { cls := .type "tuple", data := .seq items }) h.objs.size items := ⟨_, Heap.get?_push_size _ rfl, ⟨rfl, rfl⟩, _, rfl⟩
section
variable (P : Program) (w : World)
def ObjOk (H : Hp) (h : Heap) (a : Addr) : HO → Prop
  | .lst xs => xs.length ≤ sizeLine ∧ ∃ (its : List Value) (n : Nat), Vals xs its ∧ h.get? a = some { cls := .type "list", data := .seq its.toArray n }
  | .tup xs => xs.length ≤ sizeLine ∧ ∃ its : List Value, Vals xs its ∧ IsTupN h a its.toArray
  | .dK kvs => kvs.length ≤ sizeLine ∧ (a == sysModules) = false ∧ ∃ vs, KV kvs vs ∧ h.DictOf (mixKind P w) a vs
  | .dT kvs => kvs.length ≤ sizeLine ∧ (a == sysModules) = false ∧ ∃ xs : List (List Key × Addr × Value),
      Paired (fun (p : List Key × V) (q : List Key × Addr × Value) => p.1 = q.1 ∧ H q.2.1 = some (.tup (p.1.map kV)) ∧ RelV p.2 q.2.2) kvs xs ∧
      ∃ o es ep, h.get? a = some o ∧ o.ExactDict ∧ o.data = .dict es ep ∧ es.toList = xs.map (entryOfKey (tupleKind (mixKind P w))) ∧ (xs.map (·.1)).Nodup
  | .set S n => h.SetOf (intKind P w) a S n
  | .ins C dx fs => H dx = some (.own a) ∧ fs.length ≤ 1000 ∧ dx ≠ a ∧ h.get? a = some (PySem.W.instObj C dx) ∧
      ∃ mA, h.Ns1 dx mA ∧ (∀ f, RelO (fs.lookup f) (mA f)) ∧ PySem.Within mA (fs.map (·.1))
  | .own _ => ∃ o, h.get? a = some o
  | .xd fs => ∃ mA, h.Ns1 a mA ∧ ∀ f, RelO (fs.lookup f) (mA f)
  | .rng lo hi => ∃ t u v, h.get? a = some { cls := .type "range", data := .fields #[.int lo t, .int hi u, .int 1 v] }
  | .frz o u => h.get? a = some o ∧ ObjOk H h a u
  | .tbl ps => h.get? a = some { cls := .none, data := .fields ps }
  | .met f x => h.get? a = some (PySem.W.methodObj (.ref f) (.ref x))
  | .ext φ => φ h ∧ (∃ o, h.get? a = some o) ∧ ∀ h1 h2 : Heap, φ h1 → (∀ o, h1.get? a = some o → h2.get? a = some o) → φ h2
def HOk (H : Hp) (h : Heap) : Prop := ∀ a o, H a = some o → ObjOk P w H h a o
end
section
variable {P : Program} {w : World} {H H' : Hp} {h h' : Heap} {a : Addr} {o : HO}
theorem ObjOk.lt (x : ObjOk P w H h a o) : a < h.objs.size := by
  cases o with
  | lst xs => obtain ⟨_, _, _, _, e⟩ := x; exact Heap.lt_size e
  | tup xs => obtain ⟨_, _, _, p⟩ := x; exact p.lt
  | dK kvs => obtain ⟨_, _, _, _, o, _, _, e, _⟩ := x; exact Heap.lt_size e
  | dT kvs => obtain ⟨_, _, _, _, o, _, _, e, _⟩ := x; exact Heap.lt_size e
  | set S n => obtain ⟨o, _, _, _, e, _⟩ := x; exact Heap.lt_size e
  | ins C dx fs => obtain ⟨_, _, _, e, _⟩ := x; exact Heap.lt_size e
  | own y => obtain ⟨_, e⟩ := x; exact Heap.lt_size e
  | xd fs => obtain ⟨_, ⟨_, _, _, e, _⟩, _⟩ := x; exact Heap.lt_size e
  | rng lo hi => obtain ⟨_, _, _, e⟩ := x; exact Heap.lt_size e
  | frz ob u => obtain ⟨e, _⟩ := x; exact Heap.lt_size e
  | tbl ps => exact Heap.lt_size (show h.get? a = some _ from x)
  | met f y => exact Heap.lt_size (show h.get? a = some _ from x)
  | ext φ => obtain ⟨_, ⟨_, e⟩, _⟩ := x; exact Heap.lt_size e
theorem Paired.mapP {α β : Type} {F G : α → β → Prop} : ∀ {l₁ : List α} {l₂ : List β}, Paired F l₁ l₂ → (∀ a b, F a b → G a b) → Paired G l₁ l₂
  | _, _, .nil, _ => .nil
  | _, _, .cons r t, f => .cons (f _ _ r) (Paired.mapP t f)
theorem ObjOk.stay (x : ObjOk P w H h a o) (k : ∀ b u, (b = a ∨ H b = some (.own a)) → h.get? b = some u → h'.get? b = some u)
    (ho : ∀ b, H b = some (.own a) → H' b = some (.own a)) (ht : ∀ b xs, H b = some (.tup xs) → H' b = some (.tup xs)) : ObjOk P w H' h' a o := by
  induction o with
  | lst xs => obtain ⟨z, its, n, r, e⟩ := x; exact ⟨z, its, n, r, k _ _ (.inl rfl) e⟩
  | tup xs => obtain ⟨z, its, r, ob, e, c⟩ := x; exact ⟨z, its, r, ob, k _ _ (.inl rfl) e, c⟩
  | dK kvs => obtain ⟨z, y, vs, r, ob, es, ep, e, c⟩ := x; exact ⟨z, y, vs, r, ob, es, ep, k _ _ (.inl rfl) e, c⟩
  | dT kvs =>
    obtain ⟨z, y, xs, r, ob, es, ep, e, c⟩ := x
    exact ⟨z, y, xs, Paired.mapP r fun p q z => ⟨z.1, ht _ _ z.2.1, z.2.2⟩, ob, es, ep, k _ _ (.inl rfl) e, c⟩
  | set S n => obtain ⟨ob, es, ep, t, e, c⟩ := x; exact ⟨ob, es, ep, t, k _ _ (.inl rfl) e, c⟩
  | ins C dx fs =>
    obtain ⟨d, z, ne, e, mA, ⟨od, es, ep, e2, c⟩, r⟩ := x
    exact ⟨ho _ d, z, ne, k _ _ (.inl rfl) e, mA, ⟨od, es, ep, k _ _ (.inr d) e2, c⟩, r⟩
  | own y => obtain ⟨ob, e⟩ := x; exact ⟨ob, k _ _ (.inl rfl) e⟩
  | xd fs => obtain ⟨mA, ⟨od, es, ep, e, c⟩, r⟩ := x; exact ⟨mA, ⟨od, es, ep, k _ _ (.inl rfl) e, c⟩, r⟩
  | rng lo hi => obtain ⟨t, u, v, e⟩ := x; exact ⟨t, u, v, k _ _ (.inl rfl) e⟩
  | frz ob u ih => obtain ⟨e, q⟩ := x; exact ⟨k _ _ (.inl rfl) e, ih q⟩
  | tbl ps =>
    have e : h.get? a = some { cls := .none, data := .fields ps } := x
    show h'.get? a = some { cls := .none, data := .fields ps }
    exact k a _ (.inl rfl) e
  | met f y =>
    have e : h.get? a = some (PySem.W.methodObj (.ref f) (.ref y)) := x
    show h'.get? a = some (PySem.W.methodObj (.ref f) (.ref y))
    exact k a _ (.inl rfl) e
  | ext φ => obtain ⟨p, ⟨o, e⟩, st⟩ := x; exact ⟨st _ _ p fun o q => k _ _ (.inl rfl) q, ⟨o, k _ _ (.inl rfl) e⟩, st⟩
theorem HOk.lt (x : HOk P w H h) (e : H a = some o) : a < h.objs.size := (x a o e).lt
theorem HOk.fresh (x : HOk P w H h) (e : h.objs.size ≤ a) : H a = none := by
  cases q : H a with
  | none => rfl
  | some u => exact absurd (Nat.lt_of_lt_of_le (x.lt q) e) (Nat.lt_irrefl _)
theorem HOk.kept (x : HOk P w H h) (k : ∀ b u, h.get? b = some u → h'.get? b = some u) : HOk P w H h' := fun a o e =>
  (x a o e).stay (fun b u _ q => k b u q) (fun _ q => q) fun _ _ q => q
theorem HOk.laid (x : HOk P w H h) (k : ∀ b u, h.get? b = some u → h'.get? b = some u) (hp : h.objs.size ≤ a) (new : ObjOk P w (upd H a o) h' a o) : HOk P w (upd H a o) h' := fun b u e => by
  have hn := x.fresh hp
  by_cases hb : b = a
  · subst hb; rw [upd_same] at e; cases e; exact new
  · rw [upd_ne hb] at e
    exact (x b u e).stay (fun c v _ q => k c v q) (fun c q => by rw [upd_ne (ne_of_none q hn)]; exact q) fun c xs q => by rw [upd_ne (ne_of_none q hn)]; exact q
end
def Rd (H : Hp) (a : Addr) (u : HO) : Prop := H a = some u ∨ ∃ o, H a = some (.frz o u)
theorem Rd.ok {P : Program} {w : World} {H : Hp} {h : Heap} {a : Addr} {u : HO} (r : Rd H a u) (x : HOk P w H h) : ObjOk P w H h a u := by
  rcases r with r | ⟨o, r⟩
  · exact x a u r
  · obtain ⟨_, q⟩ := x a _ r
    exact q
def Mut : Option HO → Prop
  | some (.lst _) => True
  | some (.dK _) => True
  | some (.dT _) => True
  | some (.set _ _) => True
  | some (.ins _ _ _) => True
  | some (.ext _) => True
  | _ => False
section
variable {P : Program} {w : World} {H : Hp} {h h' : Heap} {x e : Addr} {o' : HO}
theorem HOk.write (ok : HOk P w H h) (mu : Mut (H x)) (he : e = x ∨ H e = some (.own x)) (k : ∀ b u, b ≠ e → h.get? b = some u → h'.get? b = some u) (heo : ∃ u, h'.get? e = some u)
    (new : ObjOk P w (upd H x o') h' x o') : HOk P w (upd H x o') h' := fun b u q => by
  have nown : ∀ c y, H c = some (.own y) → c ≠ x := fun c y r z => by subst z; rw [r] at mu; exact mu
  have ntup : ∀ c xs, H c = some (.tup xs) → c ≠ x := fun c xs r z => by subst z; rw [r] at mu; exact mu
  by_cases hb : b = x
  · subst hb; rw [upd_same] at q; cases q; exact new
  · rw [upd_ne hb] at q
    by_cases hbe : b = e
    · have q' : H b = some (.own x) := by
        rcases he with z | z
        · exact absurd (hbe.trans z) hb
        · rw [hbe]; exact z
      rw [q] at q'; cases q'
      obtain ⟨v, hv⟩ := heo
      exact ⟨v, by rw [hbe]; exact hv⟩
    · refine (ok b u q).stay (fun c v hc r => k c v ?_ r) (fun c r => by rw [upd_ne (nown c b r)]; exact r) fun c xs r => by rw [upd_ne (ntup c xs r)]; exact r
      rcases hc with rfl | hc
      · exact hbe
      · rintro rfl
        rcases he with z | z
        · exact nown c b hc z
        · rw [hc] at z; cases z; exact hb rfl
end
structure Un (fs ex : List Addr) (H H' : Hp) (h h' : Heap) : Prop where
  keep : ∀ b o, h.get? b = some o → H b = none → b ∉ fs → b ∉ ex → h'.get? b = some o
  slot : ∀ b o, h.get? b = some o → H b = none → b ∈ fs → b ∉ ex → ∃ sl, h'.get? b = some { o with slots := sl }
  free : ∀ b o, h.get? b = some o → H b = none → b ∉ ex → H' b = none
  there : ∀ b o, h.get? b = some o → b ∉ ex → ∃ o', h'.get? b = some o'
  tups : ∀ b xs, H b = some (.tup xs) → H' b = some (.tup xs)
  frzs : ∀ b o u, H b = some (.frz o u) → H' b = some (.frz o u)
  tbls : ∀ b ps, H b = some (.tbl ps) → ∃ more, H' b = some (.tbl (ps ++ more))
section
variable {fs fs' ex ex' : List Addr} {H H1 H2 : Hp} {h h1 h2 h' : Heap} {a x e : Addr} {o : HO}
theorem Un.any (u : Un fs ex H H1 h h1) {b : Addr} {ob : Obj} (q : h.get? b = some ob) (n : H b = none) (hx : b ∉ ex) : ∃ sl, h1.get? b = some { ob with slots := sl } := by
  by_cases hb : b ∈ fs
  · exact u.slot b ob q n hb hx
  · exact ⟨ob.slots, u.keep b ob q n hb hx⟩
theorem Un.kept (k : ∀ b u, h.get? b = some u → h'.get? b = some u) : Un fs ex H H h h' :=
  ⟨fun b ob q _ _ _ => k b ob q, fun b ob q _ _ _ => ⟨ob.slots, k b ob q⟩, fun _ _ _ n _ => n, fun b ob q _ => ⟨ob, k b ob q⟩, fun _ _ q => q, fun _ _ _ q => q, fun _ ps q => ⟨#[], by rw [q]; simp⟩⟩
theorem Un.refl : Un fs ex H H h h := Un.kept fun _ _ q => q
theorem Un.laid (k : ∀ b u, h.get? b = some u → h'.get? b = some u) (hp : h.objs.size ≤ a) (hn : H a = none) : Un fs ex H (upd H a o) h h' where
  keep := fun b u q _ _ _ => k b u q
  slot := fun b u q _ _ _ => ⟨u.slots, k b u q⟩
  free := fun b u q n _ => by rw [upd_ne (Nat.ne_of_lt (Nat.lt_of_lt_of_le (Heap.lt_size q) hp))]; exact n
  there := fun b u q _ => ⟨u, k b u q⟩
  tups := fun b xs q => by rw [upd_ne (ne_of_none q hn)]; exact q
  frzs := fun b u xs q => by rw [upd_ne (ne_of_none q hn)]; exact q
  tbls := fun b ps q => ⟨#[], by rw [upd_ne (ne_of_none q hn), q]; simp⟩
theorem Un.write (mu : Mut (H x)) (he : e = x ∨ H e = some (.own x)) (k : ∀ b u, b ≠ e → h.get? b = some u → h'.get? b = some u) (heo : ∃ u, h'.get? e = some u) : Un fs ex H (upd H x o) h h' := by
  have hx : ∀ b, H b = none → b ≠ x := fun b n z => by subst z; rw [n] at mu; exact mu
  have hb : ∀ b, H b = none → b ≠ e := fun b n z => by
    subst z
    rcases he with r | r
    · exact hx b n r
    · rw [n] at r; cases r
  have hm : ∀ b u, H b = some u → ¬ Mut (some u) → b ≠ x := fun b u q nm z => by subst z; rw [q] at mu; exact nm mu
  refine ⟨fun b u q n _ _ => k b u (hb b n) q, fun b u q n _ _ => ⟨u.slots, k b u (hb b n) q⟩, fun b u q n _ => by rw [upd_ne (hx b n)]; exact n, fun b u q _ => ?_,
    fun b xs q => by rw [upd_ne (hm b _ q fun z => z)]; exact q, fun b u xs q => by rw [upd_ne (hm b _ q fun z => z)]; exact q, fun b ps q => ⟨#[], by rw [upd_ne (hm b _ q fun z => z), q]; simp⟩⟩
  by_cases hbe : b = e
  · subst hbe; exact heo
  · exact ⟨u, k b u hbe q⟩
end
def trk (h : Heap) (H : Hp) : List Addr := (List.range h.objs.size).filter fun a => (H a).isSome
def hidT (h : Heap) (H : Hp) : Heap := PySem.W.hideAll h (trk h H)
theorem hidT_size (h : Heap) (H : Hp) : (hidT h H).objs.size = h.objs.size := PySem.W.hideAll_size _ _
theorem hidT_get {h : Heap} {H : Hp} {b : Addr} {o : Obj} (e : h.get? b = some o) (n : H b = none) : (hidT h H).get? b = some o :=
  PySem.W.hideAll_get _ e fun hm => by
    have q : (H b).isSome = true := (List.mem_filter.mp hm).2
    rw [n] at q; simp at q
theorem of_hidT {h : Heap} {H : Hp} {b : Addr} {o : Obj} (e : (hidT h H).get? b = some o) : h.get? b = some o ∧ H b = none := by
  have e' : h.get? b = some o := PySem.W.of_hideAll (trk h H) e
  refine ⟨e', ?_⟩
  cases q : H b with
  | none => rfl
  | some x =>
    have hm : b ∈ trk h H := List.mem_filter.mpr ⟨List.mem_range.mpr (Heap.lt_size e'), by simp [q]⟩
    have z : (hidT h H).get? b = none := PySem.W.hideAll_none (trk h H) hm
    rw [z] at e; cases e
end L2
namespace L2
open PySem PySem.Spec PyProof.Rows
structure Mod (K : PySem.W.Frag) (mg : Str → Option Value) (base : Heap) : Prop where
  kin : K.In base
  glob : base.Ns mainGlobals mg
  blt : ∃ mb, base.Ns builtinsNs mb ∧ ∀ x : Str, x ≠ "__name__" → mb x = bootBuiltins x
  nolimit : base.NoLimit
structure Cx where
  prog : Program
  w : World
  K : PySem.W.Frag
  mg : Str → Option Value
  base : Heap
  A : Around
  N : List Str
  s₀ : Shared
  H₀ : Hp
  env : Env
  outer : List Env
  stack : List Env
  ex : List Addr
  fn : Str → Bool
  calm : Bool
  pn : List (Addr × Obj)
  xe : Value → Shared → Prop
def frs (l : List Env) : List Addr := l.filterMap (·.frame)
abbrev Cx.fs (X : Cx) : List Addr := frs X.outer
def Vis (sc : Scope) (x : Str) : Prop := sc.names.lookup x = some .local ∨ sc.names.lookup x = some .cell ∨ sc.names.lookup x = some .free
def Loc (sc : Scope) (x : Str) : Prop := sc.names.lookup x = some .local ∨ sc.names.lookup x = some .cell
def Look (env : Env) (h : Heap) (m : Str → Option Value) (x : Str) (u : Value) : Prop :=
  (env.kindOf x = some .local ∧ m x = some u) ∨ ((env.kindOf x = some .cell ∨ env.kindOf x = some .free) ∧ ∃ c, env.cells.lookup x = some c ∧ h.IsCell c (some u))
structure Cx.Ok (X : Cx) : Prop where
  mod : Mod X.K X.mg X.base
  kind : X.env.scope.kind = .function
  glob : X.env.globals = mainGlobals
  blt : X.env.builtins = builtinsNs
  above : X.s₀.heap.objs.size ≤ X.env.locals
  inj : ∀ x y c, X.env.cells.lookup x = some c → X.env.cells.lookup y = some c → x = y
  has : ∀ x, (X.env.kindOf x = some .cell ∨ X.env.kindOf x = some .free) → ∃ c, X.env.cells.lookup x = some c
  cab : ∀ x c, X.fn x = true → X.env.cells.lookup x = some c → X.s₀.heap.objs.size ≤ c
  hd : X.calm = true → X.A.handled = none
  frames : X.A.frames = some X.stack
  stk : X.stack = X.outer ∨ (X.stack = X.env :: X.outer ∧ X.env.frame = some X.env.locals)
  exf : ∀ b ∈ X.ex, b ≠ X.env.locals ∧ ∀ x c, X.env.cells.lookup x = some c → c ≠ b
  bs : ∀ b o, X.base.get? b = some o → X.s₀.heap.get? b = some o ∧ X.H₀ b = none
  bsz : X.base.objs.size ≤ X.s₀.heap.objs.size
  noex : ∀ b o, X.base.get? b = some o → b ∉ X.ex
  exfs : ∀ b ∈ X.ex, b ∉ X.fs
  funs : X.s₀.heap.FunFrames X.base X.outer
  frf : ∀ b ∈ X.fs, X.H₀ b = none
structure Inv (X : Cx) (pins : List (Addr × Obj)) (σ : List (Option V)) (H : Hp) (s : Shared) : Prop where
  ok : X.Ok
  os : s.os = X.s₀.os
  bare : AllBare s.gens
  base : Un X.fs X.ex X.H₀ H X.s₀.heap s.heap
  loc : ∃ m, s.heap.Ns X.env.locals m ∧ ∀ (i : Nat) (x : Str) (v : V), X.N[i]? = some x → σ[i]? = some (some v) → Vis X.env.scope x → ∃ u, RelV v u ∧ Look X.env s.heap m x u
  cell : ∀ x c, X.env.cells.lookup x = some c → ∃ v, s.heap.IsCell c v
  free : H X.env.locals = none
  freeC : ∀ x c, X.env.cells.lookup x = some c → H c = none
  pin : ∀ p ∈ X.pn ++ pins, s.heap.get? p.1 = some p.2 ∧ H p.1 = none ∧ p.1 ≠ X.env.locals ∧ p.1 ∉ X.fs ∧ ∀ v, p.2.data ≠ .cell v
  hok : HOk X.prog X.w H s.heap
  len : σ.length = X.N.length
section
variable {X : Cx} {pins : List (Addr × Obj)} {σ : List (Option V)} {H H' : Hp} {s : Shared} {h' : Heap}
theorem Cx.Ok.nofr (ok : X.Ok) {b : Addr} {o : Obj} (e : X.base.get? b = some o) : b ∉ X.fs := fun hb => by
  have := (ok.funs.mem hb).1
  rw [e] at this; cases this
theorem Inv.bs (I : Inv X pins σ H s) : ∀ b o, X.base.get? b = some o → s.heap.get? b = some o ∧ H b = none := fun b o e =>
  ⟨I.base.keep b o (I.ok.bs b o e).1 (I.ok.bs b o e).2 (I.ok.nofr e) (I.ok.noex b o e), I.base.free b o (I.ok.bs b o e).1 (I.ok.bs b o e).2 (I.ok.noex b o e)⟩
theorem Inv.bk (I : Inv X pins σ H s) : ∀ b o, X.base.get? b = some o → s.heap.get? b = some o := fun b o e => (I.bs b o e).1
theorem Inv.mod (I : Inv X pins σ H s) : Mod X.K X.mg X.base := I.ok.mod
theorem Inv.kIn (I : Inv X pins σ H s) : X.K.In s.heap := I.ok.mod.kin.keeps I.bk
theorem Inv.lt (I : Inv X pins σ H s) : X.env.locals < s.heap.objs.size := let ⟨_, hn, _⟩ := I.loc; hn.lt
theorem Inv.sz (I : Inv X pins σ H s) : X.s₀.heap.objs.size ≤ s.heap.objs.size := Nat.le_trans I.ok.above (Nat.le_of_lt I.lt)
theorem Inv.nofs (I : Inv X pins σ H s) {a : Addr} (h : s.heap.objs.size ≤ a) : a ∉ X.fs := fun hb => by
  obtain ⟨_, o, ho, _⟩ := I.ok.funs.mem hb
  exact absurd (Nat.lt_of_lt_of_le (Heap.lt_size ho) (Nat.le_trans I.sz h)) (Nat.lt_irrefl _)
theorem Inv.cne (I : Inv X pins σ H s) : ∀ x c, X.env.cells.lookup x = some c → c ≠ X.env.locals := fun x c e z => by
  obtain ⟨v, o, ho, hd⟩ := I.cell x c e
  obtain ⟨m, ⟨o', es, ep, ho', hd', _⟩, _⟩ := I.loc
  rw [z, ho'] at ho; cases ho; rw [hd'] at hd; cases hd
theorem Inv.funs (I : Inv X pins σ H s) : s.heap.FunFrames X.base X.outer := by
  have all : ∀ (l : List Env), (∀ b ∈ frs l, b ∈ X.fs) → X.s₀.heap.FunFrames X.base l → s.heap.FunFrames X.base l := by
    intro l
    induction l with
    | nil => intro _ _; trivial
    | cons env r ih =>
      intro hs hl
      obtain ⟨hk, ⟨L, o, hf, hn, ho, hd⟩, hr⟩ := hl
      have hL : L ∈ X.fs := hs L (by unfold frs; rw [List.filterMap_cons, hf]; exact List.mem_cons_self)
      obtain ⟨sl, e⟩ := I.base.slot L o ho (I.ok.frf L hL) hL fun z => I.ok.exfs L z hL
      exact ⟨hk, ⟨L, _, hf, hn, e, hd⟩, ih (fun b hb => hs b (by unfold frs; rw [List.filterMap_cons, hf]; exact List.mem_cons_of_mem _ hb)) hr⟩
  exact all X.outer (fun _ hb => hb) I.ok.funs
theorem Inv.stack (I : Inv X pins σ H s) : s.heap.FunFrames X.base X.stack := by
  rcases I.ok.stk with e | ⟨e, hf⟩
  · rw [e]; exact I.funs
  · rw [e]
    obtain ⟨m, hn, _⟩ := I.loc
    refine .cons (by rw [I.ok.kind]; decide) hf hn ?_ I.funs
    exact Heap.get?_none_of_le (Nat.le_trans I.ok.bsz I.ok.above)
theorem Inv.stkSub (I : Inv X pins σ H s) : ∀ b ∈ frs X.stack, b ∈ X.env.locals :: X.fs := fun b hb => by
  rcases I.ok.stk with e | ⟨e, hf⟩
  · rw [e] at hb; exact List.mem_cons_of_mem _ hb
  · rw [e] at hb
    unfold frs at hb
    rw [List.filterMap_cons, hf] at hb
    exact hb
theorem Inv.stkFree (I : Inv X pins σ H s) : ∀ b ∈ frs X.stack, H b = none := fun b hb => by
  rcases List.mem_cons.mp (I.stkSub b hb) with e | hb
  · rw [e]; exact I.free
  · obtain ⟨_, o, ho, _⟩ := I.ok.funs.mem hb
    exact I.base.free b o ho (I.ok.frf b hb) fun z => I.ok.exfs b z hb
theorem Inv.step {g' : Array GenState} {t' : Nat} {d' : Drawn} {ch : List Addr} (I : Inv X pins σ H s)
    (hch : ∀ b ∈ ch, (b ∈ X.ex ∨ X.s₀.heap.objs.size ≤ b) ∧ b ≠ X.env.locals ∧ (∀ x c, X.env.cells.lookup x = some c → c ≠ b) ∧ ∀ p ∈ X.pn ++ pins, p.1 ≠ b)
    (keep : ∀ b o, b ≠ X.env.locals → b ∉ X.fs → b ∉ ch → s.heap.get? b = some o → H b = none → h'.get? b = some o)
    (slot : ∀ b o, b ≠ X.env.locals → b ∈ X.fs → b ∉ ch → s.heap.get? b = some o → H b = none → ∃ sl, h'.get? b = some { o with slots := sl }) (free : ∀ b o, b ∉ ch → s.heap.get? b = some o → H b = none → H' b = none)
    (there : ∀ b o, b ∉ ch → s.heap.get? b = some o → ∃ o', h'.get? b = some o')
    (tups : ∀ b xs, H b = some (.tup xs) → H' b = some (.tup xs)) (frzs : ∀ b o u, H b = some (.frz o u) → H' b = some (.frz o u)) (tbls : ∀ b ps, H b = some (.tbl ps) → ∃ more, H' b = some (.tbl (ps ++ more)))
    (ns : ∀ m, s.heap.Ns X.env.locals m → h'.Ns X.env.locals m) (hok : HOk X.prog X.w H' h') (hg : AllBare g') :
    Inv X pins σ H' { s with heap := h', gens := g', drawn := d', toks := t' } := by
  have neL : ∀ b o, X.s₀.heap.get? b = some o → b ≠ X.env.locals := fun b o e => Nat.ne_of_lt (Nat.lt_of_lt_of_le (Heap.lt_size e) I.ok.above)
  have neC : ∀ b o, X.s₀.heap.get? b = some o → b ∉ X.ex → b ∉ ch := fun b o e hx hb => by
    rcases (hch b hb).1 with z | z
    · exact hx z
    · exact absurd (Nat.lt_of_lt_of_le (Heap.lt_size e) z) (Nat.lt_irrefl _)
  have cellK : ∀ x c, X.env.cells.lookup x = some c → ∀ v, s.heap.IsCell c v → h'.IsCell c v := fun x c e v ⟨o, ho, hd⟩ => by
    have nch : c ∉ ch := fun z => (hch c z).2.2.1 x c e rfl
    by_cases hc : c ∈ X.fs
    · obtain ⟨sl, q⟩ := slot c o (I.cne x c e) hc nch ho (I.freeC x c e)
      exact ⟨_, q, hd⟩
    · exact ⟨o, keep c o (I.cne x c e) hc nch ho (I.freeC x c e), hd⟩
  refine ⟨I.ok, I.os, hg, ⟨fun b o e n hb hx => ?_, fun b o e n hb hx => ?_, fun b o e n hx => ?_, fun b o e hx => ?_, fun b xs e => tups b xs (I.base.tups b xs e), fun b o xs e => frzs b o xs (I.base.frzs b o xs e), fun b ps e => ?_⟩, ?_, fun x c e => ?_, ?_, fun x c e => ?_, fun p hp => ?_, hok, I.len⟩
  · exact keep b o (neL b o e) hb (neC b o e hx) (I.base.keep b o e n hb hx) (I.base.free b o e n hx)
  · obtain ⟨sl, e1⟩ := I.base.slot b o e n hb hx
    obtain ⟨sl', e2⟩ := slot b _ (neL b o e) hb (neC b o e hx) e1 (I.base.free b o e n hx)
    exact ⟨sl', e2⟩
  · obtain ⟨o', e1⟩ := I.base.there b o e hx
    exact free b o' (neC b o e hx) e1 (I.base.free b o e n hx)
  · obtain ⟨o', e1⟩ := I.base.there b o e hx
    exact there b o' (neC b o e hx) e1
  · obtain ⟨m1, e1⟩ := I.base.tbls b ps e
    obtain ⟨m2, e2⟩ := tbls b _ e1
    exact ⟨m1 ++ m2, by rw [e2, Array.append_assoc]⟩
  · obtain ⟨m, hn, hl⟩ := I.loc
    refine ⟨m, ns m hn, fun i x v e1 e2 e3 => ?_⟩
    obtain ⟨u, r, l⟩ := hl i x v e1 e2 e3
    refine ⟨u, r, ?_⟩
    rcases l with l | ⟨k, c, e, z⟩
    · exact .inl l
    · exact .inr ⟨k, c, e, cellK x c e _ z⟩
  · obtain ⟨v, z⟩ := I.cell x c e
    exact ⟨v, cellK x c e v z⟩
  · obtain ⟨m, ⟨o, _, _, ho, _⟩, _⟩ := I.loc
    exact free _ o (fun z => (hch _ z).2.1 rfl) ho I.free
  · obtain ⟨v, o, ho, hd⟩ := I.cell x c e
    exact free c o (fun z => (hch c z).2.2.1 x c e rfl) ho (I.freeC x c e)
  · obtain ⟨e, n, ne, nf, d⟩ := I.pin p hp
    have nch : p.1 ∉ ch := fun z => (hch p.1 z).2.2.2 p hp rfl
    exact ⟨keep p.1 p.2 ne nf nch e n, free p.1 p.2 nch e n, ne, nf, d⟩
theorem Inv.un {t' : Nat} (I : Inv X pins σ H s) (u : Un X.fs [] H H' s.heap h') (hok : HOk X.prog X.w H' h') : Inv X pins σ H' { s with heap := h', toks := t' } := by
  obtain ⟨m, ⟨o, es, ep, ho, r⟩, _⟩ := id I.loc
  obtain ⟨sl, hL⟩ := u.any ho I.free (by simp)
  exact I.step (g' := s.gens) (d' := s.drawn) (ch := []) (fun _ z => nomatch z) (fun b o _ hb _ e n => u.keep b o e n hb (by simp)) (fun b o _ hb _ e n => u.slot b o e n hb (by simp)) (fun b o _ e n => u.free b o e n (by simp)) (fun b o _ e => u.there b o e (by simp)) u.tups u.frzs u.tbls (fun m' hm => by
    obtain ⟨o', es', ep', ho', r'⟩ := hm
    rw [ho] at ho'; cases ho'
    exact ⟨_, es', ep', hL, r'⟩) hok I.bare
theorem Inv.call {g' : Array GenState} {t' : Nat} {d' : Drawn} {ch : List Addr} (I : Inv X pins σ H s) (u : Un (frs X.stack) ch H H' s.heap h') (hok : HOk X.prog X.w H' h') (hg : AllBare g')
    (hch : ∀ b ∈ ch, (b ∈ X.ex ∨ X.s₀.heap.objs.size ≤ b) ∧ b ≠ X.env.locals ∧ (∀ x c, X.env.cells.lookup x = some c → c ≠ b) ∧ ∀ p ∈ X.pn ++ pins, p.1 ≠ b) :
    Inv X pins σ H' { s with heap := h', gens := g', drawn := d', toks := t' } := by
  obtain ⟨m, ⟨o, es, ep, ho, r⟩, _⟩ := id I.loc
  obtain ⟨sl, hL⟩ := u.any ho I.free fun z => (hch _ z).2.1 rfl
  exact I.step (ch := ch) hch (fun b o hL hb hc e n => u.keep b o e n (fun z => (List.mem_cons.mp (I.stkSub b z)).elim hL hb) hc) (fun b o _ _ hc e n => u.any e n hc) (fun b o hc e n => u.free b o e n hc) (fun b o hc e => u.there b o e hc) u.tups u.frzs u.tbls (fun m' hm => by
    obtain ⟨o', es', ep', ho', r'⟩ := hm
    rw [ho] at ho'; cases ho'
    exact ⟨_, es', ep', hL, r'⟩) hok hg
theorem Inv.turned {t' : Nat} {it : Addr} (I : Inv X pins σ H s) (k : ∀ b o, b ≠ it → s.heap.get? b = some o → h'.get? b = some o) (hn : H it = none) (hL : it ≠ X.env.locals)
    (h1 : it ∈ X.ex ∨ X.s₀.heap.objs.size ≤ it) (h2 : ∀ x c, X.env.cells.lookup x = some c → c ≠ it) (h3 : ∀ p ∈ X.pn ++ pins, p.1 ≠ it) : Inv X pins σ H { s with heap := h', toks := t' } := by
  have nit : ∀ b u, H b = some u → b ≠ it := fun b u e z => by rw [z, hn] at e; cases e
  refine I.step (g' := s.gens) (d' := s.drawn) (ch := [it]) (fun b hb => ?_) (fun b o _ _ hc e _ => k b o (fun z => hc (by simp [z])) e) (fun b o _ _ hc e _ => ⟨o.slots, k b o (fun z => hc (by simp [z])) e⟩) (fun _ _ _ _ n => n)
    (fun b o hc e => ⟨o, k b o (fun z => hc (by simp [z])) e⟩) (fun _ _ e => e) (fun _ _ _ e => e) (fun b ps e => ⟨#[], by rw [e]; simp⟩) (fun m hm => ?_) (fun b u e => ?_) I.bare
  · have e : b = it := by simpa using hb
    subst e
    exact ⟨h1, hL, h2, h3⟩
  · obtain ⟨o, es, ep, ho, r⟩ := hm
    exact ⟨o, es, ep, k _ o (Ne.symm hL) ho, r⟩
  · refine (I.hok b u e).stay (fun c v hc q => k c v ?_ q) (fun _ q => q) fun _ _ q => q
    rcases hc with z | z
    · rw [z]; exact nit b u e
    · exact nit c _ z
theorem Inv.tok (I : Inv X pins σ H s) (t : Nat) : Inv X pins σ H { s with toks := t } := I.un (h' := s.heap) (t' := t) Un.refl I.hok
theorem Inv.kept {t' : Nat} (I : Inv X pins σ H s) (k : ∀ b u, s.heap.get? b = some u → h'.get? b = some u) : Inv X pins σ H { s with heap := h', toks := t' } := I.un (Un.kept k) (I.hok.kept k)
theorem Inv.laid {a : Addr} {o : HO} {t' : Nat} (I : Inv X pins σ H s) (k : ∀ b u, s.heap.get? b = some u → h'.get? b = some u) (hp : s.heap.objs.size ≤ a) (new : ObjOk X.prog X.w (upd H a o) h' a o) :
    Inv X pins σ (upd H a o) { s with heap := h', toks := t' } := I.un (Un.laid k hp (I.hok.fresh hp)) (I.hok.laid k hp new)
theorem Inv.write {x e : Addr} {o : HO} {t' : Nat} (I : Inv X pins σ H s) (mu : Mut (H x)) (he : e = x ∨ H e = some (.own x)) (k : ∀ b u, b ≠ e → s.heap.get? b = some u → h'.get? b = some u) (heo : ∃ u, h'.get? e = some u)
    (new : ObjOk X.prog X.w (upd H x o) h' x o) : Inv X pins σ (upd H x o) { s with heap := h', toks := t' } := I.un (Un.write mu he k heo) (I.hok.write mu he k heo new)
theorem Inv.pins_of {pins' : List (Addr × Obj)} (I : Inv X pins σ H s) (h : ∀ p ∈ pins', s.heap.get? p.1 = some p.2 ∧ H p.1 = none ∧ p.1 ≠ X.env.locals ∧ p.1 ∉ X.fs ∧ ∀ v, p.2.data ≠ .cell v) : Inv X pins' σ H s :=
  ⟨I.ok, I.os, I.bare, I.base, I.loc, I.cell, I.free, I.freeC, fun p hp => (List.mem_append.mp hp).elim (fun z => I.pin p (List.mem_append_left _ z)) (h p), I.hok, I.len⟩
theorem nodup_ix {N : List Str} (hN : N.Nodup) {i j : Nat} {x : Str} (a : N[i]? = some x) (b : N[j]? = some x) : i = j := by
  obtain ⟨h1, e1⟩ := List.getElem?_eq_some_iff.mp a
  obtain ⟨h2, e2⟩ := List.getElem?_eq_some_iff.mp b
  exact (List.getElem_inj hN).mp (e1.trans e2.symm)
theorem store_ok2 {M : Model} {A : Around} {E : Value → Shared → Prop} {i : Nat} {x : Str} {v : V} {u : Value} {Q : Unit → Shared → Prop} (I : Inv X pins σ H s) (hN : X.N.Nodup) (hi : X.N[i]? = some x) (hx : Loc X.env.scope x) (r : RelV v u)
    (h : ∀ s', Inv X pins (σ.set i (some v)) H s' → (∃ a, Heap.SameBut a s.heap s'.heap ∧ (a = X.env.locals ∨ X.env.cells.lookup x = some a)) → Q () s') (hf : X.fn x = true ∨ X.env.scope.names.lookup x = some .local := by first | exact .inl rfl | exact .inr rfl | assumption) : wpAny M A (storeName X.env x u) Q E s := by
  obtain ⟨m, hn, hl⟩ := id I.loc
  have hcls : (X.env.scope.kind == .class || (X.env.scope.kind == .module && X.env.locals != X.env.globals)) = false := by rw [I.ok.kind]; rfl
  have hiσ : i < σ.length := by rw [I.len]; exact (List.getElem?_eq_some_iff.mp hi).1
  have cne := I.cne
  have tracked : ∀ {a : Addr} {h' : Heap}, (∃ o, s.heap.get? a = some o ∧ H a = none) → Heap.SameBut a s.heap h' → HOk X.prog X.w H h' := fun {a h'} ha hs b ob e => by
    obtain ⟨_, _, hfree⟩ := ha
    refine (I.hok b ob e).stay (fun c w' hc q => (hs.2 c ?_).trans q) (fun _ q => q) fun _ _ q => q
    rintro rfl
    rcases hc with rfl | hc
    · rw [hfree] at e; cases e
    · rw [hfree] at hc; cases hc
  rcases hx with hk | hk
  · refine wpAny_storeName_local hk hn (fun h' hn' hs => ?_) hcls
    obtain ⟨oL, _, _, hoL, _⟩ := id hn
    refine h _ ⟨I.ok, I.os, I.bare, ⟨fun b o e n hb hx => ?_, fun b o e n hb hx => ?_, I.base.free, fun b o e hx => ?_, I.base.tups, I.base.frzs, I.base.tbls⟩, ⟨_, hn', fun j y v' e1 e2 e3 => ?_⟩, fun y c e => ?_, I.free, I.freeC, fun p hp => ?_, tracked ⟨oL, hoL, I.free⟩ hs, by simpa using I.len⟩ ⟨_, hs, .inl rfl⟩
    · exact (hs.2 b (Nat.ne_of_lt (Nat.lt_of_lt_of_le (Heap.lt_size e) I.ok.above))).trans (I.base.keep b o e n hb hx)
    · obtain ⟨sl, e1⟩ := I.base.slot b o e n hb hx
      exact ⟨sl, (hs.2 b (Nat.ne_of_lt (Nat.lt_of_lt_of_le (Heap.lt_size e) I.ok.above))).trans e1⟩
    · obtain ⟨o', e1⟩ := I.base.there b o e hx
      exact ⟨o', (hs.2 b (Nat.ne_of_lt (Nat.lt_of_lt_of_le (Heap.lt_size e) I.ok.above))).trans e1⟩
    · by_cases hj : j = i
      · subst hj
        rw [hi] at e1; cases e1
        rw [List.getElem?_set_self hiσ] at e2
        cases e2
        exact ⟨u, r, .inl ⟨hk, by simp⟩⟩
      · rw [List.getElem?_set_ne (Ne.symm hj)] at e2
        obtain ⟨u', r', q⟩ := hl j y v' e1 e2 e3
        refine ⟨u', r', ?_⟩
        rcases q with ⟨k, e⟩ | ⟨k, c, e, z⟩
        · refine .inl ⟨k, ?_⟩
          have : y ≠ x := fun e => hj (nodup_ix hN e1 (e ▸ hi))
          simp [this, e]
        · exact .inr ⟨k, c, e, z.sameBut hs (cne y c e)⟩
    · obtain ⟨w', z⟩ := I.cell y c e
      exact ⟨w', z.sameBut hs (cne y c e)⟩
    · obtain ⟨e, n, ne, nf, d⟩ := I.pin p hp
      exact ⟨(hs.2 p.1 ne).trans e, n, ne, nf, d⟩
  · have hfn : X.fn x = true := by
      rcases hf with z | z
      · exact z
      · rw [z] at hk; cases hk
    obtain ⟨c, hc⟩ := I.ok.has x (.inl hk)
    obtain ⟨w', z⟩ := I.cell x c hc
    refine wpAny_storeName_cell I.ok.kind hk hc z (fun h' hc' hs => ?_)
    obtain ⟨oc, hoc, hocd⟩ := id z
    refine h { s with heap := h' } ⟨I.ok, I.os, I.bare, ⟨fun b o e n hb hx => ?_, fun b o e n hb hx => ?_, I.base.free, fun b o e hx => ?_, I.base.tups, I.base.frzs, I.base.tbls⟩, ⟨m, hn.sameBut hs (Ne.symm (cne x c hc)), fun j y v' e1 e2 e3 => ?_⟩, fun y c' e => ?_, I.free, I.freeC, fun p hp => ?_, tracked ⟨oc, hoc, I.freeC x c hc⟩ hs, by simpa using I.len⟩ ⟨c, hs, .inr hc⟩
    · exact (hs.2 b (Nat.ne_of_lt (Nat.lt_of_lt_of_le (Heap.lt_size e) (I.ok.cab x c hfn hc)))).trans (I.base.keep b o e n hb hx)
    · obtain ⟨sl, e1⟩ := I.base.slot b o e n hb hx
      exact ⟨sl, (hs.2 b (Nat.ne_of_lt (Nat.lt_of_lt_of_le (Heap.lt_size e) (I.ok.cab x c hfn hc)))).trans e1⟩
    · obtain ⟨o', e1⟩ := I.base.there b o e hx
      exact ⟨o', (hs.2 b (Nat.ne_of_lt (Nat.lt_of_lt_of_le (Heap.lt_size e) (I.ok.cab x c hfn hc)))).trans e1⟩
    · by_cases hj : j = i
      · subst hj
        rw [hi] at e1; cases e1
        rw [List.getElem?_set_self hiσ] at e2
        cases e2
        exact ⟨u, r, .inr ⟨.inl hk, c, hc, hc'⟩⟩
      · rw [List.getElem?_set_ne (Ne.symm hj)] at e2
        obtain ⟨u', r', q⟩ := hl j y v' e1 e2 e3
        refine ⟨u', r', ?_⟩
        rcases q with q | ⟨k, c', e, z'⟩
        · exact .inl q
        · refine .inr ⟨k, c', e, z'.sameBut hs ?_⟩
          rintro rfl
          exact hj (nodup_ix hN e1 (I.ok.inj _ _ _ e hc ▸ hi))
    · by_cases hcc : c' = c
      · subst hcc; exact ⟨_, hc'⟩
      · obtain ⟨w2, z2⟩ := I.cell y c' e
        exact ⟨w2, z2.sameBut hs hcc⟩
    · obtain ⟨e, n, ne, nf, d⟩ := I.pin p hp
      refine ⟨(hs.2 p.1 ?_).trans e, n, ne, nf, d⟩
      intro q
      rw [q, hoc] at e
      have q' : oc = p.2 := Option.some.inj e
      exact d w' (by rw [← q']; exact hocd)
theorem store_ok {M : Model} {A : Around} {E : Value → Shared → Prop} {i : Nat} {x : Str} {v : V} {u : Value} {Q : Unit → Shared → Prop} (I : Inv X pins σ H s) (hN : X.N.Nodup) (hi : X.N[i]? = some x) (hx : Loc X.env.scope x) (r : RelV v u)
    (h : ∀ s', Inv X pins (σ.set i (some v)) H s' → Q () s') (hf : X.fn x = true ∨ X.env.scope.names.lookup x = some .local := by first | exact .inl rfl | exact .inr rfl | assumption) : wpAny M A (storeName X.env x u) Q E s :=
  store_ok2 I hN hi hx r (fun s' I' _ => h s' I') hf
theorem Inv.call' {s' : Shared} {ch : List Addr} (I : Inv X pins σ H s) (ho : s'.os = s.os) (u : Un (frs X.stack) ch H H' s.heap s'.heap) (hok : HOk X.prog X.w H' s'.heap) (hg : AllBare s'.gens)
    (hch : ∀ b ∈ ch, (b ∈ X.ex ∨ X.s₀.heap.objs.size ≤ b) ∧ b ≠ X.env.locals ∧ (∀ x c, X.env.cells.lookup x = some c → c ≠ b) ∧ ∀ p ∈ X.pn ++ pins, p.1 ≠ b) : Inv X pins σ H' s' := by
  obtain ⟨h', g', d', t', o'⟩ := s'
  have e : o' = s.os := ho
  subst e
  exact I.call (g' := g') (t' := t') (d' := d') u hok hg hch
end
abbrev XK := Value → Option Addr → Hp → Prop
abbrev St := List (Option V)
abbrev VK := V → Hp → Prop
abbrev TE := St → Hp → VK → Prop
abbrev TT := St → Hp → (Bool → Hp → Prop) → Prop
abbrev TA := St → Hp → (List V → Hp → Prop) → Prop
structure Ends where
  nx : St → Hp → Prop
  rt : VK
  bk : St → Hp → Prop := fun _ _ => False
  ct : St → Hp → Prop := fun _ _ => False
abbrev TS := Ends → St → Hp → Prop
def EP (X : Cx) (pins : List (Addr × Obj)) (σ : St) (Q : VK) (u : Value) (s' : Shared) : Prop := ∃ v H', Inv X pins σ H' s' ∧ RelV v u ∧ Q v H'
def TP (X : Cx) (pins : List (Addr × Obj)) (σ : St) (Q : Bool → Hp → Prop) (b : Bool) (s' : Shared) : Prop := ∃ H', Inv X pins σ H' s' ∧ Q b H'
def AP (X : Cx) (pins : List (Addr × Obj)) (σ : St) (Q : List V → Hp → Prop) (us : List Value) (s' : Shared) : Prop := ∃ vs H', Inv X pins σ H' s' ∧ Vals vs us ∧ Q vs H'
def SP (X : Cx) (pins : List (Addr × Obj)) (D : Ends) (f : Flow) (s' : Shared) : Prop :=
  match f with
  | .next => ∃ σ' H', Inv X pins σ' H' s' ∧ D.nx σ' H'
  | .brk => ∃ σ' H', Inv X pins σ' H' s' ∧ D.bk σ' H'
  | .cont => ∃ σ' H', Inv X pins σ' H' s' ∧ D.ct σ' H'
  | .ret u => ∃ v σ' H', Inv X pins σ' H' s' ∧ RelV v u ∧ D.rt v H'
def PE (X : Cx) (e : Expr) (t : TE) : Prop :=
  ∀ (pins : List (Addr × Obj)) (s : Shared) (σ : St) (H : Hp) (Q : VK), Inv X pins σ H s → t σ H Q → wpAny (model X.prog X.w) X.A (eval e X.env) (EP X pins σ Q) X.xe s
def PT (X : Cx) (e : Expr) (t : TT) : Prop :=
  ∀ (pins : List (Addr × Obj)) (s : Shared) (σ : St) (H : Hp) (Q : Bool → Hp → Prop), Inv X pins σ H s → t σ H Q → wpAny (model X.prog X.w) X.A (isTrue e X.env (eval e X.env)) (TP X pins σ Q) X.xe s
def PW (X : Cx) (e : Expr) (t : TT) : Prop :=
  ∀ (whole : Sem Value) (pins : List (Addr × Obj)) (s : Shared) (σ : St) (H : Hp) (Q : Bool → Hp → Prop), Inv X pins σ H s → t σ H Q → wpAny (model X.prog X.w) X.A (isTrue e X.env whole) (TP X pins σ Q) X.xe s
theorem PW.pt {X : Cx} {e : Expr} {t : TT} (h : PW X e t) : PT X e t := h _
def PA (X : Cx) (es : List Expr) (t : TA) : Prop :=
  ∀ (pos : Pos) (pins : List (Addr × Obj)) (s : Shared) (σ : St) (H : Hp) (Q : List V → Hp → Prop), Inv X pins σ H s → t σ H Q → wpAny (model X.prog X.w) X.A (spliced (backTo pos (starEach es X.env))) (AP X pins σ Q) X.xe s
def PS (X : Cx) (st : Stmt) (t : TS) : Prop :=
  ∀ (pins : List (Addr × Obj)) (s : Shared) (σ : St) (H : Hp) (D : Ends), Inv X pins σ H s → t D σ H → wpAny (model X.prog X.w) X.A (exec st X.env) (SP X pins D) X.xe s
def PSs (X : Cx) (st : List Stmt) (t : TS) : Prop :=
  ∀ (pins : List (Addr × Obj)) (s : Shared) (σ : St) (H : Hp) (D : Ends), Inv X pins σ H s → t D σ H → wpAny (model X.prog X.w) X.A (execs st X.env) (SP X pins D) X.xe s
theorem thn {α : Type} {t : Sem α} {Q Q' : α → Shared → Prop} {M : Model} {A : Around} {E : Value → Shared → Prop} {s : Shared} (h : wpAny M A t Q E s) (hQ : ∀ a s, Q a s → Q' a s) : wpAny M A t Q' E s := wpAny_mono h hQ fun _ _ x => x
end L2
namespace L2
open PySem PySem.Spec PyProof.Rows
section
variable {X : Cx}
def tVar (i : Nat) : TE := fun σ H Q => ∃ v, σ[i]? = some (some v) ∧ Q v H
def tC (v : V) : TE := fun _ H Q => Q v H
theorem pe_var {i : Nat} {x : Str} {pos : Pos} (hN : X.N[i]? = some x) (hv : Vis X.env.scope x) (hd : (x == ("__debug__" : Str)) = false := by decide) (hcd : (x == ("__classdict__" : Str)) = false := by decide) : PE X (.Name x pos) (tVar i) := by
  intro pins s σ H Q I h
  obtain ⟨v, e, h⟩ := h
  obtain ⟨m, hn, hl⟩ := I.loc
  obtain ⟨u, r, l⟩ := hl i x v hN e hv
  have fin : EP X pins σ Q u s := ⟨v, H, I, r, h⟩
  rcases l with ⟨hk, hm⟩ | ⟨hk, c, hc, hcell⟩
  · exact wpAny_Name (wpAny_loadName_local I.ok.kind hk hn hm fin) hd
  · rcases hk with hk | hk
    · exact wpAny_Name (wpAny_loadName_cell I.ok.kind hk hc hcell fin) hd
    · exact wpAny_Name (wpAny_loadName_free I.ok.kind hk hc hcell fin hcd) hd
theorem pe_int {i j pos} : PE X (.Constant (.int i) j pos) (tC (.int i)) := fun _ _ _ H _ I h => wpAny_Constant_int ⟨.int i, H, I.tok _, ⟨_, rfl⟩, h⟩
theorem pe_bl {b j pos} : PE X (.Constant (.bool b) j pos) (tC (.bl b)) := fun _ _ _ H _ I h => Constant_bool ⟨.bl b, H, I, rfl, h⟩
theorem pe_non {j pos} : PE X (.Constant .none j pos) (tC .non) := fun _ _ _ H _ I h => Constant_none ⟨.non, H, I, rfl, h⟩
theorem pe_str {x j pos} : PE X (.Constant (.str x) j pos) (tC (.str x)) := fun _ _ _ H _ I h => Calls.Constant_str ⟨.str x, H, I.tok _, ⟨_, rfl⟩, h⟩
def Gl (X : Cx) (x : Str) : Prop := X.env.kindOf x = some .globalImplicit
theorem ld_glob {E : Value → Shared → Prop} {pins : List (Addr × Obj)} {s : Shared} {σ : St} {H : Hp} {x : Str} {u : Value} {pos : Pos} {Q : Value → Shared → Prop} (I : Inv X pins σ H s) (hg : Gl X x) (hm : X.mg x = some u) (h : Q u s)
    (hd : (x == ("__debug__" : Str)) = false := by decide) : wpAny (model X.prog X.w) X.A (eval (.Name x pos) X.env) Q E s :=
  Calls.Name_function_global I.ok.kind hg (Calls.loadGlobal_global (by rw [I.ok.glob]; exact I.mod.glob.keeps I.bk) hm h) hd
theorem ld_blt {E : Value → Shared → Prop} {pins : List (Addr × Obj)} {s : Shared} {σ : St} {H : Hp} {x : Str} {u : Value} {pos : Pos} {Q : Value → Shared → Prop} (I : Inv X pins σ H s) (hg : Gl X x) (hm : X.mg x = none) (hv : bootBuiltins x = some u) (h : Q u s)
    (hn : x ≠ "__name__" := by decide) (hd : (x == ("__debug__" : Str)) = false := by decide) : wpAny (model X.prog X.w) X.A (eval (.Name x pos) X.env) Q E s := by
  obtain ⟨mb, h1, h2⟩ := I.mod.blt
  exact Calls.Name_function_global I.ok.kind hg (Calls.loadGlobal_builtin (by rw [I.ok.glob]; exact I.mod.glob.keeps I.bk) hm (by rw [I.ok.blt]; exact h1.keeps I.bk) ((h2 x hn).trans hv) h) hd
theorem pe_bltn {x : Str} {v : V} {u : Value} {pos : Pos} (hg : Gl X x) (hm : X.mg x = none) (hv : bootBuiltins x = some u) (r : RelV v u) (hn : x ≠ "__name__" := by decide) (hd : (x == ("__debug__" : Str)) = false := by decide) : PE X (.Name x pos) (tC v) :=
  fun _ _ _ H _ I h => ld_blt I hg hm hv ⟨v, H, I, r, h⟩ hn hd
variable {a b : Expr} {ta tb : TE} {pos : Pos}
def tB (t : TE) : TT := fun σ H Q => t σ H fun x H1 => ∃ c, x = .bl c ∧ Q c H1
theorem pt_val {e : Expr} {t : TE} (h : PE X e t) (he : ∀ whole, isTrue e X.env whole = (do let v ← whole; standAt e.pos; holding [v] (truthy v)) := by intro _; rfl) : PT X e (tB t) := by
  intro pins s σ H Q I hw
  refine isTrue_plain (thn (h pins s σ H _ I hw) fun v s1 ⟨x, H1, I1, r1, q1⟩ => ?_) (he _)
  obtain ⟨d, rfl, q⟩ := q1
  cases r1
  exact wpAny_truthy_bool ⟨H1, I1, q⟩
variable {tA tB' : TT} {rest : List Expr}
def tAnd (t u : TT) : TT := fun σ H Q => t σ H fun c H1 => if c = true then u σ H1 Q else Q false H1
def tOr (t u : TT) : TT := fun σ H Q => t σ H fun c H1 => if c = true then Q true H1 else u σ H1 Q
def tNot (t : TT) : TT := fun σ H Q => t σ H fun c H1 => Q (!c) H1
theorem pw_and1 (ha : PT X a tA) : PW X (.BoolOp .And [a] pos) tA := by
  intro wh pins s σ H Q I h
  refine isTrue_and (thn (ha pins s σ H Q I h) fun c s1 e => ?_)
  cases c with
  | true => exact isTrue_and_nil e
  | false => exact e
theorem pw_or1 (ha : PT X a tA) : PW X (.BoolOp .Or [a] pos) tA := by
  intro wh pins s σ H Q I h
  refine isTrue_or (thn (ha pins s σ H Q I h) fun c s1 e => ?_)
  cases c with
  | false => exact isTrue_or_nil e
  | true => exact e
theorem pw_and (ha : PT X a tA) (hb : PW X (.BoolOp .And (b :: rest) pos) tB') : PW X (.BoolOp .And (a :: b :: rest) pos) (tAnd tA tB') := by
  intro wh pins s σ H Q I h
  refine isTrue_and (thn (ha pins s σ H _ I h) fun c s1 ⟨H1, I1, q1⟩ => ?_)
  cases c with
  | true => exact hb wh pins s1 σ H1 Q I1 q1
  | false => exact ⟨H1, I1, q1⟩
theorem pw_or (ha : PT X a tA) (hb : PW X (.BoolOp .Or (b :: rest) pos) tB') : PW X (.BoolOp .Or (a :: b :: rest) pos) (tOr tA tB') := by
  intro wh pins s σ H Q I h
  refine isTrue_or (thn (ha pins s σ H _ I h) fun c s1 ⟨H1, I1, q1⟩ => ?_)
  cases c with
  | true => exact ⟨H1, I1, q1⟩
  | false => exact hb wh pins s1 σ H1 Q I1 q1
theorem pt_not (ha : PT X a tA) : PT X (.UnaryOp .Not a pos) (tNot tA) := by
  intro pins s σ H Q I h
  exact isTrue_not (ha pins s σ H (fun c H1 => Q (!c) H1) I h)
def tOrV (ta tb : TE) : TE := fun σ H Q => ta σ H fun x H1 => ∃ c, x = .bl c ∧ if c = true then Q (.bl true) H1 else tb σ H1 Q
theorem pe_one {op} {t : TE} (h : PE X a t) : PE X (.BoolOp op [a] pos) t := fun pins s σ H Q I hw => BoolOp_one (h pins s σ H Q I hw)
theorem pe_or (ha : PE X a ta) (hb : PE X (.BoolOp .Or (b :: rest) pos) tb) : PE X (.BoolOp .Or (a :: b :: rest) pos) (tOrV ta tb) := by
  intro pins s σ H Q I h
  refine BoolOp_or (thn (ha pins s σ H _ I h) fun v s1 ⟨x, H1, I1, r1, q1⟩ => ?_)
  obtain ⟨c, rfl, q1⟩ := q1
  cases r1
  refine wpAny_truthy_bool ?_
  cases c with
  | false => exact hb pins s1 σ H1 Q I1 q1
  | true => exact ⟨.bl true, H1, I1, rfl, q1⟩
def tIf (t : TT) (ta tb : TE) : TE := fun σ H Q => t σ H fun c H1 => if c = true then ta σ H1 Q else tb σ H1 Q
theorem pe_ifExp {c : Expr} (hc : PT X c tA) (ha : PE X a ta) (hb : PE X b tb) : PE X (.IfExp c a b pos) (tIf tA ta tb) := by
  intro pins s σ H Q I h
  refine wpAny_IfExp (thn (hc pins s σ H _ I h) fun d s1 ⟨H1, I1, q1⟩ => ?_)
  cases d with
  | true => exact ha pins s1 σ H1 Q I1 q1
  | false => exact hb pins s1 σ H1 Q I1 q1
end
end L2
namespace L2
open PySem PySem.Spec PyProof.Rows
def SqL (K : PySem.W.Frag) (H : Hp) (a : Addr) (xs : List V) : Prop :=
  Rd H a (.lst xs) ∨
    ∃ (o : Obj) (its : Array Value) (n : Nat), K.lookup a = some o ∧ o.cls = .type "list" ∧ o.dict = none ∧ o.data = .seq its n ∧ its.size ≤ sizeLine ∧ Vals xs its.toList
def SqT (K : PySem.W.Frag) (H : Hp) (a : Addr) (xs : List V) : Prop :=
  Rd H a (.tup xs) ∨
    ∃ (o : Obj) (its : Array Value) (n : Nat), K.lookup a = some o ∧ o.cls = .type "tuple" ∧ o.data = .seq its n ∧ its.size ≤ sizeLine ∧ Vals xs its.toList
def absV : Value → Option V
  | .none => some .non
  | .bool b => some (.bl b)
  | .int i _ => some (.int i)
  | .str x _ => some (.str x)
  | .bytes b _ => some (.byt b)
  | .float b _ => some (.flt b)
  | .ref a => some (.ref a)
  | .type n => some (.ty n)
  | _ => none
theorem RelV.abs {x : V} {u : Value} (r : RelV x u) : absV u = some x := by
  cases x with
  | non => cases r; rfl
  | bl _ => cases r; rfl
  | int _ => obtain ⟨t, rfl⟩ := r; rfl
  | str _ => obtain ⟨t, rfl⟩ := r; rfl
  | byt _ => obtain ⟨t, rfl⟩ := r; rfl
  | flt _ => obtain ⟨t, rfl⟩ := r; rfl
  | ref _ => cases r; rfl
  | ty _ => cases r; rfl
theorem RelV.inj {x y : V} {u : Value} (r : RelV x u) (q : RelV y u) : x = y := Option.some.inj (r.abs.symm.trans q.abs)
theorem Vals.inj : ∀ {xs ys : List V} {us : List Value}, Vals xs us → Vals ys us → xs = ys
  | _, _, _, .nil, .nil => rfl
  | _, _, _, .cons r t, .cons r' t' => by rw [r.inj r', Vals.inj t t']
section
variable {X : Cx} {pins : List (Addr × Obj)} {σ : St} {H : Hp} {s : Shared} {a : Addr} {xs ys : List V}
theorem SqL.of {K : PySem.W.Frag} (h : H a = some (.lst xs)) : SqL K H a xs := .inl (.inl h)
theorem SqT.of {K : PySem.W.Frag} (h : H a = some (.tup xs)) : SqT K H a xs := .inl (.inl h)
theorem Inv.list (I : Inv X pins σ H s) (h : SqL X.K H a xs) : ∃ its : List Value, Vals xs its ∧ PlainL s.heap a its.toArray ∧ xs.length ≤ sizeLine := by
  rcases h with h | ⟨o, its, n, hk, hc, hd, hs, hz, r⟩
  · obtain ⟨z, its, n, r, e⟩ := h.ok I.hok
    exact ⟨its, r, ⟨_, n, e, rfl, rfl, rfl⟩, z⟩
  · refine ⟨its.toList, r, ⟨o, n, I.kIn a o hk, hc, hd, by simpa using hs⟩, ?_⟩
    have e := r.length
    simp only [Array.length_toList] at e
    omega
theorem Inv.tuple (I : Inv X pins σ H s) (h : SqT X.K H a xs) : ∃ its : List Value, Vals xs its ∧ IsTup s.heap a its.toArray ∧ xs.length ≤ sizeLine := by
  rcases h with h | ⟨o, its, n, hk, hc, hs, hz, r⟩
  · obtain ⟨z, its, r, p⟩ := h.ok I.hok
    exact ⟨its, r, p.tup, z⟩
  · refine ⟨its.toList, r, ⟨o, I.kIn a o hk, hc, n, by simpa using hs⟩, ?_⟩
    have e := r.length
    simp only [Array.length_toList] at e
    omega
theorem Inv.list_inj (I : Inv X pins σ H s) (h : SqL X.K H a xs) (h' : SqL X.K H a ys) : xs = ys := by
  obtain ⟨its, r, ⟨o, n, e, _, _, d⟩, _⟩ := I.list h
  obtain ⟨its', r', ⟨o', n', e', _, _, d'⟩, _⟩ := I.list h'
  rw [e] at e'; cases e'
  rw [d] at d'
  injection d' with d1 _
  have : its = its' := by simpa using congrArg Array.toList d1
  subst this
  exact r.inj r'
theorem Inv.tuple_inj (I : Inv X pins σ H s) (h : SqT X.K H a xs) (h' : SqT X.K H a ys) : xs = ys := by
  obtain ⟨its, r, ⟨o, e, _, n, d⟩, _⟩ := I.tuple h
  obtain ⟨its', r', ⟨o', e', _, n', d'⟩, _⟩ := I.tuple h'
  rw [e] at e'; cases e'
  rw [d] at d'
  injection d' with d1 _
  have : its = its' := by simpa using congrArg Array.toList d1
  subst this
  exact r.inj r'
end
abbrev Cx.wish (X : Cx) (E : Value → Shared → Prop) : Cx := { X with xe := E }
abbrev Cx.nox (X : Cx) : Cx := X.wish fun _ _ => False
theorem Cx.Ok.wish {X : Cx} (ok : X.Ok) (E : Value → Shared → Prop) : (X.wish E).Ok :=
  ⟨ok.mod, ok.kind, ok.glob, ok.blt, ok.above, ok.inj, ok.has, ok.cab, ok.hd, ok.frames, ok.stk, ok.exf, ok.bs, ok.bsz, ok.noex, ok.exfs, ok.funs, ok.frf⟩
theorem Cx.Ok.unwish {X : Cx} {E : Value → Shared → Prop} (ok : (X.wish E).Ok) : X.Ok :=
  ⟨ok.mod, ok.kind, ok.glob, ok.blt, ok.above, ok.inj, ok.has, ok.cab, ok.hd, ok.frames, ok.stk, ok.exf, ok.bs, ok.bsz, ok.noex, ok.exfs, ok.funs, ok.frf⟩
section
variable {X : Cx} {pins : List (Addr × Obj)} {σ : St} {H : Hp} {s : Shared} {E : Value → Shared → Prop}
theorem Inv.wish (I : Inv X pins σ H s) (E : Value → Shared → Prop) : Inv (X.wish E) pins σ H s := ⟨I.ok.wish E, I.os, I.bare, I.base, I.loc, I.cell, I.free, I.freeC, I.pin, I.hok, I.len⟩
theorem Inv.unwish (I : Inv (X.wish E) pins σ H s) : Inv X pins σ H s := ⟨I.ok.unwish, I.os, I.bare, I.base, I.loc, I.cell, I.free, I.freeC, I.pin, I.hok, I.len⟩
theorem SP.unwish {D : Ends} {f : Flow} {s' : Shared} (h : SP (X.wish E) pins D f s') : SP X pins D f s' := by
  cases f with
  | next => obtain ⟨σ', H', I, q⟩ := h; exact ⟨σ', H', I.unwish, q⟩
  | brk => obtain ⟨σ', H', I, q⟩ := h; exact ⟨σ', H', I.unwish, q⟩
  | cont => obtain ⟨σ', H', I, q⟩ := h; exact ⟨σ', H', I.unwish, q⟩
  | ret u => obtain ⟨v, σ', H', I, r, q⟩ := h; exact ⟨v, σ', H', I.unwish, r, q⟩
theorem PSs.nox {st : List Stmt} {t : TS} (h : PSs X.nox st t) : PSs X st t := fun pins s σ H D I hw =>
  wpAny_mono (h pins s σ H D (I.wish _) hw) (fun _ _ q => q.unwish) fun _ _ z => False.elim z
end
section
variable {X : Cx} {st : Stmt} {rest : List Stmt} {t u : TS} {e : Expr} {te : TE} {pos : Pos}
def tNext : TS := fun D σ H => D.nx σ H
def tSeq (t u : TS) : TS := fun D σ H => t { D with nx := u D } σ H
theorem pss_nil : PSs X [] tNext := fun _ _ σ H _ I h => wpAny_execs_nil ⟨σ, H, I, h⟩
theorem pss_cons (h1 : PS X st t) (h2 : PSs X rest u) : PSs X (st :: rest) (tSeq t u) := by
  intro pins s σ H D I h
  refine wpAny_execs_cons (thn (h1 pins s σ H { D with nx := u D } I h) fun f s1 q => ?_)
  cases f with
  | next =>
    obtain ⟨σ', H', I', q⟩ := q
    exact h2 pins s1 σ' H' D I' q
  | ret v => exact q
  | brk => exact q
  | cont => exact q
theorem pss_one (h1 : PS X st t) : PSs X [st] t := by
  intro pins s σ H D I h
  refine wpAny_execs_cons (thn (h1 pins s σ H D I h) fun f s1 q => ?_)
  cases f with
  | next => exact wpAny_execs_nil q
  | ret v => exact q
  | brk => exact q
  | cont => exact q
theorem Inv.quiet {pins : List (Addr × Obj)} {σ : St} {H : Hp} {s : Shared} (I : Inv X pins σ H s) : interactive X.env = false := by simp [interactive, I.ok.kind]
def tDrop (te : TE) : TS := fun D σ H => te σ H fun _ H1 => D.nx σ H1
theorem ps_expr (he : PE X e te) (hs : swapsWith e none pos.line X.env = pure false := by rfl) : PS X (.Expr e pos) (tDrop te) := by
  intro pins s σ H D I h
  exact wpAny_Expr_any (thn (he pins s σ H _ I h) fun v s1 ⟨x, H1, I1, r1, q1⟩ => ⟨σ, H1, I1, q1⟩) I.quiet hs
def tRet (te : TE) : TS := fun D σ H => te σ H D.rt
theorem ps_ret (he : PE X e te) : PS X (.Return (some e) pos) (tRet te) := by
  intro pins s σ H D I h
  exact wpAny_Return_some (thn (he pins s σ H _ I h) fun v s1 ⟨x, H1, I1, r1, q1⟩ => ⟨x, σ, H1, I1, r1, q1⟩)
def tIfS (c : TT) (t u : TS) : TS := fun D σ H => c σ H fun b H1 => if b = true then t D σ H1 else u D σ H1
theorem ps_if {c : Expr} {a b : List Stmt} {tc : TT} (hc : PT X c tc) (ha : PSs X a t) (hb : PSs X b u) : PS X (.If c a b pos) (tIfS tc t u) := by
  intro pins s σ H D I h
  refine wpAny_If (thn (hc pins s σ H _ I h) fun d s1 ⟨H1, I1, q1⟩ => ?_)
  cases d with
  | true => exact ha pins s1 σ H1 D I1 q1
  | false => exact hb pins s1 σ H1 D I1 q1
end
abbrev TG := V → St → Hp → (St → Hp → Prop) → Prop
abbrev TGs := List V → St → Hp → (St → Hp → Prop) → Prop
def PG (X : Cx) (target : Expr) (t : TG) : Prop :=
  ∀ (pins : List (Addr × Obj)) (s : Shared) (σ : St) (H : Hp) (v : V) (u : Value) (Q : St → Hp → Prop), Inv X pins σ H s → RelV v u → t v σ H Q →
    wpAny (model X.prog X.w) X.A (assign target X.env u) (fun _ s' => ∃ σ' H', Inv X pins σ' H' s' ∧ Q σ' H') X.xe s
def PGs (X : Cx) (ts : List Expr) (t : TGs) : Prop :=
  ∀ (pins : List (Addr × Obj)) (s : Shared) (σ : St) (H : Hp) (vs : List V) (us : List Value) (Q : St → Hp → Prop), Inv X pins σ H s → Vals vs us → t vs σ H Q →
    wpAny (model X.prog X.w) X.A (assignInOrder ((assignEach ts X.env).map (·.2)) us) (fun _ s' => ∃ σ' H', Inv X pins σ' H' s' ∧ Q σ' H') X.xe s
abbrev TSet := V → V → V → Hp → (Hp → Prop) → Prop
def PSet (X : Cx) (t : TSet) : Prop :=
  ∀ (pins : List (Addr × Obj)) (s : Shared) (σ : St) (H : Hp) (o i v : V) (ov iv u : Value) (Q : Hp → Prop), Inv X pins σ H s → RelV o ov → RelV i iv → RelV v u → t o i v H Q →
    wpAny (model X.prog X.w) X.A (setItem ov iv u) (fun _ s' => ∃ H', Inv X pins σ H' s' ∧ Q H') X.xe s
section
variable {X : Cx} {pos : Pos}
def gName (i : Nat) : TG := fun v σ H Q => Q (σ.set i (some v)) H
theorem pg_name {i : Nat} {x : Str} (hN : X.N.Nodup) (hi : X.N[i]? = some x) (hx : Loc X.env.scope x) (hf : X.fn x = true ∨ X.env.scope.names.lookup x = some .local := by first | exact .inl rfl | exact .inr rfl | assumption) : PG X (.Name x pos) (gName i) := by
  intro pins s σ H v u Q I r h
  exact wpAny_assign_Name (store_ok I hN hi hx r (fun s' I' => ⟨_, H, I', h⟩) hf)
def gNil : TGs := fun vs σ H Q => vs = [] ∧ Q σ H
def gCons (t : TG) (u : TGs) : TGs := fun vs σ H Q => ∃ v r, vs = v :: r ∧ t v σ H fun σ' H' => u r σ' H' Q
theorem pgs_nil : PGs X [] gNil := by
  intro pins s σ H vs us Q I r h
  obtain ⟨e, h⟩ := h
  subst e
  cases r
  exact assignInOrder_nil ⟨σ, H, I, h⟩
theorem pgs_cons {e : Expr} {es : List Expr} {t : TG} {u : TGs} (h1 : PG X e t) (h2 : PGs X es u)
    (hs : (assignEach (e :: es) X.env).map (·.2) = assign e X.env :: (assignEach es X.env).map (·.2) := by rfl) : PGs X (e :: es) (gCons t u) := by
  intro pins s σ H vs us Q I r h
  obtain ⟨v, vr, e1, h⟩ := h
  subst e1
  cases r with
  | cons r rr =>
    rw [hs]
    refine assignInOrder_cons (thn (h1 pins s σ H _ _ _ I r h) fun _ s1 ⟨σ1, H1, I1, q1⟩ => ?_)
    exact h2 pins s1 σ1 H1 _ _ Q I1 rr q1
def gTup (K : PySem.W.Frag) (n : Nat) (t : TGs) : TG := fun v σ H Q => ∃ a xs, v = .ref a ∧ SqT K H a xs ∧ xs.length = n ∧ t xs σ H Q
theorem pg_tup {es : List Expr} {k : Nat} {t : TGs} {n : Nat} (hc : X.calm = true) (h : PGs X es t)
    (hn : (assignEach es X.env).length = n := by rfl) (hst : (assignEach es X.env).findIdx? (·.1) = none := by rfl) : PG X (.Tuple es k pos) (gTup X.K n t) := by
  intro pins s σ H v u Q I r hw
  obtain ⟨a, xs, e1, hq, hl, hw⟩ := hw
  subst e1
  cases r
  obtain ⟨its, rv, ht, hz⟩ := I.tuple hq
  refine assign_Tuple_tuple (I.ok.hd hc) ht (by simp [hn, ← hl, rv.length]) hst fun h' hx => ?_
  have I1 : Inv X pins σ H { s with heap := h' } := I.kept (t' := s.toks) fun b o e => hx b o (Nat.ne_of_lt (Heap.lt_size e)) e
  exact h pins _ σ H xs _ Q I1 (by simpa using rv) hw
def gSub (to ti : TE) (t : TSet) : TG := fun v σ H Q => to σ H fun o H1 => ti σ H1 fun i H2 => t o i v H2 fun H3 => Q σ H3
theorem pg_sub {o i : Expr} {to ti : TE} {t : TSet} (ho : PE X o to) (hi : PE X i ti) (hs : PSet X t)
    (ha : ∀ v, assign (.Subscript o i pos) X.env v = (do
      let ov ← holding [v] (eval o X.env)
      let iv ← holding [v, ov] (eval i X.env)
      standAt pos
      holding [v, ov, iv] (setItem ov iv v)
      release [v, ov, iv] []) := by intro _; rfl) : PG X (.Subscript o i pos) (gSub to ti t) := by
  intro pins s σ H v u Q I r h
  rw [ha]
  refine wpAny_bind (wpAny_holding (thn (ho pins s σ H _ I h) fun ov s1 ⟨x, H1, I1, r1, q1⟩ => ?_))
  refine wpAny_bind (wpAny_holding (thn (hi pins s1 σ H1 _ I1 q1) fun iv s2 ⟨y, H2, I2, r2, q2⟩ => ?_))
  refine wpAny_bind (wpAny_standAt (wpAny_bind (wpAny_holding (thn (hs pins s2 σ H2 x y v ov iv u _ I2 r1 r2 r q2) fun _ s3 ⟨H3, I3, q3⟩ => ?_))))
  exact wpAny_release ⟨σ, H3, I3, q3⟩
def tAsg (te : TE) (g : TG) : TS := fun D σ H => te σ H fun x H1 => g x σ H1 D.nx
theorem ps_asg {tg e : Expr} {te : TE} {g : TG} (he : PE X e te) (hg : PG X tg g) (hs : swapsWithSole [tg] e pos.line X.env = pure false := by rfl) (hw : swappedStores [tg] e X.env = pure none := by rfl)
    (h1 : (assignEach [tg] X.env).map (·.2) = [assign tg X.env] := by rfl) : PS X (.Assign [tg] e pos) (tAsg te g) := by
  intro pins s σ H D I h
  refine wpAny_Assign_stores (thn (he pins s σ H _ I h) fun v s1 ⟨x, H1, I1, r1, q1⟩ => ?_) hs hw
  rw [h1]
  exact thn (hg pins s1 σ H1 x v _ I1 r1 q1) fun _ s2 q => q
theorem ps_set {i : Nat} {x : Str} {e : Expr} {te : TE} {pos' : Pos} (hN : X.N.Nodup) (hi : X.N[i]? = some x) (hx : Loc X.env.scope x) (he : PE X e te) (hs : swapsWith e (some (.Name x pos')) pos.line X.env = pure false := by rfl) (hf : X.fn x = true ∨ X.env.scope.names.lookup x = some .local := by first | exact .inl rfl | exact .inr rfl | assumption) :
    PS X (.Assign [.Name x pos'] e pos) (tAsg te (gName i)) := by
  intro pins s σ H D I h
  refine wpAny_Assign_Name (thn (he pins s σ H _ I h) fun v s1 ⟨y, H1, I1, r1, q1⟩ => ?_) hs
  exact store_ok I1 hN hi hx r1 (fun s2 I2 => ⟨_, H1, I2, q1⟩) hf
end
section
variable {X : Cx} {pos : Pos}
end
structure It where
  go : Nat → Hp → Prop
  yld : Nat → Hp → V → Hp → Prop
  stop : Nat → Hp → Prop
def FpOk (X : Cx) (pins : List (Addr × Obj)) (H : Hp) (b : Addr) : Prop :=
  H b = none ∧ b ≠ X.env.locals ∧ b ∉ X.fs ∧ (b ∈ X.ex ∨ X.s₀.heap.objs.size ≤ b) ∧ (∀ x c, X.env.cells.lookup x = some c → c ≠ b) ∧ ∀ p ∈ X.pn ++ pins, p.1 ≠ b
theorem Inv.fpOk {X : Cx} {pins : List (Addr × Obj)} {σ : St} {H H' : Hp} {s : Shared} {b : Addr} (I : Inv X pins σ H s) (hb : s.heap.objs.size ≤ b) (hn : H' b = none) : FpOk X pins H' b := by
  refine ⟨hn, Nat.ne_of_gt (Nat.lt_of_lt_of_le I.lt hb), I.nofs hb, .inr (Nat.le_trans I.sz hb), fun x c e z => ?_, fun p hp z => ?_⟩
  · obtain ⟨v, q⟩ := I.cell x c e
    exact absurd (Nat.lt_of_lt_of_le q.lt (by rw [z]; exact hb)) (Nat.lt_irrefl _)
  · exact absurd (Nat.lt_of_lt_of_le (Heap.lt_size (I.pin p hp).1) (by rw [z]; exact hb)) (Nat.lt_irrefl _)
structure Turn (P : Program) (w : World) (K : PySem.W.Frag) (tg : Expr) (J : It) (fp : List Addr) (it : Addr) (tn : Nat → Heap → Prop) : Prop where
  mem : it ∈ fp
  obj : ∀ i h, tn i h → ∀ b ∈ fp, ∃ o, h.get? b = some o ∧ ∀ v, o.data ≠ .cell v
  keep : ∀ i h h', tn i h → (∀ b ∈ fp, ∀ o, h.get? b = some o → h'.get? b = some o) → tn i h'
  item : ∀ (X : Cx), X.prog = P → X.w = w → X.K = K → X.calm = true → ∀ (i : Nat) (pins : List (Addr × Obj)) (s : Shared) (σ : St) (H : Hp) (E : Value → Shared → Prop), Inv X pins σ H s → (∀ b ∈ fp, FpOk X pins H b) → tn i s.heap → J.go i H →
    wpAny (model P w) X.A (pyNext (.ref it)) (fun r s1 => ∃ u, r = some u ∧
      wpAny (model P w) X.A (letOwnedTupleGo tg (.ref it) u) (fun _ s2 => ∃ x H', Inv X pins σ H' s2 ∧ RelV x u ∧ J.yld i H x H' ∧ tn (i + 1) s2.heap ∧ ∀ b ∈ fp, H' b = none) E s1) E s
  done : ∀ (X : Cx), X.prog = P → X.w = w → X.K = K → X.calm = true → ∀ (i : Nat) (pins : List (Addr × Obj)) (s : Shared) (σ : St) (H : Hp) (E : Value → Shared → Prop), Inv X pins σ H s → (∀ b ∈ fp, FpOk X pins H b) → tn i s.heap → J.stop i H →
    wpAny (model P w) X.A (pyNext (.ref it)) (fun r s1 => r = none ∧ Inv X pins σ H s1) E s
  self : ∀ (A : Around) (i : Nat) (s : Shared) (Q : Value → Shared → Prop) (E : Value → Shared → Prop), tn i s.heap → Q (.ref it) s → wpAny (model P w) A (pyIter (.ref it)) Q E s
abbrev TI := St → Hp → (It → Hp → Prop) → Prop
def PIE (X : Cx) (pins : List (Addr × Obj)) (σ : St) (tg : Expr) (R : It → Hp → Prop) (itv : Value) (s2 : Shared) : Prop :=
  ∃ (it : Addr) (fp : List Addr) (tn : Nat → Heap → Prop) (J : It) (H' : Hp), itv = .ref it ∧ Inv X pins σ H' s2 ∧ Turn X.prog X.w X.K tg J fp it tn ∧ tn 0 s2.heap ∧ (∀ b ∈ fp, FpOk X pins H' b) ∧ R J H'
def PI (X : Cx) (tg iter : Expr) (wi : TI) : Prop :=
  ∀ (pins : List (Addr × Obj)) (s : Shared) (σ : St) (H : Hp) (R : It → Hp → Prop), Inv X pins σ H s → wi σ H R →
    wpAny (model X.prog X.w) X.A (eval iter X.env) (fun v s1 => wpAny (model X.prog X.w) X.A (pyIter v) (PIE X pins σ tg R) X.xe s1) X.xe s
theorem go_of {M : Model} {A : Around} {E : Value → Shared → Prop} {s : Shared} {tg : Expr} {it : Addr} {u : Value} {o : Obj} {n : String} {vs : Array Value} {Q : Unit → Shared → Prop} (ho : s.heap.get? it = some o) (hc : o.cls = .type n) (hd : o.data = .fields vs)
    (hn : ["enumerate", "zip", "dict_itemiterator", "dict_reverseitemiterator", "odict_iterator", "itertools.zip_longest", "itertools.pairwise"].contains n = false) (hQ : Q () s) : wpAny M A (letOwnedTupleGo tg (.ref it) u) Q E s := by
  unfold letOwnedTupleGo
  cases tg <;> first
    | exact wpAny_pure hQ
    | (cases u <;> first
        | exact wpAny_pure hQ
        | (refine wpAny_bind (wpAny_load ho ?_)
           rw [hc, hd]
           show wpAny M A (if (["enumerate", "zip", "dict_itemiterator", "dict_reverseitemiterator", "odict_iterator", "itertools.zip_longest", "itertools.pairwise"].contains n && vs[0]? == some (rawInt _)) = true then _ else _) Q E s
           rw [if_neg (by intro h; rw [hn, Bool.false_and] at h; cases h)]
           exact wpAny_pure hQ))
def Itl (K : PySem.W.Frag) (a : Addr) : It :=
  ⟨fun i H => ∃ xs x, SqL K H a xs ∧ xs[i]? = some x, fun i H x H' => H' = H ∧ ∀ xs, SqL K H a xs → xs[i]? = some x, fun i H => ∃ xs, SqL K H a xs ∧ xs.length ≤ i⟩
def Itt (K : PySem.W.Frag) (a : Addr) : It :=
  ⟨fun i H => ∃ xs x, SqT K H a xs ∧ xs[i]? = some x, fun i H x H' => H' = H ∧ ∀ xs, SqT K H a xs → xs[i]? = some x, fun i H => ∃ xs, SqT K H a xs ∧ xs.length ≤ i⟩
def Itr (lo : Int) (n : Nat) : It := ⟨fun i _ => i < n, fun i H x H' => H' = H ∧ x = .int (lo + i), fun i _ => n ≤ i⟩
theorem turn_list {P : Program} {w : World} {K : PySem.W.Frag} {tg : Expr} (a it : Addr) : Turn P w K tg (Itl K a) [it] it (fun i h => h.IsListIter it a i) where
  mem := by simp
  obj := fun i h st b hb => by
    have e : b = it := by simpa using hb
    subst e
    obtain ⟨o, e, c, d⟩ := st
    exact ⟨o, e, fun v z => by rw [d] at z; cases z⟩
  keep := fun i h h' st k => st.at fun o e => k it (by simp) o e
  item := by
    intro X hP hw hK hc i pins s σ H E I hf st hg
    subst hP hw hK
    obtain ⟨xs, x, hq, hx⟩ := hg
    obtain ⟨its, rv, p, hz⟩ := I.list hq
    obtain ⟨u, hu, ru⟩ := rv.get hx
    obtain ⟨f0, f1, f2, f3, f4, f5⟩ := hf it (by simp)
    refine wpAny_pyNext_list_item st p.isList (x := u) (by simpa using hu) fun h' st' sb => ?_
    have I1 : Inv X pins σ H { s with heap := h' } := I.turned (t' := s.toks) (fun b o hb e => (sb.2 b hb).trans e) f0 f1 f3 f4 f5
    obtain ⟨o, e, c, d⟩ := id st'
    exact ⟨u, rfl, go_of (s := { s with heap := h' }) e c d (by decide) ⟨x, H, I1, ru, ⟨rfl, fun ys hy => by rw [I.list_inj hy hq]; exact hx⟩, st', fun b hb => (hf b hb).1⟩⟩
  done := by
    intro X hP hw hK hc i pins s σ H E I hf st hg
    subst hP hw hK
    obtain ⟨xs, hq, hx⟩ := hg
    obtain ⟨its, rv, p, hz⟩ := I.list hq
    obtain ⟨f0, f1, f2, f3, f4, f5⟩ := hf it (by simp)
    have hl := rv.length
    exact wpAny_pyNext_list_end (I.ok.hd hc) st p.isList (by simp; omega) fun h' eb => ⟨rfl, I.turned (t' := s.toks) (fun b o hb e => eb b o hb e) f0 f1 f3 f4 f5⟩
  self := fun _ _ _ _ _ st h => wpAny_pyIter_listiter st h
theorem turn_tuple {P : Program} {w : World} {K : PySem.W.Frag} {tg : Expr} (a it : Addr) : Turn P w K tg (Itt K a) [it] it (fun i h => h.IsTupleIter it a i) where
  mem := by simp
  obj := fun i h st b hb => by
    have e : b = it := by simpa using hb
    subst e
    obtain ⟨o, e, c, d⟩ := st
    exact ⟨o, e, fun v z => by rw [d] at z; cases z⟩
  keep := fun i h h' st k => st.at fun o e => k it (by simp) o e
  item := by
    intro X hP hw hK hc i pins s σ H E I hf st hg
    subst hP hw hK
    obtain ⟨xs, x, hq, hx⟩ := hg
    obtain ⟨its, rv, p, hz⟩ := I.tuple hq
    obtain ⟨u, hu, ru⟩ := rv.get hx
    obtain ⟨f0, f1, f2, f3, f4, f5⟩ := hf it (by simp)
    refine wpAny_pyNext_tuple_item st (show s.heap.IsTuple a its.toArray from p) (x := u) (by simpa using hu) fun h' st' sb => ?_
    have I1 : Inv X pins σ H { s with heap := h' } := I.turned (t' := s.toks) (fun b o hb e => (sb.2 b hb).trans e) f0 f1 f3 f4 f5
    obtain ⟨o, e, c, d⟩ := id st'
    exact ⟨u, rfl, go_of (s := { s with heap := h' }) e c d (by decide) ⟨x, H, I1, ru, ⟨rfl, fun ys hy => by rw [I.tuple_inj hy hq]; exact hx⟩, st', fun b hb => (hf b hb).1⟩⟩
  done := by
    intro X hP hw hK hc i pins s σ H E I hf st hg
    subst hP hw hK
    obtain ⟨xs, hq, hx⟩ := hg
    obtain ⟨its, rv, p, hz⟩ := I.tuple hq
    obtain ⟨f0, f1, f2, f3, f4, f5⟩ := hf it (by simp)
    have hl := rv.length
    exact wpAny_pyNext_tuple_end (I.ok.hd hc) st (show s.heap.IsTuple a its.toArray from p) (by simp; omega) fun h' eb => ⟨rfl, I.turned (t' := s.toks) (fun b o hb e => eb b o hb e) f0 f1 f3 f4 f5⟩
  self := fun _ _ _ _ _ st h => wpAny_pyIter_tupleiter st h
theorem turn_range {P : Program} {w : World} {K : PySem.W.Frag} {tg : Expr} (it : Addr) (lo : Int) (n : Nat) : Turn P w K tg (Itr lo n) [it] it (fun i h => IsRangeIter h it (lo + (i : Nat) * 1) ((n : Int) - (i : Nat)) 1) where
  mem := by simp
  obj := fun i h st b hb => by
    have e : b = it := by simpa using hb
    subst e
    exact ⟨_, st, fun v z => by
      have z' : Data.fields _ = Data.cell v := z
      cases z'⟩
  keep := fun i h h' st k => k it (by simp) _ st
  item := by
    intro X hP hw hK hc i pins s σ H E I hf st hg
    subst hP hw hK
    obtain ⟨f0, f1, f2, f3, f4, f5⟩ := hf it (by simp)
    have W := Walks.range (prog := X.prog) (w := X.w) (I.ok.hd hc) it lo 1 n
    refine W.item i s _ _ hg st fun v h' tk hv st' kk => ?_
    obtain ⟨t, rfl⟩ := hv
    have I1 : Inv X pins σ H { s with heap := h', toks := tk } := I.turned (fun b o hb e => kk b o (by simpa using hb) e) f0 f1 f3 f4 f5
    refine ⟨_, rfl, go_of (s := { s with heap := h', toks := tk }) (n := "range_iterator") st' rfl rfl (by decide) ⟨.int (lo + i), H, I1, ⟨t, ?_⟩, ⟨rfl, rfl⟩, st', fun b hb => (hf b hb).1⟩⟩
    rw [Int.mul_one]
  done := by
    intro X hP hw hK hc i pins s σ H E I hf st hg
    subst hP hw hK
    obtain ⟨f0, f1, f2, f3, f4, f5⟩ := hf it (by simp)
    exact wpAny_pyNext_range_end (I.ok.hd hc) st (by have : n ≤ i := hg; omega) fun h' eb => ⟨rfl, I.turned (t' := s.toks) (fun b o hb e => eb b o hb e) f0 f1 f3 f4 f5⟩
  self := fun _ _ _ _ _ st h => wpAny_pyIter_rangeiter st h
end L2
namespace L2
open PySem PySem.Spec PyProof.Rows
section
variable {X : Cx} {tg : Expr}
def iList (K : PySem.W.Frag) (tl : TE) : TI := fun σ H R => tl σ H fun x H1 => ∃ a, x = .ref a ∧ (∃ xs, SqL K H1 a xs) ∧ R (Itl K a) H1
def iTup (K : PySem.W.Frag) (tl : TE) : TI := fun σ H R => tl σ H fun x H1 => ∃ a, x = .ref a ∧ (∃ xs, SqT K H1 a xs) ∧ R (Itt K a) H1
theorem pi_list {l : Expr} {tl : TE} (hl : PE X l tl) : PI X tg l (iList X.K tl) := by
  intro pins s σ H R I h
  refine thn (hl pins s σ H _ I h) fun v s1 ⟨x, H1, I1, r1, q1⟩ => ?_
  obtain ⟨a, e, ⟨xs, hq⟩, q⟩ := q1
  subst e
  cases r1
  obtain ⟨its, rv, p, hz⟩ := I1.list hq
  refine wpAny_pyIter_list p.isList ?_
  refine ⟨s1.heap.objs.size, [s1.heap.objs.size], _, _, H1, rfl, I1.kept (t' := s1.toks) fun b o e => Heap.get?_push_of_some _ e, turn_list a _, ⟨_, Heap.get?_push_size _ rfl, rfl, rfl⟩, fun b hb => ?_, q⟩
  have e : b = s1.heap.objs.size := by simpa using hb
  subst e
  exact I1.fpOk (Nat.le_refl _) (I1.hok.fresh (Nat.le_refl _))
theorem pi_tup {l : Expr} {tl : TE} (hl : PE X l tl) : PI X tg l (iTup X.K tl) := by
  intro pins s σ H R I h
  refine thn (hl pins s σ H _ I h) fun v s1 ⟨x, H1, I1, r1, q1⟩ => ?_
  obtain ⟨a, e, ⟨xs, hq⟩, q⟩ := q1
  subst e
  cases r1
  obtain ⟨its, rv, p, hz⟩ := I1.tuple hq
  refine wpAny_pyIter_tuple (show s1.heap.IsTuple a its.toArray from p) ?_
  refine ⟨s1.heap.objs.size, [s1.heap.objs.size], _, _, H1, rfl, I1.kept (t' := s1.toks) fun b o e => Heap.get?_push_of_some _ e, turn_tuple a _, ⟨_, Heap.get?_push_size _ rfl, rfl, rfl⟩, fun b hb => ?_, q⟩
  have e : b = s1.heap.objs.size := by simpa using hb
  subst e
  exact I1.fpOk (Nat.le_refl _) (I1.hok.fresh (Nat.le_refl _))
theorem range_it {pins : List (Addr × Obj)} {σ : St} {H : Hp} {s : Shared} {R : It → Hp → Prop} {E : Value → Shared → Prop} {lo hi : Int} {t u v : Tok} {tk : Nat} (I : Inv X pins σ H s) (h1 : -(2 ^ 62) ≤ lo) (h2 : lo < 2 ^ 62) (h3 : -(2 ^ 62) ≤ hi) (h4 : hi < 2 ^ 62)
    (q : R (Itr lo (hi - lo).toNat) H) : wpAny (model X.prog X.w) X.A (pyIter (.ref s.heap.objs.size)) (PIE X pins σ tg R) E { s with heap := s.heap.push { cls := .type "range", data := .fields #[.int lo t, .int hi u, .int 1 v] }, toks := tk } := by
  refine wpAny_pyIter_range (IsRange.new ..) (small_one h1 h2 h3 h4) ?_
  have I1 : Inv X pins σ H { s with heap := s.heap.push { cls := .type "range", data := .fields #[.int lo t, .int hi u, .int 1 v] }, toks := tk } := I.kept fun b o e => Heap.get?_push_of_some _ e
  refine ⟨(s.heap.push { cls := .type "range", data := .fields #[.int lo t, .int hi u, .int 1 v] }).objs.size, [(s.heap.push { cls := .type "range", data := .fields #[.int lo t, .int hi u, .int 1 v] }).objs.size], _, _, H, rfl,
    I1.kept (t' := tk) fun b o e => Heap.get?_push_of_some _ e, turn_range _ lo (hi - lo).toNat, ?_, fun b hb => ?_, q⟩
  · have e1 : lo + ((0 : Nat) : Int) * 1 = lo := by simp
    have e2 : (((hi - lo).toNat : Nat) : Int) - ((0 : Nat) : Int) = Builtin.Range.rangeSize lo hi 1 := by rw [rangeSize_one]; split <;> omega
    show IsRangeIter _ _ (lo + ((0 : Nat) : Int) * 1) ((((hi - lo).toNat : Nat) : Int) - ((0 : Nat) : Int)) 1
    rw [e1, e2]
    exact Heap.get?_push_size _ rfl
  · have e : b = (s.heap.push { cls := .type "range", data := .fields #[.int lo t, .int hi u, .int 1 v] }).objs.size := by simpa using hb
    subst e
    exact I1.fpOk (Nat.le_refl _) (I1.hok.fresh (Nat.le_refl _))
def iRng1 (ta : TA) : TI := fun σ H R => ta σ H fun vs H1 => ∃ j : Int, vs = [.int j] ∧ -(2 ^ 62) ≤ j ∧ j < 2 ^ 62 ∧ R (Itr 0 j.toNat) H1
theorem pi_range1 {a : Expr} {ta : TA} {p pos : Pos} (hg : Gl X "range") (hm : X.mg "range" = none) (ha : PA X [a] ta) (hs : starEach [a] X.env = [(false, eval a X.env)] := by rfl) : PI X tg (.Call (.Name "range" p) [a] [] pos) (iRng1 ta) := by
  intro pins s σ H R I h
  refine Call_ (ld_blt I hg hm boot_range (PyProof.Rows.callWith_type1 (thn (ha pos pins s σ H _ I h) fun us s1 ⟨vs, H1, I1, r1, q1⟩ => ?_) hs rfl))
  obtain ⟨j, e, q1, q2, q⟩ := q1
  subst e
  cases r1 with
  | cons r rr =>
    cases rr
    obtain ⟨t, rfl⟩ := r
    exact call_range_1 (range_it I1 (by omega) (by omega) q1 q2 (by simpa using q))
def tFor (wi : TI) (g : TG) (tb : TS) : TS := fun D σ H => wi σ H fun J H1 => ∃ W : Nat → Nat → St → Hp → Prop, (∃ m, W 0 m σ H1) ∧ ∀ i m σ H, W i m σ H →
  (J.stop i H ∧ D.nx σ H) ∨ (J.go i H ∧ ∃ N : St → Hp → Prop, (∀ σ' H', N σ' H' → ∃ m', m' < m ∧ W (i + 1) m' σ' H') ∧ ∀ x H', J.yld i H x H' → g x σ H' fun σ2 H2 => tb { D with nx := N, ct := N, bk := D.nx } σ2 H2)
def pinsAt (fp : List Addr) (h : Heap) : List (Addr × Obj) := fp.filterMap fun b => (h.get? b).map fun o => (b, o)
theorem mem_pinsAt {fp : List Addr} {h : Heap} {b : Addr} {o : Obj} (hb : b ∈ fp) (e : h.get? b = some o) : (b, o) ∈ pinsAt fp h := List.mem_filterMap.mpr ⟨b, hb, by rw [e]; rfl⟩
theorem of_pinsAt {fp : List Addr} {h : Heap} {p : Addr × Obj} (hp : p ∈ pinsAt fp h) : p.1 ∈ fp ∧ h.get? p.1 = some p.2 := by
  obtain ⟨b, hb, e⟩ := List.mem_filterMap.mp hp
  cases q : h.get? b with
  | none => rw [q] at e; cases e
  | some o =>
    rw [q] at e
    have e' : (b, o) = p := Option.some.inj e
    subst e'
    exact ⟨hb, q⟩
theorem Inv.pinned {pins : List (Addr × Obj)} {σ : St} {H : Hp} {s : Shared} {fp : List Addr} (I : Inv X pins σ H s) (hf : ∀ b ∈ fp, FpOk X pins H b) (ho : ∀ b ∈ fp, ∃ o, s.heap.get? b = some o ∧ ∀ v, o.data ≠ .cell v) : Inv X (pins ++ pinsAt fp s.heap) σ H s :=
  I.pins_of fun p hp => (List.mem_append.mp hp).elim (fun z => I.pin p (List.mem_append_right _ z)) fun z => by
    obtain ⟨hb, e⟩ := of_pinsAt z
    obtain ⟨f0, f1, f2, _⟩ := hf p.1 hb
    obtain ⟨o, e', d⟩ := ho p.1 hb
    rw [e] at e'; cases e'
    exact ⟨e, f0, f1, f2, d⟩
theorem Inv.unpinned {pins pl : List (Addr × Obj)} {σ : St} {H : Hp} {s : Shared} (I : Inv X (pins ++ pl) σ H s) : Inv X pins σ H s := I.pins_of fun p hp => I.pin p (List.mem_append_right _ (List.mem_append_left _ hp))
theorem ps_for {iter : Expr} {body : List Stmt} {wi : TI} {g : TG} {tb : TS} {pos : Pos} (hp : PassesOwn (model X.prog X.w) X.A X.env X.xe) (hc : X.calm = true) (hi : PI X tg iter wi) (hg : PG X tg g) (hb : PSs X body tb)
    (hs : ∀ x, foldedSetIterable iter X.env x = pure x := by intro _; rfl) : PS X (.For tg iter body [] pos) (tFor wi g tb) := by
  intro pins s σ H D I h
  refine wpAny_For (thn (hi pins s σ H _ I h) fun v s1 h1 => thn h1 fun itv s2 h2 => ?_) hs
  obtain ⟨it, fp, tn, J, H2, e, I2, T, st2, f2, W, ⟨m0, w0⟩, turn⟩ := h2
  subst e
  have stat : ∀ {H' : Hp}, (∀ b ∈ fp, H' b = none) → ∀ b ∈ fp, FpOk X pins H' b := fun hn b hb => ⟨hn b hb, (f2 b hb).2⟩
  refine codeAny_forLoop_any (fun n s' => ∃ i σ' H', Inv X pins σ' H' s' ∧ tn i s'.heap ∧ (∀ b ∈ fp, H' b = none) ∧ W i n σ' H') ?_ m0 ⟨0, σ, H2, I2, st2, fun b hb => (f2 b hb).1, w0⟩
  rintro n s3 ⟨i, σ3, H3, I3, st3, fr3, w3⟩
  rcases turn i n σ3 H3 w3 with ⟨stop, qn⟩ | ⟨go, N, hN, step⟩
  · refine wpAny_passesOwn hp (thn (T.done X rfl rfl rfl hc i pins s3 σ3 H3 X.xe I3 (stat fr3) st3 stop) fun r s4 ⟨hr, I4⟩ => ?_)
    subst hr
    exact wpAny_execs_nil ⟨σ3, H3, I4, qn⟩
  · refine wpAny_passesOwn hp (thn (T.item X rfl rfl rfl hc i pins s3 σ3 H3 X.xe I3 (stat fr3) st3 go) fun r s4 ⟨u, hr, h4⟩ => ?_)
    subst hr
    refine wpAny_passesOwn hp (thn h4 fun _ s5 ⟨x, H5, I5, r5, y5, st5, fr5⟩ => ?_)
    have I5' := I5.pinned (stat fr5) (T.obj _ _ st5)
    refine wpAny_passesOwn hp (thn (hg _ s5 σ3 H5 x u _ I5' r5 (step x H5 y5)) fun _ s6 ⟨σ6, H6, I6, q6⟩ => ?_)
    refine wpAny_passesOwn hp (thn (hb _ s6 σ6 H6 _ I6 q6) fun f s7 q7 => ?_)
    have again : ∀ {σ7 : St} {H7 : Hp}, Inv X (pins ++ pinsAt fp s5.heap) σ7 H7 s7 → N σ7 H7 → ∃ m, m < n ∧ ∃ i σ' H', Inv X pins σ' H' s7 ∧ tn i s7.heap ∧ (∀ b ∈ fp, H' b = none) ∧ W i m σ' H' := fun {σ7 H7} I7 n7 => by
      obtain ⟨m', hm, w7⟩ := hN σ7 H7 n7
      refine ⟨m', hm, i + 1, σ7, H7, I7.unpinned, T.keep _ _ _ st5 fun b hb o e => (I7.pin (b, o) (List.mem_append_right _ (List.mem_append_right _ (mem_pinsAt hb e)))).1, fun b hb => ?_, w7⟩
      obtain ⟨o, e, d⟩ := T.obj _ _ st5 b hb
      exact (I7.pin (b, o) (List.mem_append_right _ (List.mem_append_right _ (mem_pinsAt hb e)))).2.1
    cases f with
    | next => obtain ⟨σ7, H7, I7, n7⟩ := q7; exact again I7 n7
    | cont => obtain ⟨σ7, H7, I7, n7⟩ := q7; exact again I7 n7
    | brk => obtain ⟨σ7, H7, I7, q7⟩ := q7; exact ⟨σ7, H7, I7.unpinned, q7⟩
    | ret v => obtain ⟨x7, σ7, H7, I7, r7, q7⟩ := q7; exact ⟨x7, σ7, H7, I7.unpinned, r7, q7⟩
end
theorem for_list {K : PySem.W.Frag} {a : Addr} {xs : List V} {g : TG} {tb : TS} {D : Ends} {σ : St} {H : Hp} (Pv : Nat → St → Hp → Prop) (h0 : Pv 0 σ H) (hl : ∀ i σ H, i ≤ xs.length → Pv i σ H → SqL K H a xs)
    (hs : ∀ i x σ H, xs[i]? = some x → Pv i σ H → g x σ H fun σ2 H2 => tb { D with nx := Pv (i + 1), ct := Pv (i + 1), bk := D.nx } σ2 H2) (hd : ∀ σ H, Pv xs.length σ H → D.nx σ H) :
    ∃ W : Nat → Nat → St → Hp → Prop, (∃ m, W 0 m σ H) ∧ ∀ i m σ H, W i m σ H →
      ((Itl K a).stop i H ∧ D.nx σ H) ∨ ((Itl K a).go i H ∧ ∃ N : St → Hp → Prop, (∀ σ' H', N σ' H' → ∃ m', m' < m ∧ W (i + 1) m' σ' H') ∧ ∀ x H', (Itl K a).yld i H x H' → g x σ H' fun σ2 H2 => tb { D with nx := N, ct := N, bk := D.nx } σ2 H2) := by
  refine ⟨fun i m σ H => m = xs.length - i ∧ i ≤ xs.length ∧ Pv i σ H, ⟨xs.length, by simp, Nat.zero_le _, h0⟩, ?_⟩
  rintro i m σ H ⟨rfl, hi, p⟩
  have q := hl i σ H hi p
  by_cases hlt : i < xs.length
  · refine .inr ⟨⟨xs, xs[i], q, by simp [hlt]⟩, Pv (i + 1), fun σ' H' p' => ⟨xs.length - (i + 1), by omega, rfl, hlt, p'⟩, fun x H' y => ?_⟩
    obtain ⟨e, y⟩ := y
    subst e
    exact hs i x σ _ (y xs q) p
  · have e : i = xs.length := by omega
    subst e
    exact .inl ⟨⟨xs, q, Nat.le_refl _⟩, hd σ H p⟩
theorem for_tup {K : PySem.W.Frag} {a : Addr} {xs : List V} {g : TG} {tb : TS} {D : Ends} {σ : St} {H : Hp} (Pv : Nat → St → Hp → Prop) (h0 : Pv 0 σ H) (hl : ∀ i σ H, i ≤ xs.length → Pv i σ H → SqT K H a xs)
    (hs : ∀ i x σ H, xs[i]? = some x → Pv i σ H → g x σ H fun σ2 H2 => tb { D with nx := Pv (i + 1), ct := Pv (i + 1), bk := D.nx } σ2 H2) (hd : ∀ σ H, Pv xs.length σ H → D.nx σ H) :
    ∃ W : Nat → Nat → St → Hp → Prop, (∃ m, W 0 m σ H) ∧ ∀ i m σ H, W i m σ H →
      ((Itt K a).stop i H ∧ D.nx σ H) ∨ ((Itt K a).go i H ∧ ∃ N : St → Hp → Prop, (∀ σ' H', N σ' H' → ∃ m', m' < m ∧ W (i + 1) m' σ' H') ∧ ∀ x H', (Itt K a).yld i H x H' → g x σ H' fun σ2 H2 => tb { D with nx := N, ct := N, bk := D.nx } σ2 H2) := by
  refine ⟨fun i m σ H => m = xs.length - i ∧ i ≤ xs.length ∧ Pv i σ H, ⟨xs.length, by simp, Nat.zero_le _, h0⟩, ?_⟩
  rintro i m σ H ⟨rfl, hi, p⟩
  have q := hl i σ H hi p
  by_cases hlt : i < xs.length
  · refine .inr ⟨⟨xs, xs[i], q, by simp [hlt]⟩, Pv (i + 1), fun σ' H' p' => ⟨xs.length - (i + 1), by omega, rfl, hlt, p'⟩, fun x H' y => ?_⟩
    obtain ⟨e, y⟩ := y
    subst e
    exact hs i x σ _ (y xs q) p
  · have e : i = xs.length := by omega
    subst e
    exact .inl ⟨⟨xs, q, Nat.le_refl _⟩, hd σ H p⟩
theorem for_range {lo : Int} {n : Nat} {g : TG} {tb : TS} {D : Ends} {σ : St} {H : Hp} (Pv : Nat → St → Hp → Prop) (h0 : Pv 0 σ H)
    (hs : ∀ i σ H, i < n → Pv i σ H → g (.int (lo + i)) σ H fun σ2 H2 => tb { D with nx := Pv (i + 1), ct := Pv (i + 1), bk := D.nx } σ2 H2) (hd : ∀ σ H, Pv n σ H → D.nx σ H) :
    ∃ W : Nat → Nat → St → Hp → Prop, (∃ m, W 0 m σ H) ∧ ∀ i m σ H, W i m σ H →
      ((Itr lo n).stop i H ∧ D.nx σ H) ∨ ((Itr lo n).go i H ∧ ∃ N : St → Hp → Prop, (∀ σ' H', N σ' H' → ∃ m', m' < m ∧ W (i + 1) m' σ' H') ∧ ∀ x H', (Itr lo n).yld i H x H' → g x σ H' fun σ2 H2 => tb { D with nx := N, ct := N, bk := D.nx } σ2 H2) := by
  refine ⟨fun i m σ H => m = n - i ∧ i ≤ n ∧ Pv i σ H, ⟨n, by simp, Nat.zero_le _, h0⟩, ?_⟩
  rintro i m σ H ⟨rfl, hi, p⟩
  by_cases hlt : i < n
  · refine .inr ⟨hlt, Pv (i + 1), fun σ' H' p' => ⟨n - (i + 1), by omega, rfl, hlt, p'⟩, fun x H' y => ?_⟩
    obtain ⟨e, y⟩ := y
    subst e y
    exact hs i σ _ hlt p
  · have e : i = n := by omega
    subst e
    exact .inl ⟨Nat.le_refl _, hd σ H p⟩
end L2
namespace L2
open PySem PySem.Spec PyProof.Rows
abbrev R2 := V → V → Hp → VK → Prop
def OpR (X : Cx) (f : Value → Value → Sem Value) (r : R2) : Prop :=
  ∀ (pins : List (Addr × Obj)) (s : Shared) (σ : St) (H : Hp) (x y : V) (v u : Value) (Q : VK), Inv X pins σ H s → RelV x v → RelV y u → r x y H Q →
    wpAny (model X.prog X.w) X.A (f v u) (EP X pins σ Q) X.xe s
def UnR (X : Cx) (f : Value → Sem Value) (r : V → Hp → VK → Prop) : Prop :=
  ∀ (pins : List (Addr × Obj)) (s : Shared) (σ : St) (H : Hp) (x : V) (v : Value) (Q : VK), Inv X pins σ H s → RelV x v → r x H Q →
    wpAny (model X.prog X.w) X.A (f v) (EP X pins σ Q) X.xe s
def CallR (X : Cx) (f : Value) (r : List V → Hp → VK → Prop) : Prop :=
  ∀ (pins : List (Addr × Obj)) (s : Shared) (σ : St) (H : Hp) (xs : List V) (us : List Value) (Q : VK), Inv X pins σ H s → Vals xs us → r xs H Q →
    wpAny (model X.prog X.w) X.A (call f us) (EP X pins σ Q) X.xe s
def tOp (r : R2) (ta tb : TE) : TE := fun σ H Q => ta σ H fun x H1 => tb σ H1 fun y H2 => r x y H2 Q
def tUn (r : V → Hp → VK → Prop) (ta : TE) : TE := fun σ H Q => ta σ H fun x H1 => r x H1 Q
def rI (C : Int → Int → Prop) (g : Int → Int → V) : R2 := fun x y H Q => ∃ i j, x = .int i ∧ y = .int j ∧ C i j ∧ Q (g i j) H
def rI0 (g : Int → Int → V) : R2 := fun x y H Q => ∃ i j, x = .int i ∧ y = .int j ∧ Q (g i j) H
def rU (g : Int → V) : V → Hp → VK → Prop := fun x H Q => ∃ i, x = .int i ∧ Q (g i) H
section
variable {X : Cx} {a b c : Expr} {ta tb tc : TE} {pos : Pos}
theorem binT (ha : PE X a ta) (hb : PE X b tb) {pins : List (Addr × Obj)} {s : Shared} {σ : St} {H : Hp} {R : V → V → Hp → Prop} (I : Inv X pins σ H s)
    (h : ta σ H fun x H1 => tb σ H1 fun y H2 => R x y H2) {Q : Value → Shared → Prop} {f : Value → Value → Sem Value}
    (hf : ∀ v u s2 x y H2, Inv X pins σ H2 s2 → RelV x v → RelV y u → R x y H2 → wpAny (model X.prog X.w) X.A (f v u) Q X.xe s2) :
    wpAny (model X.prog X.w) X.A (eval a X.env) (fun v s₁ => wpAny (model X.prog X.w) X.A (eval b X.env) (fun u s₂ => wpAny (model X.prog X.w) X.A (f v u) Q X.xe s₂) X.xe s₁) X.xe s := by
  refine thn (ha pins s σ H _ I h) fun v s1 ⟨x, H1, I1, r1, q1⟩ => ?_
  refine thn (hb pins s1 σ H1 _ I1 q1) fun u s2 ⟨y, H2, I2, r2, q2⟩ => ?_
  exact hf v u s2 x y H2 I2 r1 r2 q2
theorem pe_op {op : Operator} {r : R2} (ho : OpR X (binaryOp op) r) (ha : PE X a ta) (hb : PE X b tb) : PE X (.BinOp a op b pos) (tOp r ta tb) := by
  intro pins s σ H Q I h
  exact wpAny_BinOp (binT ha hb I h fun v u s2 x y H2 I2 rx ry q => ho pins s2 σ H2 x y v u Q I2 rx ry q)
theorem pe_un {op : UnaryOp} {r : V → Hp → VK → Prop} (ho : UnR X (unaryOp op) r) (ha : PE X a ta) : PE X (.UnaryOp op a pos) (tUn r ta) := by
  intro pins s σ H Q I h
  exact UnaryOp_ (thn (ha pins s σ H _ I h) fun v s1 ⟨x, H1, I1, r1, q1⟩ => ho pins s1 σ H1 x v Q I1 r1 q1)
theorem opI {f : Value → Value → Sem Value} {C : Int → Int → Prop} {g : Int → Int → Int}
    (rule : ∀ (i j : Int) (t u : Tok) (s : Shared) (Q : Value → Shared → Prop) (E : Value → Shared → Prop), C i j → Q (.int (g i j) s.toks) { s with toks := s.toks + 1 } → wpAny (model X.prog X.w) X.A (f (.int i t) (.int j u)) Q E s) :
    OpR X f (rI C fun i j => .int (g i j)) := by
  intro pins s σ H x y v u Q I rx ry h
  obtain ⟨i, j, rfl, rfl, hc, q⟩ := h
  obtain ⟨t, rfl⟩ := rx
  obtain ⟨t', rfl⟩ := ry
  exact rule i j t t' s _ _ hc ⟨.int (g i j), H, I.tok _, ⟨_, rfl⟩, q⟩
theorem opI0 {f : Value → Value → Sem Value} {g : Int → Int → Int}
    (rule : ∀ (i j : Int) (t u : Tok) (s : Shared) (Q : Value → Shared → Prop) (E : Value → Shared → Prop), Q (.int (g i j) s.toks) { s with toks := s.toks + 1 } → wpAny (model X.prog X.w) X.A (f (.int i t) (.int j u)) Q E s) :
    OpR X f (rI0 fun i j => .int (g i j)) := by
  intro pins s σ H x y v u Q I rx ry h
  obtain ⟨i, j, rfl, rfl, q⟩ := h
  obtain ⟨t, rfl⟩ := rx
  obtain ⟨t', rfl⟩ := ry
  exact rule i j t t' s _ _ ⟨.int (g i j), H, I.tok _, ⟨_, rfl⟩, q⟩
theorem opB0 {f : Value → Value → Sem Value} {g : Int → Int → Bool}
    (rule : ∀ (i j : Int) (t u : Tok) (s : Shared) (Q : Value → Shared → Prop) (E : Value → Shared → Prop), Q (.bool (g i j)) s → wpAny (model X.prog X.w) X.A (f (.int i t) (.int j u)) Q E s) :
    OpR X f (rI0 fun i j => .bl (g i j)) := by
  intro pins s σ H x y v u Q I rx ry h
  obtain ⟨i, j, rfl, rfl, q⟩ := h
  obtain ⟨t, rfl⟩ := rx
  obtain ⟨t', rfl⟩ := ry
  exact rule i j t t' s _ _ ⟨.bl (g i j), H, I, rfl, q⟩
def CDiv (i j : Int) : Prop := 0 < j ∧ j < 1073741824
def CMul (i j : Int) : Prop := (-(2 ^ 64) < i ∧ i < 2 ^ 64) ∨ (-(2 ^ 64) < j ∧ j < 2 ^ 64)
theorem CMul.ok {i j : Int} (h : CMul i j) : IntMulOk i j := by
  rcases h with ⟨h1, h2⟩ | ⟨h1, h2⟩
  · exact .of_left (intBits_le_64 h1 h2)
  · exact .of_right (intBits_le_64 h1 h2)
theorem op_add : OpR X (binaryOp .Add) (rI0 fun i j => .int (i + j)) := opI0 fun _ _ _ _ _ _ _ q => add_int q
theorem op_sub : OpR X (binaryOp .Sub) (rI0 fun i j => .int (i - j)) := opI0 fun _ _ _ _ _ _ _ q => sub_int q
theorem op_mul : OpR X (binaryOp .Mult) (rI CMul fun i j => .int (i * j)) := opI fun _ _ _ _ _ _ _ hc q => mul_int q hc.ok
theorem op_fdiv : OpR X (binaryOp .FloorDiv) (rI CDiv fun i j => .int (i / j)) := opI fun i j _ _ _ _ _ hc q => by
  have h1 : (0 : Int) < j := hc.1
  have h2 : j < 1073741824 := hc.2
  exact floordiv_int (by omega) (by rw [Int.fdiv_eq_ediv_of_nonneg i (by omega)]; exact q) (.inl (PyProof.noPylong_small (by omega)))
theorem op_mod : OpR X (binaryOp .Mod) (rI (fun _ j => 0 < j) fun i j => .int (i % j)) := opI fun i j _ _ _ _ _ hc q => by
  have h1 : (0 : Int) < j := hc
  exact mod_int' (by omega) (by rw [Int.fmod_eq_emod_of_nonneg i (by omega)]; exact q)
theorem unI {f : Value → Sem Value} {g : Int → Int}
    (rule : ∀ (i : Int) (t : Tok) (s : Shared) (Q : Value → Shared → Prop) (E : Value → Shared → Prop), Q (.int (g i) s.toks) { s with toks := s.toks + 1 } → wpAny (model X.prog X.w) X.A (f (.int i t)) Q E s) :
    UnR X f (rU fun i => .int (g i)) := by
  intro pins s σ H x v Q I rx h
  obtain ⟨i, rfl, q⟩ := h
  obtain ⟨t, rfl⟩ := rx
  exact rule i t s _ _ ⟨.int (g i), H, I.tok _, ⟨_, rfl⟩, q⟩
theorem un_neg : UnR X (unaryOp .USub) (rU fun i => .int (-i)) := unI fun _ _ _ _ _ q => neg_int q
end
def scal : V → V → Bool
  | .non, .non => true | .non, .int _ => true | .int _, .non => true | .non, .bl _ => true | .bl _, .non => true | .non, .str _ => true | .str _, .non => true
  | .int _, .int _ => true | .bl _, .bl _ => true | .str _, .str _ => true | .byt _, .byt _ => true
  | .int _, .str _ => true | .str _, .int _ => true | .bl _, .str _ => true | .str _, .bl _ => true
  | _, _ => false
def rEq : R2 := fun x y H Q => scal x y = true ∧ Q (.bl (decide (x = y))) H
def rNe : R2 := fun x y H Q => scal x y = true ∧ Q (.bl (!decide (x = y))) H
theorem dec_int {i j : Int} : decide (V.int i = V.int j) = (i == j) := by
  rw [Bool.eq_iff_iff]
  simp
theorem dec_bl {i j : Bool} : decide (V.bl i = V.bl j) = (i == j) := by
  rw [Bool.eq_iff_iff]
  simp
theorem dec_str {i j : Str} : decide (V.str i = V.str j) = (i == j) := by
  rw [Bool.eq_iff_iff]
  simp
theorem dec_byt {i j : Array UInt8} : decide (V.byt i = V.byt j) = (i.toList == j.toList) := by
  rw [Bool.eq_iff_iff]
  cases i
  cases j
  simp
section
variable {X : Cx} {a b c : Expr} {ta tb tc : TE} {pos : Pos}
theorem fin_bl {pins : List (Addr × Obj)} {σ : St} {H : Hp} {s : Shared} {Q : VK} {k k' : Bool} (I : Inv X pins σ H s) (q : Q (.bl k) H) (e : k = k') : EP X pins σ Q (.bool k') s := by
  subst e
  exact ⟨.bl k, H, I, rfl, q⟩
theorem op_eq : OpR X (compareOp .Eq) rEq := by
  intro pins s σ H x y v u Q I rx ry h
  obtain ⟨hs, q⟩ := h
  cases x with
  | non =>
    cases rx
    cases y with
    | non => cases ry; exact PySem.EqNone.eq_none_none (fin_bl I q (by simp))
    | bl j => cases ry; exact PySem.EqNone.eq_none_bool (fin_bl I q (by simp))
    | int j => obtain ⟨t', rfl⟩ := ry; exact PySem.EqNone.eq_none_int (fin_bl I q (by simp))
    | str j => obtain ⟨t', rfl⟩ := ry; exact PySem.EqNone.eq_none_str (fin_bl I q (by simp))
    | _ => exact absurd (show false = true from hs) Bool.false_ne_true
  | bl i =>
    cases rx
    cases y with
    | non => cases ry; exact PySem.EqNone.eq_bool_none (fin_bl I q (by simp))
    | bl j => cases ry; exact eq_bool (fin_bl I q dec_bl)
    | str j => obtain ⟨t', rfl⟩ := ry; exact PySem.EqMixed.eq_bool_str (fin_bl I q (by simp))
    | _ => exact absurd (show false = true from hs) Bool.false_ne_true
  | int i =>
    obtain ⟨t, rfl⟩ := rx
    cases y with
    | non => cases ry; exact PySem.EqNone.eq_int_none (fin_bl I q (by simp))
    | int j => obtain ⟨t', rfl⟩ := ry; exact eq_int (fin_bl I q dec_int)
    | str j => obtain ⟨t', rfl⟩ := ry; exact PySem.EqMixed.eq_int_str (fin_bl I q (by simp))
    | _ => exact absurd (show false = true from hs) Bool.false_ne_true
  | str i =>
    obtain ⟨t, rfl⟩ := rx
    cases y with
    | non => cases ry; exact PySem.EqNone.eq_str_none (fin_bl I q (by simp))
    | bl j => cases ry; exact PySem.EqMixed.eq_str_bool (fin_bl I q (by simp))
    | int j => obtain ⟨t', rfl⟩ := ry; exact PySem.EqMixed.eq_str_int (fin_bl I q (by simp))
    | str j => obtain ⟨t', rfl⟩ := ry; exact eq_str (fin_bl I q dec_str)
    | _ => exact absurd (show false = true from hs) Bool.false_ne_true
  | byt i =>
    obtain ⟨t, rfl⟩ := rx
    cases y with
    | byt j => obtain ⟨t', rfl⟩ := ry; exact PySem.W.eq_bytes (fin_bl I q dec_byt)
    | _ => exact absurd (show false = true from hs) Bool.false_ne_true
  | _ => cases y <;> exact absurd (show false = true from hs) Bool.false_ne_true
theorem op_ne : OpR X (compareOp .NotEq) rNe := by
  intro pins s σ H x y v u Q I rx ry h
  obtain ⟨hs, q⟩ := h
  cases x with
  | non =>
    cases rx
    cases y with
    | non => cases ry; exact PySem.EqNone.ne_none_none (fin_bl I q (by simp))
    | bl j => cases ry; exact PySem.EqNone.ne_none_bool (fin_bl I q (by simp))
    | int j => obtain ⟨t', rfl⟩ := ry; exact PySem.EqNone.ne_none_int (fin_bl I q (by simp))
    | str j => obtain ⟨t', rfl⟩ := ry; exact PySem.EqNone.ne_none_str (fin_bl I q (by simp))
    | _ => exact absurd (show false = true from hs) Bool.false_ne_true
  | bl i =>
    cases rx
    cases y with
    | non => cases ry; exact PySem.EqNone.ne_bool_none (fin_bl I q (by simp))
    | bl j => cases ry; exact ne_bool (fin_bl I q (congrArg not dec_bl))
    | str j => obtain ⟨t', rfl⟩ := ry; exact PySem.EqMixed.ne_bool_str (fin_bl I q (by simp))
    | _ => exact absurd (show false = true from hs) Bool.false_ne_true
  | int i =>
    obtain ⟨t, rfl⟩ := rx
    cases y with
    | non => cases ry; exact PySem.EqNone.ne_int_none (fin_bl I q (by simp))
    | int j => obtain ⟨t', rfl⟩ := ry; exact ne_int (fin_bl I q (congrArg not dec_int))
    | str j => obtain ⟨t', rfl⟩ := ry; exact PySem.EqMixed.ne_int_str (fin_bl I q (by simp))
    | _ => exact absurd (show false = true from hs) Bool.false_ne_true
  | str i =>
    obtain ⟨t, rfl⟩ := rx
    cases y with
    | non => cases ry; exact PySem.EqNone.ne_str_none (fin_bl I q (by simp))
    | bl j => cases ry; exact PySem.EqMixed.ne_str_bool (fin_bl I q (by simp))
    | int j => obtain ⟨t', rfl⟩ := ry; exact PySem.EqMixed.ne_str_int (fin_bl I q (by simp))
    | str j => obtain ⟨t', rfl⟩ := ry; exact ne_str (fin_bl I q (congrArg not dec_str))
    | _ => exact absurd (show false = true from hs) Bool.false_ne_true
  | byt i =>
    obtain ⟨t, rfl⟩ := rx
    cases y with
    | byt j => obtain ⟨t', rfl⟩ := ry; exact PySem.W.ne_bytes (fin_bl I q (congrArg not dec_byt))
    | _ => exact absurd (show false = true from hs) Bool.false_ne_true
  | _ => cases y <;> exact absurd (show false = true from hs) Bool.false_ne_true
theorem op_lt : OpR X (compareOp .Lt) (rI0 fun i j => .bl (decide (i < j))) := opB0 fun _ _ _ _ _ _ _ q => lt_int q
theorem op_gt : OpR X (compareOp .Gt) (rI0 fun i j => .bl (decide (j < i))) := opB0 fun _ _ _ _ _ _ _ q => gt_int q
theorem op_isN : OpR X (compareOp .Is) (fun x y H Q => y = .non ∧ Q (.bl (decide (x = .non))) H) := by
  intro pins s σ H x y v u Q I rx ry h
  obtain ⟨rfl, q⟩ := h
  cases ry
  refine is_none_gen (fin_bl I q ?_)
  cases x <;> first
    | (cases rx; rfl)
    | (obtain ⟨t, rfl⟩ := rx; rfl)
theorem op_notN : OpR X (compareOp .IsNot) (fun x y H Q => y = .non ∧ Q (.bl (!decide (x = .non))) H) := by
  intro pins s σ H x y v u Q I rx ry h
  obtain ⟨rfl, q⟩ := h
  cases ry
  refine isnot_none_gen (fin_bl I q ?_)
  cases x <;> first
    | (cases rx; rfl)
    | (obtain ⟨t, rfl⟩ := rx; rfl)
theorem OpR.or {f : Value → Value → Sem Value} {r r' : R2} (h : OpR X f r) (h' : OpR X f r') : OpR X f (fun x y H Q => r x y H Q ∨ r' x y H Q) := by
  intro pins s σ H x y v u Q I rx ry q
  rcases q with q | q
  · exact h pins s σ H x y v u Q I rx ry q
  · exact h' pins s σ H x y v u Q I rx ry q
theorem pe_cmpR {op : CmpOp} {r : R2} (ho : OpR X (compareOp op) r) (ha : PE X a ta) (hb : PE X b tb) (hm : behindInMarks op b = false) : PE X (.Compare a [op] [b] pos) (tOp r ta tb) := by
  intro pins s σ H Q I h
  exact wpAny_Compare1 (binT ha hb I h fun v u s2 x y H2 I2 rx ry q => ho pins s2 σ H2 x y v u Q I2 rx ry q) hm
def tTest (t : TE) : TT := fun σ H Q => t σ H fun x H' => ∃ k, x = .bl k ∧ Q k H'
theorem pt_cmpR {op : CmpOp} {r : R2} (ho : OpR X (compareOp op) r) (ha : PE X a ta) (hb : PE X b tb) (hm : behindInMarks op b = false) : PT X (.Compare a [op] [b] pos) (tTest (tOp r ta tb)) := by
  intro pins s σ H Q I h
  refine wpAny_isTrue_Compare1 (thn (ha pins s σ H _ I h) fun v s1 ⟨x, H1, I1, r1, q1⟩ => thn (hb pins s1 σ H1 _ I1 q1) fun u s2 ⟨y, H2, I2, r2, q2⟩ =>
    thn (ho pins s2 σ H2 x y v u _ I2 r1 r2 q2) fun c s3 ⟨z, H3, I3, r3, k, e, q3⟩ => ?_) hm
  subst e
  cases r3
  exact wpAny_truthy_bool ⟨H3, I3, q3⟩
theorem line63 : (sizeLine : Nat) < 2 ^ 63 := by rw [sizeLine_eq]; decide
theorem op_add_str : OpR X (binaryOp .Add) (fun x y H Q => ∃ i j, x = .str i ∧ y = .str j ∧ i.length + j.length ≤ sizeLine ∧ Q (.str (i ++ j)) H) := by
  intro pins s σ H x y v u Q I rx ry h
  obtain ⟨i, j, rfl, rfl, hz, q⟩ := h
  obtain ⟨t, rfl⟩ := rx
  obtain ⟨t', rfl⟩ := ry
  exact add_str (fun t' tk => ⟨.str (i ++ j), H, I.tok _, ⟨_, rfl⟩, q⟩) hz
theorem vals1 {x : V} {us : List Value} (r : Vals [x] us) : ∃ u, us = [u] ∧ RelV x u := by
  cases r with
  | cons r1 r2 => cases r2; exact ⟨_, rfl, r1⟩
theorem vals2 {x y : V} {us : List Value} (r : Vals [x, y] us) : ∃ u w', us = [u, w'] ∧ RelV x u ∧ RelV y w' := by
  cases r with
  | cons r1 r2 =>
    cases r2 with
    | cons r3 r4 => cases r4; exact ⟨_, _, rfl, r1, r3⟩
theorem call_min2 (hc : X.calm = true) : CallR X (.builtin "min") (fun xs H Q => ∃ i j, xs = [.int i, .int j] ∧ Q (.int (if j < i then j else i)) H) := by
  intro pins s σ H xs us Q I r h
  obtain ⟨i, j, rfl, q⟩ := h
  obtain ⟨u, w', rfl, ⟨t, rfl⟩, ⟨t', rfl⟩⟩ := vals2 r
  refine min_two_ints (I.ok.hd hc) fun h' tk k => ⟨_, H, I.kept k, ?_, q⟩
  by_cases hj : j < i
  · rw [if_pos hj, if_pos hj]; exact ⟨_, rfl⟩
  · rw [if_neg hj, if_neg hj]; exact ⟨_, rfl⟩
theorem call_int1 : CallR X (.type "int") (fun xs H Q => (∃ i, xs = [.int i] ∧ Q (.int i) H) ∨ ∃ k, xs = [.bl k] ∧ Q (.int (if k then 1 else 0)) H) := by
  intro pins s σ H xs us Q I r h
  rcases h with ⟨i, rfl, q⟩ | ⟨k, rfl, q⟩
  · obtain ⟨u, rfl, t, rfl⟩ := vals1 r
    exact call_int_int ⟨.int i, H, I, ⟨_, rfl⟩, q⟩
  · obtain ⟨u, rfl, r1⟩ := vals1 r
    cases r1
    exact call_int_bool ⟨.int (if k then 1 else 0), H, I.tok _, ⟨_, rfl⟩, q⟩
def LenV (K : PySem.W.Frag) (x : V) (H : Hp) (n : Nat) : Prop :=
  match x with
  | .str y => y.length ≤ sizeLine ∧ n = y.length
  | .byt y => y.size ≤ sizeLine ∧ n = y.size
  | .ref p => (∃ xs, SqL K H p xs ∧ n = xs.length) ∨ ∃ xs, SqT K H p xs ∧ n = xs.length
  | _ => False
theorem call_len : CallR X (.builtin "len") (fun xs H Q => ∃ x n, xs = [x] ∧ LenV X.K x H n ∧ Q (.int n) H) := by
  intro pins s σ H xs us Q I r h
  obtain ⟨x, n, rfl, e, q⟩ := h
  obtain ⟨u, rfl, rx⟩ := vals1 r
  have hl := line63
  have hs : sizeLine = 16777216 := sizeLine_eq
  cases x with
  | str y =>
    obtain ⟨t, rfl⟩ := rx
    obtain ⟨hy, e'⟩ : y.length ≤ sizeLine ∧ n = y.length := e
    subst e'
    exact len_str (by omega) ⟨.int _, H, I.tok _, ⟨_, rfl⟩, q⟩
  | byt y =>
    obtain ⟨t, rfl⟩ := rx
    obtain ⟨hy, e'⟩ : y.size ≤ sizeLine ∧ n = y.size := e
    subst e'
    exact PySem.W.len_bytes (by omega) ⟨.int _, H, I.tok _, ⟨_, rfl⟩, q⟩
  | ref p =>
    cases rx
    have e' : (∃ xs, SqL X.K H p xs ∧ n = xs.length) ∨ ∃ xs, SqT X.K H p xs ∧ n = xs.length := e
    rcases e' with ⟨xs, hx, e'⟩ | ⟨xs, hx, e'⟩
    · subst e'
      obtain ⟨its, r', pl, hz⟩ := I.list hx
      have hlen := r'.length
      exact Calls.call_len_list pl.isList (by simp only [List.size_toArray]; omega) ⟨.int xs.length, H, I.tok _, ⟨_, by simp only [List.size_toArray]; rw [hlen]⟩, q⟩
    · subst e'
      obtain ⟨its, r', pl, hz⟩ := I.tuple hx
      have hlen := r'.length
      exact len_tuple pl (by simp only [List.size_toArray]; omega) ⟨.int xs.length, H, I.tok _, ⟨_, by simp only [List.size_toArray]; rw [hlen]⟩, q⟩
  | _ => exact (show False from e).elim
end
end L2
namespace L2
open PySem PySem.Spec PyProof.Rows
section
variable {prog : Program} {w : World} {A : Around} {E : Value → Shared → Prop} {s : Shared} {K : PySem.W.Frag} {x dx C f : Addr} {mA : Str → Option Value} {name : Str} {v : Value}
end
section
variable {P : Program} {w : World} {H H' : Hp} {h h' : Heap} {a C dx : Addr} {fs fs' : List (Str × V)}
end
section
variable {X : Cx} {pins : List (Addr × Obj)} {σ : St} {H : Hp} {s : Shared} {a C dx : Addr} {fs : List (Str × V)} {f : Str} {v : V} {A : Around} {E : Value → Shared → Prop}
end
section
variable {X : Cx} {o e value : Expr} {f : Str} {pos pos' tpos : Pos} {ta tv : TE}
end
section
variable {X : Cx} {pins : List (Addr × Obj)} {σ : St} {H : Hp} {s : Shared} {A : Around} {E : Value → Shared → Prop} {Q : Value → Shared → Prop} {c : Value} {b : Bool}
end
end L2
namespace L2
open PySem PySem.Spec PyProof.Rows
structure Room (k : Nat) (A : Around) : Prop where
  hd : A.handled = none
  dp : A.depth + 3 * k + 5 < recursionLimit
  un : A.units + 16 * k + 200 < cLine
theorem Room.mono {j k : Nat} {A : Around} (r : Room k A) (h : j ≤ k) : Room j A := ⟨r.hd, by have := r.dp; omega, by have := r.un; omega⟩
theorem Room.deeper {k : Nat} {A : Around} (r : Room (k + 1) A) (env : Env) : Room k (A.deeper env) :=
  ⟨r.hd, by have := r.dp; show A.depth + 1 + 3 * k + 5 < _; omega, by have := r.un; show A.units + 3 + 16 * k + 200 < _; omega⟩
theorem Room.depth {k : Nat} {A : Around} (r : Room k A) : A.depth < recursionLimit := by have := r.dp; omega
theorem Room.units {k : Nat} {A : Around} (r : Room k A) : A.units + 64 < cLine := by have := r.un; omega
theorem Room.units0 {k : Nat} {A : Around} (r : Room k A) : A.units < cLine := by have := r.un; omega
def tNil : TA := fun _ H Q => Q [] H
def tCons (ta : TE) (tr : TA) : TA := fun σ H Q => ta σ H fun x H1 => tr σ H1 fun xs H2 => Q (x :: xs) H2
section
variable {X : Cx} {e : Expr} {es : List Expr} {te : TE} {t : TA} {pos : Pos}
theorem pa_nil : PA X [] tNil := fun _ _ _ _ H Q I h => Calls.spliced_nil ⟨[], H, I, .nil, h⟩
theorem pa_cons (ha : PE X e te) (hr : PA X es t) (hs : starEach (e :: es) X.env = (false, eval e X.env) :: starEach es X.env := by rfl) : PA X (e :: es) (tCons te t) := by
  intro pos pins s σ H Q I h
  rw [hs]
  show wpAny _ _ (spliced ((false, eval e X.env) :: backTo pos (starEach es X.env))) _ _ s
  refine Calls.spliced_cons (thn (ha pins s σ H _ I h) fun u s1 ⟨x, H1, I1, r1, q1⟩ => ?_)
  exact thn (hr pos pins s1 σ H1 _ I1 q1) fun us s2 ⟨xs, H2, I2, r2, q2⟩ => ⟨x :: xs, H2, I2, .cons r1 r2, q2⟩
def tTup (t : TA) : TE := fun σ H Q => t σ H fun xs H1 => xs.length ≤ sizeLine ∧ ∀ p, H1 p = none → Q (.ref p) (upd H1 p (.tup xs))
def tLst (t : TA) : TE := fun σ H Q => t σ H fun xs H1 => xs.length ≤ sizeLine ∧ ∀ p, H1 p = none → Q (.ref p) (upd H1 p (.lst xs))
theorem pe_tup {x1} (h : PA X es t) : PE X (.Tuple es x1 pos) (tTup t) := by
  intro pins s σ H Q I hq
  refine wpAny_Tuple_spliced (thn (h pos pins s σ H _ I hq) fun us s1 ⟨xs, H1, I1, r, z, q⟩ => ⟨by rw [← r.length]; exact z, ?_⟩)
  have hf : H1 s1.heap.objs.size = none := I1.hok.fresh (Nat.le_refl _)
  refine ⟨.ref s1.heap.objs.size, upd H1 s1.heap.objs.size (.tup xs), I1.laid (t' := s1.toks) (fun b u e => Heap.get?_push_of_some _ e) (Nat.le_refl _) ?_, rfl, q _ hf⟩
  exact ⟨z, us, r, ⟨_, Heap.get?_push_size _ rfl, ⟨rfl, rfl⟩, _, rfl⟩⟩
theorem pe_lst (h : PA X es t) : PE X (.List es pos) (tLst t) := by
  intro pins s σ H Q I hq
  refine wpAny_List_spliced (thn (h pos pins s σ H _ I hq) fun us s1 ⟨xs, H1, I1, r, z, q⟩ => ⟨by rw [← r.length]; exact z, ?_⟩)
  have hf : H1 s1.heap.objs.size = none := I1.hok.fresh (Nat.le_refl _)
  refine ⟨.ref s1.heap.objs.size, upd H1 s1.heap.objs.size (.lst xs), I1.laid (t' := s1.toks) (fun b u e => Heap.get?_push_of_some _ e) (Nat.le_refl _) ?_, rfl, q _ hf⟩
  exact ⟨z, us, 0, r, Heap.get?_push_size _ rfl⟩
end
abbrev Sp := List V → Hp → VK → XK → Prop
abbrev CXT := List Env → Hp → Shared → XK → Value → Shared → Prop
structure Env0 (P : Program) (w : World) (K : PySem.W.Frag) (mg : Str → Option Value) (base : Heap) (A : Around) (outer : List Env) (s : Shared) (H : Hp) : Prop where
  frames : A.frames = some outer
  mod : Mod K mg base
  bs : ∀ b o, base.get? b = some o → s.heap.get? b = some o ∧ H b = none
  bsz : base.objs.size ≤ s.heap.objs.size
  funs : s.heap.FunFrames base outer
  frf : ∀ b ∈ frs outer, H b = none
  hok : HOk P w H s.heap
  bare : AllBare s.gens
def CE (outer : List Env) (P : Program) (w : World) (H : Hp) (s : Shared) (Q : VK) (u : Value) (s' : Shared) : Prop :=
  ∃ v H', s'.os = s.os ∧ AllBare s'.gens ∧ Un (frs outer) [] H H' s.heap s'.heap ∧ HOk P w H' s'.heap ∧ RelV v u ∧ Q v H'
def CR (CX : CXT) (outer : List Env) (P : Program) (w : World) (H : Hp) (s : Shared) (Q : VK) (E : XK) (r : Result) (s' : Shared) : Prop :=
  match r with
  | .ok (.ret u) => CE outer P w H s Q u s'
  | .ok _ => False
  | .error e => CX outer H s E e s'
structure FnOk (P : Program) (w : World) (K : PySem.W.Frag) (mg : Str → Option Value) (base : Heap) (CX : CXT) (k : Nat) (f : Addr) (fd : FuncData) (ps : List Str) (sp : Sp) : Prop where
  len : ∀ vs H Q E, sp vs H Q E → vs.length = ps.length
  run : ∀ (A : Around) (outer : List Env) (s : Shared) (H : Hp) (args : Args) (us : List Value) (vs : List V) (Q : VK) (E : XK), Room k A → Env0 P w K mg base A outer s H → BindsTo s fd args (ps.zip us) → Vals vs us → sp vs H Q E →
    codeAny (model P w) A (.call (.ref f) args) (CR CX outer P w H s Q E) s
section
variable {X : Cx} {pins : List (Addr × Obj)} {σ : St} {H : Hp} {s s' : Shared}
theorem Inv.env0 (I : Inv X pins σ H s) : Env0 X.prog X.w X.K X.mg X.base X.A X.stack s H :=
  ⟨I.ok.frames, I.ok.mod, I.bs, Nat.le_trans I.ok.bsz I.sz, I.stack, I.stkFree, I.hok, I.bare⟩
theorem Inv.after {Q : VK} {u : Value} (I : Inv X pins σ H s) (h : CE X.stack X.prog X.w H s Q u s') : EP X pins σ Q u s' := by
  obtain ⟨v, H', os, bare, un, hok, r, q⟩ := h
  obtain ⟨hh, g, d, t, os'⟩ := s'
  obtain rfl : os' = s.os := os
  exact ⟨v, H', I.call (h' := hh) (g' := g) (d' := d) (t' := t) (ch := []) un hok bare (fun b z => absurd z (by simp)), r, q⟩
end
def tCall (sp : Sp) (dvs : List V) (E : XK) (t : TA) : TE := fun σ H Q => t σ H fun vs H1 => sp (vs ++ dvs) H1 Q E
def Binds (K : PySem.W.Frag) (fd : FuncData) (ps : List Str) (ds : List Value) : Prop :=
  ∀ (s : Shared) (us : List Value), K.In s.heap → (us ++ ds).length = ps.length → BindsTo s fd ⟨us, []⟩ (ps.zip (us ++ ds))
theorem Binds.all {K : PySem.W.Frag} {fd : FuncData} {ps : List Str} (h : ∀ us : List Value, us.length = ps.length → bindArgs fd ⟨us, []⟩ = pure (ps.zip us)) : Binds K fd ps [] := fun s us _ hl => by
  rw [List.append_nil] at hl ⊢
  exact .of_eq (h us hl)
def Passes (CX : CXT) (X : Cx) (E : XK) : Prop := ∀ (pins : List (Addr × Obj)) (σ : St) (H : Hp) (s : Shared) (e : Value) (s' : Shared), Inv X pins σ H s → CX X.stack H s E e s' → X.xe e s'
section
variable {X : Cx} {CX : CXT} {k : Nat} {f C : Addr} {fd : FuncData} {ps : List Str} {sp : Sp} {dvs : List V} {ds : List Value} {E : XK} {x m : Str} {p pos apos : Pos} {e o : Expr} {es : List Expr} {ta : TE} {t : TA}
theorem run_fn {pins : List (Addr × Obj)} {σ : St} {H : Hp} {s : Shared} {Q : VK} {us : List Value} {vs : List V} (F : FnOk X.prog X.w X.K X.mg X.base CX k f fd ps sp) (hr : Room k X.A) (hb : Binds X.K fd ps ds) (hd : Vals dvs ds) (hx : Passes CX X E)
    (I : Inv X pins σ H s) (r : Vals vs us) (h : sp (vs ++ dvs) H Q E) : wpAny (model X.prog X.w) X.A (call (.ref f) us) (EP X pins σ Q) X.xe s := by
  have r2 : Vals (vs ++ dvs) (us ++ ds) := r.append hd
  have hl : (us ++ ds).length = ps.length := by rw [← r2.length]; exact F.len _ _ _ _ h
  refine wpAny_call (codeAny_mono (F.run X.A X.stack s H ⟨us, []⟩ (us ++ ds) (vs ++ dvs) Q E hr I.env0 (hb s us I.kIn hl) r2 h) fun r s' hq => ?_)
  cases r with
  | error e => exact hx pins σ H s e s' I hq
  | ok fl =>
    cases fl with
    | ret u => exact I.after hq
    | next => exact False.elim hq
    | brk => exact False.elim hq
    | cont => exact False.elim hq
theorem pe_call (F : FnOk X.prog X.w X.K X.mg X.base CX k f fd ps sp) (hr : Room k X.A) (hg : Gl X x) (hm : X.mg x = some (.ref f)) (hk : PySem.W.keepIn X.K (.ref f) = true) (hb : Binds X.K fd ps ds) (hd : Vals dvs ds) (hx : Passes CX X E)
    (ha : PA X (e :: es) t) (hdb : (x == ("__debug__" : Str)) = false := by decide) (he : starEach (e :: es) X.env = (false, eval e X.env) :: starEach es X.env := by rfl) (hpl : (backTo pos (starEach es X.env)).any (·.1) = false := by rfl) :
    PE X (.Call (.Name x p) (e :: es) [] pos) (tCall sp dvs E t) := by
  intro pins s σ H Q I h
  refine wpAny_Call_Name_kw (ld_glob I hg hm ?_ hdb)
  refine PySem.W.callWith_K (h₀ := X.base) I.ok.mod.kin hk (thn (ha pos pins s σ H _ I h) fun us s1 ⟨vs, H1, I1, r, q⟩ => ⟨I1.kIn, ?_⟩) he hpl
  exact run_fn F hr hb hd hx I1 r q
end
section
variable {X : Cx} {CX : CXT} {k : Nat} {f C : Addr} {fd : FuncData} {ps ks : List Str} {sp : Sp} {E : XK} {x m : Str} {p pos apos kpos : Pos} {e o : Expr} {es : List Expr} {kws : List Keyword} {te ta : TE} {t tk : TA} {nm : Option Str}
variable {g : List Value → List Value → List Value} {gV : List V → List V → List V}
end
structure FnScope (N P : List Str) (sc : Scope) : Prop where
  kind : sc.kind = .function
  co : sc.isCoroutine = false
  gen : sc.isGenerator = false
  nd : N.Nodup
  pre : N.take P.length = P
  par : ∀ x ∈ P, sc.names.lookup x = some .local ∨ sc.names.lookup x = some .cell
  nofree : ∀ y ∈ sc.names, y.2 ≠ .free
theorem bindL_out {kindOf : Str → Option NameKind} {x : Str} : ∀ {binds : List (Str × Value)} {m : Str → Option Value}, (∀ v, (x, v) ∉ binds) → bindL kindOf binds m x = m x
  | [], _, _ => rfl
  | (n, v) :: r, m, h => by
    unfold bindL
    rw [bindL_out fun w hw => h w (List.mem_cons_of_mem _ hw)]
    split
    · have : x ≠ n := by rintro rfl; exact h v List.mem_cons_self
      simp [this]
    · rfl
theorem bindC_out {kindOf : Str → Option NameKind} {x : Str} : ∀ {binds : List (Str × Value)} {m : Str → Option Value}, (∀ v, (x, v) ∉ binds) → bindC kindOf binds m x = m x
  | [], _, _ => rfl
  | (n, v) :: r, m, h => by
    unfold bindC
    rw [bindC_out fun w hw => h w (List.mem_cons_of_mem _ hw)]
    split
    · rfl
    · have : x ≠ n := by rintro rfl; exact h v List.mem_cons_self
      simp [this]
theorem bindL_get {kindOf : Str → Option NameKind} {x : Str} {v : Value} : ∀ {P : List Str} {vs : List Value} {i : Nat} {m : Str → Option Value}, P.Nodup → P[i]? = some x → vs[i]? = some v → kindOf x = some .local →
    bindL kindOf (P.zip vs) m x = some v
  | [], _, _, _, _, h, _, _ => by simp at h
  | _ :: _, [], _, _, _, _, h, _ => by simp at h
  | p :: P, w :: vs, 0, m, nd, h1, h2, hk => by
    simp at h1 h2; subst h1; subst h2
    show bindL kindOf ((p, w) :: P.zip vs) m p = _
    unfold bindL
    rw [bindL_out fun v hv => (List.nodup_cons.mp nd).1 (List.of_mem_zip hv).1, if_pos hk]
    simp
  | p :: P, w :: vs, i + 1, m, nd, h1, h2, hk => by
    show bindL kindOf ((p, w) :: P.zip vs) m x = _
    unfold bindL
    exact bindL_get (i := i) (List.nodup_cons.mp nd).2 (by simpa using h1) (by simpa using h2) hk
theorem bindC_get {kindOf : Str → Option NameKind} {x : Str} {v : Value} : ∀ {P : List Str} {vs : List Value} {i : Nat} {m : Str → Option Value}, P.Nodup → P[i]? = some x → vs[i]? = some v → kindOf x ≠ some .local →
    bindC kindOf (P.zip vs) m x = some v
  | [], _, _, _, _, h, _, _ => by simp at h
  | _ :: _, [], _, _, _, _, h, _ => by simp at h
  | p :: P, w :: vs, 0, m, nd, h1, h2, hk => by
    simp at h1 h2; subst h1; subst h2
    show bindC kindOf ((p, w) :: P.zip vs) m p = _
    unfold bindC
    rw [bindC_out fun v hv => (List.nodup_cons.mp nd).1 (List.of_mem_zip hv).1, if_neg hk]
    simp
  | p :: P, w :: vs, i + 1, m, nd, h1, h2, hk => by
    show bindC kindOf ((p, w) :: P.zip vs) m x = _
    unfold bindC
    exact bindC_get (i := i) (List.nodup_cons.mp nd).2 (by simpa using h1) (by simpa using h2) hk
def start (N : List Str) (vs : List V) : St := vs.map some ++ List.replicate (N.length - vs.length) none
def cxOf (CX : CXT) (P : Program) (w : World) (K : PySem.W.Frag) (mg : Str → Option Value) (base : Heap) (N : List Str) (qual : Str) (scope : Scope) (f : Addr) (cd : Value) (A : Around) (outer : List Env) (s : Shared) (H : Hp) (E : XK) : Cx where
  prog := P
  w := w
  K := K
  mg := mg
  base := base
  A := A.deeper (envOfC qual scope s.heap.objs.size f cd)
  N := N
  s₀ := s
  H₀ := H
  env := envOfC qual scope s.heap.objs.size f cd
  outer := outer
  stack := envOfC qual scope s.heap.objs.size f cd :: outer
  ex := []
  calm := true
  fn := fun _ => true
  pn := []
  xe := fun e s' => wpAny (model P w) (A.deeper (envOfC qual scope s.heap.objs.size f cd)) (leaving (envOfC qual scope s.heap.objs.size f cd) e) (fun _ s'' => CX outer H s E e s'') (fun e' s'' => CX outer H s E e' s'') s'
theorem cell_has {sc : Scope} {n : Nat} {x : Str} (h : sc.names.lookup x = some .cell) : ∃ c, (cellsFrom n sc.names []).lookup x = some c := by
  have q := PySem.W.cellsFrom_some sc.names n [] (.inl h)
  exact Option.isSome_iff_exists.mp q
theorem inv_start {CX : CXT} {P : Program} {w : World} {K : PySem.W.Frag} {mg : Str → Option Value} {base : Heap} {N ps : List Str} {qual : Str} {scope : Scope} {f : Addr} {cd : Value} {A : Around} {outer : List Env} {s s1 : Shared} {H : Hp} {E : XK} {us : List Value} {vs : List V}
    (S : FnScope N ps scope) (hd : A.handled = none) (e0 : Env0 P w K mg base A outer s H) (hl : vs.length = ps.length) (r : Vals vs us)
    (x : InCallC s s.heap.objs.size (bindL (envOfC qual scope s.heap.objs.size f cd).kindOf (ps.zip us) fun _ => none) (cellsFrom (s.heap.objs.size + 1) scope.names []) (bindC (envOfC qual scope s.heap.objs.size f cd).kindOf (ps.zip us) fun _ => none) s1) :
    Inv (cxOf CX P w K mg base N qual scope f cd A outer s H E) [] (start N vs) H s1 := by
  have hpl : ps.length ≤ N.length := by have := congrArg List.length S.pre; rw [List.length_take] at this; omega
  obtain ⟨h1, tk, rfl, hk⟩ := x.done
  have noA : ∀ b : Addr, b ∉ (cxOf CX P w K mg base N qual scope f cd A outer s H E).ex := fun b z => absurd (show b ∈ ([] : List Addr) from z) (by simp)
  refine ⟨⟨e0.mod, S.kind, rfl, rfl, Nat.le_refl _, fun y z c h1 h2 => ?_, fun y hy => ?_, fun y c _ h => ?_, fun _ => hd, Around.frames_deeper e0.frames, .inr ⟨rfl, rfl⟩, fun b z => absurd z (noA b), e0.bs, e0.bsz, fun b _ _ => noA b, fun b z => absurd z (noA b), e0.funs, e0.frf⟩,
    rfl, e0.bare, Un.kept hk, ⟨_, x.toInCall.ns, fun i y v h1 h2 h3 => ?_⟩, fun y c h => ⟨_, x.cell y c h⟩, e0.hok.fresh (Nat.le_refl _), fun y c h => ?_, fun p hp => absurd (show p ∈ ([] : List (Addr × Obj)) from hp) (by simp), e0.hok.kept hk, ?_⟩
  · exact name_of_addr x.apart (PySem.mem_of_lookup h1) (PySem.mem_of_lookup h2)
  · have hy : scope.names.lookup y = some .cell ∨ scope.names.lookup y = some .free := hy
    rcases hy with hy | hy
    · exact cell_has hy
    · exact absurd rfl (S.nofree _ (PySem.mem_of_lookup hy))
  · exact Nat.le_of_lt (x.above y c (PySem.mem_of_lookup h))
  · have hi : i < vs.length := by
      unfold start at h2
      by_cases hi : i < vs.length
      · exact hi
      · rw [List.getElem?_append_right (by simpa using hi)] at h2
        rw [List.getElem?_replicate] at h2
        split at h2 <;> cases h2
    have ha : vs[i]? = some v := by
      unfold start at h2
      rw [List.getElem?_append_left (by simpa using hi), List.getElem?_map] at h2
      cases e : vs[i]? with
      | none => rw [e] at h2; cases h2
      | some a => rw [e] at h2; cases h2; rfl
    obtain ⟨u, hu, rv⟩ := r.get ha
    have hp : ps[i]? = some y := by
      rw [← S.pre, List.getElem?_take_of_lt (by omega)]; exact h1
    have ndP : ps.Nodup := by rw [← S.pre]; exact S.nd.sublist (List.take_sublist _ _)
    refine ⟨u, rv, ?_⟩
    rcases S.par y (List.mem_of_getElem? hp) with k | k
    · exact .inl ⟨k, bindL_get ndP hp hu k⟩
    · obtain ⟨c, e⟩ := cell_has (n := s.heap.objs.size + 1) k
      refine .inr ⟨.inl k, c, e, ?_⟩
      have q := x.cell y c e
      rw [bindC_get ndP hp hu (by show scope.names.lookup y ≠ _; rw [k]; decide)] at q
      exact q
  · exact e0.hok.fresh (Nat.le_of_lt (x.above y c (PySem.mem_of_lookup h)))
  · unfold start
    show _ = N.length
    rw [List.length_append, List.length_map, List.length_replicate]
    omega
theorem fn_of {CX : CXT} {P : Program} {w : World} {K : PySem.W.Frag} {mg : Str → Option Value} {base : Heap} {k : Nat} {f : Addr} {name qual : Str} {params : Arguments} {body : List Stmt} {scope : Scope} {dV kV doc pm cdv ct oc : Value} {an od : Option Addr}
    {osl : Array (Option Value)} {N ps : List Str} {sp : Sp} (lk : K.lookup f = some ⟨oc, od, .func (PySem.W.fnOf name qual params body scope dV kV doc pm an cdv ct), osl⟩) (hcd : PySem.W.codeIn K cdv qual = true) (S : FnScope N ps scope)
    (len : ∀ vs H Q E, sp vs H Q E → vs.length = ps.length)
    (hbody : ∀ (A : Around) (outer : List Env) (s : Shared) (H : Hp) (vs : List V) (Q : VK) (E : XK), Room k (A.deeper (envOfC qual scope s.heap.objs.size f cdv)) → sp vs H Q E →
      ∃ t, PSs (cxOf CX P w K mg base N qual scope f cdv A outer s H E) body t ∧ t { nx := fun _ H' => Q .non H', rt := Q } (start N vs) H) :
    FnOk P w K mg base CX (k + 1) f (PySem.W.fnOf name qual params body scope dV kV doc pm an cdv ct) ps sp := by
  refine ⟨len, fun A outer s H args us vs Q E hr e0 hb r hsp => ?_⟩
  have hl := len _ _ _ _ hsp
  have KX : K.In s.heap := e0.mod.kin.keeps fun b o e => (e0.bs b o e).1
  have lim : s.heap.NoLimit := e0.mod.nolimit.keeps fun b o e => (e0.bs b o e).1
  have hkind : ∀ y ∈ ps.zip us, scope.names.lookup y.1 = some .local ∨ (scope.names.lookup y.1 = some .cell ∧ ((cellsFrom (s.heap.objs.size + 1) scope.names []).lookup y.1).isSome = true) := fun ⟨n, v⟩ hy => by
    rcases S.par n (List.of_mem_zip hy).1 with q | q
    · exact .inl q
    · exact .inr ⟨q, PySem.W.cellsFrom_some _ _ _ (.inl q)⟩
  refine codeAny_call_function hr.depth (KX _ _ lk) rfl S.co S.gen rfl (PySem.W.codeRec_of KX hcd) (hb _ _ _ _ ?_)
  refine wpAny_newFunctionEnv_cells S.kind hkind fun env he s1 x => ?_
  subst he
  refine ⟨lim.keeps x.toInCall.keep, codeAny_func ?_⟩
  obtain ⟨t, ht, hq⟩ := hbody A outer s H vs Q E (hr.deeper _) hsp
  have I : Inv (cxOf CX P w K mg base N qual scope f cdv A outer s H E) [] (start N vs) H s1 := inv_start S hr.hd e0 hl r x
  refine wpAny_mono (ht [] s1 (start N vs) H _ I hq) (fun fl s' hs => ?_) fun e s' hs => hs
  have fin : ∀ {σ' : St} {H' : Hp} {v : V} {u : Value}, Inv (cxOf CX P w K mg base N qual scope f cdv A outer s H E) [] σ' H' s' → RelV v u → Q v H' → CE outer P w H s Q u s' :=
    fun {σ' H' v u} J rv q => ⟨v, H', J.os, J.bare, J.base, J.hok, rv, q⟩
  cases fl with
  | ret u =>
    obtain ⟨v, σ', H', J, rv, q⟩ := hs
    exact fin J rv q
  | next =>
    obtain ⟨σ', H', J, q⟩ := hs
    exact fin (v := V.non) (u := Value.none) J rfl q
  | brk =>
    obtain ⟨_, _, _, q⟩ := hs
    exact False.elim q
  | cont =>
    obtain ⟨_, _, _, q⟩ := hs
    exact False.elim q
end L2
namespace L2
open PySem PySem.Spec PyProof.Rows
section
variable {X : Cx} {x : Str} {p pos : Pos} {e : Expr} {es : List Expr} {t : TA} {id T : String} {r : List V → Hp → VK → Prop}
def tCB (r : List V → Hp → VK → Prop) (t : TA) : TE := fun σ H Q => t σ H fun vs H1 => r vs H1 Q
theorem pe_callB (hc : CallR X (.builtin id) r) (hg : Gl X x) (hm : X.mg x = none) (hv : bootBuiltins x = some (.builtin id)) (ha : PA X (e :: es) t) (hn : x ≠ "__name__" := by decide) (hdb : (x == ("__debug__" : Str)) = false := by decide)
    (he : starEach (e :: es) X.env = (false, eval e X.env) :: starEach es X.env := by rfl) (hpl : (backTo pos (starEach es X.env)).any (·.1) = false := by rfl) : PE X (.Call (.Name x p) (e :: es) [] pos) (tCB r t) := by
  intro pins s σ H Q I h
  refine wpAny_Call_Name_kw (ld_blt I hg hm hv ?_ hn hdb)
  exact PyProof.Rows.callWith_builtin1 (thn (ha pos pins s σ H _ I h) fun us s1 ⟨vs, H1, I1, r1, q1⟩ => hc pins s1 σ H1 vs us Q I1 r1 q1) he hpl
theorem pe_callTy (hc : CallR X (.type T) r) (hg : Gl X x) (hm : X.mg x = none) (hv : bootBuiltins x = some (.type T)) (ha : PA X (e :: es) t) (hn : x ≠ "__name__" := by decide) (hdb : (x == ("__debug__" : Str)) = false := by decide)
    (he : starEach (e :: es) X.env = (false, eval e X.env) :: starEach es X.env := by rfl) (hpl : (backTo pos (starEach es X.env)).any (·.1) = false := by rfl) : PE X (.Call (.Name x p) (e :: es) [] pos) (tCB r t) := by
  intro pins s σ H Q I h
  refine wpAny_Call_Name_kw (ld_blt I hg hm hv ?_ hn hdb)
  exact PyProof.Rows.callWith_type1 (thn (ha pos pins s σ H _ I h) fun us s1 ⟨vs, H1, I1, r1, q1⟩ => hc pins s1 σ H1 vs us Q I1 r1 q1) he hpl
end
end L2
namespace HT
open PySem PyProof.Rows
section
open PySem.SeqAt
open PySem.AutoSeq1 (wpAny_loadPart')
open PySem.MeetsSeq PySem.MeetsSeq2 PySem.MeetsSeq3
end
section
variable {prog : Program} {w : World} {A : Around} {E : Value → Shared → Prop} {s : Shared}
theorem cat_tup {t b : Addr} {vs ws : List Value} {Q : Value → Shared → Prop} (ht : IsTup s.heap t vs.toArray) (hb : IsTup s.heap b ws.toArray) (hv : vs ≠ [])
    (h1 : ws = [] → Q (.ref t) s) (h2 : ws ≠ [] → Q (.ref s.heap.objs.size) { s with heap := s.heap.push { cls := .type "tuple", data := .seq (vs ++ ws).toArray } })
    (hsz : vs.length + ws.length ≤ sizeLine) : wpAny (model prog w) A (binaryOp .Add (.ref t) (.ref b)) Q E s := by
  obtain ⟨⟨cls, dd, data, sl⟩, ho, hc, n, hd⟩ := id ht
  obtain ⟨⟨cls2, dd2, data2, sl2⟩, ho2, hc2, n2, hd2⟩ := id hb
  simp only at hc hd hc2 hd2
  subst hc hd hc2 hd2
  have e : vs.toArray ++ ws.toArray = (vs ++ ws).toArray := by simp
  by_cases hw : ws = []
  · exact concat_meets ⟨_, ho, rfl⟩ ⟨_, ho2, rfl⟩ noFill_tuple_add seq_tuple_add PySem.F.slot_tuple_add PySem.F.entry_tuple_add (PySem.F.args_tuple_add_2 _ _)
      (tuple_addW1 t b vs.toArray ws.toArray n n2 dd dd2 sl sl2 (by simpa using hv) (by simp [hw])) ⟨ho, ho2, h1 hw⟩
  · refine concat_meets ⟨_, ho, rfl⟩ ⟨_, ho2, rfl⟩ noFill_tuple_add seq_tuple_add PySem.F.slot_tuple_add PySem.F.entry_tuple_add (PySem.F.args_tuple_add_2 _ _)
      (tuple_addW2 t b vs.toArray ws.toArray n n2 dd dd2 sl sl2 (by simpa using hv) (by simpa using hw) (by rw [List.size_toArray, List.size_toArray]; exact hsz)) ⟨ho, ho2, ?_⟩
    rw [e]
    exact h2 hw
def sIx (n d : Nat) : Option Int → Nat
  | none => d
  | some v => if v < 0 then (v + (n : Int)).toNat else min v.toNat n
theorem sIx_none (n d : Nat) : sIx n d none = d := rfl
theorem sIx_nat (n d k : Nat) : sIx n d (some (k : Int)) = min k n := by
  show (if (k : Int) < 0 then ((k : Int) + (n : Int)).toNat else min (k : Int).toNat n) = min k n
  rw [if_neg (by omega), Int.toNat_natCast]
theorem sIx_le (n d : Nat) (hd : d ≤ n) (o : Option Int) : sIx n d o ≤ n := by
  cases o with
  | none => exact hd
  | some v =>
    show (if v < 0 then (v + (n : Int)).toNat else min v.toNat n) ≤ n
    by_cases hv : v < 0
    · rw [if_pos hv]; omega
    · rw [if_neg hv]; exact Nat.min_le_right _ _
theorem clip_eq (v : Int) (n d : Nat) : (if v < 0 then max (v + (n : Int)) 0 else min v (n : Int)) = ((sIx n d (some v) : Nat) : Int) := by
  show (if v < 0 then max (v + (n : Int)) 0 else min v (n : Int)) = (((if v < 0 then (v + (n : Int)).toNat else min v.toNat n) : Nat) : Int)
  by_cases hv : v < 0
  · simp only [if_pos hv]; omega
  · simp only [if_neg hv]; omega
theorem adjust_gen (lo hi : Option Int) (n : Nat) : Builtin.Slice.sliceAdjust lo hi 1 (n : Int) = (((sIx n 0 lo : Nat) : Int), ((sIx n n hi : Nat) : Int)) := by
  have h1 : ¬ ((1 : Int) < 0) := by omega
  unfold Builtin.Slice.sliceAdjust
  simp only [h1, if_false]
  refine Prod.ext ?_ ?_
  · cases lo with
    | none => rfl
    | some v => exact clip_eq v n 0
  · cases hi with
    | none => rfl
    | some v => exact clip_eq v n n
theorem places_gen (i j : Nat) : Builtin.Slice.slicePlaces (i : Int) (j : Int) 1 = j - i := by
  unfold Builtin.Slice.slicePlaces
  have h1 : (1 : Int) > 0 := by omega
  simp only [h1, if_true, Int.ediv_one]
  split <;> omega
theorem slicePart_ {v : Value} {o : Option Int} {Q : Option Int → Shared → Prop} (p : IsPart v o) (h : Q o s) : wpAny (model prog w) A (Builtin.Slice.slicePartIndex v) Q E s := by
  cases p with
  | none => exact slicePart_none h
  | int i t => exact slicePart_int h
theorem sliceApplied_gen {sl : Addr} {vl vu : Value} {lo hi : Option Int} {n : Nat} {Q : Int × Int × Nat → Shared → Prop} (hs : s.heap.IsSliceOf sl vl vu .none) (pl : IsPart vl lo) (pu : IsPart vu hi)
    (h : Q (((sIx n 0 lo : Nat) : Int), 1, sIx n n hi - sIx n 0 lo) s) : wpAny (model prog w) A (Builtin.Slice.sliceApplied (.ref sl) (pure (n : Int))) Q E s := by
  obtain ⟨os, hos, hcs, hds⟩ := id hs
  unfold Builtin.Slice.sliceApplied Builtin.Slice.sliceFields
  refine wpAny_bind (wpAny_bind (wpAny_field hos hds (x := vl) rfl (wpAny_bind (wpAny_field hos hds (x := vu) rfl (wpAny_bind (wpAny_field hos hds (x := .none) rfl (wpAny_pure ?_)))))))
  refine wpAny_bind (slicePart_none ?_)
  show wpAny _ _ (if ((1 : Int) == 0) = true then _ else _) _ _ s
  rw [if_neg (by decide)]
  refine wpAny_bind (slicePart_ pl (wpAny_bind (slicePart_ pu (wpAny_bind (wpAny_pure ?_)))))
  show wpAny _ _ (match Builtin.Slice.sliceAdjust lo hi 1 (n : Int) with | (lo, hi) => pure (lo, (1 : Int), Builtin.Slice.slicePlaces lo hi 1)) _ _ s
  rw [adjust_gen lo hi n]
  show wpAny _ _ (pure (((sIx n 0 lo : Nat) : Int), (1 : Int), Builtin.Slice.slicePlaces ((sIx n 0 lo : Nat) : Int) ((sIx n n hi : Nat) : Int) 1)) _ _ s
  rw [places_gen]
  exact wpAny_pure h
theorem pick_gen (xs : Array Value) (i k : Nat) : ((List.range k).filterMap fun (m : Nat) => xs[((i : Int) + (m : Int) * 1).toNat]?).toArray = ((xs.toList.drop i).take k).toArray := by
  have e : (fun (m : Nat) => xs[((i : Int) + (m : Int) * 1).toNat]?) = fun m => xs[i + m]? := by
    funext m
    have : ((i : Int) + (m : Int) * 1).toNat = i + m := by omega
    rw [this]
  rw [e]
  have := pick_run xs i k
  rw [List.filterMap_map] at this
  have e2 : ((fun x => xs[x]?) ∘ fun x => i + x) = fun m => xs[i + m]? := rfl
  rw [e2] at this
  rw [this]
theorem getItem_tuple_cut {t sl : Addr} {items : Array Value} {vl vu : Value} {lo hi : Option Int} {Q : Value → Shared → Prop} (ht : IsTup s.heap t items) (hs : s.heap.IsSliceOf sl vl vu .none) (pl : IsPart vl lo) (pu : IsPart vu hi)
    (hw : ¬ (sIx items.size 0 lo = 0 ∧ sIx items.size items.size hi = items.size))
    (h : Q (.ref s.heap.objs.size) { s with heap := s.heap.push { cls := .type "tuple", data := .seq ((items.toList.drop (sIx items.size 0 lo)).take (sIx items.size items.size hi - sIx items.size 0 lo)).toArray } })
    (hsz : items.size ≤ sizeLine) : wpAny (model prog w) A (getItem (.ref t) (.ref sl)) Q E s := by
  have htake : sizeOk (.seq ((items.toList.drop (sIx items.size 0 lo)).take (sIx items.size items.size hi - sIx items.size 0 lo)).toArray) := by
    show ((items.toList.drop (sIx items.size 0 lo)).take (sIx items.size items.size hi - sIx items.size 0 lo)).toArray.size ≤ sizeLine
    rw [List.size_toArray, List.length_take, List.length_drop, Array.length_toList]
    omega
  have hj : sIx items.size items.size hi ≤ items.size := sIx_le _ _ (Nat.le_refl _) hi
  obtain ⟨os, hos, hcs, hds⟩ := id hs
  have hTs : s.TypeIs (.ref sl) "slice" := ⟨os, hos, hcs⟩
  unfold getItem
  try with_reducible refine wpAny_holding ?_
  first | refine wpAny_bind (wpAny_pure ?_) | skip
  refine wpAny_bind (wpAny_sequenceKey ht.typeIs (by decide) ?_)
  refine wpAny_bind (wpAny_callSpecial?_slot (name := Str.ofString "__getitem__") ht.typeIs PyProof.Rows.slot_tuple_getitem
    (wpAny_call_entry PyProof.Rows.slot_tuple_getitem ht.typeIs entry_tuple_getitem ?_ (args_tuple_getitem _ _)))
  show wpAny _ _ (Builtin.Tuple.tupleItemsOf (.ref t) >>= _) _ _ s
  refine wpAny_bind (tupleItemsOf_ ht ?_)
  refine wpAny_bind (wpAny_typeOf hTs ?_)
  rw [if_pos (by decide)]
  refine wpAny_bind (sliceApplied_gen hs pl pu ?_)
  have hno : ¬ ((((sIx items.size 0 lo : Nat) : Int) == 0 && (1 : Int) == 1 && (sIx items.size items.size hi - sIx items.size 0 lo) == items.size) = true) := by
    intro q
    rw [Bool.and_eq_true, Bool.and_eq_true] at q
    have q1 : ((sIx items.size 0 lo : Nat) : Int) = 0 := eq_of_beq q.1.1
    have q2 : sIx items.size items.size hi - sIx items.size 0 lo = items.size := eq_of_beq q.2
    exact hw ⟨by omega, by omega⟩
  show wpAny _ _ (if (((sIx items.size 0 lo : Nat) : Int) == 0 && (1 : Int) == 1 && (sIx items.size items.size hi - sIx items.size 0 lo) == items.size) = true then _ else _) _ _ s
  rw [if_neg hno, pick_gen]
  first
    | exact wpAny_bind (m := Builtin.Tuple.tupleExact _) (wpAny_newObj_type (wpAny_pure ⟨_, rfl, wpAny_pure h⟩) htake)
    | exact wpAny_bind (m := Builtin.Tuple.tupleExact _) (wpAny_newObj_type (wpAny_bind (wpAny_pure (wpAny_pure ⟨_, rfl, wpAny_pure h⟩))) htake)
    | exact wpAny_bind (wpAny_bind (m := Builtin.Tuple.tupleExact _) (wpAny_newObj_type (wpAny_pure (wpAny_pure ⟨_, rfl, wpAny_pure h⟩)) htake))
    | exact wpAny_bind (wpAny_bind (m := Builtin.Tuple.tupleExact _) (wpAny_newObj_type (wpAny_pure ⟨_, rfl, wpAny_pure h⟩) htake))
end
end HT
namespace L2
open PySem PySem.Spec PyProof.Rows
abbrev TO := St → Hp → (Option Int → Hp → Prop) → Prop
def PO (X : Cx) (e : Option Expr) (t : TO) : Prop :=
  ∀ (pins : List (Addr × Obj)) (s : Shared) (σ : St) (H : Hp) (Q : Option Int → Hp → Prop), Inv X pins σ H s → t σ H Q →
    wpAny (model X.prog X.w) X.A (evalPart e X.env) (fun u s' => ∃ o H', Inv X pins σ H' s' ∧ IsPart u o ∧ Q o H') X.xe s
def tNoPart : TO := fun _ H Q => Q none H
def tPart (t : TE) : TO := fun σ H Q => t σ H fun x H1 => ∃ i, x = .int i ∧ Q (some i) H1
section
variable {X : Cx} {e : Expr} {te : TE} {lo hi : Option Expr} {tl th : TO} {pos p2 : Pos}
theorem po_none : PO X none tNoPart := by
  intro pins s σ H Q I h
  rw [evalPart_none]
  exact wpAny_pure ⟨none, H, I, .none, h⟩
theorem po_some (h : PE X e te) : PO X (some e) (tPart te) := by
  intro pins s σ H Q I hw
  rw [evalPart_some]
  refine thn (h pins s σ H _ I hw) fun u s1 ⟨x, H1, I1, r1, q1⟩ => ?_
  obtain ⟨i, rfl, q⟩ := q1
  obtain ⟨t, rfl⟩ := r1
  exact ⟨some i, H1, I1, .int i t, q⟩
def SlR (X : Cx) (r : V → Option Int → Option Int → Hp → VK → Prop) : Prop :=
  ∀ (pins : List (Addr × Obj)) (s : Shared) (σ : St) (H : Hp) (x : V) (v vl vu : Value) (lo hi : Option Int) (sl : Addr) (Q : VK), Inv X pins σ H s → RelV x v → s.heap.IsSliceOf sl vl vu .none → IsPart vl lo → IsPart vu hi → r x lo hi H Q →
    ∃ T id, typeLookup (.type T) "__getitem__" = pure (some (.builtin id)) ∧ s.TypeIs v T ∧ wpAny (model X.prog X.w) X.A (getItem v (.ref sl)) (EP X pins σ Q) X.xe s
theorem SlR.or {r r' : V → Option Int → Option Int → Hp → VK → Prop} (h : SlR X r) (h' : SlR X r') : SlR X (fun x lo hi H Q => r x lo hi H Q ∨ r' x lo hi H Q) := by
  intro pins s σ H x v vl vu lo hi sl Q I rx hs pl pu q
  rcases q with q | q
  · exact h pins s σ H x v vl vu lo hi sl Q I rx hs pl pu q
  · exact h' pins s σ H x v vl vu lo hi sl Q I rx hs pl pu q
def tSl (r : V → Option Int → Option Int → Hp → VK → Prop) (te : TE) (tl th : TO) : TE := fun σ H Q => te σ H fun x H1 => tl σ H1 fun l H2 => th σ H2 fun u H3 => r x l u H3 Q
theorem pe_slice {r : V → Option Int → Option Int → Hp → VK → Prop} (hr : SlR X r) (he : PE X e te) (hl : PO X lo tl) (hu : PO X hi th) : PE X (.Subscript e (.Slice lo hi none p2) pos) (tSl r te tl th) := by
  intro pins s σ H Q I h
  refine Subscript_ (thn (he pins s σ H _ I h) fun v s1 ⟨x, H1, I1, r1, q1⟩ => ?_)
  refine wpAny_Slice (thn (hl pins s1 σ H1 _ I1 q1) fun vl s2 ⟨l, H2, I2, pl, q2⟩ => thn (hu pins s2 σ H2 _ I2 q2) fun vu s3 ⟨u, H3, I3, pu, q3⟩ => ?_)
  rw [evalPart_none]
  refine wpAny_pure ?_
  have I4 : Inv X pins σ H3 { s3 with heap := s3.heap.push { cls := .type "slice", data := .fields #[vl, vu, .none] } } := I3.kept (t' := s3.toks) fun b ob q => Heap.get?_push_of_some _ q
  obtain ⟨T, id, hT, ht, hg⟩ := hr pins { s3 with heap := s3.heap.push { cls := .type "slice", data := .fields #[vl, vu, .none] } } σ H3 x v vl vu l u s3.heap.objs.size Q I4 r1 (Heap.IsSliceOf.new ..) pl pu q3
  show wpAny (model X.prog X.w) X.A (subscriptTail e (.Slice lo hi none p2) v (.ref s3.heap.objs.size)) (EP X pins σ Q) X.xe { s3 with heap := s3.heap.push { cls := .type "slice", data := .fields #[vl, vu, .none] } }
  exact tail_any (ops := [.ref s3.heap.objs.size, v]) ht hT hg (by with_unfolding_all rfl)
def cutV (xs : List V) (lo hi : Option Int) : List V := (xs.drop (HT.sIx xs.length 0 lo)).take (HT.sIx xs.length xs.length hi - HT.sIx xs.length 0 lo)
theorem cutV_length (xs : List V) (lo hi : Option Int) : (cutV xs lo hi).length ≤ xs.length := by
  unfold cutV
  rw [List.length_take, List.length_drop]
  omega
def rSlT (K : PySem.W.Frag) : V → Option Int → Option Int → Hp → VK → Prop := fun x lo hi H Q => ∃ a xs, x = .ref a ∧ SqT K H a xs ∧
  ¬ (HT.sIx xs.length 0 lo = 0 ∧ HT.sIx xs.length xs.length hi = xs.length) ∧ ∀ p, H p = none → Q (.ref p) (upd H p (.tup (cutV xs lo hi)))
theorem sl_tup : SlR X (rSlT X.K) := by
  intro pins s σ H x v vl vu lo hi sl Q I rx hs pl pu h
  obtain ⟨a, xs, rfl, hx, hw, q⟩ := h
  cases rx
  obtain ⟨its, r, ht, hz⟩ := I.tuple hx
  have hlen : its.toArray.size = xs.length := by rw [List.size_toArray]; exact r.length.symm
  refine ⟨"tuple", _, PyProof.Rows.slot_tuple_getitem.lookup, ht.typeIs, ?_⟩
  refine HT.getItem_tuple_cut ht hs pl pu (by rw [hlen]; exact hw) ?_ (by rw [hlen]; exact hz)
  rw [hlen]
  refine ⟨.ref s.heap.objs.size, _, I.laid (t' := s.toks) (o := .tup (cutV xs lo hi)) (fun b ob q => Heap.get?_push_of_some _ q) (Nat.le_refl _) ?_, rfl, q _ (I.hok.fresh (Nat.le_refl _))⟩
  exact ⟨Nat.le_trans (cutV_length xs lo hi) hz, _, (r.drop (HT.sIx xs.length 0 lo)).take (HT.sIx xs.length xs.length hi - HT.sIx xs.length 0 lo), IsTupN.new _ _⟩
def rCatT (K : PySem.W.Frag) : R2 := fun x y H Q => ∃ a b xs ys, x = .ref a ∧ y = .ref b ∧ SqT K H a xs ∧ SqT K H b ys ∧ xs ≠ [] ∧ xs.length + ys.length ≤ sizeLine ∧
  (ys = [] → Q (.ref a) H) ∧ (ys ≠ [] → ∀ p, H p = none → Q (.ref p) (upd H p (.tup (xs ++ ys))))
theorem Vals.nil_iff {xs : List V} {us : List Value} (r : Vals xs us) : us = [] ↔ xs = [] := by
  cases r with
  | nil => simp
  | cons _ _ => simp
theorem op_catT : OpR X (binaryOp .Add) (rCatT X.K) := by
  intro pins s σ H x y v u Q I rx ry h
  obtain ⟨a, b, xs, ys, rfl, rfl, ha, hb, hx, hz, q1, q2⟩ := h
  cases rx
  cases ry
  obtain ⟨its, r1, p1, _⟩ := I.tuple ha
  obtain ⟨its2, r2, p2, _⟩ := I.tuple hb
  refine HT.cat_tup p1 p2 (fun z => hx (r1.nil_iff.mp z)) (fun z => ⟨.ref a, H, I, rfl, q1 (r2.nil_iff.mp z)⟩) (fun z => ?_) (by rw [← r1.length, ← r2.length]; exact hz)
  refine ⟨.ref s.heap.objs.size, _, I.laid (t' := s.toks) (o := .tup (xs ++ ys)) (fun b ob q => Heap.get?_push_of_some _ q) (Nat.le_refl _) ?_, rfl, q2 (fun w => z (r2.nil_iff.mpr w)) _ (I.hok.fresh (Nat.le_refl _))⟩
  exact ⟨by rw [List.length_append]; exact hz, _, r1.append r2, IsTupN.new _ _⟩
end
end L2
namespace L2
open PySem PySem.Spec PyProof.Rows
def ixN (n : Nat) (i : Int) : Option Nat := if 0 ≤ i then (if i < n then some i.toNat else none) else if -(n : Int) ≤ i then some (i + n).toNat else none
def atI {α : Type} (xs : List α) (i : Int) : Option α := (ixN xs.length i).bind fun j => xs[j]?
theorem ixN_seq {n : Nat} {i : Int} {j : Nat} (h : ixN n i = some j) : seqIndex? i n = some j ∧ j < n ∧ -(n : Int) ≤ i ∧ i < n := by
  unfold ixN at h
  by_cases h0 : 0 ≤ i
  · rw [if_pos h0] at h
    by_cases h1 : i < n
    · rw [if_pos h1] at h
      have e : i.toNat = j := Option.some.inj h
      exact ⟨by rw [seqIndex_of h0 h1, e], by omega, by omega, h1⟩
    · rw [if_neg h1] at h; cases h
  · rw [if_neg h0] at h
    by_cases h1 : -(n : Int) ≤ i
    · rw [if_pos h1] at h
      have e : (i + n).toNat = j := Option.some.inj h
      exact ⟨by rw [seqIndex_neg (by omega) h1, e], by omega, h1, by omega⟩
    · rw [if_neg h1] at h; cases h
theorem atI_get {α : Type} {xs : List α} {i : Int} {v : α} (h : atI xs i = some v) : ∃ j, seqIndex? i xs.length = some j ∧ xs[j]? = some v ∧ j < xs.length ∧ -(xs.length : Int) ≤ i ∧ i < xs.length := by
  unfold atI at h
  cases e : ixN xs.length i with
  | none => rw [e] at h; cases h
  | some j =>
    rw [e] at h
    obtain ⟨h1, h2, h3, h4⟩ := ixN_seq e
    exact ⟨j, h1, h, h2, h3, h4⟩
def PlainIx (b : Expr) : Prop := ∀ o i, subscripted b false o i = operate [o, i] (getItem o i)
def IxR (X : Cx) (r : R2) : Prop :=
  ∀ (value slice : Expr) (pins : List (Addr × Obj)) (s : Shared) (σ : St) (H : Hp) (x y : V) (v u : Value) (Q : VK), Inv X pins σ H s → RelV x v → RelV y u → r x y H Q →
    subscripted slice false v u = operate [v, u] (getItem v u) → wpAny (model X.prog X.w) X.A (subscriptTail value slice v u) (EP X pins σ Q) X.xe s
def MtR (X : Cx) (id : String) (r : V → List V → Hp → VK → Prop) : Prop :=
  ∀ (pins : List (Addr × Obj)) (s : Shared) (σ : St) (H : Hp) (x : V) (xs : List V) (v : Value) (us : List Value) (Q : VK), Inv X pins σ H s → RelV x v → Vals xs us → r x xs H Q →
    wpAny (model X.prog X.w) X.A (call (.builtin id) (v :: us)) (EP X pins σ Q) X.xe s
section
variable {X : Cx} {a b : Expr} {ta tb : TE} {pos : Pos}
theorem IxR.or {r r' : R2} (h : IxR X r) (h' : IxR X r') : IxR X (fun x y H Q => r x y H Q ∨ r' x y H Q) := by
  intro value slice pins s σ H x y v u Q I rx ry q hs
  rcases q with q | q
  · exact h value slice pins s σ H x y v u Q I rx ry q hs
  · exact h' value slice pins s σ H x y v u Q I rx ry q hs
theorem pe_ix {r : R2} (hr : IxR X r) (ha : PE X a ta) (hb : PE X b tb) (hs : PlainIx b) : PE X (.Subscript a b pos) (tOp r ta tb) := by
  intro pins s σ H Q I h
  exact Subscript_ (binT ha hb I h fun v u s2 x y H2 I2 rx ry q => hr a b pins s2 σ H2 x y v u Q I2 rx ry q (hs _ _))
def rIxL (K : PySem.W.Frag) : R2 := fun x y H Q => ∃ p xs i v, x = .ref p ∧ y = .int i ∧ SqL K H p xs ∧ atI xs i = some v ∧ Q v H
def rIxT (K : PySem.W.Frag) : R2 := fun x y H Q => ∃ p xs i v, x = .ref p ∧ y = .int i ∧ SqT K H p xs ∧ atI xs i = some v ∧ Q v H
def rIxS : R2 := fun x y H Q => ∃ z i c, x = .str z ∧ y = .int i ∧ z.length ≤ sizeLine ∧ atI z.cps.toList i = some c ∧ Q (.str ⟨#[c]⟩) H
theorem ix_list : IxR X (rIxL X.K) := by
  intro value slice pins s σ H x y v u Q I rx ry h hs
  obtain ⟨p, xs, i, z, rfl, rfl, hq, he, q⟩ := h
  cases rx
  obtain ⟨t, rfl⟩ := ry
  obtain ⟨its, r, pl, hz⟩ := I.list hq
  obtain ⟨j, h1, h2, h3, h4, h5⟩ := atI_get he
  obtain ⟨w, ew, rw'⟩ := r.get h2
  have hl := r.length
  have hn := line63
  have fin : EP X pins σ Q w s := ⟨z, H, I, rw', q⟩
  by_cases h0 : 0 ≤ i
  · have hj : i.toNat = j := by
      rw [seqIndex_of h0 h5] at h1
      exact Option.some.inj h1
    exact item_listR pl.isList h0 (by omega) (by rw [hj]; simpa using ew) fin hs
  · have hj : (i + (its.toArray.size : Int)).toNat = j := by
      rw [seqIndex_neg (by omega) h4] at h1
      rw [List.size_toArray, ← hl]
      exact Option.some.inj h1
    exact subscriptTail_builtinR (x := w) pl.isList.typeIs slot_list_getitem.lookup
      (wpAny_getItem_list_neg (Q := fun r s' => r = w ∧ EP X pins σ Q r s') pl.isList (by omega) (by rw [List.size_toArray] <;> omega) (by omega) (by rw [hj]; simpa using ew) ⟨rfl, fin⟩) hs
theorem ix_tup : IxR X (rIxT X.K) := by
  intro value slice pins s σ H x y v u Q I rx ry h hs
  obtain ⟨p, xs, i, z, rfl, rfl, hq, he, q⟩ := h
  cases rx
  obtain ⟨t, rfl⟩ := ry
  obtain ⟨its, r, pl, hz⟩ := I.tuple hq
  obtain ⟨j, h1, h2, h3, h4, h5⟩ := atI_get he
  obtain ⟨w, ew, rw'⟩ := r.get h2
  have hl := r.length
  have hn := line63
  have fin : EP X pins σ Q w s := ⟨z, H, I, rw', q⟩
  exact subscriptTail_builtinR (x := w) pl.typeIs slot_tuple_getitem.lookup
    (getItem_tuple (j := j) (Q := fun r s' => r = w ∧ EP X pins σ Q r s') pl (by omega) (by omega) (by rw [List.size_toArray, ← hl]; exact h1) (by simpa using ew) ⟨rfl, fin⟩) hs
theorem ix_str : IxR X rIxS := by
  intro value slice pins s σ H x y v u Q I rx ry h hs
  obtain ⟨z, i, c, rfl, rfl, hz, he, q⟩ := h
  obtain ⟨t, rfl⟩ := rx
  obtain ⟨t', rfl⟩ := ry
  obtain ⟨j, h1, h2, h3, h4, h5⟩ := atI_get he
  have hl : z.cps.toList.length = z.length := by simp [Str.length]
  rw [hl] at h1 h4 h5
  have hn := line63
  exact tail_any (typeIs_str s z t) slot_str_getitem.lookup (getItem_str (c := c) (by
    have e1 : decide (i < -(2 ^ 63 : Int)) = false := decide_eq_false (by omega)
    have e2 : decide (i ≥ 2 ^ 63) = false := decide_eq_false (by omega)
    rw [e1, e2, Bool.or_false]) (by rw [h1]; simpa using h2) ⟨.str ⟨#[c]⟩, H, I.tok _, ⟨_, rfl⟩, q⟩) hs
def rIx (K : PySem.W.Frag) : R2 := fun x y H Q => rIxL K x y H Q ∨ rIxT K x y H Q ∨ rIxS x y H Q
theorem ix_seq : IxR X (rIx X.K) := ix_list.or (ix_tup.or ix_str)
theorem mapSeq_set (its : List Value) (n j : Nat) (u : Value) : Obj.mapSeq (·.setIfInBounds j u) { cls := .type "list", data := .seq its.toArray n } = { cls := .type "list", data := .seq (its.set j u).toArray n } := by
  simp [Obj.mapSeq]
theorem Inv.lst {pins : List (Addr × Obj)} {σ : St} {H : Hp} {s : Shared} {p : Addr} {xs : List V} (I : Inv X pins σ H s) (h : H p = some (.lst xs)) :
    ∃ (its : List Value) (n : Nat), Vals xs its ∧ s.heap.get? p = some { cls := .type "list", data := .seq its.toArray n } ∧ xs.length ≤ sizeLine := by
  obtain ⟨z, its, n, r, e⟩ := I.hok p _ h
  exact ⟨its, n, r, e, z⟩
theorem Inv.lstUpd {pins : List (Addr × Obj)} {σ : St} {H : Hp} {s : Shared} {p : Addr} {xs ys : List V} {its its' : List Value} {n n' : Nat} {f : Obj → Obj} (I : Inv X pins σ H s) (h : H p = some (.lst xs))
    (ho : s.heap.get? p = some { cls := .type "list", data := .seq its.toArray n }) (hf : f { cls := .type "list", data := .seq its.toArray n } = { cls := .type "list", data := .seq its'.toArray n' }) (r : Vals ys its') (hz : ys.length ≤ sizeLine) (t : Nat) :
    Inv X pins σ (upd H p (.lst ys)) { s with heap := s.heap.update p f, toks := t } := by
  have e : (s.heap.update p f).get? p = some { cls := .type "list", data := .seq its'.toArray n' } := by
    rw [Heap.get?_update_self f ho (by rw [hf] <;> rfl), hf]
  refine I.write (x := p) (e := p) (by rw [h]; trivial) (.inl rfl) (fun b u hb q => (Heap.get?_update_other _ _ (Ne.symm hb)).trans q) ⟨_, e⟩ ?_
  exact ⟨hz, its', n', r, e⟩
def rSetL : V → V → V → Hp → (Hp → Prop) → Prop := fun o i v H Q => ∃ p xs k j, o = .ref p ∧ i = .int k ∧ H p = some (.lst xs) ∧ ixN xs.length k = some j ∧ Q (upd H p (.lst (xs.set j v)))
theorem set_list : PSet X rSetL := by
  intro pins s σ H o i v ov iv u Q I ro ri rv h
  obtain ⟨p, xs, k, j, rfl, rfl, hp, hj, q⟩ := h
  cases ro
  obtain ⟨t, rfl⟩ := ri
  obtain ⟨its, n, r, ho, hz⟩ := I.lst hp
  obtain ⟨h1, h2, h3, h4⟩ := ixN_seq hj
  have hl := r.length
  have hn := line63
  have I' : Inv X pins σ (upd H p (.lst (xs.set j v))) { s with heap := s.heap.update p (Obj.mapSeq (·.setIfInBounds j u)) } :=
    I.lstUpd hp ho (mapSeq_set its n j u) (r.set rv j) (by rw [List.length_set]; exact hz) s.toks
  by_cases h0 : 0 ≤ k
  · have hk : k.toNat = j := by
      rw [seqIndex_of h0 h4] at h1
      exact Option.some.inj h1
    exact PySem.W.ki_setAt ho h0 (by omega) (by rw [List.size_toArray, ← hl]; exact h4) (by rw [hk]; exact ⟨_, I', q⟩)
  · have hk : (k + (its.toArray.size : Int)).toNat = j := by
      rw [seqIndex_neg (by omega) h3] at h1
      rw [List.size_toArray, ← hl]
      exact Option.some.inj h1
    exact PySem.W.ki_setBack ho (by omega) (by rw [List.size_toArray, ← hl]; exact h3) (by omega) (by rw [hk]; exact ⟨_, I', q⟩)
theorem slice_bounds (lo hi : Option Int) (n : Nat) : (sliceBounds lo hi none n).1 = ((HT.sIx n 0 lo : Nat) : Int) ∧ (sliceBounds lo hi none n).2.1 = ((HT.sIx n n hi : Nat) : Int) ∧ (sliceBounds lo hi none n).2.2 = 1 := by
  refine ⟨?_, ?_, rfl⟩
  · cases lo with
    | none => simp [sliceBounds, HT.sIx]
    | some i =>
      simp only [sliceBounds, HT.sIx, Option.getD_none, show (1 : Int) > 0 by decide, if_true]
      by_cases h : i < 0
      · simp only [h, if_true] <;> omega
      · simp only [h, if_false] <;> omega
  · cases hi with
    | none => simp [sliceBounds, HT.sIx]
    | some i =>
      simp only [sliceBounds, HT.sIx, Option.getD_none, show (1 : Int) > 0 by decide, if_true]
      by_cases h : i < 0
      · simp only [h, if_true] <;> omega
      · simp only [h, if_false] <;> omega
theorem slicePick_cut (its : List Value) (lo hi : Option Int) : slicePick its.toArray lo hi none = ((its.drop (HT.sIx its.length 0 lo)).take (HT.sIx its.length its.length hi - HT.sIx its.length 0 lo)).toArray := by
  obtain ⟨h1, h2, h3⟩ := slice_bounds lo hi its.toArray.size
  unfold slicePick
  rw [h1, h2, h3]
  simp only [sliceRange_one, pick_run, List.size_toArray] <;> rfl
def rSlL (K : PySem.W.Frag) : V → Option Int → Option Int → Hp → VK → Prop := fun x lo hi H Q => ∃ a xs, x = .ref a ∧ SqL K H a xs ∧ ∀ p, H p = none → Q (.ref p) (upd H p (.lst (cutV xs lo hi)))
theorem sl_list : SlR X (rSlL X.K) := by
  intro pins s σ H x v vl vu lo hi sl Q I rx hs pl pu h
  obtain ⟨a, xs, rfl, hx, q⟩ := h
  cases rx
  obtain ⟨its, r, ht, hz⟩ := I.list hx
  have hlen := r.length
  refine ⟨"list", _, slot_list_getitem.lookup, ht.isList.typeIs, ?_⟩
  refine wpAny_getItem_list_slice ht.isList hs pl pu .none (by simp) ?_ (by rw [List.size_toArray] <;> omega)
  rw [slicePick_cut, ← hlen]
  refine ⟨.ref s.heap.objs.size, _, I.laid (t' := s.toks) (o := .lst (cutV xs lo hi)) (fun b ob q => Heap.get?_push_of_some _ q) (Nat.le_refl _) ?_, rfl, q _ (I.hok.fresh (Nat.le_refl _))⟩
  exact ⟨Nat.le_trans (cutV_length xs lo hi) hz, _, 0, (r.drop (HT.sIx xs.length 0 lo)).take (HT.sIx xs.length xs.length hi - HT.sIx xs.length 0 lo), Heap.get?_push_size _ rfl⟩
def flatV : V → Bool
  | .non => true
  | .bl _ => true
  | .int _ => true
  | .str _ => true
  | _ => false
def eqV : V → V → Bool
  | .non, .non => true
  | .bl a, .bl b => a == b
  | .bl a, .int b => (if a then 1 else 0) == b
  | .int a, .bl b => a == (if b then 1 else 0)
  | .int a, .int b => a == b
  | .str a, .str b => a == b
  | _, _ => false
theorem eqAt_V {A : Around} {s : Shared} {y x : V} {u v : Value} (ry : RelV y u) (rx : RelV x v) (fy : flatV y = true) (fx : flatV x = true) : SeqAt.EqAt A s u v (eqV y x) := by
  cases y with
  | non =>
    cases ry
    cases x with
    | non => cases rx; exact SeqAt.EqAt.same _
    | bl b => cases rx; exact SeqAt.EqAt.none_bool b
    | int b => obtain ⟨t, rfl⟩ := rx; exact SeqAt.EqAt.none_int b t
    | str b => obtain ⟨t, rfl⟩ := rx; exact SeqAt.EqAt.none_str b t
    | _ => exact absurd (show false = true from fx) Bool.false_ne_true
  | bl a =>
    cases ry
    cases x with
    | non => cases rx; exact SeqAt.EqAt.bool_none a
    | bl b => cases rx; exact SeqAt.EqAt.bool_bool a b
    | int b => obtain ⟨t, rfl⟩ := rx; exact SeqAt.EqAt.bool_int a b t
    | str b => obtain ⟨t, rfl⟩ := rx; exact SeqAt.EqAt.bool_str a b t
    | _ => exact absurd (show false = true from fx) Bool.false_ne_true
  | int a =>
    obtain ⟨t', rfl⟩ := ry
    cases x with
    | non => cases rx; exact SeqAt.EqAt.int_none a t'
    | bl b => cases rx; exact SeqAt.EqAt.int_bool a t' b
    | int b => obtain ⟨t, rfl⟩ := rx; exact SeqAt.EqAt.int_int a t' b t
    | str b => obtain ⟨t, rfl⟩ := rx; exact SeqAt.EqAt.int_str a t' b t
    | _ => exact absurd (show false = true from fx) Bool.false_ne_true
  | str a =>
    obtain ⟨t', rfl⟩ := ry
    cases x with
    | non => cases rx; exact SeqAt.EqAt.str_none a t'
    | bl b => cases rx; exact SeqAt.EqAt.str_bool a t' b
    | int b => obtain ⟨t, rfl⟩ := rx; exact SeqAt.EqAt.str_int a t' b t
    | str b => obtain ⟨t, rfl⟩ := rx; exact SeqAt.EqAt.str_str a t' b t
    | _ => exact absurd (show false = true from fx) Bool.false_ne_true
  | _ => exact absurd (show false = true from fy) Bool.false_ne_true
def eqU (x : V) (u : Value) : Bool := match u with
  | .none => eqV .non x
  | .bool b => eqV (.bl b) x
  | .int i _ => eqV (.int i) x
  | .str z _ => eqV (.str z) x
  | _ => false
theorem eqU_of {x y : V} {u : Value} (r : RelV y u) (f : flatV y = true) : eqU x u = eqV y x := by
  cases y with
  | non => cases r; rfl
  | bl b => cases r; rfl
  | int i => obtain ⟨t, rfl⟩ := r; rfl
  | str z => obtain ⟨t, rfl⟩ := r; rfl
  | _ => exact absurd (show false = true from f) Bool.false_ne_true
theorem any_eqU {x : V} : ∀ {xs : List V} {us : List Value}, Vals xs us → xs.all flatV = true → us.any (eqU x) = xs.any fun y => eqV y x
  | _, _, .nil, _ => rfl
  | y :: xs, u :: us, .cons r t, f => by
    rw [List.all_cons, Bool.and_eq_true] at f
    rw [List.any_cons, List.any_cons, eqU_of r f.1, any_eqU t f.2]
theorem mem_eqAt {A : Around} {s : Shared} {x : V} {v : Value} (rx : RelV x v) (fx : flatV x = true) : ∀ {xs : List V} {us : List Value}, Vals xs us → xs.all flatV = true → ∀ u ∈ us, SeqAt.EqAt A s u v (eqU x u)
  | _, _, .nil, _ => fun u hu => by cases hu
  | y :: xs, u :: us, .cons r t, f => fun u' hu => by
    rw [List.all_cons, Bool.and_eq_true] at f
    rcases List.mem_cons.mp hu with rfl | hu
    · rw [eqU_of r f.1]; exact eqAt_V r rx f.1 fx
    · exact mem_eqAt rx fx t f.2 u' hu
def inV (x : V) (xs : List V) : Bool := xs.any fun y => eqV y x
def rIn (K : PySem.W.Frag) (neg : Bool) : R2 := fun x y H Q => ∃ p xs, y = .ref p ∧ (SqL K H p xs ∨ SqT K H p xs) ∧ flatV x = true ∧ xs.all flatV = true ∧ Q (.bl (if neg then !inV x xs else inV x xs)) H
theorem op_in_seq : OpR X (compareOp .In) (rIn X.K false) := by
  intro pins s σ H x y v u Q I rx ry h
  obtain ⟨p, xs, rfl, hq, fx, fs, q⟩ := h
  cases ry
  rcases hq with hq | hq
  · obtain ⟨its, r, pl, hz⟩ := I.list hq
    refine SeqAt.in_listAt (eqU x) pl.isList (fun w hw => mem_eqAt rx fx r fs w (by simpa using hw)) ⟨.bl _, H, I, rfl, ?_⟩
    rw [show its.toArray.any (eqU x) = its.any (eqU x) by simp, any_eqU r fs]
    exact q
  · obtain ⟨its, r, pl, hz⟩ := I.tuple hq
    refine SeqAt.in_tupleAt (eqU x) pl (fun w hw => mem_eqAt rx fx r fs w (by simpa using hw)) ⟨.bl _, H, I, rfl, ?_⟩
    rw [show its.toArray.any (eqU x) = its.any (eqU x) by simp, any_eqU r fs]
    exact q
theorem op_notIn_seq : OpR X (compareOp .NotIn) (rIn X.K true) := by
  intro pins s σ H x y v u Q I rx ry h
  obtain ⟨p, xs, rfl, hq, fx, fs, q⟩ := h
  cases ry
  rcases hq with hq | hq
  · obtain ⟨its, r, pl, hz⟩ := I.list hq
    refine SeqAt.notIn_listAt (eqU x) pl.isList (fun w hw => mem_eqAt rx fx r fs w (by simpa using hw)) ⟨.bl _, H, I, rfl, ?_⟩
    rw [show its.toArray.any (eqU x) = its.any (eqU x) by simp, any_eqU r fs]
    exact q
  · obtain ⟨its, r, pl, hz⟩ := I.tuple hq
    refine SeqAt.notIn_tupleAt (eqU x) pl (fun w hw => mem_eqAt rx fx r fs w (by simpa using hw)) ⟨.bl _, H, I, rfl, ?_⟩
    rw [show its.toArray.any (eqU x) = its.any (eqU x) by simp, any_eqU r fs]
    exact q
theorem call_list_of : CallR X (.type "list") (fun xs H Q => ∃ p ys, xs = [.ref p] ∧ (SqL X.K H p ys ∨ SqT X.K H p ys) ∧ ∀ l, H l = none → Q (.ref l) (upd H l (.lst ys))) := by
  intro pins s σ H xs us Q I r h
  obtain ⟨p, ys, rfl, hq, q⟩ := h
  obtain ⟨u, rfl, rx⟩ := vals1 r
  cases rx
  have fin : ∀ (its : List Value), Vals ys its → ys.length ≤ sizeLine → ∀ (h' : Heap) (c' : Nat), (∀ b o', s.heap.get? b = some o' → h'.get? b = some o') →
      h'.get? s.heap.objs.size = some { cls := .type "list", dict := none, data := .seq its.toArray c', slots := #[] } → EP X pins σ Q (.ref s.heap.objs.size) { s with heap := h' } := fun its r' hz h' c' kp e =>
    ⟨.ref s.heap.objs.size, _, I.laid (t' := s.toks) kp (Nat.le_refl _) (show ObjOk X.prog X.w _ h' _ (.lst ys) from ⟨hz, its, c', r', e⟩), rfl, q _ (I.hok.fresh (Nat.le_refl _))⟩
  rcases hq with hq | hq
  · obtain ⟨its, r', pl, hz⟩ := I.list hq
    have hlen := r'.length
    obtain ⟨o, ho, hc, n, hd⟩ := pl.isList
    exact call_list_seq p (.inl rfl) ho hc hd (fun h' c' kp e => fin its r' hz h' c' kp e) (by simp only [List.size_toArray] <;> omega)
  · obtain ⟨its, r', pl, hz⟩ := I.tuple hq
    have hlen := r'.length
    obtain ⟨o, ho, hc, n, hd⟩ := pl
    exact call_list_seq p (.inr rfl) ho hc hd (fun h' c' kp e => fin its r' hz h' c' kp e) (by simp only [List.size_toArray] <;> omega)
theorem call_tuple_of : CallR X (.type "tuple") (fun xs H Q => ∃ p ys, xs = [.ref p] ∧ ((SqL X.K H p ys ∧ ∀ l, H l = none → Q (.ref l) (upd H l (.tup ys))) ∨ (SqT X.K H p ys ∧ Q (.ref p) H))) := by
  intro pins s σ H xs us Q I r h
  obtain ⟨p, ys, rfl, h⟩ := h
  obtain ⟨u, rfl, rx⟩ := vals1 r
  cases rx
  rcases h with ⟨hq, q⟩ | ⟨hq, q⟩
  · obtain ⟨its, r', pl, hz⟩ := I.list hq
    have hlen := r'.length
    refine call_tuple_list pl.isList (fun h' kp => ?_) (by simp only [List.size_toArray] <;> omega)
    have I1 : Inv X pins σ H { s with heap := h' } := I.kept (t' := s.toks) kp
    have I2 : Inv X pins σ (upd H h'.objs.size (.tup ys)) { s with heap := h'.push { cls := .type "tuple", data := .seq its.toArray } } :=
      I1.laid (t' := s.toks) (fun b o e => Heap.get?_push_of_some _ e) (Nat.le_refl _) (show ObjOk X.prog X.w _ _ _ (.tup ys) from ⟨hz, its, r', IsTupN.new _ _⟩)
    exact ⟨.ref h'.objs.size, _, I2, rfl, q _ (I1.hok.fresh (Nat.le_refl _))⟩
  · obtain ⟨its, r', pl, hz⟩ := I.tuple hq
    exact call_tuple_same pl ⟨.ref p, H, I, rfl, q⟩
def tyV (K : PySem.W.Frag) (T : String) (x : V) (H : Hp) : Prop := match x with
  | .str _ => T = "str"
  | .int _ => T = "int"
  | .ref p => (T = "list" ∧ ∃ xs, SqL K H p xs) ∨ (T = "tuple" ∧ ∃ o, K.lookup p = some o ∧ o.cls = .type "tuple" ∧ o.dict = none) ∨
      (T = "dict" ∧ ((∃ kvs, H p = some (.dK kvs)) ∨ ∃ kvs, H p = some (.dT kvs))) ∨ (T = "set" ∧ ∃ S n, H p = some (.set S n))
  | _ => False
theorem tyV_is {pins : List (Addr × Obj)} {σ : St} {H : Hp} {s : Shared} {T : String} {x : V} {v : Value} (I : Inv X pins σ H s) (r : RelV x v) (ty : tyV X.K T x H) :
    s.TypeIs v T ∧ ∀ a, v = .ref a → ∃ ob, s.heap.get? a = some ob ∧ ob.dict = none := by
  cases x with
  | str z =>
    obtain ⟨t, rfl⟩ := r
    cases (show T = "str" from ty)
    exact ⟨typeIs_str s z t, fun _ e => nomatch e⟩
  | int i =>
    obtain ⟨t, rfl⟩ := r
    cases (show T = "int" from ty)
    exact ⟨typeIs_int s i t, fun _ e => nomatch e⟩
  | ref p =>
    cases r
    rcases ty with ⟨rfl, xs, hq⟩ | ⟨rfl, o, hk, hc, hd⟩ | ⟨rfl, hk⟩ | ⟨rfl, S, n, hk⟩
    · obtain ⟨its, _, pl, _⟩ := I.list hq
      refine ⟨pl.isList.typeIs, fun a e => ?_⟩
      cases e
      obtain ⟨o, n, e, c, hd, _⟩ := pl
      exact ⟨o, e, hd⟩
    · refine ⟨⟨o, I.kIn p o hk, hc⟩, fun a e => ?_⟩
      cases e
      exact ⟨o, I.kIn _ o hk, hd⟩
    · have z : ∃ o, s.heap.get? p = some o ∧ o.ExactDict := by
        rcases hk with ⟨kvs, hk⟩ | ⟨kvs, hk⟩
        · obtain ⟨_, _, _, _, o, _, _, e, ex, _⟩ := I.hok p _ hk
          exact ⟨o, e, ex⟩
        · obtain ⟨_, _, _, _, o, _, _, e, ex, _⟩ := I.hok p _ hk
          exact ⟨o, e, ex⟩
      obtain ⟨o, e, ex⟩ := z
      refine ⟨⟨o, e, ex.1⟩, fun a e2 => ?_⟩
      cases e2
      exact ⟨o, e, ex.2.1⟩
    · obtain ⟨o, _, _, _, e, ex, _⟩ := I.hok p _ hk
      refine ⟨⟨o, e, ex.1⟩, fun a e2 => ?_⟩
      cases e2
      exact ⟨o, e, ex.2.1⟩
  | _ => exact False.elim ty
def tBM (K : PySem.W.Frag) (T : String) (r : V → List V → Hp → VK → Prop) (to : TE) (t : TA) : TE := fun σ H Q => to σ H fun x H1 => tyV K T x H1 ∧ t σ H1 fun xs H2 => r x xs H2 Q
variable {o e : Expr} {es : List Expr} {to : TE} {t : TA} {name : Str} {apos cpos : Pos} {T id : String} {r : V → List V → Hp → VK → Prop}
theorem pe_bm (pa : PlainAttrs T) (slot : Slot T name id) (hty : typeOf (.builtin id) = pure (.type "method_descriptor")) (hm : MtR X id r) (ho : PE X o to) (ha : PA X (e :: es) t)
    (hbase : attributeBase o name X.env (eval o X.env) = eval o X.env := by rfl)
    (hfew : ((backTo cpos (starEach (e :: es) X.env)).all (fun x => !x.1) && (backToKw cpos (keywordEach [] X.env)).all (fun x => x.1.isSome)
      && decide ((e :: es).length + ([] : List Keyword).length + (if ([] : List Keyword).isEmpty then 0 else 1) < 30)) = true := by rfl)
    (hline : (apos.endLine == cpos.line) = true := by rfl) (hs : starEach (e :: es) X.env = (false, eval e X.env) :: starEach es X.env := by rfl) (hplain : (backTo cpos (starEach es X.env)).any (·.1) = false := by rfl) :
    PE X (.Call (.Attribute o name apos) (e :: es) [] cpos) (tBM X.K T r to t) := by
  intro pins s σ H Q I h
  refine wpAny_Call_method_late hbase hfew hline rfl (thn (ho pins s σ H _ I h) fun v s1 ⟨x, H1, I1, r1, ty, q1⟩ => ?_)
  obtain ⟨h1, h2⟩ := tyV_is I1 r1 ty
  refine ⟨T, id, pa, slot, hty, h1, h2, ?_⟩
  have hA := ha cpos pins s1 σ H1 _ I1 q1
  rw [hs] at hA ⊢
  refine Calls.callWith_builtin (by show (false || (backTo cpos (starEach es X.env)).any (·.1)) = false; rw [hplain] <;> rfl) (Calls.evalArgs_plain ?_)
  exact thn hA fun us s2 ⟨vs, H2, I2, r2, q2⟩ => hm pins s2 σ H2 x vs v us Q I2 r1 r2 q2
/- xs.append(e), list.index on a module's tuple .. are MtR facts of 06m -/
end
end L2
namespace L2
open PySem PySem.Spec PyProof.Rows
def MtM (X : Cx) (id : String) (r : V → List V → Hp → VK → Prop) : Prop :=
  ∀ (pins : List (Addr × Obj)) (s : Shared) (σ : St) (H : Hp) (x : V) (xs : List V) (v : Value) (us : List Value) (Q : VK), Inv X pins σ H s → RelV x v → Vals xs us → r x xs H Q →
    wpAny (model X.prog X.w) X.A (call (.builtin id) (v :: us)) (EP X pins σ Q) X.xe s
theorem Vals.one : ∀ {x : V} {us : List Value}, Vals [x] us → ∃ u, us = [u] ∧ RelV x u
  | _, _, .cons r .nil => ⟨_, rfl, r⟩
theorem Vals.rep {xs : List V} {us : List Value} (h : Vals xs us) : ∀ k : Nat, Vals (List.replicate k xs).flatten (List.replicate k us).flatten
  | 0 => .nil
  | k + 1 => by
    rw [List.replicate_succ, List.replicate_succ, List.flatten_cons, List.flatten_cons]
    exact Vals.append h (Vals.rep h k)
theorem foldl_rep (its : List Value) : ∀ (k : Nat) (acc : List Value),
    List.foldl (fun x1 x2 => x1 ++ x2) acc.toArray (List.replicate k its.toArray) = (acc ++ (List.replicate k its).flatten).toArray
  | 0, acc => by simp
  | k + 1, acc => by
    have e : acc.toArray ++ its.toArray = (acc ++ its).toArray := by simp
    have e2 : (acc ++ its) ++ (List.replicate k its).flatten = acc ++ (List.replicate (k + 1) its).flatten := by
      rw [List.replicate_succ, List.flatten_cons, List.append_assoc]
    rw [← e2, ← foldl_rep its k (acc ++ its), ← e, List.replicate_succ, List.foldl_cons]
section
variable {X : Cx} {pins : List (Addr × Obj)} {σ : St} {H : Hp} {s : Shared} {l b : Addr} {xs ys zs : List V}
theorem Inv.lset {its its' : List Value} {n : Nat} {f : Array Value → Array Value} {t' : Nat} (I : Inv X pins σ H s) (hH : H l = some (.lst xs))
    (e : s.heap.get? l = some { cls := .type "list", data := .seq its.toArray n }) (hf : f its.toArray = its'.toArray) (hv : Vals ys its') (hz : ys.length ≤ sizeLine) :
    Inv X pins σ (upd H l (.lst ys)) { s with heap := s.heap.update l (Obj.mapSeq f), toks := t' } := by
  have q := PySem.IsL.update e f
  rw [hf] at q
  refine I.write (x := l) (e := l) (by rw [hH]; exact trivial) (.inl rfl) (fun b' u hb hu => (Heap.get?_update_other s.heap (Obj.mapSeq f) (Ne.symm hb)).trans hu) ⟨_, q⟩ ?_
  exact ⟨hz, its', _, hv, q⟩
theorem Inv.lnew {its : List Value} {t' : Nat} (I : Inv X pins σ H s) (hv : Vals ys its) (hz : ys.length ≤ sizeLine) :
    Inv X pins σ (upd H s.heap.objs.size (.lst ys)) { s with heap := s.heap.push { cls := .type "list", data := .seq its.toArray }, toks := t' } :=
  I.laid (fun _ _ q => Heap.get?_push_of_some _ q) (Nat.le_refl _) ⟨hz, its, 0, hv, Heap.get?_push_size _ rfl⟩
theorem Inv.fresh (I : Inv X pins σ H s) : H s.heap.objs.size = none := I.hok.fresh (Nat.le_refl _)
theorem Inv.lstM (I : Inv X pins σ H s) (hH : H l = some (.lst xs)) : xs.length ≤ sizeLine ∧ ∃ (its : List Value) (n : Nat), Vals xs its ∧ xs.length = its.length ∧ s.heap.get? l = some { cls := .type "list", data := .seq its.toArray n } := by
  obtain ⟨z, its, n, r, e⟩ := I.hok l _ hH
  exact ⟨z, its, n, r, r.length, e⟩
end
section
variable {X : Cx}
def rAppend : V → List V → Hp → VK → Prop := fun x vs H Q => ∃ l xs y, x = .ref l ∧ vs = [y] ∧ H l = some (.lst xs) ∧ xs.length < sizeLine ∧ Q .non (upd H l (.lst (xs ++ [y])))
theorem mt_append : MtM X "list.append" rAppend := by
  intro pins s σ H x vs v us Q I rx rv h
  obtain ⟨l, xs, y, rfl, rfl, hH, hz, q⟩ := h
  cases rx
  obtain ⟨u, rfl, ru⟩ := rv.one
  obtain ⟨z, its, n, r, hl, e⟩ := I.lstM hH
  refine call_meets F.slot_list_append ⟨_, e, rfl⟩ F.entry_list_append (F.args_list_append_2 _ _) (PySem.list_append l its.toArray n u (by rw [List.size_toArray]; omega)) ⟨e, ?_⟩
  refine ⟨.non, _, I.lset (its' := its ++ [u]) hH e (by simp) (r.append (.cons ru .nil)) ?_, rfl, q⟩
  rw [List.length_append, List.length_singleton]
  omega
def rCat : R2 := fun x y H Q => ∃ l b xs zs, x = .ref l ∧ y = .ref b ∧ H l = some (.lst xs) ∧ H b = some (.lst zs) ∧ xs.length + zs.length ≤ sizeLine ∧ ∀ p, H p = none → Q (.ref p) (upd H p (.lst (xs ++ zs)))
theorem op_cat : OpR X (binaryOp .Add) rCat := by
  intro pins s σ H x y v u Q I rx ry h
  obtain ⟨l, b, xs, zs, rfl, rfl, hH, hB, hz, q⟩ := h
  cases rx
  cases ry
  obtain ⟨z, its, n, r, hl, e⟩ := I.lstM hH
  obtain ⟨z2, its2, n2, r2, hl2, e2⟩ := I.lstM hB
  refine PySem.P.add_list e e2 ?_ (by rw [List.size_toArray, List.size_toArray]; omega)
  have ea : its.toArray ++ its2.toArray = (its ++ its2).toArray := by simp
  rw [ea]
  exact ⟨.ref _, _, I.lnew (t' := s.toks) (r.append r2) (by rw [List.length_append]; omega), rfl, q _ I.fresh⟩
theorem len_rep {α : Type} (xs : List α) (k : Nat) : (List.replicate k xs).flatten.length = k * xs.length := by
  induction k with
  | zero => simp
  | succ k ih => rw [List.replicate_succ, List.flatten_cons, List.length_append, ih, Nat.succ_mul, Nat.add_comm]
end
section
variable {prog : Program} {w : World} {A : Around} {E : Value → Shared → Prop} {s : Shared}
set_option maxRecDepth 100000 in
end
section
variable {X : Cx}
end
end L2
namespace Att
open PySem PySem.W PySem.Calls PyProof.Rows
theorem ints_of_wellAll {P : Params} {h : Heap} : ∀ (ns : List Int) (vs : List Value), WellAll P h vs (ns.map WData.int) → IntsAre vs ns := by
  intro ns
  induction ns with
  | nil =>
    intro vs w
    rw [List.map_nil] at w
    cases w
    exact .nil
  | cons n ns ih =>
    intro vs w
    rw [List.map_cons] at w
    cases w with
    | cons a b =>
      cases a
      exact .cons _ _ (ih _ b)
theorem script_of {l : OpenLaw} {n : Nat} (hn : l.most = some n) {P : Params} {h : Heap} {args : List WData} {vals : List Value}
    (hpre : l.row.toRowW.claim.pre args = true) (hwl : WellAll P h vals args) :
    ∃ a vs ns, vals = [Value.ref a] ∧ args = [WData.list (ns.map WData.int)] ∧ h.get? a = some { cls := .type "list", data := .seq vs.toArray } ∧ IntsAre vs ns ∧ ns.length ≤ n := by
  have hsh : WShape.hasAll [] args [.list .int] = true := (pre_splitW hpre).1
  have hc : l.pre.holds [] { args := args } = true := (pre_splitW hpre).2
  obtain ⟨d, r, rfl, h1, h2⟩ := hasAllW_cons hsh
  obtain rfl := hasAllW_nil h2
  obtain ⟨xs, rfl, h3⟩ := hasW_list h1
  obtain ⟨ns, rfl⟩ := items_int h3
  have hlen : ns.length ≤ n := by
    unfold OpenLaw.pre at hc
    have h4 : (WTm.not (.lt (.lit (.int (n : Int))) (.len (.arg 0)))).holds [] { args := [.list (ns.map .int)] } = true := by
      have h4 := (holds_andW hc).1
      rw [hn] at h4
      exact h4
    have h5 := condW_of h4 (w_not (w_lt w_lit (w_len_list (w_arg rfl))))
    rw [List.length_map] at h5
    refine Nat.le_of_not_lt fun q => ?_
    have q' : (n : Int) < ((ns.length : Nat) : Int) := by omega
    first
      | (rw [decide_eq_true q'] at h5; exact absurd h5 (by decide))
      | (simp at h5; omega)
  cases hwl with
  | cons w1 w2 =>
    cases w2
    cases w1 with
    | list ho hall => exact ⟨_, _, ns, rfl, rfl, ho, ints_of_wellAll ns _ hall, hlen⟩
theorem post_true (l : OpenLaw) (args : List WData) : l.row.toRowW.claim.post args (.bool true) args = true :=
  postW_of (r := l.row.toRowW) (X := (true == true))
    (show WShape.has [] (.bool true) .bool = true by first | rfl | decide | simp [WShape.has, WShape.arms, WShape.armsAll])
    (show (WTm.eq .res (.lit (.bool true))).value [] { args := args, res := some (.bool true), after := args } = some (.bool (true == true)) from w_eq_bool (w_res rfl) w_lit) rfl
theorem attach_call {l : OpenLaw} {n : Nat} {q : Program} {loose : List Str} {XP : (Str → Option Value) → Heap → Prop} {YP : World → Heap → Prop} {d : DefRec}
    (hn : l.most = some n) (hdf : d.params.defaults = [])
    (call : ∀ (w : World) (s₀ s₁ : Shared) (mg mb : Str → Option Value) (fa : Addr) (o : Obj) (pm cd doc : Value) (a : Addr) (vs : List Value) (ns : List Int),
      Ground q loose [] XP w s₀ mg mb s₁.heap → YP w s₁.heap →
      s₁.heap.get? fa = some o → o.data = .func (docDef d.name d.params d.body d.scope pm cd doc) → s₁.heap.CodeRec cd d.name → mg d.name = some (.ref fa) →
      s₁.heap.get? a = some { cls := .type "list", data := .seq vs.toArray } → IntsAre vs ns → ns.length ≤ n → s₁.gens = #[] →
      codeAny (model l.prog w) callerA (.call (.ref fa) ⟨[.ref a], []⟩) (fun r s' => r = .ok (.ret (.bool true)) ∧ OldK s₁.heap s'.heap ∧ s'.os = s₁.os ∧ AllBare s'.gens) s₁) :
    WalkO q loose XP YP l.row.toRowW d [] (fun f vs => PySem.call f vs) := by
  intro w s₀ s₁ mg mb G Y fa o pm cd doc dV kV ho hd hcd hD hmg hg args vals as hpre hlay hrd hwl hlo
  obtain rfl : dV = .none := Dflts.none hD hdf
  obtain rfl : kV = .none := Dflts.noKw hD
  obtain ⟨a, vs, ns, rfl, rfl, hobj, hints, hlen⟩ := script_of hn hpre hwl
  refine enter_call (codeAny_mono (call w s₀ s₁ mg mb fa o pm cd doc a vs ns G Y ho (fd_plain hd) hcd hmg hobj hints hlen hg) fun r s' hq => ?_)
  obtain ⟨rfl, h2, h3, h4⟩ := hq
  exact ⟨.inl ⟨.bool true, .bool true, [], rfl, fun _ => rfl, .bool true, post_true l _, fun _ => ⟨List.Pairwise.nil, fun _ hm => (nomatch hm)⟩⟩, h2, h3, h4⟩
section
variable {prog : Program} {w : World} {A : Around} {E : Value → Shared → Prop} {s : Shared} {K : Frag}
end
end Att
namespace L2
open PySem PySem.Spec PyProof.Rows
theorem vals_ints : ∀ {vs : List Value} {ns : List Int}, IntsAre vs ns → Vals (ns.map V.int) vs
  | _, _, .nil => .nil
  | _, _, .cons n t h => .cons ⟨t, rfl⟩ (vals_ints h)
def Only (H : Hp) : Prop := ∀ b, H b = none ∨ ∃ o xs, H b = some (.frz o (.lst xs))
theorem law_call {P : Program} {w : World} {K : PySem.W.Frag} {mg mb : Str → Option Value} {CX : CXT} {k : Nat} {fa a : Addr} {fd : FuncData} {x : Str} {sp : Sp} {s₁ : Shared} {vs : List Value} {ns : List Int}
    (KX : K.In s₁.heap) (hns : s₁.heap.Ns mainGlobals mg) (hb : s₁.heap.Ns builtinsNs mb) (hbb : ∀ x : Str, x ≠ "__name__" → mb x = bootBuiltins x) (hlim : s₁.heap.NoLimit) (hg : s₁.gens = #[])
    (ha : s₁.heap.get? a = some { cls := .type "list", data := .seq vs.toArray }) (hi : IntsAre vs ns) (hl : ns.length ≤ sizeLine) (hr : Room k callerA)
    (F : ∀ base : Heap, K.In base → base.Ns mainGlobals mg → FnOk P w K mg base CX k fa fd [x] sp) (hbind : ∀ (s : Shared) (u : Value), BindsTo s fd ⟨[u], []⟩ [(x, u)])
    (hsp : ∀ H : Hp, Only H → SqL K H a (ns.map V.int) → sp [.ref a] H (fun v _ => v = .bl true) fun _ _ _ => False)
    (hCX : ∀ H e s', CX [] H s₁ (fun _ _ _ => False) e s' → False) :
    codeAny (model P w) callerA (.call (.ref fa) ⟨[.ref a], []⟩) (fun r s' => r = .ok (.ret (.bool true)) ∧ OldK s₁.heap s'.heap ∧ s'.os = s₁.os ∧ AllBare s'.gens) s₁ := by
  have rv := vals_ints hi
  have lenV := hi.length
  have core : ∀ H : Hp, Only H → SqL K H a (ns.map V.int) → HOk P w H s₁.heap → (∀ b, H b ≠ none → b = a) → (H a ≠ none → K.lookup a = none) →
      codeAny (model P w) callerA (.call (.ref fa) ⟨[.ref a], []⟩) (fun r s' => r = .ok (.ret (.bool true)) ∧ OldK s₁.heap s'.heap ∧ s'.os = s₁.os ∧ AllBare s'.gens) s₁ := by
    intro H hO hS hok hA hK
    have base_of : ∀ {b : Addr} {o : Obj}, s₁.heap.get? b = some o → H b = none → (hidT s₁.heap H).get? b = some o := fun e n => hidT_get e n
    have noA : ∀ {b : Addr} {o : Obj} {es : Array DictEntry} {ep : Nat}, s₁.heap.get? b = some o → o.data = .dict es ep → H b = none := fun {b o es ep} e d => by
      cases q : H b with
      | none => rfl
      | some u =>
        have e' : b = a := hA b (by rw [q]; simp)
        subst e'
        rw [ha] at e; cases e
        have d' : Data.seq vs.toArray _ = Data.dict es ep := d
        cases d'
    have nsK : ∀ {b : Addr} {m : Str → Option Value}, s₁.heap.Ns b m → (hidT s₁.heap H).Ns b m := fun {b m} ⟨o, es, ep, e, d, r⟩ => ⟨o, es, ep, base_of e (noA e d), d, r⟩
    have hKb : K.In (hidT s₁.heap H) := fun b o e => base_of (KX b o e) (by
      cases q : H b with
      | none => rfl
      | some u =>
        have e' : b = a := hA b (by rw [q]; simp)
        subst e'
        rw [hK (by rw [q]; simp)] at e; cases e)
    have hM : Mod K mg (hidT s₁.heap H) := ⟨hKb, nsK hns, ⟨mb, nsK hb, hbb⟩, let ⟨mc, h1, h2⟩ := hlim; ⟨mc, nsK h1, h2⟩⟩
    have e0 : Env0 P w K mg (hidT s₁.heap H) callerA [] s₁ H := ⟨rfl, hM, fun b o e => of_hidT e, Nat.le_of_eq (hidT_size _ _), trivial, fun b hb => absurd (show b ∈ ([] : List Addr) from hb) (by simp), hok, .of_eq hg⟩
    refine codeAny_mono ((F _ hKb (nsK hns)).run callerA [] s₁ H ⟨[.ref a], []⟩ [.ref a] [.ref a] _ _ hr e0 (hbind s₁ (.ref a)) (.cons rfl .nil) (hsp H hO hS)) fun r s' h => ?_
    cases r with
    | error e => exact (hCX H e s' h).elim
    | ok fl =>
      cases fl with
      | next => exact False.elim h
      | brk => exact False.elim h
      | cont => exact False.elim h
      | ret u =>
        obtain ⟨v, H', os, bare, un, hok', r', q⟩ := h
        have q' : v = .bl true := q
        subst q'
        obtain rfl : u = Value.bool true := r'
        refine ⟨rfl, OldK.of_keep fun b o e => ?_, os, bare⟩
        cases q : H b with
        | none => exact un.keep b o e q (by intro z; exact absurd (show b ∈ ([] : List Addr) from z) (by simp)) (by simp)
        | some u =>
          rcases hO b with z | ⟨ob, xs, z⟩
          · rw [q] at z; cases z
          · have z2 := un.frzs b ob _ z
            obtain ⟨e1, _⟩ := hok b _ z
            obtain ⟨e2, _⟩ := hok' b _ z2
            rw [e] at e1; cases e1
            exact e2
  cases hk : K.lookup a with
  | some o =>
    have e := KX a o hk
    rw [ha] at e
    cases e
    refine core (fun _ => none) (fun _ => .inl rfl) (.inr ⟨_, vs.toArray, _, hk, rfl, rfl, rfl, by rw [List.size_toArray, lenV]; exact hl, by simpa using rv⟩) (fun b u z => by have z' : (none : Option HO) = some u := z; cases z') (fun b z => absurd rfl z) fun z => absurd rfl z
  | none =>
    refine core (fun b => if b = a then some (.frz { cls := .type "list", data := .seq vs.toArray } (.lst (ns.map V.int))) else none) (fun b => ?_) (.inl (.inr ⟨{ cls := .type "list", data := .seq vs.toArray }, if_pos rfl⟩)) (fun b u z => ?_) (fun b z => ?_) fun _ => hk
    · by_cases hb : b = a
      · exact .inr ⟨_, _, if_pos hb⟩
      · exact .inl (if_neg hb)
    · by_cases hb : b = a
      · have z' := (if_pos hb).symm.trans z
        cases z'
        subst hb
        exact ⟨ha, by rw [List.length_map]; exact hl, vs, _, rv, ha⟩
      · have z' := (if_neg hb).symm.trans z
        cases z'
    · by_cases hb : b = a
      · exact hb
      · exact absurd (if_neg hb) z
end L2
namespace L2
open PySem PySem.Spec PyProof.Rows
theorem walk_of {l : PySem.W.OpenLaw} {n k : Nat} {q : Program} {loose : List Str} {XP : (Str → Option Value) → Heap → Prop} {YP : World → Heap → Prop} {d : DefRec} {K : Params → PySem.W.Frag} {CX : World → CXT} {sp : World → Sp} {x : Str}
    (hn : l.most = some n) (hn2 : n ≤ sizeLine) (hdf : d.params.defaults = []) (hr : Room k callerA)
    (hY : ∀ (w : World) (h : Heap), YP w h → (K w.params).In h)
    (F : ∀ (w : World) (mg : Str → Option Value) (fa : Addr) (h : Heap), (K w.params).In h → h.Ns mainGlobals mg → mg d.name = some (.ref fa) →
      ∃ fd : FuncData, (∀ (s : Shared) (u : Value), BindsTo s fd ⟨[u], []⟩ [(x, u)]) ∧
        ∀ base : Heap, (K w.params).In base → base.Ns mainGlobals mg → FnOk l.prog w (K w.params) mg base (CX w) k fa fd [x] (sp w))
    (hsp : ∀ (w : World) (H : Hp) (a : Addr) (ns : List Int), ns.length ≤ n → Only H → SqL (K w.params) H a (ns.map V.int) → sp w [.ref a] H (fun v _ => v = .bl true) fun _ _ _ => False)
    (hCX : ∀ (w : World) (H : Hp) (s : Shared) (e : Value) (s' : Shared), CX w [] H s (fun _ _ _ => False) e s' → False) :
    PySem.W.WalkO q loose XP YP l.row.toRowW d [] (fun f vs => PySem.call f vs) := by
  refine Att.attach_call hn hdf fun w s₀ s₁ mg mb fa o pm cd doc a vs ns G Y ho hd hcd hmg hobj hints hlen hg => ?_
  have KX := hY w _ Y
  obtain ⟨fd, hb, hF⟩ := F w mg fa _ KX G.T.g hmg
  exact law_call KX G.T.g G.T.b G.T.builtins G.T.nolimit hg hobj hints (Nat.le_trans hlen hn2) hr hF hb (fun H hO hS => hsp w H a ns hlen hO hS) fun H e s' => hCX w H s₁ e s'
end L2
/- THE LAST THEOREM (shape; LID, My.* are yours):
   My.Adr: a structure of the addresses that your layer names (classes, functions); My.Txt K t: a structure (Prop) of the equations over K;
   My.txt_mk : {K} {implicit addresses ..} (e1 : nsIn K mainGlobals "law" = some (some (.ref f))) (e2 : K.lookup f = some ⟨oc, od, .func (fnOf "law" "law" params body scope dV kV doc pm an cdv ct), sl⟩) (e3 : codeIn K cdv "law" = true) .. : ∃ t, My.Txt K t
set_option maxRecDepth 100000 in
set_option maxHeartbeats 0 in
theorem PySem.Challenge.cw_LID_holds : PySem.Challenge.rw_LID.Holds := by
  w_on; o_law; k_head; (case hw => w_witness2)
  k_fill
  refine L2.walk_of (l := PySem.Challenge.rw_LID) (n := 63) (k := 40) (x := "script") (CX := fun w => ..) (sp := fun _ => My.sp_law) rfl (by decide) rfl ⟨rfl, by decide, by decide⟩ (fun w h Y => PySem.W.kIn_of Y) ?F ?S ?C
  case F =>
    intro w mg fa h KX G hmg
    have T : ∃ t, My.Txt (L2.KOf KX) t := by
      dsimp only [L2.KOf]                          -- K must stand as «<heap const> w.params» for k_is
      refine' My.txt_mk ?e1 ?e2 ?e3 ..
      (case e1 => PySem.W.k_is)                    -- in the order: a name -> its address -> its object -> its parts
      (case e2 => PySem.W.k_is)
      ..
    obtain ⟨t, T⟩ := T
    have e0 := hmg.symm.trans (PySem.W.mg_of KX G T.law)
    cases e0                                       -- fa is the law's own address
    exact ⟨_, fun s u => .of_eq rfl, fun base kb nb => My.law_fn T kb nb⟩     -- if «.of_eq rfl» comes too early: refine' ⟨_, ?b, fun base kb nb => My.law_fn T kb nb⟩; exact fun s u => .of_eq rfl
  case S => exact fun w H a ns hl hO hS => ..
  case C => exact ..
(the tactic k_is has no namespace: write k_is) -/
namespace L2
open PySem PySem.Spec PyProof.Rows
def defArgs (s : Stmt) : Arguments := match s with
  | .FunctionDef _ a _ _ _ _ _ _ _ _ => a
  | _ => { posonlyargs := [], args := [], vararg := none, kwonlyargs := [], kw_defaults := [], kwarg := none, defaults := [] }
def defBody (s : Stmt) : List Stmt := match s with
  | .FunctionDef _ _ b _ _ _ _ _ _ _ => b
  | _ => []
def defScope (s : Stmt) : Scope := match s with
  | .FunctionDef _ _ _ _ _ _ sc _ _ _ => sc
  | _ => { kind := .function, names := [], isGenerator := false, isCoroutine := false }
abbrev CX0 : CXT := fun _ _ _ _ _ _ => False
abbrev E0 : XK := fun _ _ _ => False
theorem pass0 {X : Cx} : Passes CX0 X E0 := fun _ _ _ _ _ _ _ h => h.elim
structure Fun (K : PySem.W.Frag) (x qual : Str) (st : Stmt) (f : Addr) (fd : FuncData) : Prop where
  ex : ∃ (oc : Value) (od : Option Addr) (kV doc pm : Value) (an : Option Addr) (cdv ct : Value) (osl : Array (Option Value)),
    fd = PySem.W.fnOf x qual (defArgs st) (defBody st) (defScope st) .none kV doc pm an cdv ct ∧ K.lookup f = some ⟨oc, od, .func fd, osl⟩ ∧ PySem.W.codeIn K cdv qual = true
  kp : PySem.W.keepIn K (.ref f) = true
section
variable {P : Program} {w : World} {K : PySem.W.Frag} {mg : Str → Option Value} {base : Heap}
theorem Fun.ok {x qual : Str} {st : Stmt} {f : Addr} {fd : FuncData} {N ps : List Str} {k : Nat} {sp : Sp} (F : Fun K x qual st f fd) (S : FnScope N ps (defScope st)) (len : ∀ vs H Q E, sp vs H Q E → vs.length = ps.length)
    (hbody : ∀ (cdv : Value) (A : Around) (outer : List Env) (s : Shared) (H : Hp) (vs : List V) (Q : VK) (E : XK), Room k (A.deeper (envOfC qual (defScope st) s.heap.objs.size f cdv)) → sp vs H Q E →
      ∃ t, PSs (cxOf CX0 P w K mg base N qual (defScope st) f cdv A outer s H E).nox (defBody st) t ∧ t { nx := fun _ H' => Q .non H', rt := Q } (start N vs) H) : FnOk P w K mg base CX0 (k + 1) f fd ps sp := by
  obtain ⟨oc, od, kV, doc, pm, an, cdv, ct, osl, rfl, lk, hcd⟩ := F.ex
  refine fn_of lk hcd S len fun A outer s H vs Q E hr hsp => ?_
  obtain ⟨t, h, q⟩ := hbody cdv A outer s H vs Q E hr hsp
  exact ⟨t, h.nox, q⟩
theorem Fun.binds {x qual : Str} {st : Stmt} {f : Addr} {fd : FuncData} {ps : List Str} (F : Fun K x qual st f fd)
    (h : ∀ (kV doc pm : Value) (an : Option Addr) (cdv ct : Value) (us : List Value), us.length = ps.length → bindArgs (PySem.W.fnOf x qual (defArgs st) (defBody st) (defScope st) .none kV doc pm an cdv ct) ⟨us, []⟩ = pure (ps.zip us)) : Binds K fd ps [] := by
  obtain ⟨oc, od, kV, doc, pm, an, cdv, ct, osl, rfl, lk, hcd⟩ := F.ex
  exact .all (h kV doc pm an cdv ct)
theorem fun_mk {x qual : Str} {st : Stmt} {f : Addr} {oc : Value} {od an : Option Addr} {osl : Array (Option Value)} {kV doc pm cdv ct : Value} (l : K.lookup f = some ⟨oc, od, .func (PySem.W.fnOf x qual (defArgs st) (defBody st) (defScope st) .none kV doc pm an cdv ct), osl⟩)
    (c : PySem.W.codeIn K cdv qual = true) (k : PySem.W.keepIn K (.ref f) = true) : Fun K x qual st f (PySem.W.fnOf x qual (defArgs st) (defBody st) (defScope st) .none kV doc pm an cdv ct) := ⟨⟨oc, od, kV, doc, pm, an, cdv, ct, osl, rfl, l, c⟩, k⟩
end
theorem hu_of {A : Around} {k : Nat} (hr : Room k A) : A.units + 1 < cLine := Nat.lt_of_le_of_lt (Nat.add_le_add_left (by decide : 1 ≤ 64) _) hr.units
section
variable {X : Cx}
theorem pv (i : Nat) {x : Str} {pos : Pos} (hN : X.N[i]? = some x := by rfl) (hv : Vis X.env.scope x := by first | exact Or.inl rfl | exact Or.inr (Or.inl rfl) | exact Or.inr (Or.inr rfl)) (hd : (x == ("__debug__" : Str)) = false := by decide)
    (hcd : (x == ("__classdict__" : Str)) = false := by decide) : PE X (.Name x pos) (tVar i) := pe_var hN hv hd hcd
end
theorem iteF {A B : Prop} (h : B) : if false = true then A else B := by
  rw [if_neg Bool.false_ne_true]
  exact h
theorem iteT {A B : Prop} (h : A) : if true = true then A else B := by
  rw [if_pos rfl]
  exact h
def Same (H H' : Hp) : Prop := ∀ b o, H b = some o → H' b = some o
theorem Same.refl (H : Hp) : Same H H := fun _ _ h => h
theorem Same.trans {H H1 H2 : Hp} (a : Same H H1) (b : Same H1 H2) : Same H H2 := fun c o h => b c o (a c o h)
theorem Same.free {H H' : Hp} (e : Same H H') {l : Addr} (h : H' l = Option.none) : H l = Option.none := by
  cases q : H l with
  | none => rfl
  | some o =>
    rw [e l o q] at h
    cases h
end L2
end
section
set_option Elab.async false
set_option linter.all false
set_option maxRecDepth 100000
set_option maxHeartbeats 4000000
namespace L2
open PySem PySem.Spec PyProof.Rows
section
variable {prog : Program} {w : World} {A : Around} {R : Result → Shared → Prop} {s : Shared}
theorem compLoop_own {elt target iter : Expr} {ifs : List Expr} {scope : Scope} {pos : Pos} {it acc : Value} {env : Env} (I : Nat → Shared → Prop)
    (turn : ∀ n s, I n s → wpAny (model prog w) A (pyNext it) (fun r s₁ => match r with
      | none => R (.ok .next) s₁
      | some v => wpAny (model prog w) A (letOwnedTupleGo target it v) (fun _ s₁ => wpAny (model prog w) A (assign target env v) (fun _ s₂ =>
          wpAny (model prog w) A (forIn ifs true fun c r => if r = true then do let ok ← isTrue c env (eval c env); pure (ForInStep.yield ok) else pure (ForInStep.yield r)) (fun ok s₃ =>
            if ok = true then wpAny (model prog w) A (eval elt env) (fun x s₄ =>
              wpAny (model prog w) A (call (.builtin "list.append") [acc, x]) (fun _ s₅ => ∃ m, m < n ∧ I m s₅) (fun _ _ => False) s₄) (fun _ _ => False) s₃
            else ∃ m, m < n ∧ I m s₃) (fun _ _ => False) s₂) (fun _ _ => False) s₁) (fun _ _ => False) s₁) (fun _ _ => False) s)
    (n : Nat) (h : I n s) :
    codeAny (model prog w) A (.compLoop (.ListComp elt [⟨target, iter, ifs, 0⟩] scope pos) 0 it acc env) R s := by
  refine codeAny_loop rfl I (fun n s hI => ?_) n h
  show wpAny _ A ((compTurn (.ListComp elt [⟨target, iter, ifs, 0⟩] scope pos) 0 it acc env).onRaise (fun x => do noteFrame x env; theTreesLotGoes x)) _ _ s
  refine wpAny_noted ?_
  rw [compTurn_list]
  refine wpAny_bind (wpAny_standAt (wpAny_bind (wpAny_mono (turn n s hI) (fun r s₁ h₁ => ?_) fun _ _ h' => h'.elim)))
  cases r with
  | none => exact wpAny_pure h₁
  | some v =>
    refine wpAny_bind (wpAny_mono h₁ (fun _ s₁' h₁' => ?_) fun _ _ h' => h'.elim)
    refine wpAny_bind (wpAny_mono h₁' (fun _ s₂ h₂ => wpAny_bind (wpAny_mono h₂ (fun ok s₃ h₃ => ?_) fun _ _ h' => h'.elim)) fun _ _ h' => h'.elim)
    cases ok with
    | false => exact wpAny_pure ⟨rfl, h₃⟩
    | true =>
      exact wpAny_bind (wpAny_bind (wpAny_mono h₃ (fun x s₄ h₄ => wpAny_bind (wpAny_mono h₄ (fun _ s₅ h₅ => wpAny_pure (wpAny_pure ⟨rfl, h₅⟩)) fun _ _ h' => h'.elim)) fun _ _ h' => h'.elim))
end
theorem closure_go {env : Env} {f : Str × NameKind → List (Str × Addr) → Sem (ForInStep (List (Str × Addr)))}
    (hf : ∀ n k cs, f (n, k) cs = if (k == NameKind.free) = true then (do let c ← cellOf env n; pure (.yield ((n, c) :: cs))) else pure (.yield cs)) :
    ∀ (names : List (Str × NameKind)) (cs : List (Str × Addr)), (∀ x ∈ names, x.2 = NameKind.free → ∃ c, env.cells.lookup x.1 = some c) → (∀ n c, cs.lookup n = some c → env.cells.lookup n = some c) →
      ∃ cl, (forIn names cs f : Sem (List (Str × Addr))) = pure cl ∧ (∀ n c, cl.lookup n = some c → env.cells.lookup n = some c) ∧ (∀ n, (cs.lookup n).isSome = true → (cl.lookup n).isSome = true) ∧ ∀ x ∈ names, x.2 = NameKind.free → (cl.lookup x.1).isSome = true
  | [], cs, _, h2 => ⟨cs, rfl, h2, fun _ h => h, fun _ h => nomatch h⟩
  | (n, k) :: r, cs, h1, h2 => by
    have h1r : ∀ x ∈ r, x.2 = NameKind.free → ∃ c, env.cells.lookup x.1 = some c := fun x hx => h1 x (List.mem_cons_of_mem _ hx)
    rw [List.forIn_cons, hf]
    by_cases hk : k = NameKind.free
    · subst hk
      obtain ⟨c, hc⟩ := h1 (n, NameKind.free) List.mem_cons_self rfl
      have h2' : ∀ m d, ((n, c) :: cs).lookup m = some d → env.cells.lookup m = some d := fun m d hd => by
        rw [List.lookup_cons] at hd
        cases e : (m == n) with
        | true =>
          rw [e] at hd
          have : m = n := by simpa using e
          rw [this]; cases hd; exact hc
        | false => rw [e] at hd; exact h2 m d hd
      obtain ⟨cl, e1, e2, e3, e4⟩ := closure_go hf r ((n, c) :: cs) h1r h2'
      refine ⟨cl, ?_, e2, fun m hm => e3 m ?_, fun x hx hk => ?_⟩
      · rw [← e1]
        have ec : cellOf env n = pure c := by unfold cellOf; rw [hc]
        rw [ec]
        rfl
      · rw [List.lookup_cons]
        cases e : (m == n) with
        | true => rfl
        | false => exact hm
      · rcases List.mem_cons.mp hx with rfl | hx
        · exact e3 n (by rw [List.lookup_cons, beq_self_eq_true]; rfl)
        · exact e4 x hx hk
    · have hb : (k == NameKind.free) = false := by simpa using hk
      obtain ⟨cl, e1, e2, e3, e4⟩ := closure_go hf r cs h1r h2
      refine ⟨cl, ?_, e2, e3, fun x hx hk' => ?_⟩
      · rw [← e1, hb]
        rfl
      · rcases List.mem_cons.mp hx with rfl | hx
        · exact absurd hk' hk
        · exact e4 x hx hk'
theorem closure_of {scope : Scope} {env : Env} (h1 : ∀ x ∈ scope.names, x.2 = NameKind.free → ∃ c, env.cells.lookup x.1 = some c) :
    ∃ cl, closureFor scope env = pure cl ∧ (∀ n c, cl.lookup n = some c → env.cells.lookup n = some c) ∧ ∀ x ∈ scope.names, x.2 = NameKind.free → (cl.lookup x.1).isSome = true := by
  obtain ⟨cl, e1, e2, _, e4⟩ := closure_go (env := env) (f := fun (x : Str × NameKind) cs => if (x.2 == NameKind.free) = true then (do let c ← cellOf env x.1; pure (.yield ((x.1, c) :: cs))) else pure (.yield cs)) (fun _ _ _ => rfl) scope.names [] h1 (fun _ _ h => nomatch h)
  refine ⟨cl, Eq.trans (show closureFor scope env = ((forIn scope.names ([] : List (Str × Addr)) fun (x : Str × NameKind) cs => if (x.2 == NameKind.free) = true then (do let c ← cellOf env x.1; pure (.yield ((x.1, c) :: cs))) else pure (.yield cs)) >>= fun cs => pure cs) from rfl) ?_, e2, e4⟩
  rw [e1]
  all_goals rfl
theorem lookup_relabel {env : Env} {x : Str} : ∀ (names : List (Str × NameKind)),
    (names.map fun (n, k) => if (k == NameKind.free && env.scope.kind == .function && env.kindOf n == some .cell) then (n, NameKind.cell) else (n, k)).lookup x =
      (names.lookup x).map fun k => if (k == NameKind.free && env.scope.kind == .function && env.kindOf x == some .cell) then NameKind.cell else k
  | [] => rfl
  | (n, k) :: r => by
    have ih := lookup_relabel (env := env) (x := x) r
    show List.lookup x ((if (k == NameKind.free && env.scope.kind == .function && env.kindOf n == some .cell) = true then (n, NameKind.cell) else (n, k)) :: _) = _
    cases hx : x == n with
    | true =>
      have e : x = n := by simpa using hx
      subst e
      by_cases hc : (k == NameKind.free && env.scope.kind == .function && env.kindOf x == some .cell) = true
      · rw [if_pos hc]; simp only [List.lookup_cons, hx, Option.map_some, if_pos hc]
      · rw [if_neg hc]; simp only [List.lookup_cons, hx, Option.map_some, if_neg hc]
    | false =>
      by_cases hc : (k == NameKind.free && env.scope.kind == .function && env.kindOf n == some .cell) = true
      · rw [if_pos hc]; simp only [List.lookup_cons, hx]; exact ih
      · rw [if_neg hc]; simp only [List.lookup_cons, hx]; exact ih
theorem rel_free {scope : Scope} {env : Env} {x : Str} (hcell : ∀ y ∈ scope.names, y.2 ≠ NameKind.cell) (h : (relabel scope env).names.lookup x = some .cell ∨ (relabel scope env).names.lookup x = some .free) : scope.names.lookup x = some .free := by
  have e : (relabel scope env).names.lookup x = _ := lookup_relabel (env := env) (x := x) scope.names
  rw [e] at h
  cases q : scope.names.lookup x with
  | none => rw [q] at h; rcases h with h | h <;> cases h
  | some k =>
    rw [q] at h
    by_cases hk : k = NameKind.free
    · rw [hk]
    · have hb : (k == NameKind.free) = false := by simpa using hk
      simp only [Option.map_some, hb, Bool.false_and, Bool.false_eq_true, if_false] at h
      rcases h with h | h
      · cases h; exact absurd rfl (hcell _ (PySem.mem_of_lookup q))
      · exact h
theorem rel_any {scope : Scope} {env : Env} {x : Str} (h : (relabel scope env).names.lookup x ≠ none) : scope.names.lookup x ≠ none := by
  have e : (relabel scope env).names.lookup x = _ := lookup_relabel (env := env) (x := x) scope.names
  intro q
  rw [e, q] at h
  exact h rfl
structure CompOk (sc : Scope) (N : List Str) (scope : Scope) (NY : List Str) (js : List Nat) : Prop where
  kind : scope.kind = .function
  cell : ∀ y ∈ scope.names, y.2 ≠ NameKind.cell
  names : ∀ x ∈ scope.names, x.2 = NameKind.local → scope.names.lookup x.1 = some .local
  free : ∀ x ∈ scope.names, x.2 = NameKind.free → sc.names.lookup x.1 = some .cell ∨ sc.names.lookup x.1 = some .free
  pre : NY.take N.length = N
  cap : ∀ p ∈ N.zipIdx, js.contains p.2 = true ∨ scope.names.lookup p.1 = none ∨ scope.names.lookup p.1 = some .free
def emS (js : List Nat) (k : Nat) (σ : St) : St := js.foldl (fun s j => s.set j none) σ ++ List.replicate k none
theorem clear_len : ∀ (js : List Nat) (σ : St), (js.foldl (fun s j => s.set j none) σ).length = σ.length
  | [], _ => rfl
  | j :: r, σ => by rw [List.foldl_cons, clear_len r, List.length_set]
theorem clear_get : ∀ (js : List Nat) (σ : St) (i : Nat) (v : V), (js.foldl (fun s j => s.set j none) σ)[i]? = some (some v) → σ[i]? = some (some v) ∧ js.contains i = false
  | [], σ, i, v, h => ⟨h, rfl⟩
  | j :: r, σ, i, v, h => by
    rw [List.foldl_cons] at h
    obtain ⟨h1, h2⟩ := clear_get r _ i v h
    by_cases e : j = i
    · subst e
      by_cases hj : j < σ.length
      · rw [List.getElem?_set_self hj] at h1; cases h1
      · rw [List.getElem?_eq_none (by rw [List.length_set]; omega)] at h1; cases h1
    · rw [List.getElem?_set_ne e] at h1
      refine ⟨h1, ?_⟩
      rw [List.contains_cons, h2]
      have : (i == j) = false := by simpa using fun z => e z.symm
      rw [this]; rfl
theorem emS_get {js : List Nat} {k : Nat} {σ : St} {i : Nat} {v : V} (h : (emS js k σ)[i]? = some (some v)) : σ[i]? = some (some v) ∧ js.contains i = false := by
  unfold emS at h
  by_cases hi : i < σ.length
  · rw [List.getElem?_append_left (by rw [clear_len]; exact hi)] at h
    exact clear_get js σ i v h
  · rw [List.getElem?_append_right (by rw [clear_len]; omega), List.getElem?_replicate] at h
    split at h <;> cases h
theorem emS_len {js : List Nat} {k : Nat} {σ : St} : (emS js k σ).length = σ.length + k := by
  unfold emS
  rw [List.length_append, clear_len, List.length_replicate]
def cxComp (X : Cx) (NY : List Str) (scope : Scope) (cl : List (Str × Addr)) (C : Addr) (s₀ : Shared) (H₀ : Hp) (fp : List Addr) : Cx :=
  { X with N := NY, s₀ := s₀, H₀ := H₀, env := compEnvC scope cl C X.env, outer := X.stack, ex := fp, fn := fun _ => false, pn := [], xe := fun _ _ => False }
def PIfs (X : Cx) (ifs : List Expr) (t : TT) : Prop :=
  ∀ (pins : List (Addr × Obj)) (s : Shared) (σ : St) (H : Hp) (Q : Bool → Hp → Prop), Inv X pins σ H s → t σ H Q →
    wpAny (model X.prog X.w) X.A (forIn ifs true fun c r => if r = true then do let ok ← isTrue c X.env (eval c X.env); pure (ForInStep.yield ok) else pure (ForInStep.yield r)) (TP X pins σ Q) X.xe s
def tYes : TT := fun _ H Q => Q true H
theorem pif_nil {X : Cx} : PIfs X [] tYes := fun _ _ _ H _ I h => wpAny_tests_nil ⟨H, I, h⟩
def sApp (D : Addr) (tc : TT) (te : TE) : TS := fun E σ H => tc σ H fun b H1 => if b = true then te σ H1 fun y H2 => ∃ ys, H2 D = some (.lst ys) ∧ ys.length < sizeLine ∧ E.nx σ (upd H2 D (.lst (ys ++ [y]))) else E.nx σ H1
def tComp (js : List Nat) (k : Nat) (wi : TI) (g : TG) (tc : TT) (te : TE) : TE := fun σ H Q => wi σ H fun J H1 => ∀ D, H1 D = none →
  ∃ W : Nat → Nat → St → Hp → Prop, (∃ m, W 0 m (emS js k σ) (upd H1 D (.lst []))) ∧ ∀ i m σ H, W i m σ H →
    (J.stop i H ∧ Q (.ref D) H) ∨ (J.go i H ∧ ∃ N : St → Hp → Prop, (∀ σ' H', N σ' H' → ∃ m', m' < m ∧ W (i + 1) m' σ' H') ∧ ∀ x H', J.yld i H x H' → g x σ H' fun σ2 H2 => sApp D tc te { nx := N, rt := fun _ _ => False, ct := N, bk := fun _ H' => Q (.ref D) H' } σ2 H2)
section
variable {X : Cx} {pins : List (Addr × Obj)} {σ : St} {H2 : Hp} {s₂ : Shared} {N NY : List Str} {sc scope : Scope} {cl : List (Str × Addr)} {C : Addr} {fp : List Addr} {js : List Nat} {k : Nat}
theorem comp_ok (I2 : Inv X pins σ H2 s₂) (hf : ∀ b ∈ fp, FpOk X pins H2 b) (hfl : ∀ b ∈ fp, ∃ o, s₂.heap.get? b = some o) (hkind : scope.kind = .function) (hcell : ∀ y ∈ scope.names, y.2 ≠ NameKind.cell)
    (hcl1 : ∀ n c, cl.lookup n = some c → X.env.cells.lookup n = some c) (hcl2 : ∀ x ∈ scope.names, x.2 = NameKind.free → (cl.lookup x.1).isSome = true) (hC : s₂.heap.objs.size ≤ C) :
    (cxComp X NY scope cl C s₂ H2 fp).Ok where
  mod := I2.ok.mod
  kind := hkind
  glob := I2.ok.glob
  blt := I2.ok.blt
  above := hC
  inj := fun x y c h1 h2 => I2.ok.inj x y c (hcl1 x c h1) (hcl1 y c h2)
  has := fun x hx => by
    have e : scope.names.lookup x = some .free := rel_free (env := X.env) hcell hx
    exact Option.isSome_iff_exists.mp (hcl2 (x, .free) (PySem.mem_of_lookup e) rfl)
  cab := fun _ _ h _ => nomatch h
  hd := I2.ok.hd
  frames := I2.ok.frames
  stk := .inl rfl
  exf := fun b hb => by
    obtain ⟨o, ho⟩ := hfl b hb
    exact ⟨Nat.ne_of_lt (Nat.lt_of_lt_of_le (Heap.lt_size ho) hC), fun x c h => (hf b hb).2.2.2.2.1 x c (hcl1 x c h)⟩
  bs := I2.bs
  bsz := Nat.le_trans I2.ok.bsz I2.sz
  noex := fun b o e hb => by
    rcases (hf b hb).2.2.2.1 with z | z
    · exact I2.ok.noex b o e z
    · exact absurd (Nat.lt_of_lt_of_le (Heap.lt_size e) (Nat.le_trans I2.ok.bsz z)) (Nat.lt_irrefl _)
  exfs := fun b hb z => by
    rcases List.mem_cons.mp (I2.stkSub b z) with e | e
    · exact (hf b hb).2.1 e
    · exact (hf b hb).2.2.1 e
  funs := I2.stack
  frf := I2.stkFree
variable {elt iter target : Expr} {ifs : List Expr} {pos : Pos} {it : Addr} {tn : Nat → Heap → Prop} {J : It} {g : TG} {tc : TT} {te : TE} {Q : VK} {RR : Value → Addr → Result → Shared → Prop} {E : Value → Shared → Prop}
theorem comp_block (ok : CompOk sc N scope NY js) (hsc : X.env.scope = sc) (hN : X.N = N) (hk : NY.length = N.length + k) (hc : X.calm = true) (I2 : Inv X pins σ H2 s₂) (T : Turn X.prog X.w X.K target J fp it tn) (st2 : tn 0 s₂.heap) (f2 : ∀ b ∈ fp, FpOk X pins H2 b)
    (hcl1 : ∀ n c, cl.lookup n = some c → X.env.cells.lookup n = some c) (hcl2 : ∀ x ∈ scope.names, x.2 = NameKind.free → (cl.lookup x.1).isSome = true)
    (hg : ∀ cl C s₀ H₀ fp, PG (cxComp X NY scope cl C s₀ H₀ fp) target g) (hi : ∀ cl C s₀ H₀ fp, PIfs (cxComp X NY scope cl C s₀ H₀ fp) ifs tc) (he : ∀ cl C s₀ H₀ fp, PE (cxComp X NY scope cl C s₀ H₀ fp) elt te)
    (loop : ∀ D, H2 D = none →
      ∃ W : Nat → Nat → St → Hp → Prop, (∃ m, W 0 m (emS js k σ) (upd H2 D (.lst []))) ∧ ∀ i m σ H, W i m σ H →
        (J.stop i H ∧ Q (.ref D) H) ∨ (J.go i H ∧ ∃ N : St → Hp → Prop, (∀ σ' H', N σ' H' → ∃ m', m' < m ∧ W (i + 1) m' σ' H') ∧ ∀ x H', J.yld i H x H' → g x σ H' fun σ2 H2 => sApp D tc te { nx := N, rt := fun _ _ => False, ct := N, bk := fun _ H' => Q (.ref D) H' } σ2 H2))
    (hRR : ∀ D C H' s' m, s'.heap.Ns C m → Inv X pins σ H' s' → H' C = none → C ≠ X.env.locals → X.s₀.heap.objs.size ≤ C → (∀ x c, X.env.cells.lookup x = some c → c ≠ C) → (∀ p ∈ X.pn ++ pins, p.1 ≠ C) → D ≠ C → Q (.ref D) H' → RR (.ref D) C (.ok .next) s') :
    wpAny (model X.prog X.w) X.A (newList []) (fun acc s₃ => wpAny (model X.prog X.w) X.A (newFunctionEnv scope X.env.globals cl [] X.env.qual none .none (some X.env)) (fun cenv s₄ =>
      codeAny (model X.prog X.w) X.A (.compStart (.ListComp elt [⟨target, iter, ifs, 0⟩] scope pos) 0 (.ref it) acc { cenv with scope := relabel scope X.env }) (RR acc cenv.locals) s₄) E s₃) E s₂ := by
  refine wpAny_newObj_type (wpAny_newFunctionEnv ok.cell (by intro y hy; simp at hy) (fun h₁ hns₁ hsb₁ => ?_) ok.kind)
  dsimp only at hns₁ hsb₁ ⊢
  generalize hG : s₂.heap.push { cls := .type "list", dict := none, data := .seq ([] : List Value).toArray } = G at hns₁ hsb₁ ⊢
  have hC : G.objs.size = s₂.heap.objs.size + 1 := by rw [← hG, Heap.size_push]
  have hDC : s₂.heap.objs.size ≠ G.objs.size := by rw [hC]; exact Nat.ne_of_lt (Nat.lt_succ_self _)
  have hCle : s₂.heap.objs.size ≤ G.objs.size := by rw [hC]; exact Nat.le_succ _
  have below : ∀ b, b < s₂.heap.objs.size → b ≠ G.objs.size := fun b hb => by rw [hC]; exact Nat.ne_of_lt (Nat.lt_succ_of_lt hb)
  have old : ∀ b o, s₂.heap.get? b = some o → h₁.get? b = some o := fun b o e => hsb₁.extBut b o (below b (Heap.lt_size e)) (Heap.get?_push_of_some _ (hG ▸ Heap.get?_push_of_some _ e))
  have hacc : h₁.get? s₂.heap.objs.size = some { cls := .type "list", dict := none, data := .seq ([] : List Value).toArray } := hsb₁.extBut _ _ hDC (Heap.get?_push_of_some _ (hG ▸ Heap.get?_push_size _ rfl))
  have hfl : ∀ b ∈ fp, ∃ o, s₂.heap.get? b = some o := fun b hb => let ⟨o, ho, _⟩ := T.obj 0 _ st2 b hb; ⟨o, ho⟩
  have fD : H2 s₂.heap.objs.size = none := I2.hok.fresh (Nat.le_refl _)
  have fC : H2 G.objs.size = none := I2.hok.fresh hCle
  have I4 : Inv (cxComp X NY scope cl G.objs.size s₂ H2 fp) [] (emS js k σ) (upd H2 s₂.heap.objs.size (.lst [])) { s₂ with heap := h₁, toks := s₂.toks + ([] : List (Str × Value)).length } := by
    refine ⟨comp_ok I2 f2 hfl ok.kind ok.cell hcl1 hcl2 hCle, rfl, I2.bare, Un.laid old (Nat.le_refl _) fD, ⟨_, hns₁, fun i y v h1 h2 h3 => ?_⟩, fun x c h => ?_, ?_, fun x c h => ?_, fun p hp => absurd (show p ∈ ([] : List (Addr × Obj)) from hp) (by simp), I2.hok.laid old (Nat.le_refl _) ⟨Nat.zero_le _, [], 0, .nil, hacc⟩, ?_⟩
    · obtain ⟨e1, e2⟩ := emS_get h2
      have hi : i < N.length := by
        have := (List.getElem?_eq_some_iff.mp e1).1
        rw [I2.len, hN] at this; exact this
      have hy : N[i]? = some y := by
        rw [← ok.pre, List.getElem?_take_of_lt hi]; exact h1
      have hz : (y, i) ∈ N.zipIdx := by
        rw [List.mem_zipIdx_iff_getElem?]; exact hy
      have nn : scope.names.lookup y ≠ none := rel_any (env := X.env) (x := y) (by
        rcases h3 with z | z | z
        · intro q; rw [show (relabel scope X.env).names.lookup y = _ from z] at q; cases q
        · intro q; rw [show (relabel scope X.env).names.lookup y = _ from z] at q; cases q
        · intro q; rw [show (relabel scope X.env).names.lookup y = _ from z] at q; cases q)
      have hfr : scope.names.lookup y = some .free := by
        rcases ok.cap (y, i) hz with z | z | z
        · rw [e2] at z; cases z
        · exact absurd z nn
        · exact z
      have hX := ok.free (y, .free) (PySem.mem_of_lookup hfr) rfl
      rw [← hsc] at hX
      obtain ⟨m, hn, hl⟩ := I2.loc
      obtain ⟨u, ru, lk⟩ := hl i y v (by rw [hN]; exact hy) e1 (by
        rcases hX with z | z
        · exact .inr (.inl z)
        · exact .inr (.inr z))
      refine ⟨u, ru, ?_⟩
      rcases lk with ⟨lk, _⟩ | ⟨_, c, hc1, hc2⟩
      · have lk : X.env.scope.names.lookup y = some .local := lk
        rcases hX with z | z <;> · rw [z] at lk; cases lk
      · have hs := hcl2 (y, .free) (PySem.mem_of_lookup hfr) rfl
        obtain ⟨c', hc'⟩ := Option.isSome_iff_exists.mp hs
        have e3 := hcl1 y c' hc'
        rw [hc1] at e3; cases e3
        refine .inr ⟨?_, c, hc', hc2.keeps old⟩
        show (relabel scope X.env).names.lookup y = some .cell ∨ (relabel scope X.env).names.lookup y = some .free
        have e : (relabel scope X.env).names.lookup y = _ := lookup_relabel (env := X.env) (x := y) scope.names
        rw [e, hfr, Option.map_some]
        split
        · exact .inl rfl
        · exact .inr rfl
    · obtain ⟨v, q⟩ := I2.cell x c (hcl1 x c h)
      exact ⟨v, q.keeps old⟩
    · show upd H2 s₂.heap.objs.size (.lst []) G.objs.size = none
      rw [upd_ne (Ne.symm hDC)]; exact fC
    · have q := I2.freeC x c (hcl1 x c h)
      obtain ⟨v, o, ho, _⟩ := I2.cell x c (hcl1 x c h)
      show upd H2 s₂.heap.objs.size (.lst []) c = none
      rw [upd_ne (Nat.ne_of_lt (Heap.lt_size ho))]; exact q
    · show (emS js k σ).length = NY.length
      rw [emS_len, I2.len, hN, hk]
  have st4 : tn 0 h₁ := T.keep _ _ _ st2 fun b _ o e => old b o e
  obtain ⟨W, ⟨m0, w0⟩, turn⟩ := loop s₂.heap.objs.size fD
  have stat : ∀ {H' : Hp}, (∀ b ∈ fp, H' b = none) → ∀ b ∈ fp, FpOk (cxComp X NY scope cl G.objs.size s₂ H2 fp) [] H' b := fun hn b hb => by
    obtain ⟨o, ho⟩ := hfl b hb
    refine ⟨hn b hb, below b (Heap.lt_size ho), fun z => ?_, .inl hb, fun x c h => (f2 b hb).2.2.2.2.1 x c (hcl1 x c h), fun p hp => absurd (show p ∈ ([] : List (Addr × Obj)) from hp) (by simp)⟩
    rcases List.mem_cons.mp (I2.stkSub b z) with e | e
    · exact (f2 b hb).2.1 e
    · exact (f2 b hb).2.2.1 e
  have go : ∀ s₄ : Shared, s₄ = { s₂ with heap := h₁, toks := s₂.toks + ([] : List (Str × Value)).length } →
      codeAny (model X.prog X.w) X.A (.compLoop (.ListComp elt [⟨target, iter, ifs, 0⟩] scope pos) 0 (.ref it) (.ref s₂.heap.objs.size) (compEnvC scope cl G.objs.size X.env)) (RR (.ref s₂.heap.objs.size) G.objs.size) s₄ := by
    rintro s₄ rfl
    refine compLoop_own (fun n s' => ∃ i σ' H', Inv (cxComp X NY scope cl G.objs.size s₂ H2 fp) [] σ' H' s' ∧ tn i s'.heap ∧ (∀ b ∈ fp, H' b = none) ∧ W i n σ' H') ?_ m0
      ⟨0, _, _, I4, st4, fun b hb => by
        obtain ⟨o, ho⟩ := hfl b hb
        rw [upd_ne (Nat.ne_of_lt (Heap.lt_size ho))]; exact (f2 b hb).1, w0⟩
    rintro n s3 ⟨i, σ3, H3, I3, st3, fr3, w3⟩
    rcases turn i n σ3 H3 w3 with ⟨stop, qn⟩ | ⟨go, Nx, hNx, step⟩
    · refine thn (T.done (cxComp X NY scope cl G.objs.size s₂ H2 fp) rfl rfl rfl hc i [] s3 σ3 H3 _ I3 (stat fr3) st3 stop) fun r s5 ⟨hr, I5⟩ => ?_
      subst hr
      have IX : Inv X pins σ H3 s5 := I2.call' (ch := fp) I5.os I5.base I5.hok I5.bare fun b hb => ⟨(f2 b hb).2.2.2.1, (f2 b hb).2.1, (f2 b hb).2.2.2.2.1, (f2 b hb).2.2.2.2.2⟩
      obtain ⟨m, hm, _⟩ := I5.loc
      refine hRR _ _ H3 s5 m hm IX I5.free (fun z => ?_) (Nat.le_trans I2.sz hCle) (fun x c h z => ?_) (fun p hp z => ?_) hDC qn
      · have := I2.lt; rw [← z] at this; exact Nat.lt_irrefl _ (Nat.lt_of_lt_of_le this hCle)
      · obtain ⟨v, o, ho, _⟩ := I2.cell x c h
        have := Heap.lt_size ho; rw [z] at this; exact Nat.lt_irrefl _ (Nat.lt_of_lt_of_le this hCle)
      · have := Heap.lt_size (I2.pin p hp).1; rw [z] at this; exact Nat.lt_irrefl _ (Nat.lt_of_lt_of_le this hCle)
    · refine thn (T.item (cxComp X NY scope cl G.objs.size s₂ H2 fp) rfl rfl rfl hc i [] s3 σ3 H3 _ I3 (stat fr3) st3 go) fun r s5 ⟨u, hr, h5⟩ => ?_
      subst hr
      refine thn h5 fun _ s6 ⟨x, H6, I6, r6, y6, st6, fr6⟩ => ?_
      have I6' := I6.pinned (stat fr6) (T.obj _ _ st6)
      have again : ∀ {σ7 : St} {H7 : Hp} {s7 : Shared}, Inv (cxComp X NY scope cl G.objs.size s₂ H2 fp) ([] ++ pinsAt fp s6.heap) σ7 H7 s7 → Nx σ7 H7 → ∃ m, m < n ∧ ∃ i σ' H', Inv (cxComp X NY scope cl G.objs.size s₂ H2 fp) [] σ' H' s7 ∧ tn i s7.heap ∧ (∀ b ∈ fp, H' b = none) ∧ W i m σ' H' := fun {σ7 H7 s7} I7 n7 => by
        obtain ⟨m', hm, w7⟩ := hNx σ7 H7 n7
        refine ⟨m', hm, i + 1, σ7, H7, I7.unpinned, T.keep _ _ _ st6 fun b hb o e => (I7.pin (b, o) (List.mem_append_right _ (List.mem_append_right _ (mem_pinsAt hb e)))).1, fun b hb => ?_, w7⟩
        obtain ⟨o, e, d⟩ := T.obj _ _ st6 b hb
        exact (I7.pin (b, o) (List.mem_append_right _ (List.mem_append_right _ (mem_pinsAt hb e)))).2.1
      refine thn (hg cl G.objs.size s₂ H2 fp _ s6 σ3 H6 x u _ I6' r6 (step x H6 y6)) fun _ s7 ⟨σ7, H7, I7, q7⟩ => ?_
      refine thn (hi cl G.objs.size s₂ H2 fp _ s7 σ7 H7 _ I7 q7) fun ok s8 ⟨H8, I8, q8⟩ => ?_
      cases ok with
      | false =>
        rw [if_neg Bool.false_ne_true] at q8 ⊢
        exact again I8 q8
      | true =>
        rw [if_pos rfl] at q8 ⊢
        refine thn (he cl G.objs.size s₂ H2 fp _ s8 σ7 H8 _ I8 q8) fun y s9 ⟨z, H9, I9, r9, ys, hD, hz, n9⟩ => ?_
        refine thn (mt_append (X := cxComp X NY scope cl G.objs.size s₂ H2 fp) _ s9 σ7 H9 (.ref s₂.heap.objs.size) [z] (.ref s₂.heap.objs.size) [y] (fun _ H' => H' = upd H9 s₂.heap.objs.size (.lst (ys ++ [z]))) I9 rfl (.cons r9 .nil) ⟨_, ys, z, rfl, rfl, hD, hz, rfl⟩) fun _ s10 ⟨_, H10, I10, _, q10⟩ => ?_
        subst q10
        exact again I10 n9
  exact codeAny_compStart_list (go _ rfl) (T.self _ 0 _ _ _ st4 (go _ rfl))
theorem pe_comp {wi : TI} (ok : CompOk sc N scope NY js) (hsc : X.env.scope = sc) (hN : X.N = N) (hk : NY.length = N.length + k) (hc : X.calm = true) (hit : PI X target iter wi)
    (hg : ∀ cl C s₀ H₀ fp, PG (cxComp X NY scope cl C s₀ H₀ fp) target g) (hi : ∀ cl C s₀ H₀ fp, PIfs (cxComp X NY scope cl C s₀ H₀ fp) ifs tc) (he : ∀ cl C s₀ H₀ fp, PE (cxComp X NY scope cl C s₀ H₀ fp) elt te)
    (hs : ∀ x, foldedSetIterable iter X.env x = pure x := by intro _; rfl) : PE X (.ListComp elt [⟨target, iter, ifs, 0⟩] scope pos) (tComp js k wi g tc te) := by
  intro pins s σ H Q I h
  obtain ⟨cl, hclos, hcl1, hcl2⟩ := closure_of (scope := scope) (env := X.env) fun x hx hf => I.ok.has x.1 (by
    have := ok.free x hx hf
    rw [← hsc] at this
    exact this)
  rw [eval_ListComp]
  refine wpAny_comprehension_free (use := none) rfl hs hclos ok.kind ok.names (thn (hit pins s σ H _ I h) fun xv s₁ h₁ => thn h₁ fun itv s₂ h₂ => ?_)
  obtain ⟨it, fp, tn, J, H2, rfl, I2, T, st2, f2, loop⟩ := h₂
  refine comp_block (RR := fun acc C => compPost (model X.prog X.w) X.A X.xe none (EP X pins σ Q) acc C) (Q := Q) ok hsc hN hk hc I2 T st2 f2 hcl1 hcl2 hg hi he loop ?_
  intro D C H' s' m hm IX fC c1 c2 c3 c4 _ q
  exact ⟨m, hm, fun h' hs' => ⟨.ref D, H', IX.turned (t' := s'.toks) (fun b o hb e => (hs'.2 b hb).trans e) fC c1 (.inr c2) c3 c4, rfl, q⟩⟩
theorem ps_comp {wi : TI} {i : Nat} {y : Str} {py spos : Pos} (ok : CompOk sc N scope NY js) (hsc : X.env.scope = sc) (hN : X.N = N) (hk : NY.length = N.length + k) (hc : X.calm = true) (hit : PI X target iter wi)
    (hg : ∀ cl C s₀ H₀ fp, PG (cxComp X NY scope cl C s₀ H₀ fp) target g) (hi : ∀ cl C s₀ H₀ fp, PIfs (cxComp X NY scope cl C s₀ H₀ fp) ifs tc) (he : ∀ cl C s₀ H₀ fp, PE (cxComp X NY scope cl C s₀ H₀ fp) elt te)
    (nd : X.N.Nodup) (hy : X.N[i]? = some y) (hl : Loc X.env.scope y) (hsw : swapsWith (.ListComp elt [⟨target, iter, ifs, 0⟩] scope pos) (some (.Name y py)) spos.line X.env = pure true)
    (hs : ∀ x, foldedSetIterable iter X.env x = pure x := by intro _; rfl) (hf : X.fn y = true ∨ X.env.scope.names.lookup y = some .local := by first | exact .inl rfl | exact .inr rfl | assumption) :
    PS X (.Assign [.Name y py] (.ListComp elt [⟨target, iter, ifs, 0⟩] scope pos) spos) (tAsg (tComp js k wi g tc te) (gName i)) := by
  intro pins s σ H D I h
  obtain ⟨cl, hclos, hcl1, hcl2⟩ := closure_of (scope := scope) (env := X.env) fun x hx hf => I.ok.has x.1 (by
    have := ok.free x hx hf
    rw [← hsc] at this
    exact this)
  rw [exec_Assign_Name_used _ _ _ _ hsw]
  refine wpAny_bind (wpAny_standAt (wpAny_bind ?_))
  show wpAny _ X.A (do let _ ← comprehension (.ListComp elt [⟨target, iter, ifs, 0⟩] scope pos) scope X.env _ (newList []) false (eval iter X.env) (some (assign (.Name y py) X.env))) _ _ s
  refine wpAny_bind (wpAny_mono (wpAny_comprehension_free (use := some (assign (.Name y py) X.env)) (Q := fun _ s' => SP X pins D .next s') rfl hs hclos ok.kind ok.names
    (thn (hit pins s σ H _ I h) fun xv s₁ h₁ => thn h₁ fun itv s₂ h₂ => ?_)) (fun _ s' hq => wpAny_pure (wpAny_pure hq)) fun _ _ e => e)
  obtain ⟨it, fp, tn, J, H2, rfl, I2, T, st2, f2, loop⟩ := h₂
  refine comp_block (RR := fun acc C => compPost (model X.prog X.w) X.A X.xe (some (assign (.Name y py) X.env)) (fun _ s' => SP X pins D .next s') acc C) (Q := fun x H1 => gName i x σ H1 D.nx) ok hsc hN hk hc I2 T st2 f2 hcl1 hcl2 hg hi he loop ?_
  intro Da C H' s' m hm IX fC c1 c2 c3 c4 _ q
  show wpAny _ X.A (assign (.Name y py) X.env (.ref Da)) _ _ _
  refine wpAny_assign_Name (store_ok2 IX nd hy hl (v := .ref Da) rfl (fun s2 IY ⟨a, sb, ha⟩ => ?_) hf)
  have hne : C ≠ a := by
    rcases ha with rfl | ha
    · exact c1
    · exact fun z => c3 y a ha z.symm
  exact ⟨m, hm.sameBut sb hne, fun h' hs' => ⟨_, H', IY.turned (t' := s2.toks) (fun b o hb e => (hs'.2 b hb).trans e) fC c1 (.inr c2) c3 c4, q⟩⟩
end
end L2
end
section
set_option Elab.async false
set_option linter.all false
set_option maxRecDepth 100000
set_option maxHeartbeats 4000000
namespace L2
open PySem PySem.Spec PyProof.Rows
section
variable {X : Cx} {pins : List (Addr × Obj)} {σ : St} {H : Hp} {s : Shared} {h' : Heap}
theorem Inv.turnedL {t' : Nat} {ch : List Addr} (I : Inv X pins σ H s) (k : ∀ b o, b ∉ ch → s.heap.get? b = some o → h'.get? b = some o) (hf : ∀ b ∈ ch, FpOk X pins H b) :
    Inv X pins σ H { s with heap := h', toks := t' } := by
  have nit : ∀ b u, H b = some u → b ∉ ch := fun b u e z => by rw [(hf b z).1] at e; cases e
  refine I.step (g' := s.gens) (d' := s.drawn) (ch := ch) (fun b hb => ⟨(hf b hb).2.2.2.1, (hf b hb).2.1, (hf b hb).2.2.2.2.1, (hf b hb).2.2.2.2.2⟩) (fun b o _ _ hc e _ => k b o hc e) (fun b o _ _ hc e _ => ⟨o.slots, k b o hc e⟩) (fun _ _ _ _ n => n)
    (fun b o hc e => ⟨o, k b o hc e⟩) (fun _ _ e => e) (fun _ _ _ e => e) (fun b ps e => ⟨#[], by rw [e]; simp⟩) (fun m hm => ?_) (fun b u e => ?_) I.bare
  · obtain ⟨o, es, ep, ho, r⟩ := hm
    exact ⟨o, es, ep, k _ o (fun z => (hf _ z).2.1 rfl) ho, r⟩
  · refine (I.hok b u e).stay (fun c v hc q => k c v ?_ q) (fun _ q => q) fun _ _ q => q
    rcases hc with z | z
    · rw [z]; exact nit b u e
    · exact nit c _ z
theorem Inv.adopt {T : Addr} {o : HO} (I : Inv X pins σ H s) (hf : FpOk X pins H T) (new : ObjOk X.prog X.w (upd H T o) s.heap T o) : Inv X pins σ (upd H T o) s := by
  have nT : ∀ b u, H b = some u → b ≠ T := fun b u e z => by rw [z, hf.1] at e; cases e
  refine I.step (h' := s.heap) (H' := upd H T o) (g' := s.gens) (d' := s.drawn) (t' := s.toks) (ch := [T]) (fun b hb => ?_) (fun b _ _ _ _ e _ => e) (fun b ob _ _ _ e _ => ⟨ob.slots, e⟩) (fun b ob hb _ n => ?_)
    (fun b ob _ e => ⟨ob, e⟩) (fun b xs e => ?_) (fun b ob u e => ?_) (fun b ps e => ⟨#[], ?_⟩) (fun m hm => hm) (fun b u e => ?_) I.bare
  · have e : b = T := by simpa using hb
    subst e
    exact ⟨hf.2.2.2.1, hf.2.1, hf.2.2.2.2.1, hf.2.2.2.2.2⟩
  · rw [upd_ne (fun z => hb (by simp [z]))]; exact n
  · rw [upd_ne (nT b _ e)]; exact e
  · rw [upd_ne (nT b _ e)]; exact e
  · rw [upd_ne (nT b _ e), e]; simp
  · by_cases hb : b = T
    · subst hb; rw [upd_same] at e; cases e; exact new
    · rw [upd_ne hb] at e
      exact (I.hok b u e).stay (fun c v _ q => q) (fun c q => by rw [upd_ne (nT c _ q)]; exact q) fun c xs q => by rw [upd_ne (nT c _ q)]; exact q
end
theorem two_tup {X : Cx} {H : Hp} {h : Heap} {T : Addr} {x y : V} {u v : Value} {n : Nat} (e : h.get? T = some { cls := .type "tuple", data := .seq #[u, v] n }) (r1 : RelV x u) (r2 : RelV y v) : ObjOk X.prog X.w H h T (.tup [x, y]) :=
  ⟨show 2 ≤ sizeLine by decide, [u, v], .cons r1 (.cons r2 .nil), ⟨_, e, ⟨rfl, rfl⟩, _, rfl⟩⟩
section
variable {X : Cx} {elts : List Expr} {k : Nat} {tpos : Pos}
end
section
variable {X : Cx} {elts : List Expr} {k : Nat} {tpos : Pos}
end
end L2
namespace PySem
open Sem (wp)
open Builtin MeetsSeq MeetsSeq2 MeetsSeq3
theorem noFill_tuple_mul : fillsNumberSlot (.type "tuple") "mul" = pure false :=
  fillsNumberSlot_seq (id := "tuple.__mul__") (r := some (.builtin "tuple.__rmul__")) F.slot_tuple_mul.lookup (by decide +kernel) F.slot_tuple_rmul.lookup (by decide +kernel)
theorem repeat_tuple : seqRepeat? (.type "tuple") = pure (some (.builtin "tuple.__mul__")) := by
  unfold seqRepeat?
  rw [seqSlot_of (T := "tuple") (name := "__mul__") (id := "tuple.__mul__") F.slot_tuple_mul.lookup (by decide +kernel), seqSlot_of (T := "tuple") (name := "__rmul__") (id := "tuple.__rmul__") F.slot_tuple_rmul.lookup (by decide +kernel)]
  rfl
theorem int_rmul_tuple (a : Int) (t : Tok) (l : Addr) (items : Array Value) (n : Nat) (dd : Option Addr) (sl : Array (Option Value)) :
    Meets (Builtin.«int.__rmul__» ⟨[.int a t, .ref l], []⟩) (fun _ R s => s.heap.get? l = some { cls := .type "tuple", dict := dd, data := .seq items n, slots := sl } ∧ R (.ok (.ret Value.notImplemented)) s) :=
  .of_wp fun prog w A R s h => by obtain ⟨hp, g, d, tk, os⟩ := s; obtain ⟨hl, h⟩ := h; wp_walk; exact ⟨_, rfl, h⟩
theorem tuple_mul_many (l : Addr) (items : Array Value) (n : Nat) (dd : Option Addr) (sl : Array (Option Value)) (x : Int) (u : Tok) (hlo : -(2 ^ 63) ≤ x) (hhi : x < 2 ^ 63) (he : items.isEmpty = false) (h1 : ¬ x = 1) (hp : 0 < x) (hsz : items.size * x.toNat ≤ sizeLine) :
    Meets (Builtin.«tuple.__mul__» ⟨[.ref l, .int x u], []⟩) (fun _ R s => s.heap.get? l = some { cls := .type "tuple", dict := dd, data := .seq items n, slots := sl } ∧
      R (.ok (.ret (Value.ref s.heap.objs.size))) { s with heap := s.heap.push { cls := Value.type "tuple", data := Data.seq (List.foldl (fun x1 x2 => x1 ++ x2) #[] (List.replicate x.toNat items)) }, toks := s.toks }) :=
  .of_wp fun prog w A R s h => by
    obtain ⟨hp, g, d, tk, os⟩ := s; obtain ⟨hl, h⟩ := h
    have z1 : (decide (x < -(2 ^ 63)) || decide (x ≥ 2 ^ 63)) = false := by simp; omega
    have z2 : (items.isEmpty || x == 1) = false := by simp [he, h1]
    have z3 : (decide (x ≤ 0) || items.isEmpty) = false := by simp [he]; omega
    have ex : (items.size : Int) * x = ((items.size * x.toNat : Nat) : Int) := by
      rw [Int.natCast_mul]; congr 1; omega
    have z4 : ¬ ((items.size : Int) * x > (2 ^ 63 - 1) / 8) := by
      rw [ex]
      have : (sizeLine : Nat) ≤ (2 ^ 63 - 1) / 8 := by decide
      omega
    have z5 : Tuple.tupleTooMany ((items.size : Int) * x) = false := by
      unfold Tuple.tupleTooMany
      rw [ex]
      exact decide_eq_false (by omega)
    have z6 : (List.foldl (fun (x1 x2 : Array Value) => x1 ++ x2) #[] (List.replicate x.toNat items)).size ≤ sizeLine := by
      have e := AutoListH.size_joined items x.toNat #[]
      rw [e, Nat.mul_comm]
      simpa using hsz
    wp_walk
    refine wpAny_ite_false (by rw [z1]; rfl) ?_
    wp_walk using AutoSeq1.wpAny_loadPart' hl
    refine wpAny_ite_false (decide_eq_false z4) ?_
    wp_walk
    refine wpAny_ite_false (by rw [z5]; rfl) ?_
    wp_walk
    exact ⟨_, rfl, h⟩
theorem tuple_mul_one (l : Addr) (items : Array Value) (n : Nat) (dd : Option Addr) (sl : Array (Option Value)) (u : Tok) :
    Meets (Builtin.«tuple.__mul__» ⟨[.ref l, .int 1 u], []⟩) (fun _ R s => s.heap.get? l = some { cls := .type "tuple", dict := dd, data := .seq items n, slots := sl } ∧ R (.ok (.ret (Value.ref l))) s) :=
  .of_wp fun prog w A R s h => by
    obtain ⟨hp, g, d, tk, os⟩ := s; obtain ⟨hl, h⟩ := h
    have z2 : (items.isEmpty || (1 : Int) == 1) = true := by simp
    wp_walk using AutoSeq1.wpAny_loadPart' hl
    first | exact ⟨_, rfl, h⟩ | trace_state
theorem tuple_mul_none (l : Addr) (items : Array Value) (n : Nat) (dd : Option Addr) (sl : Array (Option Value)) (u : Tok) (he : items.isEmpty = false) :
    Meets (Builtin.«tuple.__mul__» ⟨[.ref l, .int 0 u], []⟩) (fun _ R s => s.heap.get? l = some { cls := .type "tuple", dict := dd, data := .seq items n, slots := sl } ∧
      R (.ok (.ret (Value.ref s.heap.objs.size))) { s with heap := s.heap.push { cls := Value.type "tuple", data := Data.seq #[] }, toks := s.toks }) :=
  .of_wp fun prog w A R s h => by
    obtain ⟨hp, g, d, tk, os⟩ := s; obtain ⟨hl, h⟩ := h
    have z2 : (items.isEmpty || (0 : Int) == 1) = false := by simp [he]
    have z3 : (decide ((0 : Int) ≤ 0) || items.isEmpty) = true := by simp
    wp_walk using AutoSeq1.wpAny_loadPart' hl
    first | exact ⟨_, rfl, h⟩ | trace_state
end PySem
namespace L2
open PySem PySem.Spec PyProof.Rows
section
variable {X : Cx}
def rRepT (K : PySem.W.Frag) : R2 := fun x y H Q => ∃ (l : Addr) (k : Nat) (xs : List V), x = .ref l ∧ y = .int (k : Nat) ∧ SqT K H l xs ∧ xs ≠ [] ∧ xs.length * k ≤ sizeLine ∧ (k = 1 → Q (.ref l) H) ∧
  (k ≠ 1 → ∀ p, H p = none → Q (.ref p) (upd H p (.tup (List.replicate k xs).flatten)))
theorem op_repT : OpR X (binaryOp .Mult) (rRepT X.K) := by
  intro pins s σ H x y v u Q I rx ry h
  obtain ⟨l, k, xs, rfl, rfl, hq, hne, hz, q1, q2⟩ := h
  cases rx
  obtain ⟨t, rfl⟩ := ry
  obtain ⟨its, r, ⟨⟨cls, dd, data, sl⟩, e, hc, n, hd⟩, hl⟩ := I.tuple hq
  simp only at hc hd
  subst hc hd
  have hlen := r.length
  have he : its.toArray.isEmpty = false := by
    cases its with
    | nil => simp at hlen; exact absurd hlen hne
    | cons a r' => rfl
  have hs : its.toArray.size * k ≤ sizeLine := by rw [List.size_toArray, ← hlen]; exact hz
  have road : wpAny (model X.prog X.w) X.A (call (.builtin "tuple.__mul__") [.ref l, .int (k : Nat) t]) (EP X pins σ Q) X.xe s → wpAny (model X.prog X.w) X.A (binaryOp .Mult (.ref l) (.int (k : Nat) t)) (EP X pins σ Q) X.xe s := fun hcall =>
    wpAny_binaryOp_repeat_ref (T := "tuple") (U := "int") (by decide) ⟨_, e, rfl⟩ (fun s' => typeIs_int s' k t) noFill_tuple_mul F.fills_int_mul F.slot_int_rmul repeat_tuple F.slot_int_index.lookup
      (call_meets F.slot_int_rmul (typeIs_int s k t) F.entry_int_rmul (F.args_int_rmul_2 _ _) (int_rmul_tuple k t l its.toArray n dd sl) ⟨e, rfl, ⟨_, e, rfl⟩, hcall⟩)
  refine road ?_
  by_cases h1 : k = 1
  · subst h1
    exact call_meets F.slot_tuple_mul ⟨_, e, rfl⟩ F.entry_tuple_mul (F.args_tuple_mul_2 _ _) (tuple_mul_one l its.toArray n dd sl t) ⟨e, ⟨.ref l, H, I, rfl, q1 rfl⟩⟩
  · have hn : H s.heap.objs.size = none := I.hok.fresh (Nat.le_refl _)
    by_cases h0 : k = 0
    · subst h0
      refine call_meets F.slot_tuple_mul ⟨_, e, rfl⟩ F.entry_tuple_mul (F.args_tuple_mul_2 _ _) (tuple_mul_none l its.toArray n dd sl t he) ⟨e, ⟨.ref s.heap.objs.size, _, ?_, rfl, q2 h1 _ hn⟩⟩
      exact I.laid (t' := s.toks) (fun b o e => Heap.get?_push_of_some _ e) (Nat.le_refl _) ⟨Nat.zero_le _, [], .nil, ⟨_, Heap.get?_push_size _ rfl, ⟨rfl, rfl⟩, _, rfl⟩⟩
    · have hk64 : (k : Int) < 2 ^ 63 := by
        have h3 : 1 ≤ its.toArray.size := by
          cases its with
          | nil => simp at he
          | cons a r' => simp
        have h4 : k ≤ its.toArray.size * k := Nat.le_mul_of_pos_left k h3
        have h5 : (sizeLine : Nat) < 2 ^ 63 := by decide
        omega
      refine call_meets F.slot_tuple_mul ⟨_, e, rfl⟩ F.entry_tuple_mul (F.args_tuple_mul_2 _ _) (tuple_mul_many l its.toArray n dd sl k t (by omega) hk64 he (by omega) (by omega) (by simpa using hs)) ⟨e, ?_⟩
      have f0 := foldl_rep its k []
      rw [List.nil_append] at f0
      have ek : ((k : Nat) : Int).toNat = k := by simp
      rw [ek, f0]
      refine ⟨.ref s.heap.objs.size, _, ?_, rfl, q2 h1 _ hn⟩
      refine I.laid (t' := s.toks) (fun b o e => Heap.get?_push_of_some _ e) (Nat.le_refl _) ⟨?_, (List.replicate k its).flatten, r.rep k, ⟨_, Heap.get?_push_size _ rfl, ⟨rfl, rfl⟩, _, rfl⟩⟩
      rw [len_rep, Nat.mul_comm]; exact hz
theorem call_divmodW : CallR X (.builtin "divmod") (fun xs H Q => ∃ i j, xs = [.int i, .int j] ∧ (0 < j ∧ j < 2 ^ 64) ∧ ∀ p, H p = none → Q (.ref p) (upd H p (.tup [.int (i / j), .int (i % j)]))) := by
  intro pins s σ H xs us Q I r h
  obtain ⟨i, j, rfl, ⟨h1, h2⟩, q⟩ := h
  obtain ⟨u, w', rfl, ⟨t, rfl⟩, ⟨t', rfl⟩⟩ := vals2 r
  have hb : j.natAbs.log2 < 9000 := by
    have h3 : j.natAbs.log2 < 64 := (Nat.log2_lt (by omega)).mpr (by omega)
    omega
  refine divmod_int (by omega) ?_ (.inl (PyProof.noPylong_of_log2 hb))
  rw [Int.fdiv_eq_ediv_of_nonneg i (by omega), Int.fmod_eq_emod_of_nonneg i (by omega)]
  have hn : H s.heap.objs.size = none := I.hok.fresh (Nat.le_refl _)
  refine ⟨.ref s.heap.objs.size, _, ?_, rfl, q _ hn⟩
  refine I.laid (fun b o e => Heap.get?_push_of_some _ e) (Nat.le_refl _) ⟨by simp only [List.length_cons, List.length_nil]; rw [sizeLine_eq]; decide, [.int (i / j) s.toks, .int (i % j) (s.toks + 1)], .cons ⟨_, rfl⟩ (.cons ⟨_, rfl⟩ .nil), ?_⟩
  exact ⟨_, Heap.get?_push_size s.heap rfl, ⟨rfl, rfl⟩, 0, rfl⟩
inductive IsiV (K : PySem.W.Frag) (H : Hp) : V → String → Bool → Prop where
  | int_int (i : Int) : IsiV K H (.int i) "int" true
  | int_bool (i : Int) : IsiV K H (.int i) "bool" false
  | int_tuple (i : Int) : IsiV K H (.int i) "tuple" false
  | str_tuple (x : Str) : IsiV K H (.str x) "tuple" false
  | tup_tuple {a : Addr} {xs : List V} (h : SqT K H a xs) : IsiV K H (.ref a) "tuple" true
  | lst_list {a : Addr} {xs : List V} (h : SqL K H a xs) : IsiV K H (.ref a) "list" true
  | str_str (x : Str) : IsiV K H (.str x) "str" true
  | bl_bool (b : Bool) : IsiV K H (.bl b) "bool" true
theorem call_isi : CallR X (.builtin "isinstance") (fun xs H Q => ∃ x T b, xs = [x, .ty T] ∧ IsiV X.K H x T b ∧ Q (.bl b) H) := by
  intro pins s σ H xs us Q I r h
  obtain ⟨x, T, b, rfl, hi, q⟩ := h
  obtain ⟨u, w', rfl, r1, r2⟩ := vals2 r
  cases r2
  cases hi with
  | int_int i => obtain ⟨t, rfl⟩ := r1; exact IsiPair.int_int ⟨.bl true, H, I, rfl, q⟩
  | int_bool i => obtain ⟨t, rfl⟩ := r1; exact IsiPair.int_bool ⟨.bl false, H, I.tok _, rfl, q⟩
  | int_tuple i => obtain ⟨t, rfl⟩ := r1; exact IsiPair.int_tuple ⟨.bl false, H, I.tok _, rfl, q⟩
  | str_tuple z => obtain ⟨t, rfl⟩ := r1; exact IsiPair.str_tuple ⟨.bl false, H, I.tok _, rfl, q⟩
  | tup_tuple hs =>
    cases r1
    obtain ⟨its, rv, ⟨o, e, hc, _⟩, hz⟩ := I.tuple hs
    exact IsiPair.tuple_tuple e hc ⟨.bl true, H, I, rfl, q⟩
  | lst_list hs =>
    cases r1
    obtain ⟨its, rv, pl, hz⟩ := I.list hs
    obtain ⟨o, e, hc, _⟩ := pl.isList
    exact IsiPair.list_list e hc ⟨.bl true, H, I, rfl, q⟩
  | str_str z => obtain ⟨t, rfl⟩ := r1; exact IsiPair.str_str ⟨.bl true, H, I, rfl, q⟩
  | bl_bool z => cases r1; exact IsiPair.bool_bool ⟨.bl true, H, I, rfl, q⟩
theorem all_ix (bs : List Bool) : (List.range bs.length).all (fun i => (bs[i]?).getD false) = bs.all id := by
  rw [Bool.eq_iff_iff, List.all_eq_true, List.all_eq_true]
  constructor
  · intro h b hb
    obtain ⟨i, hi, e⟩ := List.mem_iff_getElem.mp hb
    have := h i (List.mem_range.mpr hi)
    rw [List.getElem?_eq_getElem hi, Option.getD_some, e] at this
    exact this
  · intro h i hi
    have hi := List.mem_range.mp hi
    rw [List.getElem?_eq_getElem hi, Option.getD_some]
    exact h _ (List.getElem_mem hi)
theorem call_all_bl (hc : X.calm = true) : CallR X (.builtin "all") (fun xs H Q => ∃ (p : Addr) (bs : List Bool), xs = [.ref p] ∧ SqL X.K H p (bs.map V.bl) ∧ Q (.bl (bs.all id)) H) := by
  intro pins s σ H xs us Q I r h
  obtain ⟨p, bs, rfl, hq, q⟩ := h
  obtain ⟨u, rfl, rx⟩ := vals1 r
  cases rx
  obtain ⟨its, rv, pl, hz⟩ := I.list hq
  have hlen := rv.length
  rw [List.length_map] at hlen
  have hlt : p < s.heap.objs.size := by obtain ⟨o, e, _⟩ := pl.isList; exact Heap.lt_size e
  refine call_all_walk (wpAny_pyIter_list pl.isList ?_)
  refine ⟨_, _, _, _, _, _, fun i => (bs[i]?).getD false, rfl, Walks.list (A := X.A.in1) (show X.A.in1.handled = none from I.ok.hd hc) s.heap.objs.size p (Nat.ne_of_lt hlt) its.toArray, ⟨⟨_, Heap.get?_push_size _ rfl, rfl, rfl⟩, pl.isList.push _⟩, ?_, fun h' tk hk => ?_⟩
  · intro i v s' Q' E' hP hQ
    have hP' : its[i]? = some v := by
      have : its.toArray[i]? = some v := hP
      simpa using this
    have hi : i < bs.length := by rw [hlen]; exact (List.getElem?_eq_some_iff.mp hP').1
    obtain ⟨u, hu, ru⟩ := rv.get (i := i) (x := V.bl bs[i]) (by rw [List.getElem?_map, List.getElem?_eq_getElem hi]; rfl)
    rw [hP'] at hu
    cases hu
    cases ru
    have hQ' : Q' ((bs[i]?).getD false) s' := hQ
    rw [List.getElem?_eq_getElem hi, Option.getD_some] at hQ'
    exact wpAny_truthy_bool hQ'
  · have e : its.toArray.size = bs.length := by rw [List.size_toArray, hlen]
    rw [e, all_ix]
    refine ⟨.bl _, H, ?_, rfl, q⟩
    refine I.kept (t' := tk) fun b o eb => ?_
    refine hk b o (fun z => ?_) (Heap.get?_push_of_some _ eb)
    have e2 : b = s.heap.objs.size := by simpa using z
    have h2 := Heap.lt_size eb
    rw [e2] at h2
    exact Nat.lt_irrefl _ h2
end
section
variable {X : Cx}
theorem strs_are : ∀ {ys : List Str} {us : List Value}, Vals (ys.map V.str) us → StrsAre us ys
  | [], _, r => by cases r; exact .nil
  | y :: ys, _, r => by
    cases r with
    | cons r rr =>
      obtain ⟨t, rfl⟩ := r
      exact .cons _ _ (strs_are rr)
def rJoin (K : PySem.W.Frag) : V → List V → Hp → VK → Prop := fun x vs H Q => ∃ (sep : Str) (p : Addr) (ys : List Str), x = .str sep ∧ vs = [.ref p] ∧ SqL K H p (ys.map V.str) ∧ (ys.map (·.length)).sum + ys.length * sep.length ≤ 16777216 ∧ Q (.str (Txt.join sep ys)) H
theorem mt_join : MtR X "str.join" (rJoin X.K) := by
  intro pins s σ H x vs v us Q I rx rv h
  obtain ⟨sep, p, ys, rfl, rfl, hq, hz, q⟩ := h
  obtain ⟨t, rfl⟩ := rx
  obtain ⟨u, rfl, ru⟩ := rv.one
  cases ru
  obtain ⟨its, r, pl, _⟩ := I.list hq
  exact join_list pl.isList (by simpa using strs_are r) hz fun t' k => ⟨.str _, H, I.tok k, ⟨t', rfl⟩, q⟩
end
section
variable {X : Cx}
def eqVs (xs ys : List V) : Bool := (List.range (min xs.length ys.length)).all (fun j => eqV ((xs[j]?).getD .non) ((ys[j]?).getD .non)) && xs.length == ys.length
def rEqT (K : PySem.W.Frag) (neg : Bool) : R2 := fun x y H Q => ∃ p q xs ys, x = .ref p ∧ y = .ref q ∧ SqT K H p xs ∧ SqT K H q ys ∧ xs.all flatV = true ∧ ys.all flatV = true ∧ Q (.bl (if neg then !eqVs xs ys else eqVs xs ys)) H
theorem at_eq {A : Around} {s : Shared} {xs ys : List V} {us vs : List Value} (r1 : Vals xs us) (r2 : Vals ys vs) (f1 : xs.all flatV = true) (f2 : ys.all flatV = true) :
    ∀ j (h1 : j < us.toArray.size) (h2 : j < vs.toArray.size), SeqAt.EqAt A s us.toArray[j] vs.toArray[j] (eqV ((xs[j]?).getD .non) ((ys[j]?).getD .non)) := by
  intro j h1 h2
  have l1 := r1.length
  have l2 := r2.length
  rw [List.size_toArray] at h1 h2
  have j1 : j < xs.length := by omega
  have j2 : j < ys.length := by omega
  obtain ⟨u, hu, ru⟩ := r1.get (List.getElem?_eq_getElem j1)
  obtain ⟨v, hv, rv⟩ := r2.get (List.getElem?_eq_getElem j2)
  have eu : us.toArray[j] = u := by
    have := List.getElem?_eq_getElem h1
    rw [hu] at this
    simpa using (Option.some.inj this).symm
  have ev : vs.toArray[j] = v := by
    have := List.getElem?_eq_getElem h2
    rw [hv] at this
    simpa using (Option.some.inj this).symm
  rw [eu, ev, List.getElem?_eq_getElem j1, List.getElem?_eq_getElem j2, Option.getD_some, Option.getD_some]
  exact eqAt_V ru rv (List.all_eq_true.mp f1 _ (List.getElem_mem j1)) (List.all_eq_true.mp f2 _ (List.getElem_mem j2))
theorem op_eqT (hu : X.A.units < cLine) : OpR X (compareOp .Eq) (rEqT X.K false) := by
  intro pins s σ H x y v u Q I rx ry h
  obtain ⟨p, q, xs, ys, rfl, rfl, h1, h2, f1, f2, qq⟩ := h
  cases rx
  cases ry
  obtain ⟨us, r1, t1, _⟩ := I.tuple h1
  obtain ⟨vs, r2, t2, _⟩ := I.tuple h2
  refine SeqAt.eq_tupleAt (show s.heap.IsTuple p us.toArray from t1) (show s.heap.IsTuple q vs.toArray from t2) hu (at_eq r1 r2 f1 f2) ⟨.bl (eqVs xs ys), H, I, ?_, qq⟩
  show Value.bool _ = Value.bool _
  unfold eqVs
  rw [List.size_toArray, List.size_toArray, r1.length, r2.length]
def rEqTS (K : PySem.W.Frag) : R2 := fun x y H Q => ∃ p xs z, x = .ref p ∧ y = .str z ∧ SqT K H p xs ∧ Q (.bl false) H
theorem op_eqTS (hu : X.A.units < cLine) : OpR X (compareOp .Eq) (rEqTS X.K) := by
  intro pins s σ H x y v u Q I rx ry h
  obtain ⟨p, xs, z, rfl, rfl, h1, qq⟩ := h
  cases rx
  obtain ⟨t, rfl⟩ := ry
  obtain ⟨us, r1, t1, _⟩ := I.tuple h1
  exact SeqAt.RcAt.tuple_str z t (show s.heap.IsTuple p us.toArray from t1) hu X.prog X.w X.xe _ ⟨.bl false, H, I, rfl, qq⟩
theorem op_neT (hu : X.A.units < cLine) : OpR X (compareOp .NotEq) (rEqT X.K true) := by
  intro pins s σ H x y v u Q I rx ry h
  obtain ⟨p, q, xs, ys, rfl, rfl, h1, h2, f1, f2, qq⟩ := h
  cases rx
  cases ry
  obtain ⟨us, r1, t1, _⟩ := I.tuple h1
  obtain ⟨vs, r2, t2, _⟩ := I.tuple h2
  refine SeqAt.RcNeAt.tuples (show s.heap.IsTuple p us.toArray from t1) (show s.heap.IsTuple q vs.toArray from t2) hu (at_eq r1 r2 f1 f2) X.prog X.w X.xe _ ⟨.bl (!eqVs xs ys), H, I, ?_, qq⟩
  show Value.bool _ = Value.bool _
  unfold eqVs
  rw [List.size_toArray, List.size_toArray, r1.length, r2.length]
end
section
variable {X : Cx}
def rEqL (K : PySem.W.Frag) (neg : Bool) : R2 := fun x y H Q => ∃ p q xs ys, x = .ref p ∧ y = .ref q ∧ SqL K H p xs ∧ SqL K H q ys ∧ xs.all flatV = true ∧ ys.all flatV = true ∧ Q (.bl (if neg then !eqVs xs ys else eqVs xs ys)) H
theorem eqVs_len {xs ys : List V} (h : xs.length = ys.length) : eqVs xs ys = (List.range xs.length).all (fun j => eqV ((xs[j]?).getD .non) ((ys[j]?).getD .non)) := by
  unfold eqVs; rw [← h, Nat.min_self]; simp
theorem eqVs_ne {xs ys : List V} (h : ¬ xs.length = ys.length) : eqVs xs ys = false := by
  unfold eqVs; rw [Bool.and_eq_false_iff]; right; simpa using h
theorem op_eqL (hu : X.A.units < cLine) : OpR X (compareOp .Eq) (rEqL X.K false) := by
  intro pins s σ H x y v u Q I rx ry h
  obtain ⟨p, q, xs, ys, rfl, rfl, h1, h2, f1, f2, qq⟩ := h
  cases rx
  cases ry
  obtain ⟨us, r1, t1, _⟩ := I.list h1
  obtain ⟨vs, r2, t2, _⟩ := I.list h2
  have l1 := r1.length
  have l2 := r2.length
  by_cases c : xs.length = ys.length
  · refine SeqAt.eq_listAt t1.isList t2.isList (by rw [List.size_toArray, List.size_toArray]; omega) hu (at_eq r1 r2 f1 f2) ⟨.bl (eqVs xs ys), H, I, ?_, qq⟩
    show Value.bool _ = Value.bool _
    rw [eqVs_len c, List.size_toArray, l1]
  · refine SeqAt.eq_list_lengthsAt t1.isList t2.isList (by rw [List.size_toArray, List.size_toArray]; simp; omega) hu ⟨.bl (eqVs xs ys), H, I, ?_, qq⟩
    show Value.bool _ = Value.bool _
    rw [eqVs_ne c]
theorem op_neL (hu : X.A.units < cLine) : OpR X (compareOp .NotEq) (rEqL X.K true) := by
  intro pins s σ H x y v u Q I rx ry h
  obtain ⟨p, q, xs, ys, rfl, rfl, h1, h2, f1, f2, qq⟩ := h
  cases rx
  cases ry
  obtain ⟨us, r1, t1, _⟩ := I.list h1
  obtain ⟨vs, r2, t2, _⟩ := I.list h2
  have l1 := r1.length
  have l2 := r2.length
  by_cases c : xs.length = ys.length
  · refine SeqAt.RcNeAt.lists t1.isList t2.isList (by rw [List.size_toArray, List.size_toArray]; omega) hu (at_eq r1 r2 f1 f2) X.prog X.w X.xe _ ⟨.bl (!eqVs xs ys), H, I, ?_, qq⟩
    show Value.bool _ = Value.bool _
    rw [eqVs_len c, List.size_toArray, l1]
  · refine SeqAt.RcNeAt.lists_lengths t1.isList t2.isList (by rw [List.size_toArray, List.size_toArray]; simp; omega) hu X.prog X.w X.xe _ ⟨.bl (!eqVs xs ys), H, I, ?_, qq⟩
    show Value.bool _ = Value.bool _
    rw [eqVs_ne c]; rfl
end
section
variable {prog : Program} {w : World} {A : Around} {E : Value → Shared → Prop}
theorem draw_listU {it t : Addr} {items : Array Value} (hne : t ≠ it) : ∀ (n i : Nat) (s : Shared) (Q : List Value → Shared → Prop), s.heap.IsListIter it t i → s.heap.IsList t items → i + n ≤ items.size →
    (∀ h' : Heap, h'.IsListIter it t (i + n) → Heap.SameBut it s.heap h' → Q ((items.toList.drop i).take n) { s with heap := h' }) → wpAny (model prog w) A (draw (.ref it) n) Q E s
  | 0, i, s, Q, hit, _, _, hQ => by
    show wpAny _ _ (pure []) Q E s
    exact wpAny_pure (by simpa using hQ s.heap hit (Heap.SameBut.refl ..))
  | n + 1, i, s, Q, hit, ht, hle, hQ => by
    have hlt : i < items.size := by omega
    show wpAny _ _ (pyNext (.ref it) >>= _) Q E s
    refine wpAny_bind (wpAny_pyNext_list_item hit ht (x := items[i]) (by simp [hlt]) fun h₁ hit₁ hs₁ => ?_)
    refine wpAny_bind (wpAny_holding (draw_listU hne n (i + 1) _ _ hit₁ (ht.extBut hs₁.extBut hne) (by omega) fun h₂ hit₂ hs₂ => wpAny_pure ?_))
    have hd : items.toList.drop i = items[i] :: items.toList.drop (i + 1) := by simp [List.drop_eq_getElem_cons, hlt]
    have := hQ h₂ (by rw [show i + (n + 1) = i + 1 + n by omega]; exact hit₂) (hs₁.trans hs₂)
    rw [hd, List.take_succ_cons] at this
    exact this
theorem unpackItems_listU {s : Shared} {t : Addr} {items : Array Value} {Q : List Value → Shared → Prop} (hh : A.handled = none) (ht : s.heap.IsList t items)
    (hQ : ∀ h' : Heap, Heap.ExtBut s.heap.objs.size s.heap h' → Q items.toList { s with heap := h' }) : wpAny (model prog w) A (unpackItems (.ref t) items.size none) Q E s := by
  have hlt : t ≠ s.heap.objs.size := by obtain ⟨o, ho, _⟩ := ht; exact Nat.ne_of_lt (Heap.lt_size ho)
  unfold unpackItems
  refine wpAny_bind ?_
  · unfold notIterableAtAll
    refine wpAny_bind (wpAny_specialOf ht.typeIs slot_list_iter.lookup ?_)
    refine wpAny_pure ?_
    simp only [Bool.false_eq_true, if_false]
    refine wpAny_bind (wpAny_holding (wpAny_pyIter_list ht ?_))
    refine wpAny_bind (wpAny_holding (draw_listU hlt items.size 0 _ _ ⟨_, Heap.get?_push_size _ rfl, rfl, rfl⟩ (ht.push _) (by omega) fun h₁ hit₁ hs₁ => ?_))
    have hall : List.take items.size (List.drop 0 items.toList) = items.toList := by
      rw [List.drop_zero]; exact List.take_of_length_le (by simp)
    rw [hall]
    rw [if_neg (by simp)]
    have ht₁ : h₁.IsList t items := (ht.push _).extBut hs₁.extBut hlt
    refine wpAny_bind (wpAny_holding (wpAny_pyNext_list_end hh hit₁ ht₁ (by simp) fun h₂ he₂ => ?_))
    simp only [Option.isSome_none, Bool.false_eq_true, if_false]
    refine wpAny_pure (hQ h₂ fun b o hb e => he₂ b o hb (hs₁.extBut b o hb (Heap.get?_push_of_some _ e)))
end
section
variable {X : Cx} {pos : Pos}
def gTupL (K : PySem.W.Frag) (n : Nat) (t : TGs) : TG := fun v σ H Q => ∃ a xs, v = .ref a ∧ SqL K H a xs ∧ xs.length = n ∧ t xs σ H Q
theorem pg_tupL {es : List Expr} {k : Nat} {t : TGs} {n : Nat} (hc : X.calm = true) (h : PGs X es t)
    (hn : (assignEach es X.env).length = n := by rfl) (hst : (assignEach es X.env).findIdx? (·.1) = none := by rfl) : PG X (.Tuple es k pos) (gTupL X.K n t) := by
  intro pins s σ H v u Q I r hw
  obtain ⟨a, xs, e1, hq, hl, hw⟩ := hw
  subst e1
  cases r
  obtain ⟨its, rv, ht, hz⟩ := I.list hq
  rw [assign_Tuple]
  refine wpAny_bind (wpAny_standAt ?_)
  unfold unpack
  have e : (assignEach es X.env).length = its.toArray.size := by simp [hn, ← hl, rv.length]
  rw [e, hst]
  refine wpAny_bind (wpAny_holding (unpackItems_listU (I.ok.hd hc) ht.isList fun h' hx => ?_))
  have I1 : Inv X pins σ H { s with heap := h' } := I.kept (t' := s.toks) fun b o e => hx b o (Nat.ne_of_lt (Heap.lt_size e)) e
  exact h pins _ σ H xs _ Q I1 (by simpa using rv) hw
end
end L2
end
section
set_option Elab.async false
set_option linter.all false
set_option maxRecDepth 100000
set_option maxHeartbeats 4000000
namespace L2
open PySem PySem.Spec PyProof.Rows
def rStr2 : R2 := fun x y H Q => ∃ i j, x = .str i ∧ y = .str j ∧ i.length + j.length ≤ sizeLine ∧ Q (.str (i ++ j)) H
def rPlus (K : PySem.W.Frag) : R2 := fun x y H Q => rI0 (fun i j => .int (i + j)) x y H Q ∨ (rStr2 x y H Q ∨ (rCat x y H Q ∨ rCatT K x y H Q))
def rSub2 : R2 := rI0 fun i j => .int (i - j)
def rTimes (K : PySem.W.Frag) : R2 := fun x y H Q => rI CMul (fun i j => .int (i * j)) x y H Q ∨ rRepT K x y H Q
def rMod2 : R2 := rI (fun _ j => 0 < j) fun i j => .int (i % j)
def rFdiv2 : R2 := rI CDiv fun i j => .int (i / j)
def rEqG (K : PySem.W.Frag) : R2 := fun x y H Q => rEq x y H Q ∨ (rEqT K false x y H Q ∨ (rEqTS K x y H Q ∨ rEqL K false x y H Q))
def rNeG (K : PySem.W.Frag) : R2 := fun x y H Q => rNe x y H Q ∨ (rEqT K true x y H Q ∨ rEqL K true x y H Q)
def rLt2 : R2 := rI0 fun i j => .bl (decide (i < j))
def rGt2 : R2 := rI0 fun i j => .bl (decide (j < i))
def rIsN : R2 := fun x y H Q => y = .non ∧ Q (.bl (decide (x = .non))) H
def rNotN : R2 := fun x y H Q => y = .non ∧ Q (.bl (!decide (x = .non))) H
def rNeg : V → Hp → VK → Prop := rU fun i => .int (-i)
def rSl (K : PySem.W.Frag) : V → Option Int → Option Int → Hp → VK → Prop := fun x lo hi H Q => rSlL K x lo hi H Q ∨ rSlT K x lo hi H Q
def rLen (K : PySem.W.Frag) : List V → Hp → VK → Prop := fun xs H Q => ∃ x n, xs = [x] ∧ LenV K x H n ∧ Q (.int n) H
def rDivmod : List V → Hp → VK → Prop := fun xs H Q => ∃ i j, xs = [.int i, .int j] ∧ (0 < j ∧ j < 2 ^ 64) ∧ ∀ p, H p = none → Q (.ref p) (upd H p (.tup [.int (i / j), .int (i % j)]))
def rMin2 : List V → Hp → VK → Prop := fun xs H Q => ∃ i j, xs = [.int i, .int j] ∧ Q (.int (if j < i then j else i)) H
def rAll (K : PySem.W.Frag) : List V → Hp → VK → Prop := fun xs H Q => ∃ (p : Addr) (bs : List Bool), xs = [.ref p] ∧ SqL K H p (bs.map V.bl) ∧ Q (.bl (bs.all id)) H
def rIsi (K : PySem.W.Frag) : List V → Hp → VK → Prop := fun xs H Q => ∃ x T b, xs = [x, .ty T] ∧ IsiV K H x T b ∧ Q (.bl b) H
def rInt1 : List V → Hp → VK → Prop := fun xs H Q => (∃ i, xs = [.int i] ∧ Q (.int i) H) ∨ ∃ k, xs = [.bl k] ∧ Q (.int (if k then 1 else 0)) H
def rListOf (K : PySem.W.Frag) : List V → Hp → VK → Prop := fun xs H Q => ∃ p ys, xs = [.ref p] ∧ (SqL K H p ys ∨ SqT K H p ys) ∧ ∀ l, H l = none → Q (.ref l) (upd H l (.lst ys))
def rTupleOf (K : PySem.W.Frag) : List V → Hp → VK → Prop := fun xs H Q => ∃ p ys, xs = [.ref p] ∧ ((SqL K H p ys ∧ ∀ l, H l = none → Q (.ref l) (upd H l (.tup ys))) ∨ (SqT K H p ys ∧ Q (.ref p) H))
def iSeq (K : PySem.W.Frag) (tl : TE) : TI := fun σ H R => iList K tl σ H R ∨ iTup K tl σ H R
section
variable {X : Cx}
theorem op_plus : OpR X (binaryOp .Add) (rPlus X.K) := op_add.or (op_add_str.or (op_cat.or op_catT))
theorem op_times : OpR X (binaryOp .Mult) (rTimes X.K) := op_mul.or op_repT
theorem op_eqG (hu : X.A.units < cLine) : OpR X (compareOp .Eq) (rEqG X.K) := op_eq.or ((op_eqT hu).or ((op_eqTS hu).or (op_eqL hu)))
theorem op_neG (hu : X.A.units < cLine) : OpR X (compareOp .NotEq) (rNeG X.K) := op_ne.or ((op_neT hu).or (op_neL hu))
theorem sl_seq : SlR X (rSl X.K) := sl_list.or sl_tup
theorem pi_seq {tg l : Expr} {tl : TE} (hl : PE X l tl) : PI X tg l (iSeq X.K tl) := by
  intro pins s σ H R I h
  rcases h with h | h
  · exact pi_list hl pins s σ H R I h
  · exact pi_tup hl pins s σ H R I h
end
structure Callee (P : Program) (w : World) (K : PySem.W.Frag) (mg : Str → Option Value) (base : Heap) (x : Str) (ps : List Str) (k : Nat) (sp : Sp) : Prop where
  ex : ∃ (f : Addr) (fd : FuncData), mg x = some (.ref f) ∧ PySem.W.keepIn K (.ref f) = true ∧ Binds K fd ps [] ∧ FnOk P w K mg base CX0 k f fd ps sp
theorem pe_fn {X : Cx} {x : Str} {ps : List Str} {k : Nat} {sp : Sp} {e : Expr} {es : List Expr} {t : TA} {p pos : Pos} (c : Callee X.prog X.w X.K X.mg X.base x ps k sp) (hr : Room k X.A) (hg : Gl X x) (ha : PA X (e :: es) t)
    (hdb : (x == ("__debug__" : Str)) = false := by decide) (he : starEach (e :: es) X.env = (false, eval e X.env) :: starEach es X.env := by rfl) (hpl : (backTo pos (starEach es X.env)).any (·.1) = false := by rfl) :
    PE X (.Call (.Name x p) (e :: es) [] pos) (tCall sp [] E0 t) := by
  obtain ⟨f, fd, hm, hk, hb, F⟩ := c.ex
  exact pe_call F hr hg hm hk hb .nil pass0 ha hdb he hpl
structure Blt (mg : Str → Option Value) : Prop where
  len_ : mg "len" = none
  range_ : mg "range" = none
  divmod_ : mg "divmod" = none
  max_ : mg "max" = none
  min_ : mg "min" = none
  sum_ : mg "sum" = none
  all_ : mg "all" = none
  isinstance_ : mg "isinstance" = none
  int_ : mg "int" = none
  bool_ : mg "bool" = none
  list_ : mg "list" = none
  tuple_ : mg "tuple" = none
  enumerate_ : mg "enumerate" = none
  zip_ : mg "zip" = none
  sorted_ : mg "sorted" = none
  set_ : mg "set" = none
  dict_ : mg "dict" = none
  str_ : mg "str" = none
  any_ : mg "any" = none
  reversed_ : mg "reversed" = none
  abs_ : mg "abs" = none
def But (a : Addr) (H H' : Hp) : Prop := ∀ b o, b ≠ a → H b = some o → H' b = some o
theorem But.refl (a : Addr) (H : Hp) : But a H H := fun _ _ _ h => h
theorem But.trans {a : Addr} {H H1 H2 : Hp} (x : But a H H1) (y : But a H1 H2) : But a H H2 := fun c o n h => y c o n (x c o n h)
theorem Same.but {a : Addr} {H H' : Hp} (x : Same H H') : But a H H' := fun b o _ h => x b o h
theorem But.upd_at {a : Addr} {H : Hp} {o : HO} : But a H (upd H a o) := fun b u n h => by rw [upd_ne n]; exact h
theorem But.new {a p : Addr} {H H1 : Hp} {o : HO} (x : But a H H1) (hp : H1 p = none) : But a H (upd H1 p o) := fun b u n h => by
  rw [upd_ne (ne_of_none (x b u n h) hp)]; exact x b u n h
theorem Same.new {p : Addr} {H H1 : Hp} {o : HO} (x : Same H H1) (hp : H1 p = none) : Same H (upd H1 p o) := fun b u h => by
  rw [upd_ne (ne_of_none (x b u h) hp)]; exact x b u h
theorem But.free {a p : Addr} {H H' : Hp} (x : But a H H') (n : p ≠ a) (h : H' p = none) : H p = none := by
  cases q : H p with
  | none => rfl
  | some o => rw [x p o n q] at h; cases h
theorem comp_range {js : List Nat} {k : Nat} {lo : Int} {n : Nat} {g : TG} {tc : TT} {te : TE} {R : Hp → Prop} {σ : St} {H : Hp} {D : Addr} (Pv : Nat → St → Hp → Prop) (h0 : Pv 0 (emS js k σ) (upd H D (.lst [])))
    (hs : ∀ i σ H, i < n → Pv i σ H → g (.int (lo + i)) σ H fun σ2 H2 => sApp D tc te { nx := Pv (i + 1), rt := fun _ _ => False, ct := Pv (i + 1), bk := fun _ H' => R H' } σ2 H2) (hd : ∀ σ H, Pv n σ H → R H) :
    ∃ W : Nat → Nat → St → Hp → Prop, (∃ m, W 0 m (emS js k σ) (upd H D (.lst []))) ∧ ∀ i m σ H, W i m σ H →
      ((Itr lo n).stop i H ∧ R H) ∨ ((Itr lo n).go i H ∧ ∃ N : St → Hp → Prop, (∀ σ' H', N σ' H' → ∃ m', m' < m ∧ W (i + 1) m' σ' H') ∧ ∀ x H', (Itr lo n).yld i H x H' → g x σ H' fun σ2 H2 => sApp D tc te { nx := N, rt := fun _ _ => False, ct := N, bk := fun _ H' => R H' } σ2 H2) :=
  for_range (D := { nx := fun _ H' => R H', rt := fun _ _ => False }) Pv h0 hs hd
theorem comp_tup {js : List Nat} {k : Nat} {K : PySem.W.Frag} {a : Addr} {xs : List V} {g : TG} {tc : TT} {te : TE} {R : Hp → Prop} {σ : St} {H : Hp} {D : Addr} (Pv : Nat → St → Hp → Prop) (h0 : Pv 0 (emS js k σ) (upd H D (.lst []))) (hl : ∀ i σ H, i ≤ xs.length → Pv i σ H → SqT K H a xs)
    (hs : ∀ i x σ H, xs[i]? = some x → Pv i σ H → g x σ H fun σ2 H2 => sApp D tc te { nx := Pv (i + 1), rt := fun _ _ => False, ct := Pv (i + 1), bk := fun _ H' => R H' } σ2 H2) (hd : ∀ σ H, Pv xs.length σ H → R H) :
    ∃ W : Nat → Nat → St → Hp → Prop, (∃ m, W 0 m (emS js k σ) (upd H D (.lst []))) ∧ ∀ i m σ H, W i m σ H →
      ((Itt K a).stop i H ∧ R H) ∨ ((Itt K a).go i H ∧ ∃ N : St → Hp → Prop, (∀ σ' H', N σ' H' → ∃ m', m' < m ∧ W (i + 1) m' σ' H') ∧ ∀ x H', (Itt K a).yld i H x H' → g x σ H' fun σ2 H2 => sApp D tc te { nx := N, rt := fun _ _ => False, ct := N, bk := fun _ H' => R H' } σ2 H2) :=
  for_tup (D := { nx := fun _ H' => R H', rt := fun _ _ => False }) Pv h0 hl hs hd
theorem But.through {a l : Addr} {H H1 H2 : Hp} {o : HO} (x : But a H H1) (hl : H1 l = none) (y : But l (upd H1 l o) H2) : But a H H2 := fun b u n h => by
  have h1 := x b u n h
  have nl : b ≠ l := ne_of_none h1 hl
  exact y b u nl (by rw [upd_ne nl]; exact h1)
end L2
end
section
set_option Elab.async false
set_option linter.all false
set_option maxRecDepth 100000
set_option maxHeartbeats 4000000
namespace Bg
open PySem L2
def Tp (H H' : Hp) : Prop := ∀ p xs, H p = some (.tup xs) → H' p = some (.tup xs)
theorem Tp.of_same {H H' : Hp} (x : Same H H') : Tp H H' := fun p xs h => x p _ h
structure AllAt {α : Type} (R : V → α → Prop) (vs : List V) (rs : List α) : Prop where
  len : vs.length = rs.length
  at_ : ∀ (i : Nat) v r, vs[i]? = some v → rs[i]? = some r → R v r
theorem AllAt.nil {α : Type} {R : V → α → Prop} : AllAt R [] [] := ⟨rfl, fun i v r h => by simp at h⟩
theorem AllAt.get {α : Type} {R : V → α → Prop} {vs : List V} {rs : List α} (h : AllAt R vs rs) {i : Nat} (hi : i < rs.length) : ∃ v r, vs[i]? = some v ∧ rs[i]? = some r ∧ R v r := by
  have h1 : i < vs.length := by rw [h.len]; exact hi
  exact ⟨vs[i], rs[i], List.getElem?_eq_getElem h1, List.getElem?_eq_getElem hi, h.at_ i _ _ (List.getElem?_eq_getElem h1) (List.getElem?_eq_getElem hi)⟩
theorem AllAt.of_v {α : Type} {R : V → α → Prop} {vs : List V} {rs : List α} (h : AllAt R vs rs) {i : Nat} {v : V} (e : vs[i]? = some v) : ∃ r, rs[i]? = some r ∧ R v r := by
  have h1 := (List.getElem?_eq_some_iff.mp e).1
  obtain ⟨v', r, e1, e2, q⟩ := h.get (i := i) (by rw [← h.len]; exact h1)
  rw [e] at e1; cases e1
  exact ⟨r, e2, q⟩
def ScrAt (K : PySem.W.Frag) (H : Hp) (a : Addr) (ns : List Int) : Prop :=
  (∃ o, H a = some (.frz o (.lst (ns.map V.int)))) ∨ ∃ (o : Obj) (its : Array Value) (n : Nat), K.lookup a = some o ∧ o.cls = .type "list" ∧ o.dict = none ∧ o.data = .seq its n ∧ its.size ≤ sizeLine ∧ Vals (ns.map V.int) its.toList
theorem ScrAt.sq {K : PySem.W.Frag} {H : Hp} {a : Addr} {ns : List Int} (h : ScrAt K H a ns) : SqL K H a (ns.map V.int) := by
  rcases h with ⟨o, h⟩ | h
  · exact .inl (.inr ⟨o, h⟩)
  · exact .inr h
def Fz (H H' : Hp) : Prop := ∀ p o u, H p = some (.frz o u) → H' p = some (.frz o u)
theorem Fz.of_but {a : Addr} {ys : List V} {H H' : Hp} (x : But a H H') (ha : H a = some (.lst ys)) : Fz H H' := fun p o u h => x p _ (by rintro rfl; rw [h] at ha; cases ha) h
theorem Fz.of_same {H H' : Hp} (x : Same H H') : Fz H H' := fun p o u h => x p _ h
theorem ScrAt.mono {K : PySem.W.Frag} {H H' : Hp} {a : Addr} {ns : List Int} (h : ScrAt K H a ns) (f : Fz H H') : ScrAt K H' a ns := by
  rcases h with ⟨o, h⟩ | h
  · exact .inl ⟨o, f _ _ _ h⟩
  · exact .inr h
def Stt (K : PySem.W.Frag) (H : Hp) (st : Addr) (k : Nat) : Prop := ∃ scr ns c, H st = some (.lst [.ref scr, .int (k : Nat), .int c]) ∧ ScrAt K H scr ns ∧ ns.length ≤ 63
theorem Stt.lst {K : PySem.W.Frag} {H : Hp} {st : Addr} {k : Nat} (h : Stt K H st k) : ∃ ys, H st = some (.lst ys) := by
  obtain ⟨scr, ns, c, e, _⟩ := h; exact ⟨_, e⟩
theorem Stt.mono {K : PySem.W.Frag} {H H' : Hp} {a st : Addr} {k : Nat} {ys : List V} (h : Stt K H st k) (x : But a H H') (ha : H a = some (.lst ys)) (n : st ≠ a) : Stt K H' st k := by
  obtain ⟨scr, ns, c, e, q, l⟩ := h
  exact ⟨scr, ns, c, x _ _ n e, q.mono (.of_but x ha), l⟩
theorem Stt.same {K : PySem.W.Frag} {H H' : Hp} {st : Addr} {k : Nat} (h : Stt K H st k) (x : Same H H') : Stt K H' st k := by
  obtain ⟨scr, ns, c, e, q, l⟩ := h
  exact ⟨scr, ns, c, x _ _ e, q.mono (.of_same x), l⟩
theorem Stt.new {K : PySem.W.Frag} {H : Hp} {st p : Addr} {o : HO} {k : Nat} (h : Stt K H st k) (hp : H p = none) : Stt K (upd H p o) st k := h.same ((Same.refl H).new hp)
def sp_draw (K : PySem.W.Frag) : Sp := fun vs H Q _ => ∃ (st : Addr) (m : Int) (k : Nat), vs = [.ref st, .int m] ∧ Stt K H st k ∧ k ≤ 1000000 ∧ 0 < m ∧ m < 2 ^ 64 ∧
  ∀ (d : Int) (H' : Hp), 0 ≤ d → d < m → Stt K H' st (k + 1) → But st H H' → Q (.int d) H'
def resv : List Str := ["part", "call", "say", "jump", "test", "give"]
structure Nm (y : Str) : Prop where
  l1 : 1 ≤ y.length
  l8 : y.length ≤ 8
  abc : ∀ c ∈ y.cps.toList, 97 ≤ c ∧ c ≤ 122
  no : y ∉ resv
def sp_names (K : PySem.W.Frag) : Sp := fun vs H Q _ => ∃ (st : Addr) (n k : Nat), vs = [.ref st, .int (n : Nat)] ∧ Stt K H st k ∧ k ≤ 900000 ∧ n ≤ 20 ∧
  ∀ (l : Addr) (ys : List Str) (k' : Nat) (H' : Hp), H l = none → ys.length = n → ys.Nodup → (∀ y ∈ ys, Nm y) → H' l = some (.lst (ys.map V.str)) → Stt K H' st k' → k' ≤ k + 11 → But st H H' → Q (.ref l) H'
def sp_law (K : PySem.W.Frag) : Sp := fun vs H Q _ => ∃ (scr : Addr) (ns : List Int), vs = [.ref scr] ∧ ScrAt K H scr ns ∧ ns.length ≤ 63 ∧ ∀ H', Q (.bl true) H'
abbrev k_draw : Nat := 0
abbrev K_draw : Nat := 1
abbrev k_names : Nat := 1
abbrev K_names : Nat := 2
end Bg
end
section
set_option Elab.async false
set_option linter.all false
set_option maxRecDepth 100000
set_option maxHeartbeats 4000000
namespace Bg
open PySem L2
theorem if_dec {c : Prop} [Decidable c] {A B : Prop} (h1 : c → A) (h2 : ¬ c → B) : if decide c = true then A else B := by
  by_cases h : c
  · rw [decide_eq_true h]; exact iteT (h1 h)
  · rw [decide_eq_false h]; exact iteF (h2 h)
theorem if_not {c : Prop} [Decidable c] {A B : Prop} (h1 : ¬ c → A) (h2 : c → B) : if (!decide c) = true then A else B := by
  by_cases h : c
  · rw [decide_eq_true h]; exact iteF (h2 h)
  · rw [decide_eq_false h]; exact iteT (h1 h)
theorem if_bl {b : Bool} {A B : Prop} (h1 : b = true → A) (h2 : b = false → B) : if b = true then A else B := by
  cases b with
  | true => exact iteT (h1 rfl)
  | false => exact iteF (h2 rfl)
theorem atI_of {α : Type} {xs : List α} {i : Int} {v : α} (h0 : 0 ≤ i) (e : xs[i.toNat]? = some v) : atI xs i = some v := by
  have h1 := (List.getElem?_eq_some_iff.mp e).1
  unfold atI ixN
  rw [if_pos h0, if_pos (by omega)]
  exact e
theorem ixL {K : PySem.W.Frag} {p : Addr} {xs : List V} {i : Int} {v : V} {H : Hp} {Q : VK} (h : SqL K H p xs) (h0 : 0 ≤ i) (e : xs[i.toNat]? = some v) (q : Q v H) : rIx K (.ref p) (.int i) H Q :=
  .inl ⟨p, xs, i, v, rfl, rfl, h, atI_of h0 e, q⟩
theorem ixT {K : PySem.W.Frag} {p : Addr} {xs : List V} {i : Int} {v : V} {H : Hp} {Q : VK} (h : H p = some (.tup xs)) (h0 : 0 ≤ i) (e : xs[i.toNat]? = some v) (q : Q v H) : rIx K (.ref p) (.int i) H Q :=
  .inr (.inl ⟨p, xs, i, v, rfl, rfl, SqT.of h, atI_of h0 e, q⟩)
theorem ixS {K : PySem.W.Frag} {z : Str} {i : Int} {c : Nat} {H : Hp} {Q : VK} (hz : z.length ≤ sizeLine) (h0 : 0 ≤ i) (e : z.cps.toList[i.toNat]? = some c) (q : Q (.str ⟨#[c]⟩) H) : rIx K (.str z) (.int i) H Q :=
  .inr (.inr ⟨z, i, c, rfl, rfl, hz, atI_of h0 e, q⟩)
theorem setL {p : Addr} {xs : List V} {i : Int} {v : V} {H : Hp} {Q : Hp → Prop} (h : H p = some (.lst xs)) (h0 : 0 ≤ i) (h1 : i.toNat < xs.length) (q : Q (upd H p (.lst (xs.set i.toNat v)))) : rSetL (.ref p) (.int i) v H Q := by
  refine ⟨p, xs, i, i.toNat, rfl, rfl, h, ?_, q⟩
  unfold ixN
  rw [if_pos h0, if_pos (by omega)]
theorem smallL {n : Nat} (h : n ≤ 100000) : n < sizeLine := Nat.lt_of_le_of_lt h (by decide)
theorem strs_get {ys : List Str} {i : Nat} {y : Str} (h : ys[i]? = some y) : (ys.map V.str)[i]? = some (.str y) := by rw [List.getElem?_map, h]; rfl
theorem app_yes {D : Addr} {te : TE} {E : Ends} {σ : St} {H : Hp} (h : te σ H fun y H2 => ∃ ys, H2 D = some (.lst ys) ∧ ys.length < sizeLine ∧ E.nx σ (upd H2 D (.lst (ys ++ [y])))) : sApp D tYes te E σ H := by
  unfold sApp tYes
  dsimp only
  rw [if_pos rfl]
  exact h
theorem no {x y : V} {A B : Prop} (h : ¬ x = y) (q : B) : if decide (x = y) = true then A else B := if_dec (fun z => absurd z h) fun _ => q
theorem yes {x : V} {A B : Prop} (q : A) : if decide (x = x) = true then A else B := if_dec (fun _ => q) fun z => absurd rfl z
theorem if_t {b : Bool} {A B : Prop} (e : b = true) (q : A) : if b = true then A else B := by rw [e]; exact iteT q
theorem if_f {b : Bool} {A B : Prop} (e : b = false) (q : B) : if b = true then A else B := by rw [e]; exact iteF q
theorem cut_take (xs : List V) (c : Nat) : cutV xs none (some (c : Int)) = xs.take c := by
  unfold cutV
  rw [HT.sIx_none, HT.sIx_nat, List.drop_zero, Nat.sub_zero, ← List.take_eq_take_min]
theorem cut_drop (xs : List V) (c : Nat) : cutV xs (some (c : Int)) none = xs.drop c := by
  unfold cutV
  rw [HT.sIx_none, HT.sIx_nat]
  by_cases h : c ≤ xs.length
  · rw [Nat.min_eq_left h]; exact List.take_of_length_le (by rw [List.length_drop]; omega)
  · rw [Nat.min_eq_right (by omega), List.drop_length, List.drop_of_length_le (by omega), List.take_nil]
theorem inV_strs (y : Str) (ls : List Str) : inV (.str y) (ls.map V.str) = decide (y ∈ ls) := by
  unfold inV
  rw [List.any_map, Bool.eq_iff_iff, List.any_eq_true, decide_eq_true_eq]
  constructor
  · rintro ⟨z, hz, e⟩
    have e' : (z == y) = true := e
    have : z = y := by simpa using e'
    rw [← this]; exact hz
  · intro h
    exact ⟨y, h, by show (y == y) = true; simp⟩
theorem But.past {a l : Addr} {H H1 H2 : Hp} (x : But a H H1) (hl : H l = none) (y : But l H1 H2) : But a H H2 := fun c u n h => y c u (ne_of_none h hl) (x c u n h)
end Bg
end
section
set_option Elab.async false
set_option linter.all false
set_option maxRecDepth 100000
set_option maxHeartbeats 4000000
namespace Bg
open PySem L2
def pushV (b : List V) (x : V) : List V := (x :: b).take b.length
def sp_p_pushed (_ : PySem.W.Frag) : Sp := fun vs H Q _ => ∃ (b : Addr) (x : V) (xs : List V), vs = [.ref b, x] ∧ H b = some (.tup xs) ∧ xs ≠ [] ∧ xs.length ≤ 1000 ∧
  ∀ (p : Addr) (H' : Hp), H' p = some (.tup (pushV xs x)) → Same H H' → Q (.ref p) H'
abbrev k_p_pushed : Nat := 0
abbrev K_p_pushed : Nat := 1
end Bg
end
section
set_option Elab.async false
set_option linter.all false
set_option maxRecDepth 100000
set_option maxHeartbeats 4000000
namespace Bg
open PySem L2
section
variable (f : Nat → Nat) (p : Nat → Bool)
variable {f p}
end
inductive CRow where
  | num (z : Int)
  | op (s : Str) (i j : Int)
  | keep (i : Int)
  | say (i : Int)
  | jump (to : Int)
  | test (i to : Int)
  | call (k : Int) (as : List Int)
  | give (i : Int)
def cword : CRow → Str
  | .num _ => "num" | .op _ _ _ => "op" | .keep _ => "keep" | .say _ => "say" | .jump _ => "jump" | .test _ _ => "test" | .call _ _ => "call" | .give _ => "give"
def CRowAt (H : Hp) (v : V) : CRow → Prop
  | .num z => ∃ p, v = .ref p ∧ H p = some (.tup [.str "num", .int z])
  | .op s i j => ∃ p, v = .ref p ∧ H p = some (.tup [.str "op", .str s, .int i, .int j])
  | .keep i => ∃ p, v = .ref p ∧ H p = some (.tup [.str "keep", .int i])
  | .say i => ∃ p, v = .ref p ∧ H p = some (.tup [.str "say", .int i])
  | .jump to => ∃ p, v = .ref p ∧ H p = some (.tup [.str "jump", .int to])
  | .test i to => ∃ p, v = .ref p ∧ H p = some (.tup [.str "test", .int i, .int to])
  | .call k as => ∃ p q, v = .ref p ∧ H p = some (.tup [.str "call", .int k, .ref q]) ∧ H q = some (.tup (as.map V.int))
  | .give i => ∃ p, v = .ref p ∧ H p = some (.tup [.str "give", .int i])
theorem CRowAt.mono {H H' : Hp} {v : V} {r : CRow} (h : CRowAt H v r) (t : Tp H H') : CRowAt H' v r := by
  cases r with
  | num z => obtain ⟨p, e, h⟩ := h; exact ⟨p, e, t _ _ h⟩
  | op s i j => obtain ⟨p, e, h⟩ := h; exact ⟨p, e, t _ _ h⟩
  | keep i => obtain ⟨p, e, h⟩ := h; exact ⟨p, e, t _ _ h⟩
  | say i => obtain ⟨p, e, h⟩ := h; exact ⟨p, e, t _ _ h⟩
  | jump to => obtain ⟨p, e, h⟩ := h; exact ⟨p, e, t _ _ h⟩
  | test i to => obtain ⟨p, e, h⟩ := h; exact ⟨p, e, t _ _ h⟩
  | call k as => obtain ⟨p, q, e, h, h'⟩ := h; exact ⟨p, q, e, t _ _ h, t _ _ h'⟩
  | give i => obtain ⟨p, e, h⟩ := h; exact ⟨p, e, t _ _ h⟩
end Bg
end
section
set_option Elab.async false
set_option linter.all false
set_option maxRecDepth 100000
set_option maxHeartbeats 4000000
namespace Bg
open PySem L2
def oV : Option Str → V
  | none => .non
  | some y => .str y
def oVs (os : List (Option Str)) : List V := os.map oV
theorem oV_flat (o : Option Str) : flatV (oV o) = true := by cases o <;> rfl
theorem oVs_flat (os : List (Option Str)) : (oVs os).all flatV = true := by
  rw [List.all_eq_true]
  intro v hv
  obtain ⟨y, _, rfl⟩ := List.mem_map.mp hv
  exact oV_flat y
theorem oVs_len (os : List (Option Str)) : (oVs os).length = os.length := List.length_map ..
theorem oVs_get {os : List (Option Str)} {i : Nat} {o : Option Str} (h : os[i]? = some o) : (oVs os)[i]? = some (oV o) := by
  unfold oVs; rw [List.getElem?_map, h]; rfl
theorem oVs_of {os : List (Option Str)} {i : Nat} {v : V} (h : (oVs os)[i]? = some v) : ∃ o, os[i]? = some o ∧ v = oV o := by
  unfold oVs at h
  rw [List.getElem?_map] at h
  cases e : os[i]? with
  | none => rw [e] at h; cases h
  | some o => rw [e] at h; exact ⟨o, rfl, (Option.some.inj h).symm⟩
theorem eqV_o (a b : Option Str) : eqV (oV a) (oV b) = decide (a = b) := by
  cases a with
  | none => cases b with
    | none => rfl
    | some y => rfl
  | some x => cases b with
    | none => rfl
    | some y =>
      show (x == y) = decide (some x = some y)
      rw [Bool.eq_iff_iff, beq_iff_eq, decide_eq_true_eq]
      exact ⟨fun h => by rw [h], fun h => Option.some.inj h⟩
theorem oV_inj {a b : Option Str} (h : oV a = oV b) : a = b := by
  cases a with
  | none => cases b with
    | none => rfl
    | some y => cases h
  | some x => cases b with
    | none => cases h
    | some y => injection h with h; rw [h]
theorem oV_non {a : Option Str} : oV a = .non ↔ a = none := ⟨fun h => oV_inj (b := none) h, fun h => by rw [h]; rfl⟩
theorem eqVs_o (as bs : List (Option Str)) : eqVs (oVs as) (oVs bs) = decide (as = bs) := by
  by_cases hl : as.length = bs.length
  · rw [eqVs_len (by rw [oVs_len, oVs_len]; exact hl), Bool.eq_iff_iff, List.all_eq_true, decide_eq_true_eq]
    constructor
    · intro h
      apply List.ext_getElem? 
      intro i
      by_cases hi : i < as.length
      · have h1 := h i (by rw [List.mem_range, oVs_len]; exact hi)
        have e1 := List.getElem?_eq_getElem hi
        have e2 := List.getElem?_eq_getElem (l := bs) (by rw [← hl]; exact hi)
        rw [oVs_get e1, oVs_get e2, Option.getD_some, Option.getD_some, eqV_o, decide_eq_true_eq] at h1
        rw [e1, e2, h1]
      · rw [List.getElem?_eq_none (by omega), List.getElem?_eq_none (by omega)]
    · rintro rfl i hi
      rw [List.mem_range, oVs_len] at hi
      rw [oVs_get (List.getElem?_eq_getElem hi), Option.getD_some, eqV_o, decide_eq_true_eq]
  · rw [eqVs_ne (by rw [oVs_len, oVs_len]; exact hl)]
    exact (decide_eq_false fun z => hl (by rw [z])).symm
def pushO (os : List (Option Str)) (x : Option Str) : List (Option Str) := (x :: os).take os.length
theorem push_o (os : List (Option Str)) (x : Option Str) : pushV (oVs os) (oV x) = oVs (pushO os x) := by
  unfold pushV pushO oVs
  rw [List.length_map, List.map_take, List.map_cons]
def blank (x : Str) (o : Option Str) : Option Str := if o = some x then none else o
def anew (os : List (Option Str)) (x : Str) : List (Option Str) := pushO (os.map (blank x)) (some x)
def keptO (os : List (Option Str)) (i : Nat) : List (Option Str) := pushO os ((os[i]?).getD none)
def wk1 (p : Option Str × Option Str) : Bool := decide (p.1 = none) || decide (p.1 = p.2)
def wkB (as bs : List (Option Str)) : Bool := ((as.zip bs).map wk1).all id
def isSet : CRow → Bool
  | .num _ => true
  | .op _ _ _ => true
  | .call _ _ => true
  | _ => false
def bhd (r : CRow) (os : List (Option Str)) (x : Option Str) : List (Option Str) := match r with
  | .keep i => keptO os i.toNat
  | _ => match x with
    | some y => if isSet r then anew os y else os
    | none => os
structure BhdOk (r : CRow) (os : List (Option Str)) (x : Option Str) : Prop where
  keep : ∀ i, r = .keep i → 0 ≤ i ∧ i.toNat < os.length
  set : isSet r = x.isSome
def sp_p_weaker (_ : PySem.W.Frag) : Sp := fun vs H Q _ => ∃ (a b : Addr) (as bs : List (Option Str)), vs = [.ref a, .ref b] ∧ H a = some (.tup (oVs as)) ∧ H b = some (.tup (oVs bs)) ∧ as.length = bs.length ∧ as.length ≤ 1000 ∧
  ∀ H', Same H H' → Q (.bl (wkB as bs)) H'
def sp_p_set_anew (_ : PySem.W.Frag) : Sp := fun vs H Q _ => ∃ (a : Addr) (os : List (Option Str)) (x : Str), vs = [.ref a, .str x] ∧ H a = some (.tup (oVs os)) ∧ os ≠ [] ∧ os.length ≤ 1000 ∧
  ∀ (p : Addr) (H' : Hp), H' p = some (.tup (oVs (anew os x))) → Same H H' → Q (.ref p) H'
def sp_p_behind (_ : PySem.W.Frag) : Sp := fun vs H Q _ => ∃ (v : V) (a : Addr) (r : CRow) (os : List (Option Str)) (x : Option Str), vs = [v, .ref a, oV x] ∧ CRowAt H v r ∧ H a = some (.tup (oVs os)) ∧ os ≠ [] ∧ os.length ≤ 1000 ∧ BhdOk r os x ∧
  ∀ (p : Addr) (H' : Hp), H' p = some (.tup (oVs (bhd r os x))) → Same H H' → Q (.ref p) H'
abbrev k_p_weaker : Nat := 0
abbrev K_p_weaker : Nat := 1
abbrev k_p_set_anew : Nat := 1
abbrev K_p_set_anew : Nat := 2
abbrev k_p_behind : Nat := 2
abbrev K_p_behind : Nat := 3
end Bg
end
section
set_option Elab.async false
set_option linter.all false
set_option maxRecDepth 100000
set_option maxHeartbeats 4000000
namespace Bg
open PySem L2
def sp_belt (K : PySem.W.Frag) : Sp := fun vs H Q _ => ∃ (st nm : Addr) (n k : Nat) (ys : List Str), vs = [.ref st, .ref nm, .int (n : Nat)] ∧ Stt K H st k ∧ k ≤ 800000 ∧ H nm = some (.lst (ys.map V.str)) ∧ nm ≠ st ∧ ys.length ≤ 20 ∧ n ≤ 16 ∧
  ∀ (p : Addr) (os : List (Option Str)) (k' : Nat) (H' : Hp), H' p = some (.tup (oVs os)) → os.length = n → Stt K H' st k' → k' ≤ k + 16 → But st H H' → Q (.ref p) H'
def sp_near (K : PySem.W.Frag) : Sp := fun vs H Q _ => ∃ (st nm b : Addr) (k : Nat) (ys : List Str) (os : List (Option Str)), vs = [.ref st, .ref nm, .ref b] ∧ Stt K H st k ∧ k ≤ 800000 ∧ H nm = some (.lst (ys.map V.str)) ∧ nm ≠ st ∧ ys ≠ [] ∧ ys.length ≤ 20 ∧ H b = some (.tup (oVs os)) ∧ os ≠ [] ∧ os.length ≤ 16 ∧
  ∀ (p : Addr) (os' : List (Option Str)) (k' : Nat) (H' : Hp), H' p = some (.tup (oVs os')) → os'.length = os.length → Stt K H' st k' → k' ≤ k + 20 → But st H H' → Q (.ref p) H'
def sp_weaker (_ : PySem.W.Frag) : Sp := fun vs H Q _ => ∃ (a b : Addr) (as bs : List (Option Str)), vs = [.ref a, .ref b] ∧ H a = some (.tup (oVs as)) ∧ H b = some (.tup (oVs bs)) ∧ as.length = bs.length ∧ as.length ≤ 1000 ∧ Q (.bl (wkB as bs)) H
def sp_behind (_ : PySem.W.Frag) : Sp := fun vs H Q _ => ∃ (v : V) (a : Addr) (r : CRow) (os : List (Option Str)) (x : Option Str), vs = [v, .ref a, oV x] ∧ CRowAt H v r ∧ H a = some (.tup (oVs os)) ∧ os ≠ [] ∧ os.length ≤ 1000 ∧ BhdOk r os x ∧
  ∀ (p : Addr) (H' : Hp), H' p = some (.tup (oVs (bhd r os x))) → Same H H' → Q (.ref p) H'
def RxAt (H : Hp) (v : V) (q : CRow × Option Str) : Prop := ∃ (p : Addr) (rv : V), v = .ref p ∧ H p = some (.tup [rv, oV q.2]) ∧ CRowAt H rv q.1
theorem RxAt.mono {H H' : Hp} {v : V} {q : CRow × Option Str} (h : RxAt H v q) (t : Tp H H') : RxAt H' v q := by
  obtain ⟨p, rv, e, h1, h2⟩ := h
  exact ⟨p, rv, e, t _ _ h1, h2.mono t⟩
def sp_rows (K : PySem.W.Frag) : Sp := fun vs H Q _ => ∃ (st : Addr) (n k : Nat) (x : Str), vs = [.ref st, .int (n : Nat), .str x] ∧ Stt K H st k ∧ k ≤ 800000 ∧ 1 ≤ n ∧ n ≤ 16 ∧
  ∀ (l : Addr) (vs' : List V) (qs : List (CRow × Option Str)) (k' : Nat) (H' : Hp), H' l = some (.lst vs') → AllAt (RxAt H') vs' qs → (∀ q ∈ qs, ∀ os : List (Option Str), os.length = n → BhdOk q.1 os q.2) → l ≠ st → H l = none → Stt K H' st k' → k' ≤ k + 3 → But st H H' → Q (.ref l) H'
abbrev k_belt : Nat := 1
abbrev K_belt : Nat := 2
abbrev k_near : Nat := 1
abbrev K_near : Nat := 2
abbrev k_weaker : Nat := 0
abbrev K_weaker : Nat := 1
abbrev k_behind : Nat := 0
abbrev K_behind : Nat := 1
abbrev k_rows : Nat := 1
abbrev K_rows : Nat := 2
abbrev k_law : Nat := 4
abbrev K_law : Nat := 5
end Bg
end
section
set_option Elab.async false
set_option linter.all false
set_option maxRecDepth 100000
set_option maxHeartbeats 4000000
namespace Bg
open PySem PySem.Spec PyProof.Rows L2
abbrev PS_draw : List Str := ["_law_state", "_law_many"]
abbrev N_draw : List Str := ["_law_state", "_law_many", "_law_script", "_law_k", "_law_digit", "_law_cell"]
def t_draw_1 (K : PySem.W.Frag) : TS := (tRet (tOp (rMod2) (tOp (rMod2) (tOp (rTimes K) (tVar 5) (tVar 5)) (tC (.int 1999999973))) (tVar 1)))
def t_draw_2 (K : PySem.W.Frag) : TS := (tSeq (tAsg (tOp (rMod2) (tOp (rTimes K) (tVar 5) (tVar 5)) (tC (.int 2147483587))) (gName 5)) (t_draw_1 K))
def t_draw_3 (K : PySem.W.Frag) : TS := (tSeq (tAsg (tOp (rMod2) (tOp (rTimes K) (tOp (rMod2) (tVar 5) (tC (.int 2147483629))) (tOp (rPlus K) (tVar 3) (tC (.int 3)))) (tC (.int 2147483629))) (gName 5)) (t_draw_2 K))
def t_draw_4 (K : PySem.W.Frag) : TS := (tSeq (tIfS (tTest (tOp (rGt2) (tCB (rLen K) (tCons (tVar 2) tNil)) (tC (.int 0)))) (tAsg (tOp (rPlus K) (tVar 5) (tOp (rTimes K) (tOp (rIx K) (tVar 2) (tOp (rMod2) (tOp (rTimes K) (tVar 3) (tC (.int 7))) (tCB (rLen K) (tCons (tVar 2) tNil)))) (tOp (rPlus K) (tC (.int 48271)) (tVar 3)))) (gName 5)) tNext) (t_draw_3 K))
def t_draw_5 (K : PySem.W.Frag) : TS := (tSeq (tAsg (tOp (rPlus K) (tOp (rTimes K) (tVar 3) (tC (.int 7919))) (tC (.int 5))) (gName 5)) (t_draw_4 K))
def t_draw_6 (K : PySem.W.Frag) : TS := (tRet (tVar 4))
def t_draw_7 (K : PySem.W.Frag) : TS := (tIfS (tTest (tOp ((rIn K true)) (tOp (rIx K) (tVar 0) (tC (.int 2))) (tTup (tCons (tC (.int 0)) (tCons (tUn rNeg (tC (.int 1))) tNil))))) (tSeq (tAsg (tCB (rDivmod) (tCons (tOp (rIx K) (tVar 0) (tC (.int 2))) (tCons (tVar 1) tNil))) (gTup K 2 (gCons (gSub (tVar 0) (tC (.int 2)) rSetL) (gCons (gName 4) gNil)))) (t_draw_6 K)) tNext)
def t_draw_8 (K : PySem.W.Frag) : TS := (tSeq (tIfS (tAnd (tTest (tOp (rLt2) (tOp (rPlus K) (tOp (rFdiv2) (tVar 3) (tC (.int 12))) (tC (.int 1))) (tCB (rLen K) (tCons (tVar 2) tNil)))) (tTest (tOp (rEqG K) (tOp (rMod2) (tOp (rIx K) (tVar 2) (tC (.int 0))) (tC (.int 2))) (tC (.int 1))))) (tSeq (tIfS (tTest (tOp (rEqG K) (tOp (rMod2) (tVar 3) (tC (.int 12))) (tC (.int 0)))) (tAsg (tOp (rIx K) (tVar 2) (tOp (rPlus K) (tOp (rFdiv2) (tVar 3) (tC (.int 12))) (tC (.int 1)))) (gSub (tVar 0) (tC (.int 2)) rSetL)) tNext) (t_draw_7 K)) (tIfS (tTest (tOp (rLt2) (tVar 3) (tCB (rLen K) (tCons (tVar 2) tNil)))) (tRet (tOp (rMod2) (tOp (rIx K) (tVar 2) (tVar 3)) (tVar 1))) tNext)) (t_draw_5 K))
def t_draw_9 (K : PySem.W.Frag) : TS := (tSeq (tAsg (tOp (rPlus K) (tVar 3) (tC (.int 1))) (gSub (tVar 0) (tC (.int 1)) rSetL)) (t_draw_8 K))
def t_draw (K : PySem.W.Frag) : TS := (tSeq (tAsg (tSl (rSl K) (tVar 0) tNoPart (tPart (tC (.int 2)))) (gTupL K 2 (gCons (gName 2) (gCons (gName 3) gNil)))) (t_draw_9 K))
abbrev PS_names : List Str := ["_law_state", "_law_many"]
abbrev N_names : List Str := ["_law_state", "_law_many", "_law_letters", "_law_size", "_law_at", "_law_first", "_law_base", "_law_found", "_law_k", "_law_some", "_law_name"]
def t_names_1 (K : PySem.W.Frag) : TS := (tRet (tVar 7))
def t_names_2 (K : PySem.W.Frag) : TS := (tDrop (tBM K "list" rAppend (tVar 7) (tCons (tVar 10) tNil)))
def t_names_3 (K : PySem.W.Frag) : TS := (tSeq (tIfS (tOr (tTest (tOp ((rIn K false)) (tVar 10) (tTup (tCons (tC (.str "part")) (tCons (tC (.str "call")) (tCons (tC (.str "say")) (tCons (tC (.str "jump")) (tCons (tC (.str "test")) (tCons (tC (.str "give")) tNil))))))))) (tAnd (tTest (tOp (rLt2) (tVar 3) (tC (.int 8)))) (tTest (tOp (rEqG K) (tOp (rMod2) (tOp (rPlus K) (tVar 3) (tVar 8)) (tC (.int 3))) (tC (.int 1)))))) (tAsg (tOp (rPlus K) (tVar 10) (tC (.str "x"))) (gName 10)) tNext) (t_names_2 K))
def t_names_4 (K : PySem.W.Frag) : TS := (tSeq (tAsg (tBM K "str" (rJoin K) (tC (.str "")) (tCons (tVar 9) tNil)) (gName 10)) (t_names_3 K))
def t_names_5 (K : PySem.W.Frag) : TS := (tSeq (tAsg (tOp (rPlus K) (tOp (rPlus K) (tSl (rSl K) (tVar 6) tNoPart (tPart (tVar 4))) (tLst (tCons (tOp (rIx K) (tVar 2) (tOp (rMod2) (tOp (rPlus K) (tVar 5) (tOp (rTimes K) (tC (.int 5)) (tVar 8))) (tC (.int 26)))) tNil))) (tSl (rSl K) (tVar 6) (tPart (tOp (rPlus K) (tVar 4) (tC (.int 1)))) tNoPart)) (gName 9)) (t_names_4 K))
def t_names_6 (K : PySem.W.Frag) : TS := (tSeq (tFor (iRng1 (tCons (tVar 1) tNil)) (gName 8) (t_names_5 K)) (t_names_1 K))
def t_names_7 (K : PySem.W.Frag) : TS := (tSeq (tAsg (tLst tNil) (gName 7)) (t_names_6 K))
def t_names_8 (K : PySem.W.Frag) : TS := (tSeq (tAsg (tComp [] 1 (iRng1 (tCons (tVar 3) tNil)) (gName 11) tYes (tOp (rIx K) (tVar 2) (tOp (rMod2) (tOp (rPlus K) (tVar 5) (tOp (rTimes K) (tOp (rTimes K) (tC (.int 7)) (tVar 11)) (tCall (sp_draw K) [] E0 (tCons (tVar 0) (tCons (tC (.int 4)) tNil))))) (tC (.int 26))))) (gName 6)) (t_names_7 K))
def t_names_9 (K : PySem.W.Frag) : TS := (tSeq (tAsg (tCall (sp_draw K) [] E0 (tCons (tVar 0) (tCons (tC (.int 26)) tNil))) (gName 5)) (t_names_8 K))
def t_names_10 (K : PySem.W.Frag) : TS := (tSeq (tAsg (tCall (sp_draw K) [] E0 (tCons (tVar 0) (tCons (tVar 3) tNil))) (gName 4)) (t_names_9 K))
def t_names_11 (K : PySem.W.Frag) : TS := (tSeq (tAsg (tOp (rPlus K) (tC (.int 1)) (tCall (sp_draw K) [] E0 (tCons (tVar 0) (tCons (tC (.int 8)) tNil)))) (gName 3)) (t_names_10 K))
def t_names (K : PySem.W.Frag) : TS := (tSeq (tAsg (tC (.str "abcdefghijklmnopqrstuvwxyz")) (gName 2)) (t_names_11 K))
end Bg
end
section
set_option Elab.async false
set_option linter.all false
set_option maxRecDepth 100000
set_option maxHeartbeats 4000000
namespace Bg
open PySem PySem.Spec PyProof.Rows L2
abbrev PS_p_pushed : List Str := ["belt", "thing"]
abbrev N_p_pushed : List Str := ["belt", "thing"]
def t_p_pushed (K : PySem.W.Frag) : TS := (tRet (tSl (rSl K) (tOp (rPlus K) (tTup (tCons (tVar 1) tNil)) (tVar 0)) tNoPart (tPart (tCB (rLen K) (tCons (tVar 0) tNil)))))
end Bg
end
section
set_option Elab.async false
set_option linter.all false
set_option maxRecDepth 100000
set_option maxHeartbeats 4000000
set_option autoImplicit true
set_option relaxedAutoImplicit true
namespace L2
open PySem PySem.Spec PyProof.Rows
structure QE (X : Cx) (e : Expr) (t : TE) : Prop where
  up : PE X e t
structure QT (X : Cx) (e : Expr) (t : TT) : Prop where
  up : PT X e t
structure QW (X : Cx) (e : Expr) (t : TT) : Prop where
  up : PW X e t
structure QA (X : Cx) (e : List Expr) (t : TA) : Prop where
  up : PA X e t
structure QS (X : Cx) (e : Stmt) (t : TS) : Prop where
  up : PS X e t
structure QSs (X : Cx) (e : List Stmt) (t : TS) : Prop where
  up : PSs X e t
structure QG (X : Cx) (e : Expr) (t : TG) : Prop where
  up : PG X e t
structure QGs (X : Cx) (e : List Expr) (t : TGs) : Prop where
  up : PGs X e t
structure QI (X : Cx) (a b : Expr) (t : TI) : Prop where
  up : PI X a b t
structure QO (X : Cx) (e : Option Expr) (t : TO) : Prop where
  up : PO X e t
structure QIfs (X : Cx) (e : List Expr) (t : TT) : Prop where
  up : PIfs X e t
theorem qv (i : Nat) {x : Str} {pos : Pos} (hN : X.N[i]? = some x := by rfl) (hv : Vis X.env.scope x := by first | exact Or.inl rfl | exact Or.inr (Or.inl rfl) | exact Or.inr (Or.inr rfl)) (hd : (x == ("__debug__" : Str)) = false := by decide) (hcd : (x == ("__classdict__" : Str)) = false := by decide) : QE X (.Name x pos) (tVar i) :=
  ⟨pv i hN hv hd hcd⟩
theorem qe_int {i j pos} : QE X (.Constant (.int i) j pos) (tC (.int i)) :=
  ⟨pe_int ⟩
theorem qe_bl {b j pos} : QE X (.Constant (.bool b) j pos) (tC (.bl b)) :=
  ⟨pe_bl ⟩
theorem qe_non {j pos} : QE X (.Constant .none j pos) (tC .non) :=
  ⟨pe_non ⟩
theorem qe_str {x j pos} : QE X (.Constant (.str x) j pos) (tC (.str x)) :=
  ⟨pe_str ⟩
theorem qe_op {op : Operator} {r : R2} (ho : OpR X (binaryOp op) r) (ha : QE X a ta) (hb : QE X b tb) : QE X (.BinOp a op b pos) (tOp r ta tb) :=
  ⟨pe_op ho ha.up hb.up⟩
theorem qe_un {op : UnaryOp} {r : V → Hp → VK → Prop} (ho : UnR X (unaryOp op) r) (ha : QE X a ta) : QE X (.UnaryOp op a pos) (tUn r ta) :=
  ⟨pe_un ho ha.up⟩
theorem qe_cmpR {op : CmpOp} {r : R2} (ho : OpR X (compareOp op) r) (ha : QE X a ta) (hb : QE X b tb) (hm : behindInMarks op b = false) : QE X (.Compare a [op] [b] pos) (tOp r ta tb) :=
  ⟨pe_cmpR ho ha.up hb.up hm⟩
theorem qe_or {rest : List Expr} (ha : QE X a ta) (hb : QE X (.BoolOp .Or (b :: rest) pos) tb) : QE X (.BoolOp .Or (a :: b :: rest) pos) (tOrV ta tb) :=
  ⟨pe_or ha.up hb.up⟩
theorem qe_one {op} {t : TE} (h : QE X a t) : QE X (.BoolOp op [a] pos) t :=
  ⟨pe_one h.up⟩
theorem qe_ifExp {c : Expr} (hc : QT X c tA) (ha : QE X a ta) (hb : QE X b tb) : QE X (.IfExp c a b pos) (tIf tA ta tb) :=
  ⟨pe_ifExp hc.up ha.up hb.up⟩
theorem qe_slice {lo hi : Option Expr} {r : V → Option Int → Option Int → Hp → VK → Prop} (hr : SlR X r) (he : QE X e te) (hl : QO X lo tl) (hu : QO X hi th) : QE X (.Subscript e (.Slice lo hi none p2) pos) (tSl r te tl th) :=
  ⟨pe_slice hr he.up hl.up hu.up⟩
theorem qe_ix {r : R2} (hr : IxR X r) (ha : QE X a ta) (hb : QE X b tb) (hs : PlainIx b) : QE X (.Subscript a b pos) (tOp r ta tb) :=
  ⟨pe_ix hr ha.up hb.up hs⟩
theorem qe_tup {x1} (h : QA X es t) : QE X (.Tuple es x1 pos) (tTup t) :=
  ⟨pe_tup h.up⟩
theorem qe_lst (h : QA X es t) : QE X (.List es pos) (tLst t) :=
  ⟨pe_lst h.up⟩
theorem qe_bm {id : String} (pa : PlainAttrs T) (slot : Slot T name id) (hty : typeOf (.builtin id) = pure (.type "method_descriptor")) (hm : MtR X id r) (ho : QE X o to) (ha : QA X (e :: es) t) (hbase : attributeBase o name X.env (eval o X.env) = eval o X.env := by rfl) (hfew : ((backTo cpos (starEach (e :: es) X.env)).all (fun x => !x.1) && (backToKw cpos (keywordEach [] X.env)).all (fun x => x.1.isSome)
      && decide ((e :: es).length + ([] : List Keyword).length + (if ([] : List Keyword).isEmpty then 0 else 1) < 30)) = true := by rfl) (hline : (apos.endLine == cpos.line) = true := by rfl) (hs : starEach (e :: es) X.env = (false, eval e X.env) :: starEach es X.env := by rfl) (hplain : (backTo cpos (starEach es X.env)).any (·.1) = false := by rfl) : QE X (.Call (.Attribute o name apos) (e :: es) [] cpos) (tBM X.K T r to t) :=
  ⟨pe_bm pa slot hty hm ho.up ha.up hbase hfew hline hs hplain⟩
theorem qe_callB {id : String} (hc : CallR X (.builtin id) r) (hg : Gl X x) (hm : X.mg x = none) (hv : bootBuiltins x = some (.builtin id)) (ha : QA X (e :: es) t) (hn : x ≠ "__name__" := by decide) (hdb : (x == ("__debug__" : Str)) = false := by decide) (he : starEach (e :: es) X.env = (false, eval e X.env) :: starEach es X.env := by rfl) (hpl : (backTo pos (starEach es X.env)).any (·.1) = false := by rfl) : QE X (.Call (.Name x p) (e :: es) [] pos) (tCB r t) :=
  ⟨pe_callB hc hg hm hv ha.up hn hdb he hpl⟩
theorem qe_callTy (hc : CallR X (.type T) r) (hg : Gl X x) (hm : X.mg x = none) (hv : bootBuiltins x = some (.type T)) (ha : QA X (e :: es) t) (hn : x ≠ "__name__" := by decide) (hdb : (x == ("__debug__" : Str)) = false := by decide) (he : starEach (e :: es) X.env = (false, eval e X.env) :: starEach es X.env := by rfl) (hpl : (backTo pos (starEach es X.env)).any (·.1) = false := by rfl) : QE X (.Call (.Name x p) (e :: es) [] pos) (tCB r t) :=
  ⟨pe_callTy hc hg hm hv ha.up hn hdb he hpl⟩
theorem qe_fn {X : Cx} {x : Str} {ps : List Str} {k : Nat} {sp : Sp} {e : Expr} {es : List Expr} {t : TA} {p pos : Pos} (c : Callee X.prog X.w X.K X.mg X.base x ps k sp) (hr : Room k X.A) (hg : Gl X x) (ha : QA X (e :: es) t) (hdb : (x == ("__debug__" : Str)) = false := by decide) (he : starEach (e :: es) X.env = (false, eval e X.env) :: starEach es X.env := by rfl) (hpl : (backTo pos (starEach es X.env)).any (·.1) = false := by rfl) : QE X (.Call (.Name x p) (e :: es) [] pos) (tCall sp [] E0 t) :=
  ⟨pe_fn c hr hg ha.up hdb he hpl⟩
theorem qe_comp {wi : TI} (ok : CompOk sc N scope NY js) (hsc : X.env.scope = sc) (hN : X.N = N) (hk : NY.length = N.length + k) (hc : X.calm = true) (hit : QI X target iter wi) (hg : ∀ cl C s₀ H₀ fp, QG (cxComp X NY scope cl C s₀ H₀ fp) target g) (hi : ∀ cl C s₀ H₀ fp, QIfs (cxComp X NY scope cl C s₀ H₀ fp) ifs tc) (he : ∀ cl C s₀ H₀ fp, QE (cxComp X NY scope cl C s₀ H₀ fp) elt te) (hs : ∀ x, foldedSetIterable iter X.env x = pure x := by intro _; rfl) : QE X (.ListComp elt [⟨target, iter, ifs, 0⟩] scope pos) (tComp js k wi g tc te) :=
  ⟨pe_comp ok hsc hN hk hc hit.up (fun cl C s₀ H₀ fp => (hg cl C s₀ H₀ fp).up) (fun cl C s₀ H₀ fp => (hi cl C s₀ H₀ fp).up) (fun cl C s₀ H₀ fp => (he cl C s₀ H₀ fp).up) hs⟩
theorem qs_comp {wi : TI} {i : Nat} {y : Str} {py spos : Pos} (ok : CompOk sc N scope NY js) (hsc : X.env.scope = sc) (hN : X.N = N) (hk : NY.length = N.length + k) (hc : X.calm = true) (hit : QI X target iter wi) (hg : ∀ cl C s₀ H₀ fp, QG (cxComp X NY scope cl C s₀ H₀ fp) target g) (hi : ∀ cl C s₀ H₀ fp, QIfs (cxComp X NY scope cl C s₀ H₀ fp) ifs tc) (he : ∀ cl C s₀ H₀ fp, QE (cxComp X NY scope cl C s₀ H₀ fp) elt te) (nd : X.N.Nodup) (hy : X.N[i]? = some y) (hl : Loc X.env.scope y) (hsw : swapsWith (.ListComp elt [⟨target, iter, ifs, 0⟩] scope pos) (some (.Name y py)) spos.line X.env = pure true) (hs : ∀ x, foldedSetIterable iter X.env x = pure x := by intro _; rfl) (hf : X.fn y = true ∨ X.env.scope.names.lookup y = some .local := by first | exact .inl rfl | exact .inr rfl | assumption) : QS X (.Assign [.Name y py] (.ListComp elt [⟨target, iter, ifs, 0⟩] scope pos) spos) (tAsg (tComp js k wi g tc te) (gName i)) :=
  ⟨ps_comp ok hsc hN hk hc hit.up (fun cl C s₀ H₀ fp => (hg cl C s₀ H₀ fp).up) (fun cl C s₀ H₀ fp => (hi cl C s₀ H₀ fp).up) (fun cl C s₀ H₀ fp => (he cl C s₀ H₀ fp).up) nd hy hl hsw hs hf⟩
theorem qo_none  : QO X none tNoPart :=
  ⟨po_none ⟩
theorem qo_some (h : QE X e te) : QO X (some e) (tPart te) :=
  ⟨po_some h.up⟩
theorem qa_nil  : QA X [] tNil :=
  ⟨pa_nil ⟩
theorem qa_cons (ha : QE X e te) (hr : QA X es t) (hs : starEach (e :: es) X.env = (false, eval e X.env) :: starEach es X.env := by rfl) : QA X (e :: es) (tCons te t) :=
  ⟨pa_cons ha.up hr.up hs⟩
theorem qt_cmpR {op : CmpOp} {r : R2} (ho : OpR X (compareOp op) r) (ha : QE X a ta) (hb : QE X b tb) (hm : behindInMarks op b = false) : QT X (.Compare a [op] [b] pos) (tTest (tOp r ta tb)) :=
  ⟨pt_cmpR ho ha.up hb.up hm⟩
theorem qt_not (ha : QT X a tA) : QT X (.UnaryOp .Not a pos) (tNot tA) :=
  ⟨pt_not ha.up⟩
theorem qw_and {rest : List Expr} (ha : QT X a tA) (hb : QW X (.BoolOp .And (b :: rest) pos) tB') : QW X (.BoolOp .And (a :: b :: rest) pos) (tAnd tA tB') :=
  ⟨pw_and ha.up hb.up⟩
theorem qw_and1 (ha : QT X a tA) : QW X (.BoolOp .And [a] pos) tA :=
  ⟨pw_and1 ha.up⟩
theorem qw_or {rest : List Expr} (ha : QT X a tA) (hb : QW X (.BoolOp .Or (b :: rest) pos) tB') : QW X (.BoolOp .Or (a :: b :: rest) pos) (tOr tA tB') :=
  ⟨pw_or ha.up hb.up⟩
theorem qw_or1 (ha : QT X a tA) : QW X (.BoolOp .Or [a] pos) tA :=
  ⟨pw_or1 ha.up⟩
theorem QW.pt {X : Cx} {e : Expr} {t : TT} (h : QW X e t) : QT X e t :=
  ⟨PW.pt h.up⟩
theorem qt_val {e : Expr} {t : TE} (h : QE X e t) (he : ∀ whole, isTrue e X.env whole = (do let v ← whole; standAt e.pos; holding [v] (truthy v)) := by intro _; rfl) : QT X e (tB t) :=
  ⟨pt_val h.up he⟩
theorem qi_range1 {a : Expr} {ta : TA} {p pos : Pos} (hg : Gl X "range") (hm : X.mg "range" = none) (ha : QA X [a] ta) (hs : starEach [a] X.env = [(false, eval a X.env)] := by rfl) : QI X tg (.Call (.Name "range" p) [a] [] pos) (iRng1 ta) :=
  ⟨pi_range1 hg hm ha.up hs⟩
theorem qi_seq {tg l : Expr} {tl : TE} (hl : QE X l tl) : QI X tg l (iSeq X.K tl) :=
  ⟨pi_seq hl.up⟩
theorem qg_name {i : Nat} {x : Str} (hN : X.N.Nodup) (hi : X.N[i]? = some x) (hx : Loc X.env.scope x) (hf : X.fn x = true ∨ X.env.scope.names.lookup x = some .local := by first | exact .inl rfl | exact .inr rfl | assumption) : QG X (.Name x pos) (gName i) :=
  ⟨pg_name hN hi hx hf⟩
theorem qg_tup {es : List Expr} {k : Nat} {t : TGs} {n : Nat} (hc : X.calm = true) (h : QGs X es t) (hn : (assignEach es X.env).length = n := by rfl) (hst : (assignEach es X.env).findIdx? (·.1) = none := by rfl) : QG X (.Tuple es k pos) (gTup X.K n t) :=
  ⟨pg_tup hc h.up hn hst⟩
theorem qg_tupL {es : List Expr} {k : Nat} {t : TGs} {n : Nat} (hc : X.calm = true) (h : QGs X es t) (hn : (assignEach es X.env).length = n := by rfl) (hst : (assignEach es X.env).findIdx? (·.1) = none := by rfl) : QG X (.Tuple es k pos) (gTupL X.K n t) :=
  ⟨pg_tupL hc h.up hn hst⟩
theorem qgs_nil  : QGs X [] gNil :=
  ⟨pgs_nil ⟩
theorem qgs_cons {e : Expr} {es : List Expr} {t : TG} {u : TGs} (h1 : QG X e t) (h2 : QGs X es u) (hs : (assignEach (e :: es) X.env).map (·.2) = assign e X.env :: (assignEach es X.env).map (·.2) := by rfl) : QGs X (e :: es) (gCons t u) :=
  ⟨pgs_cons h1.up h2.up hs⟩
theorem qg_sub {o i : Expr} {to ti : TE} {t : TSet} (ho : QE X o to) (hi : QE X i ti) (hs : PSet X t) (ha : ∀ v, assign (.Subscript o i pos) X.env v = (do
      let ov ← holding [v] (eval o X.env)
      let iv ← holding [v, ov] (eval i X.env)
      standAt pos
      holding [v, ov, iv] (setItem ov iv v)
      release [v, ov, iv] []) := by intro _; rfl) : QG X (.Subscript o i pos) (gSub to ti t) :=
  ⟨pg_sub ho.up hi.up hs ha⟩
theorem qs_set {i : Nat} {x : Str} {e : Expr} {te : TE} {pos' : Pos} (hN : X.N.Nodup) (hi : X.N[i]? = some x) (hx : Loc X.env.scope x) (he : QE X e te) (hs : swapsWith e (some (.Name x pos')) pos.line X.env = pure false := by rfl) (hf : X.fn x = true ∨ X.env.scope.names.lookup x = some .local := by first | exact .inl rfl | exact .inr rfl | assumption) : QS X (.Assign [.Name x pos'] e pos) (tAsg te (gName i)) :=
  ⟨ps_set hN hi hx he.up hs hf⟩
theorem qs_asg {tg e : Expr} {te : TE} {g : TG} (he : QE X e te) (hg : QG X tg g) (hs : swapsWithSole [tg] e pos.line X.env = pure false := by rfl) (hw : swappedStores [tg] e X.env = pure none := by rfl) (h1 : (assignEach [tg] X.env).map (·.2) = [assign tg X.env] := by rfl) : QS X (.Assign [tg] e pos) (tAsg te g) :=
  ⟨ps_asg he.up hg.up hs hw h1⟩
theorem qs_expr (he : QE X e te) (hs : swapsWith e none pos.line X.env = pure false := by rfl) : QS X (.Expr e pos) (tDrop te) :=
  ⟨ps_expr he.up hs⟩
theorem qs_ret (he : QE X e te) : QS X (.Return (some e) pos) (tRet te) :=
  ⟨ps_ret he.up⟩
theorem qs_if {c : Expr} {a b : List Stmt} {tc : TT} (hc : QT X c tc) (ha : QSs X a t) (hb : QSs X b u) : QS X (.If c a b pos) (tIfS tc t u) :=
  ⟨ps_if hc.up ha.up hb.up⟩
theorem qs_for {iter : Expr} {body : List Stmt} {wi : TI} {g : TG} {tb : TS} {pos : Pos} (hp : PassesOwn (model X.prog X.w) X.A X.env X.xe) (hc : X.calm = true) (hi : QI X tg iter wi) (hg : QG X tg g) (hb : QSs X body tb) (hs : ∀ x, foldedSetIterable iter X.env x = pure x := by intro _; rfl) : QS X (.For tg iter body [] pos) (tFor wi g tb) :=
  ⟨ps_for hp hc hi.up hg.up hb.up hs⟩
theorem qss_cons {st : Stmt} {rest : List Stmt} (h1 : QS X st t) (h2 : QSs X rest u) : QSs X (st :: rest) (tSeq t u) :=
  ⟨pss_cons h1.up h2.up⟩
theorem qss_one {st : Stmt} (h1 : QS X st t) : QSs X [st] t :=
  ⟨pss_one h1.up⟩
theorem qss_nil  : QSs X [] tNext :=
  ⟨pss_nil ⟩
theorem qe_bltn {x : Str} {v : V} {u : Value} {pos : Pos} (hg : Gl X x) (hm : X.mg x = none) (hv : bootBuiltins x = some u) (r : RelV v u) (hn : x ≠ "__name__" := by decide) (hd : (x == ("__debug__" : Str)) = false := by decide) : QE X (.Name x pos) (tC v) :=
  ⟨pe_bltn hg hm hv r hn hd⟩
theorem qif_nil {X : Cx} : QIfs X [] tYes :=
  ⟨pif_nil ⟩
end L2
end
section
set_option Elab.async false
set_option linter.all false
set_option maxRecDepth 100000
namespace L2
open PySem PySem.Spec PyProof.Rows
section
variable {κ : Type} [DecidableEq κ]
end
section
variable {P : Program} {w : World} {H : Hp} {h : Heap} {a : Addr}
end
section
variable {X : Cx} {pins : List (Addr × Obj)} {σ : St} {H : Hp} {s : Shared} {a : Addr} {y v : V} {u r : Value} {o : Option V} {A : Around} {E : Value → Shared → Prop}
end
section
variable {X : Cx} {pins : List (Addr × Obj)} {σ : St} {H : Hp} {s : Shared} {a : Addr} {kvs : List (Key × V)} {k : Key} {u : Value} {A : Around} {E : Value → Shared → Prop}
end
section
variable {X : Cx} {o i e value : Expr} {pos pos' tpos : Pos} {td ty tv : TE}
end
section
variable {X : Cx} {pos : Pos}
end
section
variable {X : Cx} {pins : List (Addr × Obj)} {σ : St} {H : Hp} {s : Shared} {a : Addr} {y d : V} {u r : Value} {o : Option V} {A : Around} {E : Value → Shared → Prop}
end
section
variable {X : Cx} {o e f : Expr} {apos cpos : Pos} {td ty tx : TE}
end
section
variable {X : Cx} {pins : List (Addr × Obj)} {σ : St} {H : Hp} {s : Shared} {a : Addr} {kvs : List (Key × V)} {A : Around} {E : Value → Shared → Prop}
end
section
variable {X : Cx} {pins : List (Addr × Obj)} {σ : St} {H : Hp} {s : Shared} {a : Addr} {y : V} {u : Value} {A : Around} {E : Value → Shared → Prop}
end
end L2
namespace L2
open PySem PySem.Spec PyProof.Rows
section
variable {X : Cx}
end
section
variable {κ : Type} [DecidableEq κ]
end
end L2
end
section
set_option Elab.async false
set_option linter.all false
set_option maxRecDepth 100000
set_option maxHeartbeats 4000000
namespace L2
open PySem PySem.Spec PyProof.Rows
section
variable {X : Cx}
end
section
variable {P : Program} {w : World} {K : PySem.W.Frag} {mg : Str → Option Value} {base : Heap}
end
end L2
end
section
set_option Elab.async false
set_option linter.all false
set_option maxRecDepth 100000
set_option maxHeartbeats 4000000
namespace L2
open PySem PySem.Spec PyProof.Rows
end L2
end
section
set_option Elab.async false
set_option linter.all false
set_option maxRecDepth 100000
set_option maxHeartbeats 4000000
namespace PySem.W
open PySem PySem.Calls PyProof.Rows PyProof.V PySem.Spec
section
variable {prog : Program} {w : World} {A : Around} {E : Value → Shared → Prop} {s : Shared} {r l : Addr}
end
end PySem.W
namespace L2
open PySem PySem.Spec PyProof.Rows
section
variable {X : Cx}
end
end L2
end
section
set_option Elab.async false
set_option linter.all false
set_option maxRecDepth 100000
set_option maxHeartbeats 4000000
namespace HT
open PySem PyProof.Rows
section
variable {prog : Program} {w : World} {A : Around} {E : Value → Shared → Prop} {s : Shared}
end
end HT
namespace L2
open PySem PySem.Spec PyProof.Rows
section
variable {X : Cx}
end
end L2
end
section
set_option Elab.async false
set_option linter.all false
set_option maxRecDepth 100000
set_option maxHeartbeats 4000000
namespace PySem
open Sem (wp)
namespace F
end F
def ItAt (tp : Bool) (h : Heap) (i l : Addr) (k : Nat) : Prop := match tp with
  | true => h.IsTupleIter i l k
  | false => h.IsListIter i l k
def SqAtH (tp : Bool) (h : Heap) (l : Addr) (xs : Array Value) : Prop := match tp with
  | true => h.IsTuple l xs
  | false => h.IsList l xs
theorem ItAt.at {tp : Bool} {h h' : Heap} {i l : Addr} {k : Nat} (x : ItAt tp h i l k) (e : ∀ o, h.get? i = some o → h'.get? i = some o) : ItAt tp h' i l k := by
  cases tp with
  | true => exact Heap.IsTupleIter.at (show h.IsTupleIter i l k from x) e
  | false => exact Heap.IsListIter.at (show h.IsListIter i l k from x) e
theorem SqAtH.at {tp : Bool} {h h' : Heap} {l : Addr} {xs : Array Value} (x : SqAtH tp h l xs) (e : ∀ o, h.get? l = some o → h'.get? l = some o) : SqAtH tp h' l xs := by
  cases tp with
  | true => obtain ⟨o, ho, r⟩ := (show h.IsTuple l xs from x); exact ⟨o, e o ho, r⟩
  | false => exact Heap.IsList.at (show h.IsList l xs from x) e
theorem ItAt.extBut {tp : Bool} {h h' : Heap} {i l b : Addr} {k : Nat} (x : ItAt tp h i l k) (hs : Heap.ExtBut b h h') (n : i ≠ b) : ItAt tp h' i l k := x.at fun o e => hs i o n e
theorem SqAtH.extBut {tp : Bool} {h h' : Heap} {l b : Addr} {xs : Array Value} (x : SqAtH tp h l xs) (hs : Heap.ExtBut b h h') (n : l ≠ b) : SqAtH tp h' l xs := x.at fun o e => hs l o n e
theorem ItAt.lt {tp : Bool} {h : Heap} {i l : Addr} {k : Nat} (x : ItAt tp h i l k) : i < h.objs.size := by
  cases tp with
  | true => obtain ⟨o, ho, _⟩ := (show h.IsTupleIter i l k from x); exact Heap.lt_size ho
  | false => obtain ⟨o, ho, _⟩ := (show h.IsListIter i l k from x); exact Heap.lt_size ho
theorem SqAtH.lt {tp : Bool} {h : Heap} {l : Addr} {xs : Array Value} (x : SqAtH tp h l xs) : l < h.objs.size := by
  cases tp with
  | true => obtain ⟨o, ho, _⟩ := (show h.IsTuple l xs from x); exact Heap.lt_size ho
  | false => obtain ⟨o, ho, _⟩ := (show h.IsList l xs from x); exact Heap.lt_size ho
def itObj (tp : Bool) (l : Addr) : Obj := { cls := .type (if tp then "tuple_iterator" else "list_iterator"), data := .fields #[.ref l, .int 0 0] }
section
variable {prog : Program} {w : World} {A : Around} {E : Value → Shared → Prop} {s : Shared}
theorem pyIter_seq {tp : Bool} {l : Addr} {xs : Array Value} {Q : Value → Shared → Prop} (hl : SqAtH tp s.heap l xs) (hQ : Q (.ref s.heap.objs.size) { s with heap := s.heap.push (itObj tp l) }) : wpAny (model prog w) A (pyIter (.ref l)) Q E s := by
  cases tp with
  | true => exact wpAny_pyIter_tuple (show s.heap.IsTuple l xs from hl) hQ
  | false => exact wpAny_pyIter_list (show s.heap.IsList l xs from hl) hQ
theorem itAt_new {tp : Bool} {l : Addr} (h : Heap) : ItAt tp (h.push (itObj tp l)) h.objs.size l 0 := by
  cases tp with
  | true => exact ⟨_, Heap.get?_push_size _ rfl, rfl, rfl⟩
  | false => exact ⟨_, Heap.get?_push_size _ rfl, rfl, rfl⟩
theorem nextOf_tuple_item {it t : Addr} {i : Nat} {items} {x : Value} {Q : Value → Shared → Prop} (hit : s.heap.IsTupleIter it t i)
    (ht : s.heap.IsTuple t items) (hx : items[i]? = some x)
    (hQ : ∀ h', h'.IsTupleIter it t (i + 1) → Heap.SameBut it s.heap h' → Q x { s with heap := h' }) :
    wpAny (model prog w) A (Builtin.SmallTypes.nextOf (.ref it)) Q E s := by
  obtain ⟨o, ho, hc, hd⟩ := id hit
  obtain ⟨ol, hol, _, nl, hdl⟩ := ht
  unfold Builtin.SmallTypes.nextOf
  refine wpAny_bind (wpAny_callSpecial?_slot (name := Str.ofString "__next__") hit.typeIs F.slot_tuple_iterator_next
    (wpAny_call_entry F.slot_tuple_iterator_next hit.typeIs F.entry_tuple_iterator_next ?_ (F.args_tuple_iterator_next_1 _)))
  show wpAny _ _ (field (.ref it) 0 >>= _) _ _ s
  refine wpAny_bind (wpAny_field ho hd (x := .ref t) rfl ?_)
  show wpAny _ _ (if (Value.ref t == Value.none) = true then _ else _) _ _ s
  rw [if_neg (show ¬ ((Value.ref t == Value.none) = true) from Bool.false_ne_true)]
  show wpAny _ _ (field (.ref it) 1 >>= _) _ _ s
  refine wpAny_bind (wpAny_field ho hd (x := .int i 0) rfl ?_)
  show wpAny _ _ (seqItems? (.ref t) >>= _) _ _ s
  refine wpAny_bind (wpAny_seqItems hol hdl ?_)
  simp only [Int.toNat_natCast, hx]
  refine wpAny_bind (wpAny_setField ho hd (by simp) (wpAny_pure ⟨x, rfl, wpAny_pure (hQ _ ?_ (Heap.SameBut.update ..))⟩))
  exact ⟨_, Heap.get?_update_self _ ho (Obj.isFreed_of_fields (Obj.data_mapFields hd _)), (Obj.cls_mapFields ..).trans hc, by
    rw [Obj.data_mapFields hd]; simp [rawInt]⟩
theorem nextOf_tuple_end {it t : Addr} {i : Nat} {items} {Q : Value → Shared → Prop} (hh : A.handled = none)
    (hit : s.heap.IsTupleIter it t i) (ht : s.heap.IsTuple t items) (hx : items[i]? = none)
    (hE : ∀ h' e, Heap.ExtBut it s.heap h' → (∃ o, h'.get? e = some o ∧ o.cls = .type "StopIteration") → E (.ref e) { s with heap := h' }) : wpAny (model prog w) A (Builtin.SmallTypes.nextOf (.ref it)) Q E s := by
  obtain ⟨o, ho, hc, hd⟩ := id hit
  obtain ⟨ol, hol, _, nl, hdl⟩ := ht
  unfold Builtin.SmallTypes.nextOf
  refine wpAny_bind (wpAny_callSpecial?_slot (name := Str.ofString "__next__") hit.typeIs F.slot_tuple_iterator_next
    (wpAny_call_entry F.slot_tuple_iterator_next hit.typeIs F.entry_tuple_iterator_next ?_ (F.args_tuple_iterator_next_1 _)))
  show wpAny _ _ (field (.ref it) 0 >>= _) _ _ s
  refine wpAny_bind (wpAny_field ho hd (x := .ref t) rfl ?_)
  show wpAny _ _ (if (Value.ref t == Value.none) = true then _ else _) _ _ s
  rw [if_neg (show ¬ ((Value.ref t == Value.none) = true) from Bool.false_ne_true)]
  show wpAny _ _ (field (.ref it) 1 >>= _) _ _ s
  refine wpAny_bind (wpAny_field ho hd (x := .int i 0) rfl ?_)
  show wpAny _ _ (seqItems? (.ref t) >>= _) _ _ s
  refine wpAny_bind (wpAny_seqItems hol hdl ?_)
  simp only [Int.toNat_natCast, hx]
  refine wpAny_bind (wpAny_rule (wpAny_bind (wpAny_setField ho hd (by simp) ?_)))
  show wpAny _ _ (newExc (.type "StopIteration") [] >>= _) _ _ _
  refine wpAny_bind ?_
  simp only [newExc, newTuple]
  refine wpAny_bind (wpAny_newObj_type ?_ (by size_fits))
  refine wpAny_bind (m := firstArgMember _ _) (wpAny_of_eq (a := Value.none) (by first | rfl | (simp only [firstArgMember]; rfl)) ?_)
  refine wpAny_newObj_type ?_ (by size_fits)
  simp only [raiseNew]
  refine wpAny_bind (wpAny_handled ?_)
  first | rw [show A.in1.handled = none from hh] | rw [hh]
  refine wpAny_bind (wpAny_pure (wpAny_throw ?_))
  exact hE _ _ (((Heap.SameBut.update ..).extBut.push _).push _) ⟨_, Heap.get?_push_size _ rfl, rfl⟩
theorem nextOf_item {tp : Bool} {it l : Addr} {i : Nat} {xs : Array Value} {x : Value} {Q : Value → Shared → Prop} (hit : ItAt tp s.heap it l i) (hl : SqAtH tp s.heap l xs) (hx : xs[i]? = some x)
    (hQ : ∀ h', ItAt tp h' it l (i + 1) → Heap.SameBut it s.heap h' → Q x { s with heap := h' }) : wpAny (model prog w) A (Builtin.SmallTypes.nextOf (.ref it)) Q E s := by
  cases tp with
  | true => exact nextOf_tuple_item hit hl hx hQ
  | false => exact wpAny_nextOf_list_item hit hl hx hQ
theorem nextOf_end {tp : Bool} {it l : Addr} {i : Nat} {xs : Array Value} {Q : Value → Shared → Prop} (hh : A.handled = none) (hit : ItAt tp s.heap it l i) (hl : SqAtH tp s.heap l xs) (hx : xs[i]? = none)
    (hE : ∀ h' e, Heap.ExtBut it s.heap h' → (∃ o, h'.get? e = some o ∧ o.cls = .type "StopIteration") → E (.ref e) { s with heap := h' }) : wpAny (model prog w) A (Builtin.SmallTypes.nextOf (.ref it)) Q E s := by
  cases tp with
  | true => exact nextOf_tuple_end hh hit hl hx hE
  | false => exact wpAny_nextOf_list_end hh hit hl hx hE
end
abbrev IsZipB (h : Heap) (z TI TO T0 : Addr) (b : Bool) : Prop :=
  h.get? z = some { cls := .type "zip", dict := none, data := .fields #[rawInt T0, .bool b, .bool false, .ref TI, .ref TO], slots := #[] }
section
variable {prog : Program} {w : World} {A : Around} {E : Value → Shared → Prop} {s : Shared} {t1 t2 : Bool}
theorem wpAny_lia {a : Addr} {Q : Option Obj → Shared → Prop} (h : Q (s.heap.get? a) s) : wpAny (model prog w) A (loadIfAlive a) Q E s := fun Γ p hin => by
  show wp _ Γ (Sem.loadIfAlive a Sem.pure) _ _ p s
  rw [Sem.wp_loadIfAlive]
  exact wpAny_pure (M := model prog w) (A := A) (E := E) h Γ p hin
theorem zipB_end {z TI TO T0 i1 i2 l1 l2 : Addr} {k1 k2 : Nat} {xs ys : Array Value} {b : Bool} {oT : Obj} {Q : Fin → Shared → Prop} (hh : A.handled = none) (D : ZipApart z TI TO i1 i2 l1 l2)
    (hz : IsZipB s.heap z TI TO T0 b) (hTI : IsPair s.heap TI (.ref i1) (.ref i2)) (hT0 : s.heap.get? T0 = some oT)
    (h1 : ItAt t1 s.heap i1 l1 k1) (h2 : ItAt t2 s.heap i2 l2 k2) (hl1 : SqAtH t1 s.heap l1 xs) (hl2 : SqAtH t2 s.heap l2 ys) (hend : xs[k1]? = none)
    (hE : ∀ h' e, (∀ c o, c ≠ z → c ≠ i1 → c ≠ i2 → s.heap.get? c = some o → h'.get? c = some o) → (∃ o, h'.get? e = some o ∧ o.cls = .type "StopIteration") → E (.ref e) { s with heap := h' }) :
    wpAny (model prog w) A (Builtin.«zip.__next__» ⟨[.ref z], []⟩) Q E s := by
  show wpAny _ _ (field (.ref z) 2 >>= _) _ _ _
  refine wpAny_bind (wpAny_field hz rfl (x := .bool false) rfl ?_)
  show wpAny _ _ (field (.ref z) 3 >>= _) _ _ _
  refine wpAny_bind (wpAny_field hz rfl (x := .ref TI) rfl ?_)
  refine wpAny_bind (wpAny_seqItems hTI rfl ?_)
  show wpAny _ _ (Builtin.SmallTypes.ownedTupleIsFree (.ref z) >>= _) _ _ _
  refine wpAny_bind ?_
  unfold Builtin.SmallTypes.ownedTupleIsFree
  refine wpAny_bind (wpAny_field hz rfl (x := rawInt T0) rfl ?_)
  show wpAny _ _ (loadIfAlive (T0 : Int).toNat >>= _) _ _ _
  have hn : (T0 : Int).toNat = T0 := by omega
  rw [hn]
  refine wpAny_bind (wpAny_lia ?_)
  rw [hT0]
  show wpAny _ _ (field (.ref z) 1 >>= _) _ _ _
  refine wpAny_bind (wpAny_field hz rfl (x := .bool b) rfl ?_)
  have key : ∀ (h₁ : Heap) (Q' : Value → Shared → Prop), Heap.SameBut z s.heap h₁ → wpAny (model prog w) A (Builtin.SmallTypes.nextOf (.ref i1)) Q' E { s with heap := h₁ } := by
    intro h₁ Q' hs₁
    refine nextOf_end hh (h1.extBut hs₁.extBut D.i1z) (hl1.extBut hs₁.extBut D.l1z) hend fun h₂ e hs₂ he => ?_
    exact hE h₂ e (fun c o c1 c2 _ x => hs₂ _ _ c2 (hs₁.extBut _ _ c1 x)) he
  cases b with
  | true =>
    rw [if_neg (by decide)]
    refine wpAny_pure ?_
    rw [if_neg (by decide)]
    simp only [List.forIn_toArray, List.forIn_cons, List.forIn_nil]
    refine wpAny_bind (wpAny_bind (wpAny_bind (wpAny_holding ?_)))
    show wpAny _ _ (Builtin.SmallTypes.nextOf (.ref i1) >>= _) _ _ _
    exact wpAny_bind (key s.heap _ (Heap.SameBut.refl ..))
  | false =>
    rw [if_pos (by decide)]
    refine wpAny_bind (wpAny_setField_rec hz (by simp) fun h₁ hz₁ hs₁ => ?_)
    refine wpAny_pure ?_
    rw [if_neg (by decide)]
    simp only [List.forIn_toArray, List.forIn_cons, List.forIn_nil]
    refine wpAny_bind (wpAny_bind (wpAny_bind (wpAny_holding ?_)))
    show wpAny _ _ (Builtin.SmallTypes.nextOf (.ref i1) >>= _) _ _ _
    exact wpAny_bind (key h₁ _ hs₁)
end
structure Marked (z TI TO : Addr) (f : Value) (b : Bool) (h h' : Heap) : Prop where
  at_ : h'.get? z = some { cls := .type "zip", dict := none, data := .fields #[f, .bool b, .bool false, .ref TI, .ref TO], slots := #[] }
  sm : Heap.SameBut z h h'
section
variable {prog : Program} {w : World} {A : Around} {E : Value → Shared → Prop} {s : Shared} {t1 t2 : Bool}
theorem mark0 {z TI TO : Addr} {f f' : Value} {b : Bool} {Q : Unit → Shared → Prop} (hz : s.heap.get? z = some { cls := .type "zip", dict := none, data := .fields #[f, .bool b, .bool false, .ref TI, .ref TO], slots := #[] })
    (k : ∀ h', Marked z TI TO f' b s.heap h' → Q () { s with heap := h' }) : wpAny (model prog w) A (setField (.ref z) 0 f') Q E s :=
  wpAny_setField_rec hz (by simp) fun h' a e => k h' ⟨a, e⟩
theorem zipA_item {z TI TO i1 i2 l1 l2 : Addr} {k1 k2 : Nat} {xs ys : Array Value} {x y a b : Value} {Q : Value → Shared → Prop} (D : ZipApart z TI TO i1 i2 l1 l2)
    (hz : IsZip s.heap z TI TO .none) (hTI : IsPair s.heap TI (.ref i1) (.ref i2)) (hTO : IsPair s.heap TO a b)
    (h1 : ItAt t1 s.heap i1 l1 k1) (h2 : ItAt t2 s.heap i2 l2 k2) (hl1 : SqAtH t1 s.heap l1 xs) (hl2 : SqAtH t2 s.heap l2 ys) (hx : xs[k1]? = some x) (hy : ys[k2]? = some y)
    (k : ∀ h', IsZipB h' z TI TO s.heap.objs.size false → ItAt t1 h' i1 l1 (k1 + 1) → ItAt t2 h' i2 l2 (k2 + 1) → IsPair h' s.heap.objs.size x y → IsPair h' TO x y →
      (∀ c o, c ≠ z → c ≠ TO → c ≠ i1 → c ≠ i2 → s.heap.get? c = some o → h'.get? c = some o) → Q (.ref s.heap.objs.size) { s with heap := h' }) :
    wpAny (model prog w) A (Builtin.«zip.__next__» ⟨[.ref z], []⟩) (fun fin s' => ∃ v, fin = .done (.ret v) ∧ Q v s') E s := by
  refine wpAny_bind (m := field (.ref z) 2) (wpAny_field hz rfl (x := .bool false) rfl ?_)
  refine wpAny_bind (m := field (.ref z) 3) (wpAny_field hz rfl (x := .ref TI) rfl (wpAny_bind (wpAny_seqItems hTI rfl ?_)))
  refine wpAny_bind (m := Builtin.SmallTypes.ownedTupleIsFree (.ref z)) (wpAny_bind (wpAny_field hz rfl (x := .none) rfl (wpAny_pure ?_)))
  refine wpAny_bind (wpAny_rule (wpAny_bind (wpAny_field hz rfl (x := .ref TO) rfl (wpAny_bind (mark0 hz fun g1 m1 => ?_)))))
  simp only [List.zipIdx_cons, List.zipIdx_nil, List.forIn_cons, List.forIn_nil]
  have e1 := m1.sm.extBut
  refine wpAny_bind (wpAny_bind (wpAny_bind (wpAny_onRaise (wpAny_bind (m := Builtin.SmallTypes.nextOf (.ref i1)) (nextOf_item (h1.extBut e1 D.i1z) (hl1.extBut e1 D.l1z) hx fun g2 i1' s2 => wpAny_pure ?_)))))
  have e2 := s2.extBut
  have o2 : IsPair g2 TO a b := e2 _ _ D.TOi1 (e1 _ _ D.TOz hTO)
  refine wpAny_bind (wpAny_seqItems o2 rfl (wpAny_bind (wpAny_updateSeq_pair o2 fun g3 o3 s3 => wpAny_bind (wpAny_letGo (wpAny_pure ?_)))))
  have e3 := s3.extBut
  replace o3 : IsPair g3 TO x b := o3
  refine wpAny_bind (wpAny_bind (wpAny_onRaise (wpAny_bind (m := Builtin.SmallTypes.nextOf (.ref i2)) (nextOf_item (((h2.extBut e1 D.i2z).extBut e2 D.i12.symm).extBut e3 D.TOi2.symm) (((hl2.extBut e1 D.l2z).extBut e2 D.l2i1).extBut e3 D.l2TO) hy fun g4 i2' s4 => wpAny_pure ?_))))
  have e4 := s4.extBut
  have o4 : IsPair g4 TO x b := e4 _ _ D.TOi2 o3
  refine wpAny_bind (wpAny_seqItems o4 rfl (wpAny_bind (wpAny_updateSeq_pair o4 fun g5 o5 s5 => wpAny_bind (wpAny_letGo (wpAny_pure (wpAny_pure ?_))))))
  have e5 := s5.extBut
  replace o5 : IsPair g5 TO x y := o5
  refine wpAny_bind (wpAny_seqItems o5 rfl (wpAny_bind (wpAny_newTuple ?_)))
  have size : g5.objs.size = s.heap.objs.size := (s5.1.trans (s4.1.trans (s3.1.trans (s2.1.trans m1.sm.1))))
  have z5 := Heap.get?_push_of_some { cls := .type "tuple", data := .seq #[x, y] } (e5 _ _ D.TOz.symm (e4 _ _ D.i2z.symm (e3 _ _ D.TOz.symm (e2 _ _ D.i1z.symm m1.at_))))
  have zl : z ≠ g5.objs.size := by rw [size]; exact Nat.ne_of_lt (Heap.lt_size hz)
  refine wpAny_bind (m := Builtin.SmallTypes.ownedTupleHandOut (.ref z) (.ref g5.objs.size)) (wpAny_bind (mark0 z5 fun g6 m6 => wpAny_setField_rec m6.at_ (by simp) fun g7 z7 s7 => wpAny_pure ⟨_, rfl, ?_⟩))
  have up : ∀ c o, c ≠ z → g5.get? c = some o → g7.get? c = some o := fun c o n e => s7.extBut _ _ n (m6.sm.extBut _ _ n (Heap.get?_push_of_some _ e))
  have pr : IsPair g7 g5.objs.size x y := s7.extBut _ _ (Ne.symm zl) (m6.sm.extBut _ _ (Ne.symm zl) (Heap.get?_push_size _ rfl))
  rw [size] at pr
  show Q (.ref g5.objs.size) _
  have z7' : IsZipB g7 z TI TO g5.objs.size false := z7
  rw [size] at z7' ⊢
  refine k g7 z7' ?_ ?_ pr (up _ _ D.TOz o5) fun c o c1 c2 c3 c4 e => up c o c1 (e5 _ _ c2 (e4 _ _ c4 (e3 _ _ c2 (e2 _ _ c3 (e1 _ _ c1 e)))))
  · exact (((i1'.extBut e3 D.TOi1.symm).extBut e4 D.i12).extBut e5 D.TOi1.symm).at fun o e => up _ o D.i1z e
  · exact (i2'.extBut e5 D.TOi2.symm).at fun o e => up _ o D.i2z e
theorem zipA_end {z TI TO i1 i2 l1 l2 : Addr} {k1 k2 : Nat} {xs ys : Array Value} {Q : Fin → Shared → Prop} (hh : A.handled = none) (D : ZipApart z TI TO i1 i2 l1 l2)
    (hz : IsZip s.heap z TI TO .none) (hTI : IsPair s.heap TI (.ref i1) (.ref i2)) (h1 : ItAt t1 s.heap i1 l1 k1) (hl1 : SqAtH t1 s.heap l1 xs) (hx : xs[k1]? = none)
    (k : ∀ h' e, (∀ c o, c ≠ z → c ≠ i1 → c ≠ i2 → s.heap.get? c = some o → h'.get? c = some o) → (∃ o, h'.get? e = some o ∧ o.cls = .type "StopIteration") → E (.ref e) { s with heap := h' }) :
    wpAny (model prog w) A (Builtin.«zip.__next__» ⟨[.ref z], []⟩) Q E s := by
  refine wpAny_bind (m := field (.ref z) 2) (wpAny_field hz rfl (x := .bool false) rfl ?_)
  refine wpAny_bind (m := field (.ref z) 3) (wpAny_field hz rfl (x := .ref TI) rfl (wpAny_bind (wpAny_seqItems hTI rfl ?_)))
  refine wpAny_bind (m := Builtin.SmallTypes.ownedTupleIsFree (.ref z)) (wpAny_bind (wpAny_field hz rfl (x := .none) rfl (wpAny_pure ?_)))
  refine wpAny_bind (wpAny_rule (wpAny_bind (wpAny_field hz rfl (x := .ref TO) rfl (wpAny_bind (mark0 hz fun g1 m1 => ?_)))))
  simp only [List.zipIdx_cons, List.zipIdx_nil, List.forIn_cons, List.forIn_nil]
  have e1 := m1.sm.extBut
  refine wpAny_bind (wpAny_bind (wpAny_bind (wpAny_onRaise (wpAny_bind (m := Builtin.SmallTypes.nextOf (.ref i1)) (nextOf_end hh (h1.extBut e1 D.i1z) (hl1.extBut e1 D.l1z) hx fun g2 e x2 ⟨oe, he, ce⟩ => ?_)))))
  have z2 := x2 _ _ D.i1z.symm m1.at_
  have ne : e ≠ z := fun q => by subst q; rw [z2] at he; cases he; simp at ce
  exact mark0 z2 fun g3 m3 => k g3 e (fun c o c1 c2 _ q => m3.sm.extBut _ _ c1 (x2 _ _ c2 (e1 _ _ c1 q))) ⟨oe, m3.sm.extBut _ _ ne he, ce⟩
end
end PySem
namespace PySem
open Sem (wp)
abbrev zhA (t1 : Bool) (h : Heap) (l1 : Addr) : Heap := h.push (itObj t1 l1)
abbrev zhB (t1 t2 : Bool) (h : Heap) (l1 l2 : Addr) : Heap := (zhA t1 h l1).push (itObj t2 l2)
abbrev zhC (t1 t2 : Bool) (h : Heap) (l1 l2 : Addr) : Heap := (zhB t1 t2 h l1 l2).push { cls := .type "tuple", data := .seq #[.ref h.objs.size, .ref (zhA t1 h l1).objs.size] }
abbrev zhD (t1 t2 : Bool) (h : Heap) (l1 l2 : Addr) : Heap := (zhC t1 t2 h l1 l2).push { cls := .type "tuple", data := .seq #[.none, .none] }
abbrev zhE (t1 t2 : Bool) (h : Heap) (l1 l2 : Addr) : Heap := (zhD t1 t2 h l1 l2).push { cls := .type "zip", data := .fields #[.none, .bool false, .bool false, .ref (zhB t1 t2 h l1 l2).objs.size, .ref (zhC t1 t2 h l1 l2).objs.size] }
theorem meets_zip_any {t1 t2 : Bool} (l1 l2 : Addr) (xs ys : Array Value) :
    Meets (Builtin.«zip.__new__» ⟨[.type "zip", .ref l1, .ref l2], []⟩) (fun _ R s => SqAtH t1 s.heap l1 xs ∧ SqAtH t2 s.heap l2 ys ∧
      R (.ok (.ret (.ref (zhD t1 t2 s.heap l1 l2).objs.size))) { s with heap := zhE t1 t2 s.heap l1 l2 }) :=
  .of_wp fun prog w A R s h => by
    obtain ⟨hp, g, d, tk, os⟩ := s
    obtain ⟨a1, a2, h⟩ := h
    have hsub := sub_zip
    have b1 : SqAtH t1 (Shared.heap ⟨hp, g, d, tk, os⟩) l1 xs := a1
    have b2 : SqAtH t2 (Shared.heap ⟨hp.push (itObj t1 l1), g, d, tk, os⟩) l2 ys := a2.at fun o e => Heap.get?_push_of_some _ e
    wp_walk using pyIter_seq b1, pyIter_seq b2
    exact ⟨_, rfl, h⟩
section
variable {prog : Program} {w : World} {A : Around} {R : Result → Shared → Prop} {t1 t2 : Bool} {K : Type} [DecidableEq K] {knd : KeyKind prog w K}
structure ZipSt (t1 t2 : Bool) (z TI TO i1 i2 l1 l2 : Addr) (xs ys : Array Value) (i : Nat) (h : Heap) : Prop where
  ti : IsPair h TI (.ref i1) (.ref i2)
  a1 : ItAt t1 h i1 l1 i
  a2 : ItAt t2 h i2 l2 i
  s1 : SqAtH t1 h l1 xs
  s2 : SqAtH t2 h l2 ys
  st : (IsZip h z TI TO .none ∧ ∃ a b, IsPair h TO a b) ∨ ∃ T0 b o, IsZipB h z TI TO T0 b ∧ h.get? T0 = some o ∧ o.cls = .type "tuple"
theorem ZipSt.typeIs {z TI TO i1 i2 l1 l2 : Addr} {xs ys : Array Value} {i : Nat} {s : Shared} (st : ZipSt t1 t2 z TI TO i1 i2 l1 l2 xs ys i s.heap) : s.TypeIs (.ref z) "zip" := by
  rcases st.st with ⟨h, _⟩ | ⟨_, _, _, h, _⟩ <;> exact ⟨_, h, rfl⟩
theorem zip_over {E : Value → Shared → Prop} {z TI TO i1 i2 l1 l2 : Addr} {xs ys : Array Value} {i : Nat} {s : Shared} {Q : Option Value → Shared → Prop} (hh : A.handled = none) (D : ZipApart z TI TO i1 i2 l1 l2) (st : ZipSt t1 t2 z TI TO i1 i2 l1 l2 xs ys i s.heap) (hx : xs[i]? = none)
    (k : ∀ h', (∀ c o, c ≠ z → c ≠ i1 → c ≠ i2 → s.heap.get? c = some o → h'.get? c = some o) → Q none { s with heap := h' }) : wpAny (model prog w) A (pyNext (.ref z)) Q E s := by
  have hT := st.typeIs
  have fin : ∀ (h' : Heap) (e : Addr), (∀ c o, c ≠ z → c ≠ i1 → c ≠ i2 → s.heap.get? c = some o → h'.get? c = some o) → (∃ o, h'.get? e = some o ∧ o.cls = .type "StopIteration") →
      wpAny (model prog w) A (isInstance (.ref e) (.type "StopIteration")) (fun a s' => a = true ∧ Q none s') E { s with heap := h' } := fun h' e kp ⟨o, ho, hc⟩ => wpAny_isInstance (T := "StopIteration") (b := true) ⟨o, ho, hc⟩ isSubtype_stop ⟨rfl, k h' kp⟩
  unfold pyNext
  refine wpAny_bind (wpAny_attempt (wpAny_callSpecial?_slot (name := Str.ofString "__next__") hT F.slot_zip_next (wpAny_call_entry F.slot_zip_next hT F.entry_zip_next ?_ (F.args_zip_next_1 _))))
  rcases st.st with ⟨hz, a, b, ho⟩ | ⟨T0, b, o, hz, h0, hc⟩
  · refine zipA_end (ys := ys) (k2 := 0) hh D hz st.ti st.a1 st.s1 hx fun h' e kp he => wpAny_bind (wpAny_mono (fin h' e kp he) (fun a s' q => ?_) fun _ _ z => z)
    obtain ⟨rfl, q⟩ := q
    exact wpAny_pure q
  · refine zipB_end hh D hz st.ti h0 st.a1 st.a2 st.s1 st.s2 hx fun h' e kp he => wpAny_bind (wpAny_mono (fin h' e kp he) (fun a s' q => ?_) fun _ _ z => z)
    obtain ⟨rfl, q⟩ := q
    exact wpAny_pure q
end
section
variable {prog : Program} {w : World} {A : Around} {E : Value → Shared → Prop} {s : Shared} {t1 t2 : Bool} {K : Type} [DecidableEq K] {knd : KeyKind prog w K}
theorem call_zip_any {l1 l2 : Addr} {xs ys : Array Value} {Q : Value → Shared → Prop} (a1 : SqAtH t1 s.heap l1 xs) (a2 : SqAtH t2 s.heap l2 ys)
    (h : ∀ h' z TI TO i1 i2, s.heap.objs.size ≤ TI → ZipApart z TI TO i1 i2 l1 l2 → s.heap.objs.size ≤ z → s.heap.objs.size ≤ TO → s.heap.objs.size ≤ i1 → s.heap.objs.size ≤ i2 → IsZip h' z TI TO .none → IsPair h' TO .none .none → IsPair h' TI (.ref i1) (.ref i2) → ItAt t1 h' i1 l1 0 → ItAt t2 h' i2 l2 0 →
      (∀ c o, s.heap.get? c = some o → h'.get? c = some o) → Q (.ref z) { s with heap := h' }) :
    wpAny (model prog w) A (call (.type "zip") [.ref l1, .ref l2]) Q E s := by
  refine callType_new F.called_zip (by decide) (F.typeCall_zip_2 _ _) (F.newCall_zip_2 _ _) (fun obj => F.args_object_init_3 obj _ _) F.entry_zip_new (meets_zip_any (t1 := t1) (t2 := t2) l1 l2 xs ys) ⟨a1, a2, ?_⟩
  have zA : (zhA t1 s.heap l1).objs.size = s.heap.objs.size + 1 := Heap.size_push ..
  have zB : (zhB t1 t2 s.heap l1 l2).objs.size = s.heap.objs.size + 2 := (Heap.size_push ..).trans (by rw [zA])
  have zC : (zhC t1 t2 s.heap l1 l2).objs.size = s.heap.objs.size + 3 := (Heap.size_push ..).trans (by rw [zB])
  have zD : (zhD t1 t2 s.heap l1 l2).objs.size = s.heap.objs.size + 4 := (Heap.size_push ..).trans (by rw [zC])
  have q1 := a1.lt
  have q2 := a2.lt
  have pz : (zhE t1 t2 s.heap l1 l2).get? (zhD t1 t2 s.heap l1 l2).objs.size = some _ := Heap.get?_push_size _ rfl
  have po : (zhE t1 t2 s.heap l1 l2).get? (zhC t1 t2 s.heap l1 l2).objs.size = some _ := Heap.get?_push_of_some _ (Heap.get?_push_size _ rfl)
  have pi : (zhE t1 t2 s.heap l1 l2).get? (zhB t1 t2 s.heap l1 l2).objs.size = some _ := Heap.get?_push_of_some _ (Heap.get?_push_of_some _ (Heap.get?_push_size _ rfl))
  have b2 : ItAt t2 (zhE t1 t2 s.heap l1 l2) (zhA t1 s.heap l1).objs.size l2 0 := (itAt_new (zhA t1 s.heap l1)).at fun o e => Heap.get?_push_of_some _ (Heap.get?_push_of_some _ (Heap.get?_push_of_some _ e))
  have b1 : ItAt t1 (zhE t1 t2 s.heap l1 l2) s.heap.objs.size l1 0 := (itAt_new s.heap).at fun o e => Heap.get?_push_of_some _ (Heap.get?_push_of_some _ (Heap.get?_push_of_some _ (Heap.get?_push_of_some _ e)))
  refine ⟨⟨_, pz, rfl⟩, h _ (zhD t1 t2 s.heap l1 l2).objs.size (zhB t1 t2 s.heap l1 l2).objs.size (zhC t1 t2 s.heap l1 l2).objs.size s.heap.objs.size (zhA t1 s.heap l1).objs.size (by omega) ?_ (by omega) (by omega) (by omega) (by omega) pz po pi b1 b2 fun c o e =>
    Heap.get?_push_of_some _ (Heap.get?_push_of_some _ (Heap.get?_push_of_some _ (Heap.get?_push_of_some _ (Heap.get?_push_of_some _ e))))⟩
  rw [zD, zB, zC, zA]
  exact PyProof.Rows.zipApart_new q1 q2
end
end PySem
namespace L2
open PySem PySem.Spec PyProof.Rows
section
variable {X : Cx}
end
end L2
end
section
set_option Elab.async false
set_option linter.all false
set_option maxRecDepth 100000
set_option maxHeartbeats 4000000
namespace L2
open PySem PySem.Spec PyProof.Rows
section
variable {X : Cx} {C : Addr} {m x : Str} {ps : List Str} {k : Nat} {sp : Sp} {e o : Expr} {es : List Expr} {ta : TE} {t : TA} {p pos apos : Pos}
end
section
variable {X : Cx}
end
end L2
end
section
set_option Elab.async false
set_option linter.all false
set_option maxRecDepth 100000
set_option maxHeartbeats 4000000
namespace L2
open PySem PySem.Spec PyProof.Rows
section
variable {X : Cx}
end
end L2
end
section
set_option Elab.async false
set_option linter.all false
set_option maxRecDepth 100000
set_option maxHeartbeats 4000000
namespace L2
open PySem PySem.Spec PyProof.Rows
section
variable {X : Cx} {pins : List (Addr × Obj)} {σ : St} {H : Hp} {s : Shared} {d : Addr} {kvs : List (Key × V)} {u u' : HO}
end
section
variable {X : Cx} {tg : Expr}
end
end L2
end
section
set_option Elab.async false
set_option linter.all false
set_option maxRecDepth 100000
set_option maxHeartbeats 4000000
namespace PySem
open Sem (wp)
section
variable {prog : Program} {w : World} {A : Around} {R : Result → Shared → Prop} {K : Type} [DecidableEq K] {knd : KeyKind prog w K}
end
section
variable {prog : Program} {w : World} {A : Around} {E : Value → Shared → Prop} {s : Shared} {K : Type} [DecidableEq K] {knd : KeyKind prog w K}
end
end PySem
end
section
set_option Elab.async false
set_option linter.all false
set_option maxRecDepth 100000
set_option maxHeartbeats 4000000
namespace L2
open PySem PySem.Spec PyProof.Rows
section
variable {X : Cx}
end
end L2
end
section
set_option Elab.async false
set_option linter.all false
set_option maxRecDepth 100000
set_option maxHeartbeats 4000000
namespace L2
open PySem PySem.Spec PyProof.Rows
section
variable {X : Cx}
end
end L2
end
section
set_option Elab.async false
set_option linter.all false
set_option maxRecDepth 100000
set_option maxHeartbeats 4000000
namespace L2
open PySem PySem.Spec PyProof.Rows
section
variable {X : Cx} {tg : Expr}
end
end L2
end
section
set_option Elab.async false
set_option linter.all false
set_option maxRecDepth 100000
set_option maxHeartbeats 4000000
namespace L2
open PySem PySem.Spec PyProof.Rows
section
variable {X : Cx} {tg l o e f : Expr} {tl td ty tx : TE} {apos cpos : Pos}
end
end L2
end
section
set_option Elab.async false
set_option linter.all false
set_option maxRecDepth 100000
set_option maxHeartbeats 4000000
namespace L2
open PySem PySem.Spec PyProof.Rows
def SqB (K : PySem.W.Frag) (tp : Bool) (H : Hp) (a : Addr) (xs : List V) : Prop := match tp with
  | true => SqT K H a xs
  | false => SqL K H a xs
theorem Inv.seqB {X : Cx} {pins : List (Addr × Obj)} {σ : St} {H : Hp} {s : Shared} {tp : Bool} {a : Addr} {xs : List V} (I : Inv X pins σ H s) (h : SqB X.K tp H a xs) : ∃ its : List Value, Vals xs its ∧ SqAtH tp s.heap a its.toArray := by
  cases tp with
  | true => obtain ⟨its, r, p, _⟩ := I.tuple h; exact ⟨its, r, p⟩
  | false => obtain ⟨its, r, p, _⟩ := I.list h; exact ⟨its, r, p.isList⟩
theorem Inv.seqB_inj {X : Cx} {pins : List (Addr × Obj)} {σ : St} {H : Hp} {s : Shared} {tp : Bool} {a : Addr} {xs ys : List V} (I : Inv X pins σ H s) (h : SqB X.K tp H a xs) (h' : SqB X.K tp H a ys) : xs = ys := by
  cases tp with
  | true => exact I.tuple_inj h h'
  | false => exact I.list_inj h h'
theorem itAt_obj {tp : Bool} {h : Heap} {i l : Addr} {k : Nat} (x : ItAt tp h i l k) : ∃ o, h.get? i = some o ∧ ∀ v, o.data = .cell v → False := by
  cases tp with
  | true => obtain ⟨o, e, c, d⟩ := (show h.IsTupleIter i l k from x); exact ⟨o, e, fun v q => by rw [d] at q; cases q⟩
  | false => obtain ⟨o, e, c, d⟩ := (show h.IsListIter i l k from x); exact ⟨o, e, fun v q => by rw [d] at q; cases q⟩
def ItzS (K : PySem.W.Frag) (t1 t2 : Bool) (a b : Addr) : It :=
  ⟨fun i H => ∃ xs x ys y, SqB K t1 H a xs ∧ xs[i]? = some x ∧ SqB K t2 H b ys ∧ ys[i]? = some y,
   fun i H x H' => ∃ p v u, H p = none ∧ x = .ref p ∧ H' = upd H p (.tup [v, u]) ∧ (∀ xs, SqB K t1 H a xs → xs[i]? = some v) ∧ ∀ ys, SqB K t2 H b ys → ys[i]? = some u,
   fun i H => ∃ xs ys, SqB K t1 H a xs ∧ SqB K t2 H b ys ∧ xs.length ≤ i⟩
theorem turn_zipS {P : Program} {w : World} {K : PySem.W.Frag} {elts : List Expr} {k : Nat} {pos : Pos} (t1 t2 : Bool) (z TI TO i1 i2 l1 l2 : Addr) (D : ZipApart z TI TO i1 i2 l1 l2) :
    Turn P w K (.Tuple elts k pos) (ItzS K t1 t2 l1 l2) [z, TI, TO, i1, i2] z (fun i h => IsZip h z TI TO .none ∧ IsPair h TI (.ref i1) (.ref i2) ∧ (∃ a b, IsPair h TO a b) ∧ ItAt t1 h i1 l1 i ∧ ItAt t2 h i2 l2 i) where
  mem := by simp
  obj := fun i h st b hb => by
    obtain ⟨hz, hTI, ⟨a', b', hTO⟩, h1, h2⟩ := st
    obtain ⟨o1, e1, d1⟩ := itAt_obj h1
    obtain ⟨o2, e2, d2⟩ := itAt_obj h2
    simp only [List.mem_cons, List.not_mem_nil, or_false] at hb
    rcases hb with rfl | rfl | rfl | rfl | rfl
    · exact ⟨_, hz, fun v q => by have q' : Data.fields _ = Data.cell v := q; cases q'⟩
    · exact ⟨_, hTI, fun v q => by have q' : Data.seq _ _ = Data.cell v := q; cases q'⟩
    · exact ⟨_, hTO, fun v q => by have q' : Data.seq _ _ = Data.cell v := q; cases q'⟩
    · exact ⟨o1, e1, fun v q => d1 v q⟩
    · exact ⟨o2, e2, fun v q => d2 v q⟩
  keep := fun i h h' st k => by
    obtain ⟨hz, hTI, ⟨a', b', hTO⟩, h1, h2⟩ := st
    exact ⟨k z (by simp) _ hz, k TI (by simp) _ hTI, ⟨a', b', k TO (by simp) _ hTO⟩, h1.at fun o q => k i1 (by simp) o q, h2.at fun o q => k i2 (by simp) o q⟩
  item := by
    intro X hP hw hK hc i pins s σ H E I hf st hg
    subst hP hw hK
    obtain ⟨hz, hTI, ⟨a', b', hTO⟩, h1, h2⟩ := st
    obtain ⟨xs, x, ys, y, hq1, hx, hq2, hy⟩ := hg
    obtain ⟨its1, rv1, p1⟩ := I.seqB hq1
    obtain ⟨its2, rv2, p2⟩ := I.seqB hq2
    obtain ⟨u, hu, ru⟩ := rv1.get hx
    obtain ⟨v, hv, rv⟩ := rv2.get hy
    have hT : s.TypeIs (.ref z) "zip" := ⟨_, hz, rfl⟩
    unfold pyNext
    refine wpAny_bind (wpAny_attempt (wpAny_callSpecial?_slot (name := Str.ofString "__next__") hT F.slot_zip_next (wpAny_call_entry F.slot_zip_next hT F.entry_zip_next ?_ (F.args_zip_next_1 _))))
    refine zipA_item D hz hTI hTO h1 h2 p1 p2 (x := u) (y := v) (by simpa using hu) (by simpa using hv) fun h3 a1 a3 a4 a5 a2 hk => wpAny_pure ?_
    refine ⟨_, rfl, ?_⟩
    have fT : FpOk X pins H s.heap.objs.size := I.fpOk (Nat.le_refl _) (I.hok.fresh (Nat.le_refl _))
    have lt : ∀ {c o}, s.heap.get? c = some o → c ≠ s.heap.objs.size := fun e => Nat.ne_of_lt (Heap.lt_size e)
    refine wpAny_letOwnedTupleGo_zip a1 fun h4 hz4 hs4 => ?_
    have I1 : Inv X pins σ H { s with heap := h4, toks := s.toks } := I.turnedL (t' := s.toks) (ch := [z, TI, TO, i1, i2]) (fun b o hb q => by
      have b1 : b ≠ z := fun e => hb (by simp [e])
      exact (hs4.2 b b1).trans (hk b o b1 (fun e => hb (by simp [e])) (fun e => hb (by simp [e])) (fun e => hb (by simp [e])) q)) hf
    have gT : h4.get? s.heap.objs.size = some { cls := .type "tuple", data := .seq #[u, v] } := (hs4.2 _ (Ne.symm (lt hz))).trans a5
    have I2 := I1.adopt (T := s.heap.objs.size) (o := .tup [x, y]) fT (two_tup (X := X) gT ru rv)
    have ext : ∀ c o, c ≠ z → h3.get? c = some o → h4.get? c = some o := fun c o hc q => (hs4.2 c hc).trans q
    refine ⟨.ref s.heap.objs.size, _, I2, rfl, ⟨s.heap.objs.size, x, y, fT.1, rfl, rfl, fun zs hz => by rw [I.seqB_inj hz hq1]; exact hx, fun zs hz => by rw [I.seqB_inj hz hq2]; exact hy⟩,
      ⟨hz4, ext _ _ D.TIz (hk _ _ D.TIz D.TITO D.TIi1 D.TIi2 hTI), ⟨_, _, ext _ _ D.TOz a2⟩, a3.at fun o q => ext _ o D.i1z q, a4.at fun o q => ext _ o D.i2z q⟩, fun b hb => ?_⟩
    have nT : b ≠ s.heap.objs.size := by
      simp only [List.mem_cons, List.not_mem_nil, or_false] at hb
      rcases hb with rfl | rfl | rfl | rfl | rfl
      · exact lt hz
      · exact lt hTI
      · exact lt hTO
      · exact Nat.ne_of_lt h1.lt
      · exact Nat.ne_of_lt h2.lt
    rw [upd_ne nT]; exact (hf b hb).1
  done := by
    intro X hP hw hK hc i pins s σ H E I hf st hg
    subst hP hw hK
    obtain ⟨hz, hTI, ⟨a', b', hTO⟩, h1, h2⟩ := st
    obtain ⟨xs, ys, hq1, hq2, hend⟩ := hg
    obtain ⟨its1, rv1, p1⟩ := I.seqB hq1
    obtain ⟨its2, rv2, p2⟩ := I.seqB hq2
    have l1' := rv1.length
    refine zip_over (I.ok.hd hc) D ⟨hTI, h1, h2, p1, p2, .inl ⟨hz, a', b', hTO⟩⟩ (by simp; omega) fun h3 hk => ⟨rfl, ?_⟩
    exact I.turnedL (t' := s.toks) (ch := [z, TI, TO, i1, i2]) (fun b o hb q => hk b o (fun e => hb (by simp [e])) (fun e => hb (by simp [e])) (fun e => hb (by simp [e])) q) hf
  self := fun _ _ _ _ _ st h => wpAny_pyIter_zip st.1 h
def iZipS (K : PySem.W.Frag) (tl : TA) : TI := fun σ H R => tl σ H fun vs H1 => ∃ t1 t2 a b, vs = [.ref a, .ref b] ∧ (∃ xs, SqB K t1 H1 a xs) ∧ (∃ xs, SqB K t2 H1 b xs) ∧ R (ItzS K t1 t2 a b) H1
section
variable {X : Cx} {elts : List Expr} {k : Nat} {tpos : Pos}
theorem pi_zipS {a b : Expr} {ta : TA} {p pos : Pos} (hg : Gl X "zip") (hm : X.mg "zip" = none) (ha : PA X [a, b] ta) (hs : starEach [a, b] X.env = [(false, eval a X.env), (false, eval b X.env)] := by rfl) (hs2 : starEach [b] X.env = [(false, eval b X.env)] := by rfl) :
    PI X (.Tuple elts k tpos) (.Call (.Name "zip" p) [a, b] [] pos) (iZipS X.K ta) := by
  intro pins s σ H R I h
  refine Call_ (ld_blt I hg hm boot_zip (PyProof.Rows.callWith_type1 (thn (ha pos pins s σ H _ I h) fun us s1 ⟨vs, H1, I1, r1, q1⟩ => ?_) (by rw [hs, hs2]) (by rw [hs2]; rfl)))
  obtain ⟨t1, t2, l1, l2, e, ⟨xs, hq1⟩, ⟨ys, hq2⟩, q⟩ := q1
  subst e
  cases r1 with
  | cons r rr =>
    cases rr with
    | cons r' rr =>
      cases rr
      cases r
      cases r'
      obtain ⟨its1, rv1, p1⟩ := I1.seqB hq1
      obtain ⟨its2, rv2, p2⟩ := I1.seqB hq2
      refine call_zip_any (t1 := t1) (t2 := t2) p1 p2 fun h1 z TI TO i1 i2 gI D gz gO g1 g2 hz hTO hTI hi1 hi2 hk => ?_
      refine wpAny_pyIter_zip hz ?_
      have I2 : Inv X pins σ H1 { s1 with heap := h1 } := I1.kept (t' := s1.toks) hk
      refine ⟨_, _, _, _, H1, rfl, I2, turn_zipS t1 t2 z TI TO i1 i2 l1 l2 D, ⟨hz, hTI, ⟨_, _, hTO⟩, hi1, hi2⟩, fun b hb => ?_, q⟩
      have hb' : s1.heap.objs.size ≤ b := by
        simp only [List.mem_cons, List.not_mem_nil, or_false] at hb
        rcases hb with rfl | rfl | rfl | rfl | rfl <;> assumption
      exact I1.fpOk hb' (I1.hok.fresh hb')
theorem qi_zipS {a b : Expr} {ta : TA} {p pos : Pos} (hg : Gl X "zip") (hm : X.mg "zip" = none) (ha : QA X [a, b] ta) (hs : starEach [a, b] X.env = [(false, eval a X.env), (false, eval b X.env)] := by rfl) (hs2 : starEach [b] X.env = [(false, eval b X.env)] := by rfl) : QI X (.Tuple elts k tpos) (.Call (.Name "zip" p) [a, b] [] pos) (iZipS X.K ta) :=
  ⟨pi_zipS hg hm ha.up hs hs2⟩
end
theorem for_zipS {K : PySem.W.Frag} {t1 t2 : Bool} {a b : Addr} {xs ys : List V} {g : TG} {tb : TS} {D : Ends} {σ : St} {H : Hp} (el : xs.length ≤ ys.length) (Pv : Nat → St → Hp → Prop) (h0 : Pv 0 σ H) (hl : ∀ i σ H, i ≤ xs.length → Pv i σ H → SqB K t1 H a xs ∧ SqB K t2 H b ys)
    (hs : ∀ i x y σ H p, xs[i]? = some x → ys[i]? = some y → H p = none → Pv i σ H → g (.ref p) σ (upd H p (.tup [x, y])) fun σ2 H2 => tb { D with nx := Pv (i + 1), ct := Pv (i + 1), bk := D.nx } σ2 H2) (hd : ∀ σ H, Pv xs.length σ H → D.nx σ H) :
    ∃ W : Nat → Nat → St → Hp → Prop, (∃ m, W 0 m σ H) ∧ ∀ i m σ H, W i m σ H →
      ((ItzS K t1 t2 a b).stop i H ∧ D.nx σ H) ∨ ((ItzS K t1 t2 a b).go i H ∧ ∃ N : St → Hp → Prop, (∀ σ' H', N σ' H' → ∃ m', m' < m ∧ W (i + 1) m' σ' H') ∧ ∀ x H', (ItzS K t1 t2 a b).yld i H x H' → g x σ H' fun σ2 H2 => tb { D with nx := N, ct := N, bk := D.nx } σ2 H2) := by
  refine ⟨fun i m σ H => m = xs.length - i ∧ i ≤ xs.length ∧ Pv i σ H, ⟨xs.length, by simp, Nat.zero_le _, h0⟩, ?_⟩
  rintro i m σ H ⟨rfl, hi, p⟩
  obtain ⟨q1, q2⟩ := hl i σ H hi p
  by_cases hlt : i < xs.length
  · have hlt2 : i < ys.length := by omega
    refine .inr ⟨⟨xs, xs[i], ys, ys[i], q1, by simp [hlt], q2, by simp [hlt2]⟩, Pv (i + 1), fun σ' H' p' => ⟨xs.length - (i + 1), by omega, rfl, hlt, p'⟩, fun x H' y => ?_⟩
    obtain ⟨pp, v, u, e1, rfl, rfl, y1, y2⟩ := y
    exact hs i v u σ H pp (y1 xs q1) (y2 ys q2) e1 p
  · have e : i = xs.length := by omega
    subst e
    exact .inl ⟨⟨xs, ys, q1, q2, Nat.le_refl _⟩, hd σ H p⟩
theorem comp_zipS {js : List Nat} {k : Nat} {K : PySem.W.Frag} {t1 t2 : Bool} {a b : Addr} {xs ys : List V} {g : TG} {tc : TT} {te : TE} {R : Hp → Prop} {σ : St} {H : Hp} {D : Addr} (el : xs.length ≤ ys.length) (Pv : Nat → St → Hp → Prop) (h0 : Pv 0 (emS js k σ) (upd H D (.lst []))) (hl : ∀ i σ H, i ≤ xs.length → Pv i σ H → SqB K t1 H a xs ∧ SqB K t2 H b ys)
    (hs : ∀ i x y σ H p, xs[i]? = some x → ys[i]? = some y → H p = none → Pv i σ H → g (.ref p) σ (upd H p (.tup [x, y])) fun σ2 H2 => sApp D tc te { nx := Pv (i + 1), rt := fun _ _ => False, ct := Pv (i + 1), bk := fun _ H' => R H' } σ2 H2) (hd : ∀ σ H, Pv xs.length σ H → R H) :
    ∃ W : Nat → Nat → St → Hp → Prop, (∃ m, W 0 m (emS js k σ) (upd H D (.lst []))) ∧ ∀ i m σ H, W i m σ H →
      ((ItzS K t1 t2 a b).stop i H ∧ R H) ∨ ((ItzS K t1 t2 a b).go i H ∧ ∃ N : St → Hp → Prop, (∀ σ' H', N σ' H' → ∃ m', m' < m ∧ W (i + 1) m' σ' H') ∧ ∀ x H', (ItzS K t1 t2 a b).yld i H x H' → g x σ H' fun σ2 H2 => sApp D tc te { nx := N, rt := fun _ _ => False, ct := N, bk := fun _ H' => R H' } σ2 H2) :=
  for_zipS (D := { nx := fun _ H' => R H', rt := fun _ _ => False }) el Pv h0 hl hs hd
end L2
end
section
set_option Elab.async false
set_option linter.all false
set_option maxRecDepth 100000
set_option maxHeartbeats 4000000
namespace Bg
open PySem PySem.Spec PyProof.Rows L2
abbrev PS_p_weaker : List Str := ["one", "other"]
abbrev N_p_weaker : List Str := ["one", "other"]
def t_p_weaker (K : PySem.W.Frag) : TS := (tRet (tCB (rAll K) (tCons (tComp [] 2 (iZipS K (tCons (tVar 0) (tCons (tVar 1) tNil))) (gTup K 2 (gCons (gName 2) (gCons (gName 3) gNil))) tYes (tOrV (tOp (rIsN) (tVar 2) (tC .non)) (tOp (rEqG K) (tVar 2) (tVar 3)))) tNil)))
abbrev PS_p_behind : List Str := ["row", "names", "x"]
abbrev N_p_behind : List Str := ["row", "names", "x"]
def t_p_behind_1 (K : PySem.W.Frag) : TS := (tRet (tVar 1))
def t_p_behind_2 (K : PySem.W.Frag) : TS := (tSeq (tIfS (tTest (tOp ((rIn K false)) (tOp (rIx K) (tVar 0) (tC (.int 0))) (tTup (tCons (tC (.str "num")) (tCons (tC (.str "op")) (tCons (tC (.str "call")) tNil)))))) (tRet (tCall (sp_p_set_anew K) [] E0 (tCons (tVar 1) (tCons (tVar 2) tNil)))) tNext) (t_p_behind_1 K))
def t_p_behind (K : PySem.W.Frag) : TS := (tSeq (tIfS (tTest (tOp (rEqG K) (tOp (rIx K) (tVar 0) (tC (.int 0))) (tC (.str "keep")))) (tRet (tCall (sp_p_pushed K) [] E0 (tCons (tVar 1) (tCons (tOp (rIx K) (tVar 1) (tOp (rIx K) (tVar 0) (tC (.int 1)))) tNil)))) tNext) (t_p_behind_2 K))
abbrev PS_p_set_anew : List Str := ["names", "x"]
abbrev N_p_set_anew : List Str := ["names", "x"]
def t_p_set_anew (K : PySem.W.Frag) : TS := (tRet (tCall (sp_p_pushed K) [] E0 (tCons (tCB (rTupleOf K) (tCons (tComp [] 1 (iSeq K (tVar 0)) (gName 2) tYes (tIf (tTest (tOp (rEqG K) (tVar 2) (tVar 1))) (tC .non) (tVar 2))) tNil)) (tCons (tVar 1) tNil))))
end Bg
end
section
set_option Elab.async false
set_option linter.all false
set_option maxRecDepth 100000
set_option maxHeartbeats 4000000
namespace PySem.SeqAt
open AutoSeq1 (wpAny_loadPart')
open MeetsSeq MeetsSeq2 MeetsSeq3 SeqRoads2
end PySem.SeqAt
namespace L2
open PySem PySem.Spec PyProof.Rows
section
variable {X : Cx} {o e : Expr} {es : List Expr} {to ta tb : TE} {t : TA} {apos cpos : Pos}
end
section
variable {X : Cx} {C : Addr} {m x : Str} {ps : List Str} {k : Nat} {sp : Sp} {e : Expr} {es : List Expr} {t : TA} {p pos apos : Pos}
end
end L2
end
section
set_option Elab.async false
set_option linter.all false
set_option maxRecDepth 100000
set_option maxHeartbeats 4000000
namespace Bg
open PySem PySem.Spec PyProof.Rows L2
def top (i : Nat) : Stmt := PySem.Challenge.pw_beltgarth_k51_names_on_belts.main.body.getD i (.Pass ⟨0, 0, 0, 0⟩)
abbrev s_p_pushed : Stmt := top 1
theorem sc_p_pushed : FnScope N_p_pushed PS_p_pushed (defScope s_p_pushed) := ⟨rfl, rfl, rfl, by decide +kernel, rfl, by decide +kernel, by decide +kernel⟩
abbrev s_p_weaker : Stmt := top 3
theorem sc_p_weaker : FnScope N_p_weaker PS_p_weaker (defScope s_p_weaker) := ⟨rfl, rfl, rfl, by decide +kernel, rfl, by decide +kernel, by decide +kernel⟩
abbrev s_p_behind : Stmt := top 4
theorem sc_p_behind : FnScope N_p_behind PS_p_behind (defScope s_p_behind) := ⟨rfl, rfl, rfl, by decide +kernel, rfl, by decide +kernel, by decide +kernel⟩
abbrev s_p_set_anew : Stmt := top 5
theorem sc_p_set_anew : FnScope N_p_set_anew PS_p_set_anew (defScope s_p_set_anew) := ⟨rfl, rfl, rfl, by decide +kernel, rfl, by decide +kernel, by decide +kernel⟩
abbrev s_draw : Stmt := top 7
theorem sc_draw : FnScope N_draw PS_draw (defScope s_draw) := ⟨rfl, rfl, rfl, by decide +kernel, rfl, by decide +kernel, by decide +kernel⟩
abbrev s_names : Stmt := top 9
theorem sc_names : FnScope N_names PS_names (defScope s_names) := ⟨rfl, rfl, rfl, by decide +kernel, rfl, by decide +kernel, by decide +kernel⟩
abbrev s_belt : Stmt := top 10
abbrev PS_belt : List Str := ["_law_state", "_law_names_here", "_law_places"]
abbrev N_belt : List Str := ["_law_state", "_law_names_here", "_law_places", "_law_some"]
def t_belt_1 (K : PySem.W.Frag) : TS := (tRet (tCB (rTupleOf K) (tCons (tComp [] 1 (iRng1 (tCons (tVar 2) tNil)) (gName 4) tYes (tOp (rIx K) (tVar 3) (tCall (sp_draw K) [] E0 (tCons (tVar 0) (tCons (tCB (rLen K) (tCons (tVar 3) tNil)) tNil))))) tNil)))
def t_belt (K : PySem.W.Frag) : TS := (tSeq (tAsg (tOp (rPlus K) (tVar 1) (tLst (tCons (tC .non) (tCons (tC .non) tNil)))) (gName 3)) (t_belt_1 K))
theorem sc_belt : FnScope N_belt PS_belt (defScope s_belt) := ⟨rfl, rfl, rfl, by decide +kernel, rfl, by decide +kernel, by decide +kernel⟩
abbrev s_near : Stmt := top 11
abbrev PS_near : List Str := ["_law_state", "_law_names_here", "_law_belt_here"]
abbrev N_near : List Str := ["_law_state", "_law_names_here", "_law_belt_here", "_law_found", "_law_turn", "_law_some"]
def t_near_1 (K : PySem.W.Frag) : TS := (tRet (tCB (rTupleOf K) (tCons (tVar 3) tNil)))
def t_near_2 (K : PySem.W.Frag) : TS := (tAsg (tOp (rIx K) (tVar 5) (tCall (sp_draw K) [] E0 (tCons (tVar 0) (tCons (tC (.int 3)) tNil)))) (gSub (tVar 3) (tCall (sp_draw K) [] E0 (tCons (tVar 0) (tCons (tCB (rLen K) (tCons (tVar 3) tNil)) tNil))) rSetL))
def t_near_3 (K : PySem.W.Frag) : TS := (tSeq (tAsg (tLst (tCons (tC .non) (tCons (tC .non) (tCons (tOp (rIx K) (tVar 1) (tCall (sp_draw K) [] E0 (tCons (tVar 0) (tCons (tCB (rLen K) (tCons (tVar 1) tNil)) tNil)))) tNil)))) (gName 5)) (t_near_2 K))
def t_near_4 (K : PySem.W.Frag) : TS := (tSeq (tFor (iRng1 (tCons (tCall (sp_draw K) [] E0 (tCons (tVar 0) (tCons (tC (.int 4)) tNil))) tNil)) (gName 4) (t_near_3 K)) (t_near_1 K))
def t_near (K : PySem.W.Frag) : TS := (tSeq (tAsg (tCB (rListOf K) (tCons (tVar 2) tNil)) (gName 3)) (t_near_4 K))
theorem sc_near : FnScope N_near PS_near (defScope s_near) := ⟨rfl, rfl, rfl, by decide +kernel, rfl, by decide +kernel, by decide +kernel⟩
abbrev s_weaker : Stmt := top 12
abbrev PS_weaker : List Str := ["_law_one", "_law_other"]
abbrev N_weaker : List Str := ["_law_one", "_law_other", "_law_k"]
def t_weaker_1 (K : PySem.W.Frag) : TS := (tRet (tC (.bl true)))
def t_weaker_2 (K : PySem.W.Frag) : TS := (tIfS (tAnd (tTest (tOp (rNotN) (tOp (rIx K) (tVar 0) (tVar 2)) (tC .non))) (tTest (tOp (rNeG K) (tOp (rIx K) (tVar 0) (tVar 2)) (tOp (rIx K) (tVar 1) (tVar 2))))) (tRet (tC (.bl false))) tNext)
def t_weaker (K : PySem.W.Frag) : TS := (tSeq (tFor (iRng1 (tCons (tCB (rLen K) (tCons (tVar 0) tNil)) tNil)) (gName 2) (t_weaker_2 K)) (t_weaker_1 K))
theorem sc_weaker : FnScope N_weaker PS_weaker (defScope s_weaker) := ⟨rfl, rfl, rfl, by decide +kernel, rfl, by decide +kernel, by decide +kernel⟩
abbrev s_behind : Stmt := top 13
abbrev PS_behind : List Str := ["_law_row", "_law_belt_here", "_law_x"]
abbrev N_behind : List Str := ["_law_row", "_law_belt_here", "_law_x", "_law_found", "_law_name"]
def t_behind_1 (K : PySem.W.Frag) : TS := (tRet (tCB (rTupleOf K) (tCons (tVar 3) tNil)))
def t_behind_2 (K : PySem.W.Frag) : TS := (tDrop (tBM K "list" rAppend (tVar 3) (tCons (tOp (rIx K) (tLst (tCons (tVar 4) (tCons (tC .non) tNil))) (tCB (rInt1) (tCons (tOp (rEqG K) (tVar 4) (tVar 2)) tNil))) tNil)))
def t_behind_3 (K : PySem.W.Frag) : TS := (tSeq (tFor (iSeq K (tSl (rSl K) (tVar 1) tNoPart (tPart (tOp (rSub2) (tCB (rLen K) (tCons (tVar 1) tNil)) (tC (.int 1)))))) (gName 4) (t_behind_2 K)) (t_behind_1 K))
def t_behind_4 (K : PySem.W.Frag) : TS := (tSeq (tAsg (tLst (tCons (tVar 2) tNil)) (gName 3)) (t_behind_3 K))
def t_behind_5 (K : PySem.W.Frag) : TS := (tSeq (tIfS (tTest (tOp (rIsN) (tVar 2) (tC .non))) (tRet (tVar 1)) tNext) (t_behind_4 K))
def t_behind (K : PySem.W.Frag) : TS := (tSeq (tIfS (tTest (tOp (rEqG K) (tOp (rIx K) (tVar 0) (tC (.int 0))) (tC (.str "keep")))) (tRet (tOp (rPlus K) (tTup (tCons (tOp (rIx K) (tVar 1) (tOp (rIx K) (tVar 0) (tC (.int 1)))) tNil)) (tSl (rSl K) (tVar 1) tNoPart (tPart (tOp (rSub2) (tCB (rLen K) (tCons (tVar 1) tNil)) (tC (.int 1))))))) tNext) (t_behind_5 K))
theorem sc_behind : FnScope N_behind PS_behind (defScope s_behind) := ⟨rfl, rfl, rfl, by decide +kernel, rfl, by decide +kernel, by decide +kernel⟩
abbrev s_rows : Stmt := top 14
abbrev PS_rows : List Str := ["_law_state", "_law_places", "_law_x"]
abbrev N_rows : List Str := ["_law_state", "_law_places", "_law_x", "_law_i", "_law_j", "_law_rows_here"]
def t_rows_1 (K : PySem.W.Frag) : TS := (tRet (tOp (rPlus K) (tVar 5) (tLst (tCons (tTup (tCons (tTup (tCons (tC (.str "keep")) (tCons (tVar 3) tNil))) (tCons (tC .non) tNil))) (tCons (tTup (tCons (tTup (tCons (tC (.str "say")) (tCons (tVar 3) tNil))) (tCons (tC .non) tNil))) (tCons (tTup (tCons (tTup (tCons (tC (.str "test")) (tCons (tVar 3) (tCons (tC (.int 0)) tNil)))) (tCons (tC .non) tNil))) (tCons (tTup (tCons (tTup (tCons (tC (.str "jump")) (tCons (tC (.int 0)) tNil))) (tCons (tC .non) tNil))) tNil)))))))
def t_rows_2 (K : PySem.W.Frag) : TS := (tSeq (tAsg (tLst (tCons (tTup (tCons (tTup (tCons (tC (.str "num")) (tCons (tC (.int 7)) tNil))) (tCons (tVar 2) tNil))) (tCons (tTup (tCons (tTup (tCons (tC (.str "op")) (tCons (tOp (rIx K) (tC (.str "+-*<=")) (tCall (sp_draw K) [] E0 (tCons (tVar 0) (tCons (tC (.int 5)) tNil)))) (tCons (tVar 3) (tCons (tVar 4) tNil))))) (tCons (tVar 2) tNil))) (tCons (tTup (tCons (tTup (tCons (tC (.str "call")) (tCons (tC (.int 0)) (tCons (tTup (tCons (tVar 3) (tCons (tVar 4) tNil))) tNil)))) (tCons (tVar 2) tNil))) tNil)))) (gName 5)) (t_rows_1 K))
def t_rows_3 (K : PySem.W.Frag) : TS := (tSeq (tAsg (tCall (sp_draw K) [] E0 (tCons (tVar 0) (tCons (tVar 1) tNil))) (gName 4)) (t_rows_2 K))
def t_rows (K : PySem.W.Frag) : TS := (tSeq (tAsg (tCall (sp_draw K) [] E0 (tCons (tVar 0) (tCons (tVar 1) tNil))) (gName 3)) (t_rows_3 K))
theorem sc_rows : FnScope N_rows PS_rows (defScope s_rows) := ⟨rfl, rfl, rfl, by decide +kernel, rfl, by decide +kernel, by decide +kernel⟩
abbrev s_law : Stmt := top 15
abbrev PS_law : List Str := ["_law_script"]
abbrev N_law : List Str := ["_law_script", "_law_state", "_law_names_here", "_law_turn", "_law_places", "_law_belt_here", "_law_other", "_law_one", "_law_two", "_law_found", "_law_row", "_law_x"]
def t_law_1 (K : PySem.W.Frag) : TS := (tRet (tC (.bl true)))
def t_law_2 (K : PySem.W.Frag) : TS := (tIfS (tOr (tNot (tB (tCB (rIsi K) (tCons (tVar 9) (tCons (tC (.ty "tuple")) tNil))))) (tTest (tOp (rNeG K) (tVar 9) (tCall (sp_behind K) [] E0 (tCons (tVar 10) (tCons (tVar 5) (tCons (tVar 11) tNil))))))) (tRet (tC (.bl false))) tNext)
def t_law_3 (K : PySem.W.Frag) : TS := (tSeq (tAsg (tCall (sp_p_behind K) [] E0 (tCons (tVar 10) (tCons (tVar 5) (tCons (tVar 11) tNil)))) (gName 9)) (t_law_2 K))
def t_law_4 (K : PySem.W.Frag) : TS := (tFor (iSeq K (tCall (sp_rows K) [] E0 (tCons (tVar 1) (tCons (tVar 4) (tCons (tOp (rIx K) (tVar 2) (tCall (sp_draw K) [] E0 (tCons (tVar 1) (tCons (tC (.int 6)) tNil)))) tNil))))) (gTup K 2 (gCons (gName 10) (gCons (gName 11) gNil))) (t_law_3 K))
def t_law_5 (K : PySem.W.Frag) : TS := (tIfS (tOr (tNot (tB (tCB (rIsi K) (tCons (tVar 9) (tCons (tC (.ty "bool")) tNil))))) (tTest (tOp (rNeG K) (tVar 9) (tCall (sp_weaker K) [] E0 (tCons (tVar 7) (tCons (tVar 8) tNil)))))) (tRet (tC (.bl false))) tNext)
def t_law_6 (K : PySem.W.Frag) : TS := (tSeq (tAsg (tCall (sp_p_weaker K) [] E0 (tCons (tVar 7) (tCons (tVar 8) tNil))) (gName 9)) (t_law_5 K))
def t_law_7 (K : PySem.W.Frag) : TS := (tFor (iSeq K (tTup (tCons (tTup (tCons (tVar 5) (tCons (tVar 6) tNil))) (tCons (tTup (tCons (tVar 6) (tCons (tVar 5) tNil))) tNil)))) (gTup K 2 (gCons (gName 7) (gCons (gName 8) gNil))) (t_law_6 K))
def t_law_8 (K : PySem.W.Frag) : TS := (tSeq (tFor (iSeq K (tTup (tCons (tCall (sp_near K) [] E0 (tCons (tVar 1) (tCons (tVar 2) (tCons (tVar 5) tNil)))) (tCons (tCall (sp_belt K) [] E0 (tCons (tVar 1) (tCons (tVar 2) (tCons (tVar 4) tNil)))) (tCons (tVar 5) tNil))))) (gName 6) (t_law_7 K)) (t_law_4 K))
def t_law_9 (K : PySem.W.Frag) : TS := (tSeq (tAsg (tCall (sp_belt K) [] E0 (tCons (tVar 1) (tCons (tVar 2) (tCons (tVar 4) tNil)))) (gName 5)) (t_law_8 K))
def t_law_10 (K : PySem.W.Frag) : TS := (tSeq (tAsg (tOp (rIx K) (tLst (tCons (tOp (rPlus K) (tC (.int 1)) (tCall (sp_draw K) [] E0 (tCons (tVar 1) (tCons (tC (.int 4)) tNil)))) (tCons (tOp (rPlus K) (tC (.int 1)) (tCall (sp_draw K) [] E0 (tCons (tVar 1) (tCons (tC (.int 16)) tNil)))) tNil))) (tCall (sp_draw K) [] E0 (tCons (tVar 1) (tCons (tC (.int 2)) tNil)))) (gName 4)) (t_law_9 K))
def t_law_11 (K : PySem.W.Frag) : TS := (tSeq (tFor (iRng1 (tCons (tOp (rPlus K) (tC (.int 1)) (tCB (rMin2) (tCons (tC (.int 11)) (tCons (tOp (rFdiv2) (tCB (rLen K) (tCons (tVar 0) tNil)) (tC (.int 4))) tNil)))) tNil)) (gName 3) (t_law_10 K)) (t_law_1 K))
def t_law_12 (K : PySem.W.Frag) : TS := (tSeq (tAsg (tCall (sp_names K) [] E0 (tCons (tVar 1) (tCons (tC (.int 6)) tNil))) (gName 2)) (t_law_11 K))
def t_law (K : PySem.W.Frag) : TS := (tSeq (tAsg (tLst (tCons (tVar 0) (tCons (tC (.int 0)) (tCons (tC (.int 0)) tNil)))) (gName 1)) (t_law_12 K))
theorem sc_law : FnScope N_law PS_law (defScope s_law) := ⟨rfl, rfl, rfl, by decide +kernel, rfl, by decide +kernel, by decide +kernel⟩
end Bg
end
section
set_option Elab.async false
set_option linter.all false
set_option maxRecDepth 100000
set_option maxHeartbeats 4000000
namespace Bg
open PySem PySem.Spec PyProof.Rows L2
theorem d_draw {P : Program} {w : World} {K : PySem.W.Frag} {mg : Str → Option Value} {base : Heap} {f : Addr} {cdv : Value} {A : Around} {outer : List Env} {s : Shared} {H : Hp} {E : XK} (B : Blt mg)  
    (hr : Room k_draw (A.deeper (envOfC "_law_draw" (defScope s_draw) s.heap.objs.size f cdv))) : PSs (cxOf CX0 P w K mg base N_draw "_law_draw" (defScope s_draw) f cdv A outer s H E).nox (defBody s_draw) (t_draw K) := by
  have nd := sc_draw.nd
  have hu := hr.units0
  have hu1 := hu_of hr
  exact (show QSs (cxOf CX0 P w K mg base N_draw "_law_draw" (defScope s_draw) f cdv A outer s H E).nox (defBody s_draw) (t_draw K) from (qss_cons (qs_asg (qe_slice sl_seq (qv 0) qo_none (qo_some qe_int)) (qg_tupL rfl (qgs_cons (qg_name (i := 2) nd rfl (Or.inl rfl)) (qgs_cons (qg_name (i := 3) nd rfl (Or.inl rfl)) qgs_nil)))) (qss_cons (qs_asg (qe_op op_plus (qv 3) qe_int) (qg_sub (qv 0) qe_int set_list)) (qss_cons (qs_if (QW.pt (qw_and (qt_cmpR op_lt (qe_op op_plus (qe_op op_fdiv (qv 3) qe_int) qe_int) (qe_callB call_len rfl B.len_ boot_len (qa_cons (qv 2) qa_nil)) rfl) (qw_and1 (qt_cmpR (op_eqG hu) (qe_op op_mod (qe_ix ix_seq (qv 2) qe_int (fun _ _ => rfl)) qe_int) qe_int rfl)))) (qss_cons (qs_if (qt_cmpR (op_eqG hu) (qe_op op_mod (qv 3) qe_int) qe_int rfl) (qss_one (qs_asg (qe_ix ix_seq (qv 2) (qe_op op_plus (qe_op op_fdiv (qv 3) qe_int) qe_int) (fun _ _ => rfl)) (qg_sub (qv 0) qe_int set_list))) qss_nil) (qss_one (qs_if (qt_cmpR op_notIn_seq (qe_ix ix_seq (qv 0) qe_int (fun _ _ => rfl)) (qe_tup (qa_cons qe_int (qa_cons (qe_un un_neg qe_int) qa_nil))) rfl) (qss_cons (qs_asg (qe_callB call_divmodW rfl B.divmod_ boot_divmod (qa_cons (qe_ix ix_seq (qv 0) qe_int (fun _ _ => rfl)) (qa_cons (qv 1) qa_nil))) (qg_tup rfl (qgs_cons (qg_sub (qv 0) qe_int set_list) (qgs_cons (qg_name (i := 4) nd rfl (Or.inl rfl)) qgs_nil)))) (qss_one (qs_ret (qv 4)))) qss_nil))) (qss_one (qs_if (qt_cmpR op_lt (qv 3) (qe_callB call_len rfl B.len_ boot_len (qa_cons (qv 2) qa_nil)) rfl) (qss_one (qs_ret (qe_op op_mod (qe_ix ix_seq (qv 2) (qv 3) (fun _ _ => rfl)) (qv 1)))) qss_nil))) (qss_cons (qs_set (i := 5) nd rfl (Or.inl rfl) (qe_op op_plus (qe_op op_times (qv 3) qe_int) qe_int)) (qss_cons (qs_if (qt_cmpR op_gt (qe_callB call_len rfl B.len_ boot_len (qa_cons (qv 2) qa_nil)) qe_int rfl) (qss_one (qs_set (i := 5) nd rfl (Or.inl rfl) (qe_op op_plus (qv 5) (qe_op op_times (qe_ix ix_seq (qv 2) (qe_op op_mod (qe_op op_times (qv 3) qe_int) (qe_callB call_len rfl B.len_ boot_len (qa_cons (qv 2) qa_nil))) (fun _ _ => rfl)) (qe_op op_plus qe_int (qv 3)))))) qss_nil) (qss_cons (qs_set (i := 5) nd rfl (Or.inl rfl) (qe_op op_mod (qe_op op_times (qe_op op_mod (qv 5) qe_int) (qe_op op_plus (qv 3) qe_int)) qe_int)) (qss_cons (qs_set (i := 5) nd rfl (Or.inl rfl) (qe_op op_mod (qe_op op_times (qv 5) (qv 5)) qe_int)) (qss_one (qs_ret (qe_op op_mod (qe_op op_mod (qe_op op_times (qv 5) (qv 5)) qe_int) (qv 1)))))))))))).up
end Bg
end
section
set_option Elab.async false
set_option linter.all false
set_option maxRecDepth 100000
set_option maxHeartbeats 4000000
namespace Bg
open PySem PySem.Spec PyProof.Rows L2
theorem d_rows {P : Program} {w : World} {K : PySem.W.Frag} {mg : Str → Option Value} {base : Heap} {f : Addr} {cdv : Value} {A : Around} {outer : List Env} {s : Shared} {H : Hp} {E : XK} (B : Blt mg)  (c_draw : Callee P w K mg base "_law_draw" PS_draw K_draw (sp_draw K))
    (hr : Room k_rows (A.deeper (envOfC "_law_rows" (defScope s_rows) s.heap.objs.size f cdv))) : PSs (cxOf CX0 P w K mg base N_rows "_law_rows" (defScope s_rows) f cdv A outer s H E).nox (defBody s_rows) (t_rows K) := by
  have nd := sc_rows.nd
  have hu := hr.units0
  have hu1 := hu_of hr
  exact (show QSs (cxOf CX0 P w K mg base N_rows "_law_rows" (defScope s_rows) f cdv A outer s H E).nox (defBody s_rows) (t_rows K) from (qss_cons (qs_set (i := 3) nd rfl (Or.inl rfl) (qe_fn c_draw (hr.mono (by decide)) rfl (qa_cons (qv 0) (qa_cons (qv 1) qa_nil)))) (qss_cons (qs_set (i := 4) nd rfl (Or.inl rfl) (qe_fn c_draw (hr.mono (by decide)) rfl (qa_cons (qv 0) (qa_cons (qv 1) qa_nil)))) (qss_cons (qs_set (i := 5) nd rfl (Or.inl rfl) (qe_lst (qa_cons (qe_tup (qa_cons (qe_tup (qa_cons qe_str (qa_cons qe_int qa_nil))) (qa_cons (qv 2) qa_nil))) (qa_cons (qe_tup (qa_cons (qe_tup (qa_cons qe_str (qa_cons (qe_ix ix_seq qe_str (qe_fn c_draw (hr.mono (by decide)) rfl (qa_cons (qv 0) (qa_cons qe_int qa_nil))) (fun _ _ => rfl)) (qa_cons (qv 3) (qa_cons (qv 4) qa_nil))))) (qa_cons (qv 2) qa_nil))) (qa_cons (qe_tup (qa_cons (qe_tup (qa_cons qe_str (qa_cons qe_int (qa_cons (qe_tup (qa_cons (qv 3) (qa_cons (qv 4) qa_nil))) qa_nil)))) (qa_cons (qv 2) qa_nil))) qa_nil))))) (qss_one (qs_ret (qe_op op_plus (qv 5) (qe_lst (qa_cons (qe_tup (qa_cons (qe_tup (qa_cons qe_str (qa_cons (qv 3) qa_nil))) (qa_cons qe_non qa_nil))) (qa_cons (qe_tup (qa_cons (qe_tup (qa_cons qe_str (qa_cons (qv 3) qa_nil))) (qa_cons qe_non qa_nil))) (qa_cons (qe_tup (qa_cons (qe_tup (qa_cons qe_str (qa_cons (qv 3) (qa_cons qe_int qa_nil)))) (qa_cons qe_non qa_nil))) (qa_cons (qe_tup (qa_cons (qe_tup (qa_cons qe_str (qa_cons qe_int qa_nil))) (qa_cons qe_non qa_nil))) qa_nil)))))))))))).up
end Bg
end
section
set_option Elab.async false
set_option linter.all false
set_option maxRecDepth 100000
set_option maxHeartbeats 4000000
namespace Bg
open PySem PySem.Spec PyProof.Rows L2
theorem d_behind {P : Program} {w : World} {K : PySem.W.Frag} {mg : Str → Option Value} {base : Heap} {f : Addr} {cdv : Value} {A : Around} {outer : List Env} {s : Shared} {H : Hp} {E : XK} (B : Blt mg)  
    (hr : Room k_behind (A.deeper (envOfC "_law_behind" (defScope s_behind) s.heap.objs.size f cdv))) : PSs (cxOf CX0 P w K mg base N_behind "_law_behind" (defScope s_behind) f cdv A outer s H E).nox (defBody s_behind) (t_behind K) := by
  have nd := sc_behind.nd
  have hu := hr.units0
  have hu1 := hu_of hr
  exact (show QSs (cxOf CX0 P w K mg base N_behind "_law_behind" (defScope s_behind) f cdv A outer s H E).nox (defBody s_behind) (t_behind K) from (qss_cons (qs_if (qt_cmpR (op_eqG hu) (qe_ix ix_seq (qv 0) qe_int (fun _ _ => rfl)) qe_str rfl) (qss_one (qs_ret (qe_op op_plus (qe_tup (qa_cons (qe_ix ix_seq (qv 1) (qe_ix ix_seq (qv 0) qe_int (fun _ _ => rfl)) (fun _ _ => rfl)) qa_nil)) (qe_slice sl_seq (qv 1) qo_none (qo_some (qe_op op_sub (qe_callB call_len rfl B.len_ boot_len (qa_cons (qv 1) qa_nil)) qe_int)))))) qss_nil) (qss_cons (qs_if (qt_cmpR op_isN (qv 2) qe_non rfl) (qss_one (qs_ret (qv 1))) qss_nil) (qss_cons (qs_set (i := 3) nd rfl (Or.inl rfl) (qe_lst (qa_cons (qv 2) qa_nil))) (qss_cons (qs_for PassesOwn.never rfl (qi_seq (qe_slice sl_seq (qv 1) qo_none (qo_some (qe_op op_sub (qe_callB call_len rfl B.len_ boot_len (qa_cons (qv 1) qa_nil)) qe_int)))) (qg_name (i := 4) nd rfl (Or.inl rfl)) (qss_one (qs_expr (qe_bm PySem.F.plainAttrs_list PySem.F.slot_list_append PySem.F.type_list_append mt_append (qv 3) (qa_cons (qe_ix ix_seq (qe_lst (qa_cons (qv 4) (qa_cons qe_non qa_nil))) (qe_callTy call_int1 rfl B.int_ boot_int (qa_cons (qe_cmpR (op_eqG hu) (qv 4) (qv 2) rfl) qa_nil)) (fun _ _ => rfl)) qa_nil))))) (qss_one (qs_ret (qe_callTy call_tuple_of rfl B.tuple_ boot_tuple (qa_cons (qv 3) qa_nil))))))))).up
end Bg
end
section
set_option Elab.async false
set_option linter.all false
set_option maxRecDepth 100000
set_option maxHeartbeats 4000000
namespace Bg
open PySem PySem.Spec PyProof.Rows L2
theorem d_p_pushed {P : Program} {w : World} {K : PySem.W.Frag} {mg : Str → Option Value} {base : Heap} {f : Addr} {cdv : Value} {A : Around} {outer : List Env} {s : Shared} {H : Hp} {E : XK} (B : Blt mg)  
    (hr : Room k_p_pushed (A.deeper (envOfC "pushed" (defScope s_p_pushed) s.heap.objs.size f cdv))) : PSs (cxOf CX0 P w K mg base N_p_pushed "pushed" (defScope s_p_pushed) f cdv A outer s H E).nox (defBody s_p_pushed) (t_p_pushed K) := by
  have nd := sc_p_pushed.nd
  have hu := hr.units0
  have hu1 := hu_of hr
  exact (show QSs (cxOf CX0 P w K mg base N_p_pushed "pushed" (defScope s_p_pushed) f cdv A outer s H E).nox (defBody s_p_pushed) (t_p_pushed K) from (qss_one (qs_ret (qe_slice sl_seq (qe_op op_plus (qe_tup (qa_cons (qv 1) qa_nil)) (qv 0)) qo_none (qo_some (qe_callB call_len rfl B.len_ boot_len (qa_cons (qv 0) qa_nil))))))).up
end Bg
end
section
set_option Elab.async false
set_option linter.all false
set_option maxRecDepth 100000
set_option maxHeartbeats 4000000
namespace Bg
open PySem PySem.Spec PyProof.Rows L2
theorem d_p_set_anew {P : Program} {w : World} {K : PySem.W.Frag} {mg : Str → Option Value} {base : Heap} {f : Addr} {cdv : Value} {A : Around} {outer : List Env} {s : Shared} {H : Hp} {E : XK} (B : Blt mg)  (c_p_pushed : Callee P w K mg base "pushed" PS_p_pushed K_p_pushed (sp_p_pushed K))
    (hr : Room k_p_set_anew (A.deeper (envOfC "set_anew" (defScope s_p_set_anew) s.heap.objs.size f cdv))) : PSs (cxOf CX0 P w K mg base N_p_set_anew "set_anew" (defScope s_p_set_anew) f cdv A outer s H E).nox (defBody s_p_set_anew) (t_p_set_anew K) := by
  have nd := sc_p_set_anew.nd
  have hu := hr.units0
  have hu1 := hu_of hr
  exact (show QSs (cxOf CX0 P w K mg base N_p_set_anew "set_anew" (defScope s_p_set_anew) f cdv A outer s H E).nox (defBody s_p_set_anew) (t_p_set_anew K) from (qss_one (qs_ret (qe_fn c_p_pushed (hr.mono (by decide)) rfl (qa_cons (qe_callTy call_tuple_of rfl B.tuple_ boot_tuple (qa_cons (qe_comp (sc := defScope s_p_set_anew) (N := N_p_set_anew) (NY := ["names", "x", "name"]) (js := []) (k := 1) ⟨rfl, by decide +kernel, by decide +kernel, by decide +kernel, rfl, by decide +kernel⟩ rfl rfl rfl rfl (qi_seq (qv 0)) (fun _ _ _ _ _ => (qg_name (i := 2) (show List.Nodup (["names", "x", "name"] : List Str) by decide +kernel) rfl (Or.inl rfl))) (fun _ _ _ _ _ => qif_nil) (fun _ _ _ _ _ => (qe_ifExp (qt_cmpR (op_eqG hu) (qv 2) (qv 1) rfl) qe_non (qv 2)))) qa_nil)) (qa_cons (qv 1) qa_nil)))))).up
end Bg
end
section
set_option Elab.async false
set_option linter.all false
set_option maxRecDepth 100000
set_option maxHeartbeats 4000000
namespace Bg
open PySem PySem.Spec PyProof.Rows L2
theorem d_p_behind {P : Program} {w : World} {K : PySem.W.Frag} {mg : Str → Option Value} {base : Heap} {f : Addr} {cdv : Value} {A : Around} {outer : List Env} {s : Shared} {H : Hp} {E : XK} (B : Blt mg)  (c_p_set_anew : Callee P w K mg base "set_anew" PS_p_set_anew K_p_set_anew (sp_p_set_anew K)) (c_p_pushed : Callee P w K mg base "pushed" PS_p_pushed K_p_pushed (sp_p_pushed K))
    (hr : Room k_p_behind (A.deeper (envOfC "behind" (defScope s_p_behind) s.heap.objs.size f cdv))) : PSs (cxOf CX0 P w K mg base N_p_behind "behind" (defScope s_p_behind) f cdv A outer s H E).nox (defBody s_p_behind) (t_p_behind K) := by
  have nd := sc_p_behind.nd
  have hu := hr.units0
  have hu1 := hu_of hr
  exact (show QSs (cxOf CX0 P w K mg base N_p_behind "behind" (defScope s_p_behind) f cdv A outer s H E).nox (defBody s_p_behind) (t_p_behind K) from (qss_cons (qs_if (qt_cmpR (op_eqG hu) (qe_ix ix_seq (qv 0) qe_int (fun _ _ => rfl)) qe_str rfl) (qss_one (qs_ret (qe_fn c_p_pushed (hr.mono (by decide)) rfl (qa_cons (qv 1) (qa_cons (qe_ix ix_seq (qv 1) (qe_ix ix_seq (qv 0) qe_int (fun _ _ => rfl)) (fun _ _ => rfl)) qa_nil))))) qss_nil) (qss_cons (qs_if (qt_cmpR op_in_seq (qe_ix ix_seq (qv 0) qe_int (fun _ _ => rfl)) (qe_tup (qa_cons qe_str (qa_cons qe_str (qa_cons qe_str qa_nil)))) rfl) (qss_one (qs_ret (qe_fn c_p_set_anew (hr.mono (by decide)) rfl (qa_cons (qv 1) (qa_cons (qv 2) qa_nil))))) qss_nil) (qss_one (qs_ret (qv 1)))))).up
end Bg
end
section
set_option Elab.async false
set_option linter.all false
set_option maxRecDepth 100000
set_option maxHeartbeats 4000000
namespace Bg
open PySem PySem.Spec PyProof.Rows L2
theorem d_near {P : Program} {w : World} {K : PySem.W.Frag} {mg : Str → Option Value} {base : Heap} {f : Addr} {cdv : Value} {A : Around} {outer : List Env} {s : Shared} {H : Hp} {E : XK} (B : Blt mg)  (c_draw : Callee P w K mg base "_law_draw" PS_draw K_draw (sp_draw K))
    (hr : Room k_near (A.deeper (envOfC "_law_near" (defScope s_near) s.heap.objs.size f cdv))) : PSs (cxOf CX0 P w K mg base N_near "_law_near" (defScope s_near) f cdv A outer s H E).nox (defBody s_near) (t_near K) := by
  have nd := sc_near.nd
  have hu := hr.units0
  have hu1 := hu_of hr
  exact (show QSs (cxOf CX0 P w K mg base N_near "_law_near" (defScope s_near) f cdv A outer s H E).nox (defBody s_near) (t_near K) from (qss_cons (qs_set (i := 3) nd rfl (Or.inl rfl) (qe_callTy call_list_of rfl B.list_ boot_list (qa_cons (qv 2) qa_nil))) (qss_cons (qs_for PassesOwn.never rfl (qi_range1 rfl B.range_ (qa_cons (qe_fn c_draw (hr.mono (by decide)) rfl (qa_cons (qv 0) (qa_cons qe_int qa_nil))) qa_nil)) (qg_name (i := 4) nd rfl (Or.inl rfl)) (qss_cons (qs_set (i := 5) nd rfl (Or.inl rfl) (qe_lst (qa_cons qe_non (qa_cons qe_non (qa_cons (qe_ix ix_seq (qv 1) (qe_fn c_draw (hr.mono (by decide)) rfl (qa_cons (qv 0) (qa_cons (qe_callB call_len rfl B.len_ boot_len (qa_cons (qv 1) qa_nil)) qa_nil))) (fun _ _ => rfl)) qa_nil))))) (qss_one (qs_asg (qe_ix ix_seq (qv 5) (qe_fn c_draw (hr.mono (by decide)) rfl (qa_cons (qv 0) (qa_cons qe_int qa_nil))) (fun _ _ => rfl)) (qg_sub (qv 3) (qe_fn c_draw (hr.mono (by decide)) rfl (qa_cons (qv 0) (qa_cons (qe_callB call_len rfl B.len_ boot_len (qa_cons (qv 3) qa_nil)) qa_nil))) set_list))))) (qss_one (qs_ret (qe_callTy call_tuple_of rfl B.tuple_ boot_tuple (qa_cons (qv 3) qa_nil))))))).up
end Bg
end
section
set_option Elab.async false
set_option linter.all false
set_option maxRecDepth 100000
set_option maxHeartbeats 4000000
namespace Bg
open PySem PySem.Spec PyProof.Rows L2
theorem d_belt {P : Program} {w : World} {K : PySem.W.Frag} {mg : Str → Option Value} {base : Heap} {f : Addr} {cdv : Value} {A : Around} {outer : List Env} {s : Shared} {H : Hp} {E : XK} (B : Blt mg)  (c_draw : Callee P w K mg base "_law_draw" PS_draw K_draw (sp_draw K))
    (hr : Room k_belt (A.deeper (envOfC "_law_belt" (defScope s_belt) s.heap.objs.size f cdv))) : PSs (cxOf CX0 P w K mg base N_belt "_law_belt" (defScope s_belt) f cdv A outer s H E).nox (defBody s_belt) (t_belt K) := by
  have nd := sc_belt.nd
  have hu := hr.units0
  have hu1 := hu_of hr
  exact (show QSs (cxOf CX0 P w K mg base N_belt "_law_belt" (defScope s_belt) f cdv A outer s H E).nox (defBody s_belt) (t_belt K) from (qss_cons (qs_set (i := 3) nd rfl (Or.inr rfl) (qe_op op_plus (qv 1) (qe_lst (qa_cons qe_non (qa_cons qe_non qa_nil))))) (qss_one (qs_ret (qe_callTy call_tuple_of rfl B.tuple_ boot_tuple (qa_cons (qe_comp (sc := defScope s_belt) (N := N_belt) (NY := ["_law_state", "_law_names_here", "_law_places", "_law_some", "_law_k"]) (js := []) (k := 1) ⟨rfl, by decide +kernel, by decide +kernel, by decide +kernel, rfl, by decide +kernel⟩ rfl rfl rfl rfl (qi_range1 rfl B.range_ (qa_cons (qv 2) qa_nil)) (fun _ _ _ _ _ => (qg_name (i := 4) (show List.Nodup (["_law_state", "_law_names_here", "_law_places", "_law_some", "_law_k"] : List Str) by decide +kernel) rfl (Or.inl rfl))) (fun _ _ _ _ _ => qif_nil) (fun _ _ _ _ _ => (qe_ix ix_seq (qv 3) (qe_fn c_draw (hr.mono (by decide)) rfl (qa_cons (qv 0) (qa_cons (qe_callB call_len rfl B.len_ boot_len (qa_cons (qv 3) qa_nil)) qa_nil))) (fun _ _ => rfl)))) qa_nil)))))).up
end Bg
end
section
set_option Elab.async false
set_option linter.all false
set_option maxRecDepth 100000
set_option maxHeartbeats 4000000
namespace Bg
open PySem PySem.Spec PyProof.Rows L2
theorem d_weaker {P : Program} {w : World} {K : PySem.W.Frag} {mg : Str → Option Value} {base : Heap} {f : Addr} {cdv : Value} {A : Around} {outer : List Env} {s : Shared} {H : Hp} {E : XK} (B : Blt mg)  
    (hr : Room k_weaker (A.deeper (envOfC "_law_weaker" (defScope s_weaker) s.heap.objs.size f cdv))) : PSs (cxOf CX0 P w K mg base N_weaker "_law_weaker" (defScope s_weaker) f cdv A outer s H E).nox (defBody s_weaker) (t_weaker K) := by
  have nd := sc_weaker.nd
  have hu := hr.units0
  have hu1 := hu_of hr
  exact (show QSs (cxOf CX0 P w K mg base N_weaker "_law_weaker" (defScope s_weaker) f cdv A outer s H E).nox (defBody s_weaker) (t_weaker K) from (qss_cons (qs_for PassesOwn.never rfl (qi_range1 rfl B.range_ (qa_cons (qe_callB call_len rfl B.len_ boot_len (qa_cons (qv 0) qa_nil)) qa_nil)) (qg_name (i := 2) nd rfl (Or.inl rfl)) (qss_one (qs_if (QW.pt (qw_and (qt_cmpR op_notN (qe_ix ix_seq (qv 0) (qv 2) (fun _ _ => rfl)) qe_non rfl) (qw_and1 (qt_cmpR (op_neG hu) (qe_ix ix_seq (qv 0) (qv 2) (fun _ _ => rfl)) (qe_ix ix_seq (qv 1) (qv 2) (fun _ _ => rfl)) rfl)))) (qss_one (qs_ret qe_bl)) qss_nil))) (qss_one (qs_ret qe_bl)))).up
end Bg
end
section
set_option Elab.async false
set_option linter.all false
set_option maxRecDepth 100000
set_option maxHeartbeats 4000000
namespace Bg
open PySem PySem.Spec PyProof.Rows L2
theorem d_p_weaker {P : Program} {w : World} {K : PySem.W.Frag} {mg : Str → Option Value} {base : Heap} {f : Addr} {cdv : Value} {A : Around} {outer : List Env} {s : Shared} {H : Hp} {E : XK} (B : Blt mg)  
    (hr : Room k_p_weaker (A.deeper (envOfC "weaker" (defScope s_p_weaker) s.heap.objs.size f cdv))) : PSs (cxOf CX0 P w K mg base N_p_weaker "weaker" (defScope s_p_weaker) f cdv A outer s H E).nox (defBody s_p_weaker) (t_p_weaker K) := by
  have nd := sc_p_weaker.nd
  have hu := hr.units0
  have hu1 := hu_of hr
  exact (show QSs (cxOf CX0 P w K mg base N_p_weaker "weaker" (defScope s_p_weaker) f cdv A outer s H E).nox (defBody s_p_weaker) (t_p_weaker K) from (qss_one (qs_ret (qe_callB (call_all_bl rfl) rfl B.all_ boot_all (qa_cons (qe_comp (sc := defScope s_p_weaker) (N := N_p_weaker) (NY := ["one", "other", "name", "fellow"]) (js := []) (k := 2) ⟨rfl, by decide +kernel, by decide +kernel, by decide +kernel, rfl, by decide +kernel⟩ rfl rfl rfl rfl (qi_zipS rfl B.zip_ (qa_cons (qv 0) (qa_cons (qv 1) qa_nil))) (fun _ _ _ _ _ => (qg_tup rfl (qgs_cons (qg_name (i := 2) (show List.Nodup (["one", "other", "name", "fellow"] : List Str) by decide +kernel) rfl (Or.inl rfl)) (qgs_cons (qg_name (i := 3) (show List.Nodup (["one", "other", "name", "fellow"] : List Str) by decide +kernel) rfl (Or.inl rfl)) qgs_nil)))) (fun _ _ _ _ _ => qif_nil) (fun _ _ _ _ _ => (qe_or (qe_cmpR op_isN (qv 2) qe_non rfl) (qe_one (qe_cmpR (op_eqG hu) (qv 2) (qv 3) rfl))))) qa_nil))))).up
end Bg
end
section
set_option Elab.async false
set_option linter.all false
set_option maxRecDepth 100000
set_option maxHeartbeats 4000000
namespace Bg
open PySem PySem.Spec PyProof.Rows L2
theorem d_names {P : Program} {w : World} {K : PySem.W.Frag} {mg : Str → Option Value} {base : Heap} {f : Addr} {cdv : Value} {A : Around} {outer : List Env} {s : Shared} {H : Hp} {E : XK} (B : Blt mg)  (c_draw : Callee P w K mg base "_law_draw" PS_draw K_draw (sp_draw K))
    (hr : Room k_names (A.deeper (envOfC "_law_names" (defScope s_names) s.heap.objs.size f cdv))) : PSs (cxOf CX0 P w K mg base N_names "_law_names" (defScope s_names) f cdv A outer s H E).nox (defBody s_names) (t_names K) := by
  have nd := sc_names.nd
  have hu := hr.units0
  have hu1 := hu_of hr
  exact (show QSs (cxOf CX0 P w K mg base N_names "_law_names" (defScope s_names) f cdv A outer s H E).nox (defBody s_names) (t_names K) from (qss_cons (qs_set (i := 2) nd rfl (Or.inr rfl) qe_str) (qss_cons (qs_set (i := 3) nd rfl (Or.inl rfl) (qe_op op_plus qe_int (qe_fn c_draw (hr.mono (by decide)) rfl (qa_cons (qv 0) (qa_cons qe_int qa_nil))))) (qss_cons (qs_set (i := 4) nd rfl (Or.inl rfl) (qe_fn c_draw (hr.mono (by decide)) rfl (qa_cons (qv 0) (qa_cons (qv 3) qa_nil)))) (qss_cons (qs_set (i := 5) nd rfl (Or.inr rfl) (qe_fn c_draw (hr.mono (by decide)) rfl (qa_cons (qv 0) (qa_cons qe_int qa_nil)))) (qss_cons (qs_comp (i := 6) (sc := defScope s_names) (N := N_names) (NY := ["_law_state", "_law_many", "_law_letters", "_law_size", "_law_at", "_law_first", "_law_base", "_law_found", "_law_k", "_law_some", "_law_name", "_law_j"]) (js := []) (k := 1) ⟨rfl, by decide +kernel, by decide +kernel, by decide +kernel, rfl, by decide +kernel⟩ rfl rfl rfl rfl (qi_range1 rfl B.range_ (qa_cons (qv 3) qa_nil)) (fun _ _ _ _ _ => (qg_name (i := 11) (show List.Nodup (["_law_state", "_law_many", "_law_letters", "_law_size", "_law_at", "_law_first", "_law_base", "_law_found", "_law_k", "_law_some", "_law_name", "_law_j"] : List Str) by decide +kernel) rfl (Or.inl rfl))) (fun _ _ _ _ _ => qif_nil) (fun _ _ _ _ _ => (qe_ix ix_seq (qv 2) (qe_op op_mod (qe_op op_plus (qv 5) (qe_op op_times (qe_op op_times qe_int (qv 11)) (qe_fn c_draw (hr.mono (by decide)) rfl (qa_cons (qv 0) (qa_cons qe_int qa_nil))))) qe_int) (fun _ _ => rfl))) nd rfl (Or.inl rfl) rfl) (qss_cons (qs_set (i := 7) nd rfl (Or.inl rfl) (qe_lst qa_nil)) (qss_cons (qs_for PassesOwn.never rfl (qi_range1 rfl B.range_ (qa_cons (qv 1) qa_nil)) (qg_name (i := 8) nd rfl (Or.inl rfl)) (qss_cons (qs_set (i := 9) nd rfl (Or.inl rfl) (qe_op op_plus (qe_op op_plus (qe_slice sl_seq (qv 6) qo_none (qo_some (qv 4))) (qe_lst (qa_cons (qe_ix ix_seq (qv 2) (qe_op op_mod (qe_op op_plus (qv 5) (qe_op op_times qe_int (qv 8))) qe_int) (fun _ _ => rfl)) qa_nil))) (qe_slice sl_seq (qv 6) (qo_some (qe_op op_plus (qv 4) qe_int)) qo_none))) (qss_cons (qs_set (i := 10) nd rfl (Or.inl rfl) (qe_bm PySem.F.plainAttrs_str PySem.F.slot_str_join PySem.F.type_str_join mt_join qe_str (qa_cons (qv 9) qa_nil))) (qss_cons (qs_if (QW.pt (qw_or (qt_cmpR op_in_seq (qv 10) (qe_tup (qa_cons qe_str (qa_cons qe_str (qa_cons qe_str (qa_cons qe_str (qa_cons qe_str (qa_cons qe_str qa_nil))))))) rfl) (qw_or1 (QW.pt (qw_and (qt_cmpR op_lt (qv 3) qe_int rfl) (qw_and1 (qt_cmpR (op_eqG hu) (qe_op op_mod (qe_op op_plus (qv 3) (qv 8)) qe_int) qe_int rfl))))))) (qss_one (qs_set (i := 10) nd rfl (Or.inl rfl) (qe_op op_plus (qv 10) qe_str))) qss_nil) (qss_one (qs_expr (qe_bm PySem.F.plainAttrs_list PySem.F.slot_list_append PySem.F.type_list_append mt_append (qv 7) (qa_cons (qv 10) qa_nil)))))))) (qss_one (qs_ret (qv 7))))))))))).up
end Bg
end
section
set_option Elab.async false
set_option linter.all false
set_option maxRecDepth 100000
set_option maxHeartbeats 4000000
namespace Bg
open PySem PySem.Spec PyProof.Rows L2
theorem d_law {P : Program} {w : World} {K : PySem.W.Frag} {mg : Str → Option Value} {base : Heap} {f : Addr} {cdv : Value} {A : Around} {outer : List Env} {s : Shared} {H : Hp} {E : XK} (B : Blt mg)  (c_draw : Callee P w K mg base "_law_draw" PS_draw K_draw (sp_draw K)) (c_rows : Callee P w K mg base "_law_rows" PS_rows K_rows (sp_rows K)) (c_behind : Callee P w K mg base "_law_behind" PS_behind K_behind (sp_behind K)) (c_p_behind : Callee P w K mg base "behind" PS_p_behind K_p_behind (sp_p_behind K)) (c_near : Callee P w K mg base "_law_near" PS_near K_near (sp_near K)) (c_belt : Callee P w K mg base "_law_belt" PS_belt K_belt (sp_belt K)) (c_weaker : Callee P w K mg base "_law_weaker" PS_weaker K_weaker (sp_weaker K)) (c_p_weaker : Callee P w K mg base "weaker" PS_p_weaker K_p_weaker (sp_p_weaker K)) (c_names : Callee P w K mg base "_law_names" PS_names K_names (sp_names K))
    (hr : Room k_law (A.deeper (envOfC "law" (defScope s_law) s.heap.objs.size f cdv))) : PSs (cxOf CX0 P w K mg base N_law "law" (defScope s_law) f cdv A outer s H E).nox (defBody s_law) (t_law K) := by
  have nd := sc_law.nd
  have hu := hr.units0
  have hu1 := hu_of hr
  exact (show QSs (cxOf CX0 P w K mg base N_law "law" (defScope s_law) f cdv A outer s H E).nox (defBody s_law) (t_law K) from (qss_cons (qs_set (i := 1) nd rfl (Or.inl rfl) (qe_lst (qa_cons (qv 0) (qa_cons qe_int (qa_cons qe_int qa_nil))))) (qss_cons (qs_set (i := 2) nd rfl (Or.inl rfl) (qe_fn c_names (hr.mono (by decide)) rfl (qa_cons (qv 1) (qa_cons qe_int qa_nil)))) (qss_cons (qs_for PassesOwn.never rfl (qi_range1 rfl B.range_ (qa_cons (qe_op op_plus qe_int (qe_callB (call_min2 rfl) rfl B.min_ boot_min (qa_cons qe_int (qa_cons (qe_op op_fdiv (qe_callB call_len rfl B.len_ boot_len (qa_cons (qv 0) qa_nil)) qe_int) qa_nil)))) qa_nil)) (qg_name (i := 3) nd rfl (Or.inl rfl)) (qss_cons (qs_set (i := 4) nd rfl (Or.inl rfl) (qe_ix ix_seq (qe_lst (qa_cons (qe_op op_plus qe_int (qe_fn c_draw (hr.mono (by decide)) rfl (qa_cons (qv 1) (qa_cons qe_int qa_nil)))) (qa_cons (qe_op op_plus qe_int (qe_fn c_draw (hr.mono (by decide)) rfl (qa_cons (qv 1) (qa_cons qe_int qa_nil)))) qa_nil))) (qe_fn c_draw (hr.mono (by decide)) rfl (qa_cons (qv 1) (qa_cons qe_int qa_nil))) (fun _ _ => rfl))) (qss_cons (qs_set (i := 5) nd rfl (Or.inl rfl) (qe_fn c_belt (hr.mono (by decide)) rfl (qa_cons (qv 1) (qa_cons (qv 2) (qa_cons (qv 4) qa_nil))))) (qss_cons (qs_for PassesOwn.never rfl (qi_seq (qe_tup (qa_cons (qe_fn c_near (hr.mono (by decide)) rfl (qa_cons (qv 1) (qa_cons (qv 2) (qa_cons (qv 5) qa_nil)))) (qa_cons (qe_fn c_belt (hr.mono (by decide)) rfl (qa_cons (qv 1) (qa_cons (qv 2) (qa_cons (qv 4) qa_nil)))) (qa_cons (qv 5) qa_nil))))) (qg_name (i := 6) nd rfl (Or.inl rfl)) (qss_one (qs_for PassesOwn.never rfl (qi_seq (qe_tup (qa_cons (qe_tup (qa_cons (qv 5) (qa_cons (qv 6) qa_nil))) (qa_cons (qe_tup (qa_cons (qv 6) (qa_cons (qv 5) qa_nil))) qa_nil)))) (qg_tup rfl (qgs_cons (qg_name (i := 7) nd rfl (Or.inl rfl)) (qgs_cons (qg_name (i := 8) nd rfl (Or.inl rfl)) qgs_nil))) (qss_cons (qs_set (i := 9) nd rfl (Or.inl rfl) (qe_fn c_p_weaker (hr.mono (by decide)) rfl (qa_cons (qv 7) (qa_cons (qv 8) qa_nil)))) (qss_one (qs_if (QW.pt (qw_or (qt_not (qt_val (qe_callB call_isi rfl B.isinstance_ boot_isinstance (qa_cons (qv 9) (qa_cons (qe_bltn rfl B.bool_ boot_bool (v := .ty "bool") rfl) qa_nil))))) (qw_or1 (qt_cmpR (op_neG hu) (qv 9) (qe_fn c_weaker (hr.mono (by decide)) rfl (qa_cons (qv 7) (qa_cons (qv 8) qa_nil))) rfl)))) (qss_one (qs_ret qe_bl)) qss_nil)))))) (qss_one (qs_for PassesOwn.never rfl (qi_seq (qe_fn c_rows (hr.mono (by decide)) rfl (qa_cons (qv 1) (qa_cons (qv 4) (qa_cons (qe_ix ix_seq (qv 2) (qe_fn c_draw (hr.mono (by decide)) rfl (qa_cons (qv 1) (qa_cons qe_int qa_nil))) (fun _ _ => rfl)) qa_nil))))) (qg_tup rfl (qgs_cons (qg_name (i := 10) nd rfl (Or.inl rfl)) (qgs_cons (qg_name (i := 11) nd rfl (Or.inl rfl)) qgs_nil))) (qss_cons (qs_set (i := 9) nd rfl (Or.inl rfl) (qe_fn c_p_behind (hr.mono (by decide)) rfl (qa_cons (qv 10) (qa_cons (qv 5) (qa_cons (qv 11) qa_nil))))) (qss_one (qs_if (QW.pt (qw_or (qt_not (qt_val (qe_callB call_isi rfl B.isinstance_ boot_isinstance (qa_cons (qv 9) (qa_cons (qe_bltn rfl B.tuple_ boot_tuple (v := .ty "tuple") rfl) qa_nil))))) (qw_or1 (qt_cmpR (op_neG hu) (qv 9) (qe_fn c_behind (hr.mono (by decide)) rfl (qa_cons (qv 10) (qa_cons (qv 5) (qa_cons (qv 11) qa_nil)))) rfl)))) (qss_one (qs_ret qe_bl)) qss_nil))))))))) (qss_one (qs_ret qe_bl)))))).up
end Bg
end
section
set_option Elab.async false
set_option linter.all false
set_option maxRecDepth 100000
set_option maxHeartbeats 4000000
namespace Bg
open PySem L2
theorem r_draw_tail {K : PySem.W.Frag} {st scr : Addr} {m : Int} {k : Nat} {ns : List Int} {c : Int} {H H2 : Hp} {Q : VK} {o4 o5 : Option V} {nx : St → Hp → Prop} (hk : k ≤ 1000000) (m0 : 0 < m)
    (q : ∀ (d : Int) (H' : Hp), 0 ≤ d → d < m → Stt K H' st (k + 1) → But st H H' → Q (.int d) H') (hS : H2 st = some (.lst [.ref scr, .int ((k : Int) + 1), .int c])) (hscr : ScrAt K H2 scr ns) (hns : ns.length ≤ 63) (hB : But st H H2) :
    t_draw_5 K { nx := nx, rt := Q } [some (.ref st), some (.int m), some (.ref scr), some (.int (k : Nat)), o4, o5] H2 := by
  have e1 : (((k + 1 : Nat) : Nat) : Int) = (k : Int) + 1 := by omega
  have S2 : Stt K H2 st (k + 1) := ⟨scr, ns, c, by rw [e1]; exact hS, hscr, hns⟩
  refine ⟨_, rfl, .inl ⟨_, _, rfl, rfl, .inr ⟨by decide, by decide⟩, .inl ⟨_, _, rfl, rfl, ?_⟩⟩⟩
  have rest : ∀ z : Int, t_draw_3 K { nx := nx, rt := Q } [some (.ref st), some (.int m), some (.ref scr), some (.int (k : Nat)), o4, some (.int z)] H2 := fun z => by
    have b1 : 0 ≤ z % 2147483629 := Int.emod_nonneg _ (by decide)
    have b2 : z % 2147483629 < 2147483629 := Int.emod_lt_of_pos _ (by decide)
    refine ⟨_, rfl, _, _, rfl, rfl, (by show (0 : Int) < 2147483629; decide), _, rfl, .inl ⟨_, _, rfl, rfl, .inl ⟨_, _, rfl, rfl, .inl ⟨by omega, by omega⟩, _, _, rfl, rfl, (by show (0 : Int) < 2147483629; decide), ?_⟩⟩⟩
    generalize hy : z % 2147483629 * ((k : Int) + 3) % 2147483629 = y
    have c1 : 0 ≤ y := by rw [← hy]; exact Int.emod_nonneg _ (by decide)
    have c2 : y < 2147483629 := by rw [← hy]; exact Int.emod_lt_of_pos _ (by decide)
    refine ⟨_, rfl, _, rfl, .inl ⟨_, _, rfl, rfl, .inl ⟨by omega, by omega⟩, _, _, rfl, rfl, (by show (0 : Int) < 2147483587; decide), ?_⟩⟩
    generalize hx : y * y % 2147483587 = x
    have d1 : 0 ≤ x := by rw [← hx]; exact Int.emod_nonneg _ (by decide)
    have d2 : x < 2147483587 := by rw [← hx]; exact Int.emod_lt_of_pos _ (by decide)
    refine ⟨_, rfl, _, rfl, .inl ⟨_, _, rfl, rfl, .inl ⟨by omega, by omega⟩, _, _, rfl, rfl, (by show (0 : Int) < 1999999973; decide), _, rfl, _, _, rfl, rfl, m0, ?_⟩⟩
    exact q _ H2 (Int.emod_nonneg _ (by omega)) (Int.emod_lt_of_pos _ m0) S2 hB
  refine ⟨_, rfl, _, _, rfl, .inl ⟨_, hscr.sq, rfl⟩, _, _, rfl, rfl, _, rfl, if_dec (fun hl => ?_) (fun _ => rest _)⟩
  rw [List.length_map] at hl
  have hlp : 0 < ns.length := by omega
  refine ⟨_, rfl, _, rfl, _, rfl, .inl ⟨_, _, rfl, rfl, .inr ⟨by decide, by decide⟩, _, rfl, _, _, rfl, .inl ⟨_, hscr.sq, rfl⟩, _, _, rfl, rfl, (by rw [List.length_map]; omega), ?_⟩⟩
  have i1 : 0 ≤ (k : Int) * 7 % ((ns.map V.int).length : Nat) := Int.emod_nonneg _ (by rw [List.length_map]; omega)
  have i2 : (k : Int) * 7 % ((ns.map V.int).length : Nat) < ((ns.map V.int).length : Nat) := Int.emod_lt_of_pos _ (by rw [List.length_map]; omega)
  rw [List.length_map] at i1 i2
  have i3 : ((k : Int) * 7 % (ns.length : Nat)).toNat < ns.length := by omega
  refine ixL hscr.sq (by rw [List.length_map]; exact i1) (v := .int ns[((k : Int) * 7 % (ns.length : Nat)).toNat]) (by simp only [List.length_map]; rw [List.getElem?_map, List.getElem?_eq_getElem i3]; rfl) ?_
  exact ⟨_, rfl, .inl ⟨_, _, rfl, rfl, .inl ⟨_, _, rfl, rfl, .inr ⟨by omega, by omega⟩, .inl ⟨_, _, rfl, rfl, rest _⟩⟩⟩⟩
theorem r_draw {K : PySem.W.Frag} {vs : List V} {H : Hp} {Q : VK} {E : XK} (h : sp_draw K vs H Q E) : t_draw K { nx := fun _ H' => Q .non H', rt := Q } (start N_draw vs) H := by
  obtain ⟨st, m, k, rfl, S, hk, m0, m1, q⟩ := h
  obtain ⟨scr, ns, c, hst, hscr, hns⟩ := S
  refine ⟨_, rfl, _, rfl, .inl ⟨st, _, rfl, SqL.of hst, fun p hp => ?_⟩⟩
  refine ⟨p, _, rfl, SqL.of upd_same, rfl, _, _, rfl, _, _, rfl, rfl, ?_⟩
  have np : st ≠ p := ne_of_none hst hp
  have B1 : But st H (upd H p (.lst (cutV [V.ref scr, V.int (k : Nat), V.int c] none (some 2)))) := (But.refl st H).new hp
  have h1 : (upd H p (.lst (cutV [V.ref scr, V.int (k : Nat), V.int c] none (some 2)))) st = some (.lst [.ref scr, .int (k : Nat), .int c]) := by rw [upd_ne np]; exact hst
  have s1 : ScrAt K (upd H p (.lst (cutV [V.ref scr, V.int (k : Nat), V.int c] none (some 2)))) scr ns := hscr.mono (.of_but B1 hst)
  generalize upd H p (.lst (cutV [V.ref scr, V.int (k : Nat), V.int c] none (some 2))) = H1 at B1 h1 s1 ⊢
  refine ⟨_, rfl, .inl ⟨_, _, rfl, rfl, _, rfl, setL h1 (by decide) (by show 1 < 3; decide) ?_⟩⟩
  have B2 : But st H (upd H1 st (.lst [.ref scr, .int ((k : Int) + 1), .int c])) := B1.trans .upd_at
  have h2 : (upd H1 st (.lst [.ref scr, .int ((k : Int) + 1), .int c])) st = some (.lst [.ref scr, .int ((k : Int) + 1), .int c]) := upd_same
  have s2 : ScrAt K (upd H1 st (.lst [.ref scr, .int ((k : Int) + 1), .int c])) scr ns := s1.mono (.of_but .upd_at h1)
  show t_draw_8 K _ [some (.ref st), some (.int m), some (.ref scr), some (.int (k : Nat)), none, none] (upd H1 st (.lst [.ref scr, .int ((k : Int) + 1), .int c]))
  generalize upd H1 st (.lst [.ref scr, .int ((k : Int) + 1), .int c]) = H2 at B2 h2 s2 ⊢
  have tail := @r_draw_tail K st scr m k ns c H H2 Q none none (fun _ H' => Q .non H') hk m0 q h2 s2 hns B2
  have dig : ∀ (c' : Int) (H3 : Hp), H3 st = some (.lst [.ref scr, .int ((k : Int) + 1), .int c']) → ScrAt K H3 scr ns → But st H H3 →
      t_draw_7 K { nx := t_draw_5 K { nx := fun _ H' => Q .non H', rt := Q }, rt := Q } [some (.ref st), some (.int m), some (.ref scr), some (.int (k : Nat)), none, none] H3 := fun c' H3 h3 s3 B3 => by
    refine ⟨_, rfl, ixL (SqL.of h3) (by decide) rfl ?_⟩
    refine ⟨_, rfl, (by show 2 ≤ sizeLine; decide), fun t ht => ⟨t, _, rfl, .inr (SqT.of upd_same), rfl, rfl, _, rfl, ?_⟩⟩
    have n3 : st ≠ t := ne_of_none h3 ht
    have B4 : But st H (upd H3 t (.tup [.int 0, .int (-1)])) := B3.new ht
    have h4 : (upd H3 t (.tup [.int 0, .int (-1)])) st = some (.lst [.ref scr, .int ((k : Int) + 1), .int c']) := by rw [upd_ne n3]; exact h3
    have s4 : ScrAt K (upd H3 t (.tup [.int 0, .int (-1)])) scr ns := s3.mono (.of_same ((Same.refl H3).new ht))
    refine if_bl (fun _ => ?_) (fun _ => ?_)
    · -- _law_state[2], _law_digit = divmod(_law_state[2], _law_many)
      refine ⟨_, rfl, .inl ⟨st, _, _, _, rfl, rfl, SqL.of h4, atI_of (by decide) rfl, _, rfl, _, _, rfl, ⟨m0, m1⟩, fun p2 hp2 => ?_⟩⟩
      have n4 : st ≠ p2 := ne_of_none h4 hp2
      refine ⟨p2, _, rfl, SqT.of upd_same, rfl, _, _, rfl, _, rfl, setL (by rw [upd_ne n4]; exact h4) (by decide) (by show 2 < 3; decide) ?_⟩
      refine ⟨_, _, rfl, rfl, _, rfl, ?_⟩
      have B5 := (B4.new (o := .tup [.int (c' / m), .int (c' % m)]) hp2)
      have s5 : ScrAt K (upd (upd H3 t (.tup [.int 0, .int (-1)])) p2 (.tup [.int (c' / m), .int (c' % m)])) scr ns := s4.mono (.of_same ((Same.refl _).new hp2))
      have h5 : (upd (upd H3 t (.tup [.int 0, .int (-1)])) p2 (.tup [.int (c' / m), .int (c' % m)])) st = some (.lst [.ref scr, .int ((k : Int) + 1), .int c']) := by rw [upd_ne n4]; exact h4
      refine q _ _ (Int.emod_nonneg _ (by omega)) (Int.emod_lt_of_pos _ m0) ⟨scr, ns, c' / m, ?_, s5.mono (.of_but .upd_at h5), hns⟩ (B5.trans .upd_at)
      have e1 : (((k + 1 : Nat) : Nat) : Int) = (k : Int) + 1 := by omega
      rw [upd_same, e1]
      rfl
    · exact r_draw_tail hk m0 q h4 s4 hns B4
  have e1 : (((k + 1 : Nat) : Nat) : Int) = (k : Int) + 1 := by omega
  have elif : tIfS (tTest (tOp rLt2 (tVar 3) (tCB (rLen K) (tCons (tVar 2) tNil)))) (tRet (tOp rMod2 (tOp (rIx K) (tVar 2) (tVar 3)) (tVar 1))) tNext
      { nx := t_draw_5 K { nx := fun _ H' => Q V.non H', rt := Q }, rt := Q } [some (V.ref st), some (V.int m), some (V.ref scr), some (V.int (k : Nat)), none, none] H2 := by
    refine ⟨_, rfl, _, rfl, _, _, rfl, .inl ⟨_, s2.sq, rfl⟩, _, _, rfl, rfl, _, rfl, if_dec (fun hlt => ?_) (fun _ => tail)⟩
    rw [List.length_map] at hlt
    have j2 : ((k : Nat) : Int).toNat < ns.length := by omega
    refine ⟨_, rfl, _, rfl, ixL s2.sq (by omega) (v := .int ns[((k : Nat) : Int).toNat]) (by rw [List.getElem?_map, List.getElem?_eq_getElem j2]; rfl) ?_⟩
    refine ⟨_, rfl, _, _, rfl, rfl, m0, ?_⟩
    exact q _ H2 (Int.emod_nonneg _ (by omega)) (Int.emod_lt_of_pos _ m0) ⟨scr, ns, c, by rw [e1]; exact h2, s2, hns⟩ B2
  refine ⟨_, rfl, _, _, rfl, rfl, ⟨by decide, by decide⟩, .inl ⟨_, _, rfl, rfl, _, rfl, _, _, rfl, .inl ⟨_, s2.sq, rfl⟩, _, _, rfl, rfl, _, rfl, if_dec (fun hlt => ?_) (fun _ => ?_)⟩⟩
  · rw [List.length_map] at hlt
    have hlp : 0 < ns.length := by omega
    have i0 : (ns.map V.int)[(0 : Int).toNat]? = some (.int ns[0]) := by
      show (ns.map V.int)[0]? = _
      rw [List.getElem?_map, List.getElem?_eq_getElem hlp]; rfl
    refine ⟨_, rfl, ixL s2.sq (by decide) i0 ⟨_, _, rfl, rfl, (by show (0 : Int) < 2; decide), .inl ⟨rfl, _, rfl, if_dec (fun _ => ?_) (fun _ => ?_)⟩⟩⟩
    · -- if _law_k % 12 == 0
      refine ⟨_, rfl, _, _, rfl, rfl, (by show (0 : Int) < 12; decide), .inl ⟨rfl, _, rfl, if_dec (fun _ => ?_) (fun _ => dig c H2 h2 s2 B2)⟩⟩
      have j2 : ((k : Int) / 12 + 1).toNat < ns.length := by omega
      refine ⟨_, rfl, _, rfl, _, _, rfl, rfl, ⟨by decide, by decide⟩, .inl ⟨_, _, rfl, rfl, ixL s2.sq (by omega) (v := .int ns[((k : Int) / 12 + 1).toNat]) (by rw [List.getElem?_map, List.getElem?_eq_getElem j2]; rfl) ?_⟩⟩
      refine ⟨_, rfl, setL h2 (by decide) (by show 2 < 3; decide) ?_⟩
      exact dig _ _ upd_same (s2.mono (.of_but .upd_at h2)) (B2.trans .upd_at)
    · exact elif
  · exact iteF elif
end Bg
end
section
set_option Elab.async false
set_option linter.all false
set_option maxRecDepth 100000
set_option maxHeartbeats 4000000
namespace Bg
open PySem L2
abbrev abc : Str := "abcdefghijklmnopqrstuvwxyz"
theorem abc_len : abc.length ≤ sizeLine := by decide +kernel
def one (c : Nat) : Str := ⟨#[c]⟩
theorem codes_join0 : ∀ cs : List Nat, (Txt.join "" (cs.map one)).cps.toList = cs
  | [] => by decide +kernel
  | c :: r => by
    unfold Txt.join
    rw [StrLaws.glued_eq_join]
    induction r generalizing c with
    | nil => rfl
    | cons d r ih =>
      show (one c ++ ("" : Str) ++ Str.join "" ((d :: r).map one)).cps.toList = _
      have e : (one c ++ ("" : Str) ++ Str.join "" ((d :: r).map one)).cps.toList = (one c).cps.toList ++ ("" : Str).cps.toList ++ (Str.join "" ((d :: r).map one)).cps.toList := by
        show ((one c).cps ++ ("" : Str).cps ++ (Str.join "" ((d :: r).map one)).cps).toList = _
        rw [Array.toList_append, Array.toList_append]
      rw [e, ih d]
      rfl
theorem len_codes (y : Str) : y.length = y.cps.toList.length := by
  show y.cps.size = _
  rw [Array.length_toList]
theorem abc_code : ∀ j : Nat, j < 26 → abc.cps.toList[j]? = some (97 + j) := by decide +kernel
theorem resv_len : ∀ y ∈ resv, y.length ≤ 4 := by decide +kernel
theorem resv_last : ∀ y ∈ resv, y.cps.toList.getLast? ≠ some 120 := by decide +kernel
theorem codes_x (y : Str) : (y ++ "x").cps.toList = y.cps.toList ++ [120] := by
  show (y.cps ++ ("x" : Str).cps).toList = _
  rw [Array.toList_append]
  rfl
theorem nm_plain {y : Str} {cs : List Nat} (h : y.cps.toList = cs) (l1 : 1 ≤ cs.length) (l8 : cs.length ≤ 8) (a : ∀ c ∈ cs, 97 ≤ c ∧ c ≤ 122) (n : y ∉ resv) : Nm y :=
  ⟨by rw [len_codes, h]; exact l1, by rw [len_codes, h]; exact l8, by rw [h]; exact a, n⟩
theorem nm_x {y : Str} {cs : List Nat} (h : y.cps.toList = cs) (l8 : cs.length ≤ 7) (a : ∀ c ∈ cs, 97 ≤ c ∧ c ≤ 122) : Nm (y ++ "x") := by
  have e := codes_x y
  rw [h] at e
  refine ⟨by rw [len_codes, e, List.length_append]; simp, by rw [len_codes, e, List.length_append]; simp; omega, fun c hc => ?_, fun hm => ?_⟩
  · rw [e] at hc
    rcases List.mem_append.mp hc with z | z
    · exact a c z
    · rw [List.mem_singleton.mp z]; decide
  · have := resv_last _ hm
    rw [e, List.getLast?_append] at this
    exact this rfl
def NmP (st b l : Addr) (n sz at' : Nat) (f : Int) (H4 : Hp) (i : Nat) : St → Hp → Prop := fun σ' H' => ∃ (ys : List Str) (o1 o2 o3 : Option V), σ' = [some (.ref st), some (.int (n : Nat)), some (.str abc), some (.int (sz : Nat)), some (.int (at' : Nat)), some (.int f), some (.ref b), some (.ref l), o1, o2, o3] ∧ H' l = some (.lst (ys.map V.str)) ∧ ys.length = i ∧ (∀ y ∈ ys, Nm y) ∧ (∀ (j : Nat) y, ys[j]? = some y → y.cps.toList[at']? = some (97 + ((f + 5 * (j : Int)) % 26).toNat)) ∧ But l (upd H4 l (.lst [])) H'
theorem r_names {K : PySem.W.Frag} {vs : List V} {H : Hp} {Q : VK} {E : XK} (h : sp_names K vs H Q E) : t_names K { nx := fun _ H' => Q .non H', rt := Q } (start N_names vs) H := by
  obtain ⟨st, n, k, rfl, S, hk, hn, q⟩ := h
  refine ⟨_, rfl, st, 8, k, rfl, S, by omega, by decide, by decide, fun d H1 d0 d1 S1 B1 => .inl ⟨_, _, rfl, rfl, ?_⟩⟩
  obtain ⟨sz, hsz, z1, z8⟩ : ∃ sz : Nat, (1 : Int) + d = (sz : Int) ∧ 1 ≤ sz ∧ sz ≤ 8 := ⟨(1 + d).toNat, by omega, by omega, by omega⟩
  show t_names_10 K _ [some (.ref st), some (.int (n : Nat)), some (.str abc), some (.int ((1 : Int) + d)), none, none, none, none, none, none, none] H1
  rw [hsz]
  refine ⟨_, rfl, _, rfl, st, _, k + 1, rfl, S1, by omega, by omega, by omega, fun a H2 a0 a1 S2 B2' => ?_⟩
  obtain ⟨at', rfl⟩ : ∃ j : Nat, a = (j : Int) := ⟨a.toNat, by omega⟩
  have B2 := B1.trans B2'
  refine ⟨_, rfl, st, 26, k + 2, rfl, S2, by omega, by decide, by decide, fun f H3 f0 f1 S3 B3' => ?_⟩
  have B3 := B2.trans B3'
  refine ⟨_, rfl, _, rfl, by omega, by omega, fun b hb => ?_⟩
  obtain ⟨ys3, hs3⟩ := S3.lst
  have nb : b ≠ st := fun z => by rw [z, hs3] at hb; cases hb
  refine comp_range (fun i σ' H' => ∃ (bc : List Nat) (kk : Nat) (o : Option V), σ' = [some (.ref st), some (.int (n : Nat)), some (.str abc), some (.int (sz : Nat)), some (.int (at' : Nat)), some (.int f), none, none, none, none, none, o] ∧
    H' b = some (.lst ((bc.map one).map V.str)) ∧ bc.length = i ∧ (∀ c ∈ bc, 97 ≤ c ∧ c ≤ 122) ∧ Stt K H' st kk ∧ kk ≤ k + 3 + i ∧ But st H H') ?_ ?_ ?_
  · exact ⟨[], k + 3, none, rfl, upd_same, rfl, by simp, S3.new hb, by omega, B3.new hb⟩
  · rintro i σ' H' hi ⟨bs, kk, o, rfl, hbl, hlen, hone, S4, hkk, B4⟩
    have hi : i < sz := by simpa using hi
    refine app_yes ?_
    refine ⟨_, rfl, _, rfl, _, rfl, .inl ⟨_, _, rfl, rfl, .inl ⟨by decide, by decide⟩, _, rfl, st, 4, kk, rfl, S4, by omega, by decide, by decide, fun e H5 e0 e1 S5 B5 => .inl ⟨_, _, rfl, rfl, .inr ⟨by omega, by omega⟩, .inl ⟨_, _, rfl, rfl, _, _, rfl, rfl, (by show (0 : Int) < 26; decide), ?_⟩⟩⟩⟩
    have x0 : 0 ≤ (f + 7 * (0 + (i : Int)) * e) % 26 := Int.emod_nonneg _ (by decide)
    have x1 : (f + 7 * (0 + (i : Int)) * e) % 26 < 26 := Int.emod_lt_of_pos _ (by decide)
    refine ixS abc_len x0 (abc_code _ (by omega)) ?_
    have x2 : ((f + 7 * (0 + (i : Int)) * e) % 26).toNat < 26 := by omega
    generalize ((f + 7 * (0 + (i : Int)) * e) % 26).toNat = x at x2
    have h5 := B5 b _ nb hbl
    refine ⟨_, h5, smallL (by rw [List.length_map, List.length_map]; omega), bs ++ [97 + x], kk + 1, _, rfl, ?_, by simp [hlen], ?_, ?_, by omega, ?_⟩
    · rw [upd_same, List.map_append, List.map_append]; rfl
    · intro y hy
      rcases List.mem_append.mp hy with z | z
      · exact hone y z
      · rw [List.mem_singleton.mp z]; omega
    · exact S5.mono .upd_at h5 (Ne.symm nb)
    · exact fun c' u n' h' => by
        have w := (B4.trans B5) c' u n' h'
        have ncb : c' ≠ b := fun z => by
          have : H c' = none := (B3.free (fun z' => n' z') (by rw [z]; exact hb))
          rw [this] at h'; cases h'
        rw [upd_ne ncb]; exact w
  · rintro σ' H4 ⟨bs, kk, o, rfl, hbl, hlen, hone, S4, hkk, B4⟩
    have hlen : bs.length = sz := by simpa using hlen
    have hkk : kk ≤ k + 3 + sz := by simpa using hkk
    refine ⟨(by show 0 ≤ sizeLine; decide), fun l hl => ?_⟩
    have nlb : b ≠ l := ne_of_none hbl hl
    obtain ⟨ys4, hs4⟩ := S4.lst
    have nls : st ≠ l := ne_of_none hs4 hl
    have Hl : H l = none := B4.free (Ne.symm nls) hl
    show t_names_6 K _ [some (.ref st), some (.int (n : Nat)), some (.str abc), some (.int (sz : Nat)), some (.int (at' : Nat)), some (.int f), some (.ref b), some (.ref l), none, none, none] (upd H4 l (.lst []))
    refine ⟨_, rfl, _, rfl, by omega, by omega, for_range (NmP st b l n sz at' f H4) ⟨[], none, none, none, rfl, upd_same, rfl, by simp, by simp, .refl _ _⟩ ?_ ?_⟩
    · rintro i σ' H5 hi ⟨ys, o1, o2, o3, rfl, hyl, ylen, yok, ycd, B5⟩
      have hi : i < n := by simpa using hi
      have hb5 : H5 b = some (.lst ((bs.map one).map V.str)) := B5 b _ nlb (by rw [upd_ne nlb]; exact hbl)
      refine ⟨_, rfl, _, rfl, _, rfl, .inl ⟨b, _, rfl, SqL.of hb5, fun p1 hp1 => ?_⟩⟩
      rw [cut_take, ← List.map_take, ← List.map_take]
      have np1b : b ≠ p1 := ne_of_none hb5 hp1
      have np1l : l ≠ p1 := ne_of_none hyl hp1
      refine ⟨_, rfl, _, rfl, _, rfl, .inl ⟨_, _, rfl, rfl, .inl ⟨by decide, by decide⟩, .inl ⟨_, _, rfl, rfl, _, _, rfl, rfl, (by show (0 : Int) < 26; decide), ?_⟩⟩⟩
      have e00 : (0 : Int) + (i : Int) = (i : Int) := by omega
      rw [e00]
      have x0 : 0 ≤ (f + 5 * (i : Int)) % 26 := Int.emod_nonneg _ (by decide)
      have x1 : (f + 5 * (i : Int)) % 26 < 26 := Int.emod_lt_of_pos _ (by decide)
      obtain ⟨c, hc⟩ : ∃ c, c = 97 + ((f + 5 * (i : Int)) % 26).toNat := ⟨_, rfl⟩
      refine ixS abc_len x0 (by rw [abc_code _ (by omega), ← hc]) ⟨(by show 1 ≤ sizeLine; decide), fun p2 hp2 => ?_⟩
      have np12 : p1 ≠ p2 := ne_of_none upd_same hp2
      have np2b : b ≠ p2 := ne_of_none (by rw [upd_ne np1b]; exact hb5) hp2
      have np2l : l ≠ p2 := ne_of_none (by rw [upd_ne np1l]; exact hyl) hp2
      refine .inr (.inr (.inl ⟨p1, p2, _, _, rfl, rfl, by rw [upd_ne np12, upd_same], upd_same, ?_, fun p3 hp3 => ?_⟩))
      · have := smallL (n := 9) (by decide)
        rw [List.length_map, List.length_map, List.length_take]
        show min at' bs.length + 1 ≤ sizeLine
        omega
      have np13 : p1 ≠ p3 := ne_of_none (by rw [upd_ne np12]; exact upd_same) hp3
      have np3b : b ≠ p3 := ne_of_none (by rw [upd_ne np2b, upd_ne np1b]; exact hb5) hp3
      have np3l : l ≠ p3 := ne_of_none (by rw [upd_ne np2l, upd_ne np1l]; exact hyl) hp3
      refine ⟨_, rfl, _, rfl, .inl ⟨_, _, rfl, rfl, _, rfl, .inl ⟨b, _, rfl, SqL.of (by rw [upd_ne np3b, upd_ne np2b, upd_ne np1b]; exact hb5), fun p4 hp4 => ?_⟩⟩⟩
      rw [show ((at' : Int) + 1) = ((at' + 1 : Nat) : Int) by omega, cut_drop, ← List.map_drop, ← List.map_drop]
      have np34 : p3 ≠ p4 := ne_of_none upd_same hp4
      have np4l : l ≠ p4 := ne_of_none (by rw [upd_ne np3l, upd_ne np2l, upd_ne np1l]; exact hyl) hp4
      refine .inr (.inr (.inl ⟨p3, p4, _, _, rfl, rfl, by rw [upd_ne np34, upd_same], upd_same, ?_, fun p5 hp5 => ?_⟩))
      · have := smallL (n := 100) (by decide)
        rw [List.length_append, List.length_map, List.length_map, List.length_map, List.length_map, List.length_take, List.length_drop]
        show min at' bs.length + 1 + (bs.length - (at' + 1)) ≤ sizeLine
        omega
      have np5l : l ≠ p5 := ne_of_none (by rw [upd_ne np4l, upd_ne np3l, upd_ne np2l, upd_ne np1l]; exact hyl) hp5
      have ew : ((bs.take at').map one).map V.str ++ [V.str ⟨#[c]⟩] ++ ((bs.drop (at' + 1)).map one).map V.str = ((bs.take at' ++ [c] ++ bs.drop (at' + 1)).map one).map V.str := by rw [List.map_append, List.map_append, List.map_append, List.map_append]; rfl
      rw [ew]
      have wl : (bs.take at' ++ [c] ++ bs.drop (at' + 1)).length = sz := by rw [List.length_append, List.length_append, List.length_take, List.length_drop, List.length_singleton]; omega
      have wone : ∀ y ∈ bs.take at' ++ [c] ++ bs.drop (at' + 1), 97 ≤ y ∧ y ≤ 122 := fun y hy => by
        rcases List.mem_append.mp hy with z | z
        · rcases List.mem_append.mp z with z | z
          · exact hone y (List.mem_of_mem_take z)
          · rw [List.mem_singleton.mp z]; omega
        · exact hone y (List.mem_of_mem_drop z)
      have wat : (bs.take at' ++ [c] ++ bs.drop (at' + 1))[at']? = some c := by
        have tl : (bs.take at').length = at' := by rw [List.length_take]; omega
        rw [List.append_assoc, List.getElem?_append_right (by omega), tl, Nat.sub_self]
        rfl
      generalize bs.take at' ++ [c] ++ bs.drop (at' + 1) = w at wl wone wat ⊢
      have B6 := ((((B5.new (o := .lst (((bs.take at').map one).map V.str)) hp1).new (o := .lst [V.str ⟨#[c]⟩]) hp2).new (o := .lst (((bs.take at').map one).map V.str ++ [V.str ⟨#[c]⟩])) hp3).new (o := .lst (((bs.drop (at' + 1)).map one).map V.str)) hp4).new (o := .lst ((w.map one).map V.str)) hp5
      have h6 : (upd (upd (upd (upd (upd H5 p1 (.lst (((bs.take at').map one).map V.str))) p2 (.lst [V.str ⟨#[c]⟩])) p3 (.lst (((bs.take at').map one).map V.str ++ [V.str ⟨#[c]⟩]))) p4 (.lst (((bs.drop (at' + 1)).map one).map V.str))) p5 (.lst ((w.map one).map V.str))) l = some (.lst (ys.map V.str)) := by
        rw [upd_ne np5l, upd_ne np4l, upd_ne np3l, upd_ne np2l, upd_ne np1l]; exact hyl
      have g6 : (upd (upd (upd (upd (upd H5 p1 (.lst (((bs.take at').map one).map V.str))) p2 (.lst [V.str ⟨#[c]⟩])) p3 (.lst (((bs.take at').map one).map V.str ++ [V.str ⟨#[c]⟩]))) p4 (.lst (((bs.drop (at' + 1)).map one).map V.str))) p5 (.lst ((w.map one).map V.str))) p5 = some (.lst ((w.map one).map V.str)) := upd_same
      generalize (upd (upd (upd (upd (upd H5 p1 (.lst (((bs.take at').map one).map V.str))) p2 (.lst [V.str ⟨#[c]⟩])) p3 (.lst (((bs.take at').map one).map V.str ++ [V.str ⟨#[c]⟩]))) p4 (.lst (((bs.drop (at' + 1)).map one).map V.str))) p5 (.lst ((w.map one).map V.str))) = H6 at B6 h6 g6 ⊢
      have wsum : ((w.map one).map (·.length)).sum = w.length := by
        rw [List.map_map, show ((fun x : Str => x.length) ∘ one) = fun _ => 1 from rfl, List.map_const', List.sum_replicate_nat, Nat.mul_one]
      refine ⟨rfl, _, rfl, "", p5, w.map one, rfl, rfl, SqL.of g6, ?_, ?_⟩
      · have e : ("" : Str).length = 0 := by decide +kernel
        rw [wsum, e, Nat.mul_zero]; omega
      have jl := codes_join0 w
      generalize Txt.join "" (w.map one) = nmw at jl ⊢
      show t_names_3 K _ [some (.ref st), some (.int (n : Nat)), some (.str abc), some (.int (sz : Nat)), some (.int (at' : Nat)), some (.int f), some (.ref b), some (.ref l), some (.int (i : Int)), some (.ref p5), some (.str nmw)] H6
      have nl : nmw.length = sz := by rw [len_codes, jl, wl]
      have app : ∀ (nw : Str) (H7 : Hp), Nm nw → nw.cps.toList[at']? = some c → But l (upd H4 l (.lst [])) H7 → H7 l = some (.lst (ys.map V.str)) → t_names_2 K { nx := NmP st b l n sz at' f H4 (i + 1), rt := Q, ct := NmP st b l n sz at' f H4 (i + 1), bk := t_names_1 K { nx := fun _ H' => Q .non H', rt := Q } } [some (.ref st), some (.int (n : Nat)), some (.str abc), some (.int (sz : Nat)), some (.int (at' : Nat)), some (.int f), some (.ref b), some (.ref l), some (.int (i : Int)), some (.ref p5), some (.str nw)] H7 := fun nw H7 w1 w2 B7 h7 => by
        refine ⟨_, rfl, .inl ⟨rfl, _, SqL.of h7⟩, _, rfl, l, _, _, rfl, rfl, h7, smallL (by rw [List.length_map]; omega), ?_⟩
        refine ⟨ys ++ [nw], _, _, _, rfl, ?_, by simp [ylen], ?_, ?_, B7.trans .upd_at⟩
        · rw [upd_same, List.map_append]; rfl
        · intro y hy
          rcases List.mem_append.mp hy with z | z
          · exact yok y z
          · rw [List.mem_singleton.mp z]; exact w1
        · intro j y hy
          by_cases cj : j < ys.length
          · rw [List.getElem?_append_left cj] at hy; exact ycd j y hy
          · have cj2 : j = i := by
              have := (List.getElem?_eq_some_iff.mp hy).1
              rw [List.length_append, List.length_singleton] at this
              omega
            subst cj2
            rw [List.getElem?_append_right (by omega), ylen, Nat.sub_self] at hy
            cases hy
            rw [← hc]; exact w2
      refine ⟨_, rfl, (by show 6 ≤ sizeLine; decide), fun t ht => ⟨t, _, rfl, .inr (SqT.of upd_same), rfl, rfl, _, rfl, ?_⟩⟩
      have ntl : l ≠ t := ne_of_none h6 ht
      have B7 := B6.new (o := .tup [V.str "part", V.str "call", V.str "say", V.str "jump", V.str "test", V.str "give"]) ht
      have h7 : (upd H6 t (.tup [V.str "part", V.str "call", V.str "say", V.str "jump", V.str "test", V.str "give"])) l = some (.lst (ys.map V.str)) := by rw [upd_ne ntl]; exact h6
      have xl : ("x" : Str).length = 1 := by decide +kernel
      have xat : (nmw ++ "x").cps.toList[at']? = some c := by
        rw [codes_x, jl, List.getElem?_append_left (by rw [wl]; omega)]; exact wat
      show if inV (.str nmw) (resv.map V.str) = true then _ else _
      rw [inV_strs]
      refine if_dec (fun hin => ?_) (fun hin => ?_)
      · refine ⟨_, rfl, .inr (.inl ⟨_, _, rfl, rfl, by rw [xl]; have := smallL (n := 100) (by decide); omega, ?_⟩)⟩
        have z4 := resv_len _ hin
        exact app _ _ (nm_x jl (by rw [wl]; omega) wone) xat B7 h7
      · refine ⟨_, rfl, _, _, rfl, rfl, _, rfl, if_dec (fun h8 => ?_) (fun _ => ?_)⟩
        · refine ⟨_, rfl, _, rfl, .inl ⟨_, _, rfl, rfl, _, _, rfl, rfl, (by show (0 : Int) < 3; decide), .inl ⟨rfl, _, rfl, if_dec (fun _ => ?_) (fun _ => ?_)⟩⟩⟩
          · refine ⟨_, rfl, .inr (.inl ⟨_, _, rfl, rfl, by rw [xl]; have := smallL (n := 100) (by decide); omega, ?_⟩)⟩
            exact app _ _ (nm_x jl (by rw [wl]; omega) wone) xat B7 h7
          · exact app _ _ (nm_plain jl (by omega) (by omega) wone hin) (by rw [jl]; exact wat) B7 h7
        · exact iteF (app _ _ (nm_plain jl (by omega) (by omega) wone hin) (by rw [jl]; exact wat) B7 h7)
    · rintro σ' H5 ⟨ys, o1, o2, o3, rfl, hyl, ylen, yok, ycd, B5⟩
      have ylen : ys.length = n := by simpa using ylen
      have nd : ys.Nodup := by
        rw [List.Nodup, List.pairwise_iff_getElem]
        intro i j hi hj lt e
        have e1 := ycd i _ (List.getElem?_eq_getElem hi)
        have e2 := ycd j _ (List.getElem?_eq_getElem hj)
        rw [e, e2] at e1
        have e3 := Option.some.inj e1
        have a1 : 0 ≤ (f + 5 * (i : Int)) % 26 := Int.emod_nonneg _ (by decide)
        have a2 : 0 ≤ (f + 5 * (j : Int)) % 26 := Int.emod_nonneg _ (by decide)
        omega
      refine ⟨_, rfl, q l ys kk H5 Hl ylen nd yok hyl ((S4.new hl).mono B5 upd_same nls) (by omega) (B4.through hl B5)⟩
end Bg
end
section
set_option Elab.async false
set_option linter.all false
set_option maxRecDepth 100000
set_option maxHeartbeats 4000000
namespace Bg
open PySem L2
theorem r_p_pushed {K : PySem.W.Frag} {vs : List V} {H : Hp} {Q : VK} {E : XK} (h : sp_p_pushed K vs H Q E) : t_p_pushed K { nx := fun _ H' => Q .non H', rt := Q } (start N_p_pushed vs) H := by
  obtain ⟨b, x, xs, rfl, hb, hne, hl, q⟩ := h
  refine ⟨_, rfl, (by show 1 ≤ sizeLine; decide), fun t ht => ⟨_, rfl, ?_⟩⟩
  have hb1 : (upd H t (.tup [x])) b = some (.tup xs) := by rw [upd_ne (ne_of_none hb ht)]; exact hb
  refine .inr (.inr (.inr ⟨t, b, [x], xs, rfl, rfl, SqT.of upd_same, SqT.of hb1, by simp, ?_, fun z => absurd z hne, fun _ p hp => ?_⟩))
  · exact Nat.le_of_lt (smallL (by rw [List.length_singleton]; omega))
  have hb2 : (upd (upd H t (.tup [x])) p (.tup ([x] ++ xs))) b = some (.tup xs) := by rw [upd_ne (ne_of_none hb1 hp)]; exact hb1
  refine ⟨_, rfl, _, _, rfl, .inr ⟨xs, SqT.of hb2, rfl⟩, _, rfl, .inr ⟨p, _, rfl, SqT.of upd_same, ?_, fun p2 hp2 => ?_⟩⟩
  · rintro ⟨_, z⟩
    rw [HT.sIx_nat] at z
    simp at z
  · refine q p2 _ ?_ (((Same.refl H).new ht).new hp |>.new hp2)
    rw [upd_same, cut_take]
    rfl
end Bg
end
section
set_option Elab.async false
set_option linter.all false
set_option maxRecDepth 100000
set_option maxHeartbeats 4000000
namespace Bg
open PySem L2
theorem scal_o (a b : Option Str) : scal (oV a) (oV b) = true := by cases a <;> cases b <;> rfl
theorem take_snoc {α : Type} {xs : List α} {i : Nat} {x : α} (h : xs[i]? = some x) : xs.take (i + 1) = xs.take i ++ [x] := by rw [List.take_add_one, h]; rfl
theorem zip_at {α β : Type} {xs : List α} {ys : List β} {i : Nat} {x : α} {y : β} (h : xs[i]? = some x) (h' : ys[i]? = some y) : (xs.zip ys)[i]? = some (x, y) := by
  rw [List.getElem?_zip_eq_some]; exact ⟨h, h'⟩
theorem r_p_weaker {K : PySem.W.Frag} {vs : List V} {H : Hp} {Q : VK} {E : XK} (h : sp_p_weaker K vs H Q E) : t_p_weaker K { nx := fun _ H' => Q .non H', rt := Q } (start N_p_weaker vs) H := by
  obtain ⟨a, b, as, bs, rfl, ha, hb, hl, h1000, q⟩ := h
  refine ⟨_, rfl, _, rfl, true, true, a, b, rfl, ⟨_, SqT.of ha⟩, ⟨_, SqT.of hb⟩, fun D hD => ?_⟩
  refine comp_zipS (xs := oVs as) (ys := oVs bs) (by rw [oVs_len, oVs_len]; omega) (fun i σ' H' => ∃ o1 o2, σ' = [some (.ref a), some (.ref b), o1, o2] ∧ H' D = some (.lst ((((as.zip bs).take i).map wk1).map V.bl)) ∧ Same H H') ?_ ?_ ?_ ?_
  · exact ⟨none, none, rfl, by rw [List.take_zero]; exact upd_same, (Same.refl H).new hD⟩
  · rintro i σ' H' _ ⟨o1, o2, _, _, s'⟩
    exact ⟨SqT.of (s' _ _ ha), SqT.of (s' _ _ hb)⟩
  · rintro i x y σ' H' p hx hy hp ⟨o1, o2, rfl, hD', s'⟩
    obtain ⟨ox, ex, rfl⟩ := oVs_of hx
    obtain ⟨oy, ey, rfl⟩ := oVs_of hy
    refine ⟨p, _, rfl, SqT.of upd_same, rfl, _, _, rfl, _, _, rfl, rfl, app_yes ?_⟩
    have nD : D ≠ p := ne_of_none hD' hp
    have hD2 : upd H' p (.tup [oV ox, oV oy]) D = some (.lst ((((as.zip bs).take i).map wk1).map V.bl)) := by rw [upd_ne nD]; exact hD'
    have li : ((((as.zip bs).take i).map wk1).map V.bl).length ≤ 1000 := by rw [List.length_map, List.length_map, List.length_take, List.length_zip]; omega
    have HD : H D = none := by
      cases e : H D with
      | none => rfl
      | some o => have := ((Same.refl H).new hD (o := .lst [])) D o e; rw [upd_same] at this; rw [hD] at e; cases e
    have app : ∀ c : Bool, c = wk1 (ox, oy) → ∃ ys, upd H' p (.tup [oV ox, oV oy]) D = some (.lst ys) ∧ ys.length < sizeLine ∧ ∃ o1 o2, [some (V.ref a), some (V.ref b), some (oV ox), some (oV oy)] = [some (.ref a), some (.ref b), o1, o2] ∧
        upd (upd H' p (.tup [oV ox, oV oy])) D (.lst (ys ++ [.bl c])) D = some (.lst ((((as.zip bs).take (i + 1)).map wk1).map V.bl)) ∧ Same H (upd (upd H' p (.tup [oV ox, oV oy])) D (.lst (ys ++ [.bl c]))) := by
      rintro c rfl
      refine ⟨_, hD2, smallL (by omega), _, _, rfl, ?_, ?_⟩
      · rw [upd_same, take_snoc (zip_at ex ey), List.map_append, List.map_append]; rfl
      · intro c o hc
        have n1 : c ≠ D := ne_of_none hc HD
        rw [upd_ne n1]
        exact (s'.new hp) c o hc
    refine ⟨_, rfl, rfl, _, rfl, if_dec (fun e => ?_) (fun e => ?_)⟩
    · refine app true ?_
      unfold wk1
      rw [decide_eq_true (show (ox, oy).1 = none from oV_non.mp e), Bool.true_or]
    · refine ⟨_, rfl, _, rfl, .inl ⟨scal_o ox oy, app _ ?_⟩⟩
      unfold wk1
      rw [decide_eq_false (show ¬ (ox, oy).1 = none from fun z => e (oV_non.mpr z)), Bool.false_or]
      by_cases c : ox = oy
      · rw [decide_eq_true (show oV ox = oV oy by rw [c]), decide_eq_true (show (ox, oy).1 = (ox, oy).2 from c)]
      · rw [decide_eq_false (show ¬ oV ox = oV oy from fun z => c (oV_inj z)), decide_eq_false (show ¬ (ox, oy).1 = (ox, oy).2 from c)]
  · rintro σ' H' ⟨o1, o2, _, hD', s'⟩
    have e : (as.zip bs).take (oVs as).length = as.zip bs := List.take_of_length_le (by rw [List.length_zip, oVs_len]; omega)
    rw [e] at hD'
    exact ⟨D, _, rfl, SqL.of hD', q _ s'⟩
theorem r_p_set_anew {K : PySem.W.Frag} {vs : List V} {H : Hp} {Q : VK} {E : XK} (h : sp_p_set_anew K vs H Q E) : t_p_set_anew K { nx := fun _ H' => Q .non H', rt := Q } (start N_p_set_anew vs) H := by
  obtain ⟨a, os, x, rfl, ha, hne, hl, q⟩ := h
  refine .inr ⟨_, rfl, a, rfl, ⟨_, SqT.of ha⟩, fun D hD => ?_⟩
  refine comp_tup (xs := oVs os) (fun i σ' H' => ∃ o1, σ' = [some (.ref a), some (.str x), o1] ∧ H' D = some (.lst (oVs ((os.take i).map (blank x)))) ∧ Same H H') ?_ ?_ ?_ ?_
  · exact ⟨none, rfl, by rw [List.take_zero]; exact upd_same, (Same.refl H).new hD⟩
  · rintro i σ' H' _ ⟨o1, _, _, s'⟩
    exact SqT.of (s' _ _ ha)
  · rintro i y σ' H' hy ⟨o1, rfl, hD', s'⟩
    obtain ⟨oy, ey, rfl⟩ := oVs_of hy
    have li : (oVs ((os.take i).map (blank x))).length ≤ 1000 := by rw [oVs_len, List.length_map, List.length_take]; omega
    have app : ∀ c : V, c = oV (blank x oy) → ∃ ys, H' D = some (.lst ys) ∧ ys.length < sizeLine ∧ ∃ o1, [some (V.ref a), some (V.str x), some (oV oy)] = [some (.ref a), some (.str x), o1] ∧
        upd H' D (.lst (ys ++ [c])) D = some (.lst (oVs ((os.take (i + 1)).map (blank x)))) ∧ Same H (upd H' D (.lst (ys ++ [c]))) := by
      rintro c rfl
      refine ⟨_, hD', smallL (by omega), _, rfl, ?_, fun b o hb => ?_⟩
      · rw [upd_same, take_snoc ey, List.map_append]; unfold oVs; rw [List.map_append]; rfl
      · rw [upd_ne (ne_of_none hb hD)]; exact s' b o hb
    refine app_yes ⟨_, rfl, _, rfl, .inl ⟨scal_o oy (some x), _, rfl, if_dec (fun e => ?_) (fun e => ?_)⟩⟩
    · refine app _ ?_
      unfold blank
      rw [if_pos (show oy = some x from oV_inj (b := some x) e)]
      rfl
    · refine ⟨_, rfl, app _ ?_⟩
      unfold blank
      rw [if_neg (show ¬ oy = some x from fun z => e (by rw [z]; rfl))]
  · rintro σ' H' ⟨o1, _, hD', s'⟩
    rw [oVs_len, List.take_length] at hD'
    refine ⟨D, _, rfl, .inl ⟨SqL.of hD', fun P nP => ⟨_, rfl, P, .str x, _, rfl, upd_same, ?_, ?_, fun p H2 h2 s2 => q p H2 ?_ ((s'.new nP).trans s2)⟩⟩⟩
    · intro z
      have := congrArg List.length z
      rw [oVs_len, List.length_map] at this
      exact hne (List.length_eq_zero_iff.mp this)
    · rw [oVs_len, List.length_map]; exact hl
    · rw [h2]
      have e := push_o (os.map (blank x)) (some x)
      show some (HO.tup (pushV (oVs (os.map (blank x))) (oV (some x)))) = _
      rw [e]; rfl
theorem set_in (r : CRow) : inV (.str (cword r)) [.str "num", .str "op", .str "call"] = isSet r := by
  cases r with
  | num z => exact (by decide +kernel : inV (.str "num") [.str "num", .str "op", .str "call"] = true)
  | op s i j => exact (by decide +kernel : inV (.str "op") [.str "num", .str "op", .str "call"] = true)
  | keep i => exact (by decide +kernel : inV (.str "keep") [.str "num", .str "op", .str "call"] = false)
  | say i => exact (by decide +kernel : inV (.str "say") [.str "num", .str "op", .str "call"] = false)
  | jump t => exact (by decide +kernel : inV (.str "jump") [.str "num", .str "op", .str "call"] = false)
  | test i t => exact (by decide +kernel : inV (.str "test") [.str "num", .str "op", .str "call"] = false)
  | call k as => exact (by decide +kernel : inV (.str "call") [.str "num", .str "op", .str "call"] = true)
  | give i => exact (by decide +kernel : inV (.str "give") [.str "num", .str "op", .str "call"] = false)
theorem r_p_behind {K : PySem.W.Frag} {vs : List V} {H : Hp} {Q : VK} {E : XK} (h : sp_p_behind K vs H Q E) : t_p_behind K { nx := fun _ H' => Q .non H', rt := Q } (start N_p_behind vs) H := by
  obtain ⟨v, a, r, os, x, rfl, hra, ha, hne, hl, ok, q⟩ := h
  have nev : oVs os ≠ [] := fun z => hne (by have := congrArg List.length z; rw [oVs_len] at this; exact List.length_eq_zero_iff.mp this)
  have le : (oVs os).length ≤ 1000 := by rw [oVs_len]; exact hl
  have stay : ∀ (p : Addr) (xs : List V), isSet r = false → (∀ i, r ≠ .keep i) → H p = some (.tup (.str (cword r) :: xs)) → t_p_behind_2 K { nx := fun _ H' => Q .non H', rt := Q } [some (.ref p), some (.ref a), some (oV x)] H := fun p xs h1 h2 hp => by
    have hx : x = none := by
      have := ok.set; rw [h1] at this
      cases x with
      | none => rfl
      | some y => cases this
    have eb : bhd r os x = os := by
      subst hx
      cases r <;> first | rfl | exact absurd rfl (h2 _)
    refine ⟨_, rfl, ixT hp (by decide) rfl ⟨(by show 3 ≤ sizeLine; decide), fun t ht => ⟨t, _, rfl, .inr (SqT.of upd_same), rfl, rfl, _, rfl, ?_⟩⟩⟩
    exact if_f ((set_in r).trans h1) ⟨_, rfl, q a _ (by rw [upd_ne (ne_of_none ha ht), eb]; exact ha) ((Same.refl H).new ht)⟩
  have sets : ∀ (p : Addr) (xs : List V), isSet r = true → H p = some (.tup (.str (cword r) :: xs)) → t_p_behind_2 K { nx := fun _ H' => Q .non H', rt := Q } [some (.ref p), some (.ref a), some (oV x)] H := fun p xs h1 hp => by
    obtain ⟨y, rfl⟩ : ∃ y, x = some y := by
      have := ok.set; rw [h1] at this
      cases x with
      | none => cases this
      | some y => exact ⟨y, rfl⟩
    have eb : bhd r os (some y) = anew os y := by
      cases r <;> first | rfl | (cases h1; done)
    refine ⟨_, rfl, ixT hp (by decide) rfl ⟨(by show 3 ≤ sizeLine; decide), fun t ht => ⟨t, _, rfl, .inr (SqT.of upd_same), rfl, rfl, _, rfl, ?_⟩⟩⟩
    exact if_t ((set_in r).trans h1) ⟨_, rfl, _, rfl, a, os, y, rfl, by rw [upd_ne (ne_of_none ha ht)]; exact ha, hne, hl, fun p H2 h2 s2 => q p H2 (by rw [h2, eb]) (((Same.refl H).new ht).trans s2)⟩
  cases r with
  | keep i =>
    obtain ⟨p, rfl, h⟩ := hra
    obtain ⟨i0, i1⟩ := ok.keep i rfl
    refine ⟨_, rfl, ixT h (by decide) rfl (.inl ⟨rfl, _, rfl, yes ?_⟩)⟩
    refine ⟨_, rfl, _, rfl, _, rfl, ixT h (by decide) rfl (ixT ha i0 (oVs_get (List.getElem?_eq_getElem i1)) ⟨a, _, _, rfl, ha, nev, le, fun p H2 h2 s2 => q p H2 ?_ s2⟩)⟩
    rw [h2, push_o]
    show _ = some (HO.tup (oVs (pushO os ((os[i.toNat]?).getD none))))
    rw [List.getElem?_eq_getElem i1, Option.getD_some]
  | num z =>
    obtain ⟨p, rfl, h⟩ := hra
    exact ⟨_, rfl, ixT h (by decide) rfl (.inl ⟨rfl, _, rfl, no (by decide +kernel) (sets p _ rfl h)⟩)⟩
  | op s i j =>
    obtain ⟨p, rfl, h⟩ := hra
    exact ⟨_, rfl, ixT h (by decide) rfl (.inl ⟨rfl, _, rfl, no (by decide +kernel) (sets p _ rfl h)⟩)⟩
  | call k as =>
    obtain ⟨p, q1, rfl, h, h1⟩ := hra
    exact ⟨_, rfl, ixT h (by decide) rfl (.inl ⟨rfl, _, rfl, no (by decide +kernel) (sets p _ rfl h)⟩)⟩
  | say i =>
    obtain ⟨p, rfl, h⟩ := hra
    exact ⟨_, rfl, ixT h (by decide) rfl (.inl ⟨rfl, _, rfl, no (by decide +kernel) (stay p _ rfl (fun _ z => by cases z) h)⟩)⟩
  | jump to =>
    obtain ⟨p, rfl, h⟩ := hra
    exact ⟨_, rfl, ixT h (by decide) rfl (.inl ⟨rfl, _, rfl, no (by decide +kernel) (stay p _ rfl (fun _ z => by cases z) h)⟩)⟩
  | test i to =>
    obtain ⟨p, rfl, h⟩ := hra
    exact ⟨_, rfl, ixT h (by decide) rfl (.inl ⟨rfl, _, rfl, no (by decide +kernel) (stay p _ rfl (fun _ z => by cases z) h)⟩)⟩
  | give i =>
    obtain ⟨p, rfl, h⟩ := hra
    exact ⟨_, rfl, ixT h (by decide) rfl (.inl ⟨rfl, _, rfl, no (by decide +kernel) (stay p _ rfl (fun _ z => by cases z) h)⟩)⟩
end Bg
end
section
set_option Elab.async false
set_option linter.all false
set_option maxRecDepth 100000
set_option maxHeartbeats 4000000
namespace Bg
open PySem L2
def namesO (ys : List Str) (m : Nat) : List (Option Str) := ys.map some ++ List.replicate m none
theorem namesO_v (ys : List Str) (m : Nat) : ys.map V.str ++ List.replicate m V.non = oVs (namesO ys m) := by
  unfold namesO oVs
  rw [List.map_append, List.map_map, List.map_replicate]
  rfl
theorem namesO_len (ys : List Str) (m : Nat) : (namesO ys m).length = ys.length + m := by
  unfold namesO; rw [List.length_append, List.length_map, List.length_replicate]
theorem oVs_snoc (os : List (Option Str)) (o : Option Str) : oVs os ++ [oV o] = oVs (os ++ [o]) := by unfold oVs; rw [List.map_append]; rfl
theorem r_belt {K : PySem.W.Frag} {vs : List V} {H : Hp} {Q : VK} {E : XK} (h : sp_belt K vs H Q E) : t_belt K { nx := fun _ H' => Q .non H', rt := Q } (start N_belt vs) H := by
  obtain ⟨st, nm, n, k, ys, rfl, S, hk, hnm, nms, y20, n16, q⟩ := h
  refine ⟨_, rfl, (by show 2 ≤ sizeLine; decide), fun L nL => ?_⟩
  have hnm1 : upd H L (.lst [.non, .non]) nm = some (.lst (ys.map V.str)) := by rw [upd_ne (ne_of_none hnm nL)]; exact hnm
  refine .inr (.inr (.inl ⟨nm, L, _, _, rfl, rfl, hnm1, upd_same, ?_, fun M nM => ?_⟩))
  · exact Nat.le_of_lt (smallL (by rw [List.length_map]; show ys.length + 2 ≤ 100000; omega))
  have e0 : ys.map V.str ++ [V.non, V.non] = oVs (namesO ys 2) := namesO_v ys 2
  rw [e0]
  have s1 : Same H (upd (upd H L (.lst [.non, .non])) M (.lst (oVs (namesO ys 2)))) := ((Same.refl H).new nL).new nM
  have hM : upd (upd H L (.lst [.non, .non])) M (.lst (oVs (namesO ys 2))) M = some (.lst (oVs (namesO ys 2))) := upd_same
  have S1 := S.same s1
  have HM : H M = none := ((Same.refl H).new nL (o := .lst [.non, .non])).free nM
  show t_belt_1 K _ [some (.ref st), some (.ref nm), some (.int (n : Nat)), some (.ref M)] _
  generalize upd (upd H L (.lst [.non, .non])) M (.lst (oVs (namesO ys 2))) = H1 at s1 hM S1 ⊢
  have nMs : M ≠ st := fun z => by rw [z] at HM; rw [S.lst.choose_spec] at HM; cases HM
  have ml := namesO_len ys 2
  refine ⟨_, rfl, _, rfl, by omega, by omega, fun D hD => ?_⟩
  obtain ⟨ys1, hs1⟩ := S1.lst
  have nD : D ≠ st := fun z => by rw [z, hs1] at hD; cases hD
  have HD : H D = none := s1.free hD
  refine comp_range (fun i σ' H' => ∃ (os : List (Option Str)) (o : Option V), σ' = [some (.ref st), some (.ref nm), some (.int (n : Nat)), some (.ref M), o] ∧ H' D = some (.lst (oVs os)) ∧ os.length = i ∧ H' M = some (.lst (oVs (namesO ys 2))) ∧ Stt K H' st (k + i) ∧ But st H H') ?_ ?_ ?_
  · exact ⟨[], none, rfl, upd_same, rfl, by rw [upd_ne (ne_of_none hM hD)]; exact hM, S1.new hD, (s1.but).new hD⟩
  · rintro i σ' H' hi ⟨os, o, rfl, hl, ol, hM', S', B'⟩
    have hi : i < n := by simpa using hi
    refine app_yes ⟨_, rfl, _, rfl, _, rfl, ⟨_, _, rfl, .inl ⟨_, SqL.of hM', rfl⟩, ⟨st, _, k + i, rfl, S', by omega, ?_, ?_, fun d H2 d0 d1 S2 B2 => ?_⟩⟩⟩
    · rw [oVs_len]; omega
    · rw [oVs_len]; omega
    rw [oVs_len] at d1
    have hd : d.toNat < (namesO ys 2).length := by omega
    refine ixL (SqL.of (B2 M _ nMs hM')) d0 (oVs_get (List.getElem?_eq_getElem hd)) ?_
    have h2 := B2 D _ nD hl
    have nMD : M ≠ D := fun z => by subst z; rw [hM] at hD; cases hD
    refine ⟨_, h2, smallL (by rw [oVs_len]; omega), os ++ [(namesO ys 2)[d.toNat]], _, rfl, by rw [upd_same, oVs_snoc], by simp [ol], ?_, S2.mono .upd_at h2 (Ne.symm nD), But.past (B'.trans B2) HD .upd_at⟩
    rw [upd_ne nMD]; exact B2 M _ nMs hM'
  · rintro σ' H' ⟨os, o, _, hl, ol, hM', S', B'⟩
    have ol : os.length = n := by simpa using ol
    have S' : Stt K H' st (k + n) := by simpa using S'
    exact ⟨D, _, rfl, .inl ⟨SqL.of hl, fun P nP => q P os _ _ upd_same ol (S'.new nP) (by omega) (B'.new nP)⟩⟩
theorem r_near {K : PySem.W.Frag} {vs : List V} {H : Hp} {Q : VK} {E : XK} (h : sp_near K vs H Q E) : t_near K { nx := fun _ H' => Q .non H', rt := Q } (start N_near vs) H := by
  obtain ⟨st, nm, b, k, ys, os, rfl, S, hk, hnm, nms, yne, y20, hb, one, o16, q⟩ := h
  refine ⟨_, rfl, b, _, rfl, .inr (SqT.of hb), fun F nF => ?_⟩
  have s1 : Same H (upd H F (.lst (oVs os))) := (Same.refl H).new nF
  have S1 := S.same s1
  have nFs : F ≠ st := fun z => by rw [z] at nF; rw [S.lst.choose_spec] at nF; cases nF
  show t_near_4 K _ [some (.ref st), some (.ref nm), some (.ref b), some (.ref F), none, none] _
  refine ⟨_, rfl, st, 4, k, rfl, S1, by omega, by decide, by decide, fun m H2 m0 m1 S2 B2 => ?_⟩
  have B2' : But st H H2 := (s1.but).trans B2
  have yl : 0 < ys.length := List.length_pos_iff.mpr yne
  have ol0 : 0 < os.length := List.length_pos_iff.mpr one
  refine ⟨m, rfl, by omega, by omega, for_range (fun i σ' H' => ∃ (os' : List (Option Str)) (o1 o2 : Option V) (k' : Nat), σ' = [some (.ref st), some (.ref nm), some (.ref b), some (.ref F), o1, o2] ∧ H' F = some (.lst (oVs os')) ∧ os'.length = os.length ∧ Stt K H' st k' ∧ k' ≤ k + 1 + 3 * i ∧ But st H H') ⟨os, none, none, k + 1, rfl, B2 F _ nFs upd_same, rfl, S2, by omega, B2'⟩ ?_ ?_⟩
  · rintro i σ' H3 hi ⟨os', o1, o2, k3, rfl, hF, ol, S3, hk3, B3⟩
    have hi : i < 4 := by have : i < m.toNat := hi; omega
    have hnm3 := B3 nm _ nms hnm
    refine ⟨_, rfl, _, rfl, _, rfl, ⟨_, _, rfl, .inl ⟨_, SqL.of hnm3, rfl⟩, ⟨st, _, k3, rfl, S3, by omega, ?_, ?_, fun d H4 d0 d1 S4 B4 => ?_⟩⟩⟩
    · rw [List.length_map]; omega
    · rw [List.length_map]; omega
    rw [List.length_map] at d1
    have hd : d.toNat < ys.length := by omega
    refine ixL (SqL.of (B4 nm _ nms hnm3)) d0 (strs_get (List.getElem?_eq_getElem hd)) ⟨(by show 3 ≤ sizeLine; decide), fun L nL => ?_⟩
    have B4' := B3.trans B4
    have hF4 := B4 F _ nFs hF
    have nLs : L ≠ st := fun z => by rw [z, S4.lst.choose_spec] at nL; cases nL
    have nLF : F ≠ L := ne_of_none hF4 nL
    show t_near_2 K _ [some (.ref st), some (.ref nm), some (.ref b), some (.ref F), some (.int (0 + i)), some (.ref L)] _
    refine ⟨_, rfl, _, rfl, st, 3, k3 + 1, rfl, S4.new nL, by omega, by decide, by decide, fun c H5 c0 c1 S5 B5 => ?_⟩
    have hL5 := B5 L _ nLs upd_same
    have hF5 := B5 F _ nFs (by rw [upd_ne nLF]; exact hF4)
    have B5' : But st H H5 := (B4'.new nL).trans B5
    have HF : H F = none := nF
    have fin : ∀ o : Option Str, gSub (tVar 3) (tCall (sp_draw K) [] E0 (tCons (tVar 0) (tCons (tCB (rLen K) (tCons (tVar 3) tNil)) tNil))) rSetL (oV o) [some (.ref st), some (.ref nm), some (.ref b), some (.ref F), some (.int (0 + i)), some (.ref L)] H5 fun σ2 H2 => ∃ (os' : List (Option Str)) (o1 o2 : Option V) (k' : Nat), σ2 = [some (.ref st), some (.ref nm), some (.ref b), some (.ref F), o1, o2] ∧ H2 F = some (.lst (oVs os')) ∧ os'.length = os.length ∧ Stt K H2 st k' ∧ k' ≤ k + 1 + 3 * (i + 1) ∧ But st H H2 := fun o => by
      refine ⟨_, rfl, _, rfl, _, rfl, ⟨_, _, rfl, .inl ⟨_, SqL.of hF5, rfl⟩, ⟨st, _, k3 + 2, rfl, S5, by omega, ?_, ?_, fun e H6 e0 e1 S6 B6 => ?_⟩⟩⟩
      · rw [oVs_len]; omega
      · rw [oVs_len]; omega
      rw [oVs_len] at e1
      have hF6 := B6 F _ nFs hF5
      refine setL hF6 e0 (by rw [oVs_len]; omega) ⟨os'.set e.toNat o, _, _, k3 + 3, rfl, ?_, by rw [List.length_set]; exact ol, S6.mono .upd_at hF6 (Ne.symm nFs), by omega, But.past (B5'.trans B6) HF .upd_at⟩
      rw [upd_same]
      unfold oVs
      rw [List.map_set]
    rcases (by omega : c = 0 ∨ c = 1 ∨ c = 2) with rfl | rfl | rfl
    · exact ixL (SqL.of hL5) (by decide) rfl (fin none)
    · exact ixL (SqL.of hL5) (by decide) rfl (fin none)
    · exact ixL (SqL.of hL5) (by decide) rfl (fin (some _))
  · rintro σ' H3 ⟨os', o1, o2, k3, rfl, hF, ol, S3, hk3, B3⟩
    have hk3 : k3 ≤ k + 20 := by omega
    exact ⟨_, rfl, F, _, rfl, .inl ⟨SqL.of hF, fun P nP => q P os' _ _ upd_same ol (S3.new nP) hk3 (B3.new nP)⟩⟩
theorem wkB_take {as bs : List (Option Str)} {i : Nat} {x y : Option Str} (hx : as[i]? = some x) (hy : bs[i]? = some y) : (((as.zip bs).take (i + 1)).map wk1).all id = ((((as.zip bs).take i).map wk1).all id && wk1 (x, y)) := by
  rw [take_snoc (zip_at hx hy), List.map_append, List.all_append]
  simp
theorem r_weaker {K : PySem.W.Frag} {vs : List V} {H : Hp} {Q : VK} {E : XK} (h : sp_weaker K vs H Q E) : t_weaker K { nx := fun _ H' => Q .non H', rt := Q } (start N_weaker vs) H := by
  obtain ⟨a, b, as, bs, rfl, ha, hb, hl, h1000, q⟩ := h
  refine ⟨_, rfl, ⟨_, _, rfl, .inr ⟨_, SqT.of ha, rfl⟩, ⟨_, rfl, ?_, ?_, for_range (fun i σ' H' => ∃ o, σ' = [some (.ref a), some (.ref b), o] ∧ H' = H ∧ (((as.zip bs).take i).map wk1).all id = true) ⟨none, rfl, rfl, by rw [List.take_zero]; rfl⟩ ?_ ?_⟩⟩⟩
  · rw [oVs_len]; omega
  · rw [oVs_len]; omega
  · rintro i σ' H' hi ⟨o, rfl, rfl, hw⟩
    have hi : i < as.length := by rw [oVs_len] at hi; simpa using hi
    have hi2 : i < bs.length := by omega
    have e1 := List.getElem?_eq_getElem hi
    have e2 := List.getElem?_eq_getElem hi2
    have e0 : ((0 : Int) + (i : Int)).toNat = i := by omega
    have i0 : (0 : Int) ≤ 0 + (i : Int) := by omega
    have ga : (oVs as)[((0 : Int) + (i : Int)).toNat]? = some (oV as[i]) := by rw [e0]; exact oVs_get e1
    have gb : (oVs bs)[((0 : Int) + (i : Int)).toNat]? = some (oV bs[i]) := by rw [e0]; exact oVs_get e2
    have wt := wkB_take e1 e2
    rw [hw, Bool.true_and] at wt
    have whole : ∀ c : Bool, wk1 (as[i], bs[i]) = false → wkB as bs = false := fun _ hf => by
      unfold wkB
      rw [List.all_eq_false]
      exact ⟨false, by rw [List.mem_map]; exact ⟨(as[i], bs[i]), List.mem_of_getElem? (zip_at e1 e2), hf⟩, by decide⟩
    refine ⟨_, rfl, _, rfl, ixT ha i0 ga ⟨rfl, _, rfl, if_not (fun c1 => ?_) (fun c1 => ?_)⟩⟩
    · refine ⟨_, rfl, _, rfl, ixT ha i0 ga ⟨_, rfl, _, rfl, ixT hb i0 gb (.inl ⟨scal_o _ _, _, rfl, if_not (fun c2 => ?_) (fun c2 => ?_)⟩)⟩⟩
      · have : wk1 (as[i], bs[i]) = false := by
          unfold wk1
          rw [decide_eq_false (show ¬ (as[i], bs[i]).1 = none from fun z => c1 (oV_non.mpr z)), decide_eq_false (show ¬ (as[i], bs[i]).1 = (as[i], bs[i]).2 from fun z => c2 (congrArg oV z))]
          rfl
        rw [whole true this] at q
        exact q
      · refine ⟨_, rfl, rfl, ?_⟩
        rw [wt]
        unfold wk1
        rw [decide_eq_true (show (as[i], bs[i]).1 = (as[i], bs[i]).2 from oV_inj c2), Bool.or_true]
    · refine iteF ⟨_, rfl, rfl, ?_⟩
      rw [wt]
      unfold wk1
      rw [decide_eq_true (show (as[i], bs[i]).1 = none from oV_non.mp c1), Bool.true_or]
  · rintro σ' H' ⟨o, rfl, rfl, hw⟩
    have e : (as.zip bs).take ((oVs as).length : Int).toNat = as.zip bs := List.take_of_length_le (by rw [List.length_zip, oVs_len]; omega)
    have hw' : (((as.zip bs).take ((oVs as).length : Int).toNat).map wk1).all id = true := hw
    rw [e] at hw'
    have : wkB as bs = true := hw'
    rw [this] at q
    exact q
end Bg
end
section
set_option Elab.async false
set_option linter.all false
set_option maxRecDepth 100000
set_option maxHeartbeats 4000000
namespace Bg
open PySem L2
theorem tup_new {t : TA} {σ : St} {H : Hp} {Q : VK} (xs : List V) (pure : ∀ R : List V → Hp → Prop, R xs H → t σ H R) (hl : xs.length ≤ 100) (q : ∀ p H', H' p = some (.tup xs) → Same H H' → Q (.ref p) H') : tTup t σ H Q :=
  pure _ ⟨Nat.le_trans hl (by decide), fun p np => q p _ upd_same ((Same.refl H).new np)⟩
theorem tup_open {t : TA} {σ : St} {H : Hp} {Q : VK} (h : t σ H fun xs H1 => xs.length ≤ sizeLine ∧ ∀ p, H1 p = none → Q (.ref p) (upd H1 p (.tup xs))) : tTup t σ H Q := h
theorem asg_open {te : TE} {g : TG} {u : TS} {D : Ends} {σ : St} {H : Hp} (h : te σ H fun x H1 => g x σ H1 (u D)) : tSeq (tAsg te g) u D σ H := h
theorem ret_open {te : TE} {D : Ends} {σ : St} {H : Hp} (h : te σ H D.rt) : tRet te D σ H := h
theorem cons_open {ta : TE} {tr : TA} {σ : St} {H : Hp} {Q : List V → Hp → Prop} (h : ta σ H fun x H1 => tr σ H1 fun xs H2 => Q (x :: xs) H2) : tCons ta tr σ H Q := h
theorem cons_c {v : V} {tr : TA} {σ : St} {H : Hp} {Q : List V → Hp → Prop} (h : tr σ H fun xs H2 => Q (v :: xs) H2) : tCons (tC v) tr σ H Q := h
theorem cons_v {i : Nat} {v : V} {tr : TA} {σ : St} {H : Hp} {Q : List V → Hp → Prop} (e : σ[i]? = some (some v)) (h : tr σ H fun xs H2 => Q (v :: xs) H2) : tCons (tVar i) tr σ H Q := ⟨v, e, h⟩
theorem cons_tup {t tr : TA} {σ : St} {H : Hp} {Q : List V → Hp → Prop} (xs : List V) (pure : ∀ R : List V → Hp → Prop, R xs H → t σ H R) (hl : xs.length ≤ 100) (q : ∀ p H', H' p = some (.tup xs) → Same H H' → tr σ H' fun ys H2 => Q (.ref p :: ys) H2) : tCons (tTup t) tr σ H Q := tup_new xs pure hl q
theorem AllAt.cons {α : Type} {R : V → α → Prop} {vs : List V} {rs : List α} {v : V} {r : α} (q : R v r) (h : AllAt R vs rs) : AllAt R (v :: vs) (r :: rs) := ⟨by simp [h.len], fun i v' r' a b => by
  match i with
  | 0 => cases a; cases b; exact q
  | i + 1 => exact h.at_ i v' r' a b⟩
theorem lst_open {t : TA} {σ : St} {H : Hp} {Q : VK} (h : t σ H fun xs H1 => xs.length ≤ sizeLine ∧ ∀ p, H1 p = none → Q (.ref p) (upd H1 p (.lst xs))) : tLst t σ H Q := h
end Bg
end
section
set_option Elab.async false
set_option linter.all false
set_option maxRecDepth 100000
set_option maxHeartbeats 4000000
namespace Bg
open PySem L2
theorem sl_front {K : PySem.W.Frag} {os : List (Option Str)} {a : Addr} {σ : St} {H : Hp} {i : Nat} {Q : VK} (hv : σ[i]? = some (some (.ref a))) (ha : H a = some (.tup (oVs os))) (hne : os ≠ [])
    (q : ∀ p, H p = none → Q (.ref p) (upd H p (.tup (oVs (os.take (os.length - 1)))))) : tSl (rSl K) (tVar i) tNoPart (tPart (tOp rSub2 (tCB (rLen K) (tCons (tVar i) tNil)) (tC (.int 1)))) σ H Q := by
  have ol : 0 < os.length := List.length_pos_iff.mpr hne
  refine ⟨_, hv, _, hv, ⟨_, _, rfl, .inr ⟨_, SqT.of ha, rfl⟩, ⟨_, _, rfl, rfl, _, rfl, .inr ⟨a, _, rfl, SqT.of ha, ?_, fun p hp => ?_⟩⟩⟩⟩
  · rintro ⟨_, z⟩
    have e : (((oVs os).length : Nat) : Int) - 1 = ((os.length - 1 : Nat) : Int) := by rw [oVs_len]; omega
    rw [e, HT.sIx_nat, oVs_len] at z
    omega
  · have e : (((oVs os).length : Nat) : Int) - 1 = ((os.length - 1 : Nat) : Int) := by rw [oVs_len]; omega
    show Q (.ref p) (upd H p (.tup (cutV (oVs os) none (some ((((oVs os).length : Nat) : Int) - 1)))))
    rw [e, cut_take]
    have e2 : (oVs os).take (os.length - 1) = oVs (os.take (os.length - 1)) := by unfold oVs; rw [List.map_take]
    rw [e2]
    exact q p hp
theorem pushO_ne {os : List (Option Str)} (x : Option Str) (h : os ≠ []) : pushO os x = x :: os.take (os.length - 1) := by
  unfold pushO
  have : 0 < os.length := List.length_pos_iff.mpr h
  obtain ⟨m, hm⟩ : ∃ m, os.length = m + 1 := ⟨os.length - 1, by omega⟩
  rw [hm, List.take_succ_cons, Nat.add_sub_cancel]
theorem r_behind {K : PySem.W.Frag} {vs : List V} {H : Hp} {Q : VK} {E : XK} (h : sp_behind K vs H Q E) : t_behind K { nx := fun _ H' => Q .non H', rt := Q } (start N_behind vs) H := by
  obtain ⟨v, a, r, os, x, rfl, hra, ha, hne, hl, ok, q⟩ := h
  have rest : ∀ p : Addr, (∀ i, r ≠ .keep i) → t_behind_5 K { nx := fun _ H' => Q .non H', rt := Q } [some (.ref p), some (.ref a), some (oV x), none, none] H := fun p hk => by
    refine ⟨_, rfl, rfl, _, rfl, if_dec (fun e => ?_) (fun e => ?_)⟩
    · have hx : x = none := oV_non.mp e
      subst hx
      have eb : bhd r os none = os := by cases r <;> first | rfl | exact absurd rfl (hk _)
      exact ⟨_, rfl, q a H (by rw [eb]; exact ha) (Same.refl H)⟩
    · obtain ⟨y, rfl⟩ : ∃ y, x = some y := by
        cases x with
        | none => exact absurd rfl e
        | some y => exact ⟨y, rfl⟩
      have eb : bhd r os (some y) = anew os y := by
        have := ok.set
        cases r <;> first | rfl | cases this | exact absurd rfl (hk _)
      refine ⟨_, rfl, (by show 1 ≤ sizeLine; decide), fun F nF => ?_⟩
      show t_behind_3 K _ [some (.ref p), some (.ref a), some (.str y), some (.ref F), none] (upd H F (.lst [.str y]))
      have ha1 : upd H F (.lst [.str y]) a = some (.tup (oVs os)) := by rw [upd_ne (ne_of_none ha nF)]; exact ha
      refine .inr (sl_front rfl ha1 hne fun c hc => ⟨c, rfl, ⟨_, SqT.of upd_same⟩, ?_⟩)
      have nFc : F ≠ c := fun z => by subst z; rw [upd_same] at hc; cases hc
      have Hc : H c = none := by rw [upd_ne (Ne.symm nFc)] at hc; exact hc
      refine for_tup (xs := oVs (os.take (os.length - 1))) (fun i σ' H' => ∃ o, σ' = [some (.ref p), some (.ref a), some (.str y), some (.ref F), o] ∧ H' F = some (.lst (oVs (some y :: ((os.take (os.length - 1)).take i).map (blank y)))) ∧ H' c = some (.tup (oVs (os.take (os.length - 1)))) ∧ Same H H') ?_ ?_ ?_ ?_
      · refine ⟨none, rfl, ?_, upd_same, (((Same.refl H).new nF).new hc)⟩
        rw [upd_ne nFc, upd_same, List.take_zero]; rfl
      · rintro i σ' H' _ ⟨o, _, _, hc', _⟩
        exact SqT.of hc'
      · rintro i z σ' H' hz ⟨o, rfl, hF, hc', s'⟩
        obtain ⟨oz, ez, rfl⟩ := oVs_of hz
        have li : (oVs (some y :: ((os.take (os.length - 1)).take i).map (blank y))).length ≤ 1002 := by rw [oVs_len, List.length_cons, List.length_map, List.length_take, List.length_take]; omega
        refine ⟨_, rfl, .inl ⟨rfl, _, SqL.of hF⟩, _, rfl, (by show 2 ≤ sizeLine; decide), fun L nL => ?_⟩
        have hF1 : upd H' L (.lst [oV oz, .non]) F = some (.lst (oVs (some y :: ((os.take (os.length - 1)).take i).map (blank y)))) := by rw [upd_ne (ne_of_none hF nL)]; exact hF
        have s1 : Same H (upd H' L (.lst [oV oz, .non])) := s'.new nL
        have hc1 : upd H' L (.lst [oV oz, .non]) c = some (.tup (oVs (os.take (os.length - 1)))) := by rw [upd_ne (ne_of_none hc' nL)]; exact hc'
        have app : ∀ w : V, w = oV (blank y oz) → rAppend (.ref F) [w] (upd H' L (.lst [oV oz, .non])) fun _ H1 => ∃ o, [some (V.ref p), some (V.ref a), some (V.str y), some (V.ref F), some (oV oz)] = [some (.ref p), some (.ref a), some (.str y), some (.ref F), o] ∧ H1 F = some (.lst (oVs (some y :: ((os.take (os.length - 1)).take (i + 1)).map (blank y)))) ∧ H1 c = some (.tup (oVs (os.take (os.length - 1)))) ∧ Same H H1 := by
          rintro w rfl
          refine ⟨F, _, _, rfl, rfl, hF1, smallL (by omega), _, rfl, ?_, ?_, ?_⟩
          · rw [upd_same, take_snoc ez, List.map_append, oVs_snoc]; rfl
          · rw [upd_ne (Ne.symm nFc)]; exact hc1
          · intro b ob hb
            rw [upd_ne (ne_of_none hb nF)]; exact s1 b ob hb
        refine ⟨_, rfl, _, rfl, .inl ⟨scal_o oz (some y), ?_⟩⟩
        by_cases c2 : oz = some y
        · subst c2
          rw [decide_eq_true (show oV (some y) = V.str y from rfl)]
          refine .inr ⟨_, rfl, ?_⟩
          refine ixL (SqL.of upd_same) (by decide) rfl (app _ ?_)
          unfold blank; rw [if_pos rfl]; rfl
        · rw [decide_eq_false (show ¬ oV oz = V.str y from fun z => c2 (oV_inj (b := some y) z))]
          refine .inr ⟨_, rfl, ?_⟩
          refine ixL (SqL.of upd_same) (by decide) rfl (app _ ?_)
          unfold blank; rw [if_neg c2]
      · rintro σ' H' ⟨o, rfl, hF, hc', s'⟩
        rw [oVs_len, List.take_length] at hF
        refine ⟨_, rfl, F, _, rfl, .inl ⟨SqL.of hF, fun P nP => q P _ ?_ (s'.new nP)⟩⟩
        rw [upd_same, eb]
        unfold anew
        rw [pushO_ne _ (fun z => hne (List.map_eq_nil_iff.mp z)), List.length_map, List.map_take]
  cases r with
  | keep i =>
    obtain ⟨p, rfl, h⟩ := hra
    obtain ⟨i0, i1⟩ := ok.keep i rfl
    refine ⟨_, rfl, ixT h (by decide) rfl (.inl ⟨rfl, _, rfl, yes ?_⟩)⟩
    refine ⟨_, rfl, _, rfl, ixT h (by decide) rfl (ixT ha i0 (oVs_get (List.getElem?_eq_getElem i1)) ⟨(by show 1 ≤ sizeLine; decide), fun t ht => ?_⟩)⟩
    have ha1 : upd H t (.tup [oV os[i.toNat]]) a = some (.tup (oVs os)) := by rw [upd_ne (ne_of_none ha ht)]; exact ha
    refine sl_front rfl ha1 hne fun c hc => ?_
    have s1 : Same H (upd (upd H t (.tup [oV os[i.toNat]])) c (.tup (oVs (os.take (os.length - 1))))) := ((Same.refl H).new ht).new hc
    have ht1 : upd (upd H t (.tup [oV os[i.toNat]])) c (.tup (oVs (os.take (os.length - 1)))) t = some (.tup [oV os[i.toNat]]) := by rw [upd_ne (ne_of_none upd_same hc)]; exact upd_same
    have eb : bhd (.keep i) os x = os[i.toNat] :: os.take (os.length - 1) := by
      show pushO os ((os[i.toNat]?).getD none) = _
      rw [List.getElem?_eq_getElem i1, Option.getD_some, pushO_ne _ hne]
    refine .inr (.inr (.inr ⟨t, c, _, _, rfl, rfl, SqT.of ht1, SqT.of upd_same, by simp, ?_, fun z => ?_, fun _ p2 hp2 => ?_⟩))
    · rw [oVs_len, List.length_take]
      exact Nat.le_of_lt (smallL (by show 1 + min (os.length - 1) os.length ≤ 100000; omega))
    · have z' : os.take (os.length - 1) = [] := by
        have := congrArg List.length z
        rw [oVs_len] at this
        exact List.length_eq_zero_iff.mp this
      refine q t _ ?_ s1
      rw [eb, ht1, z']; rfl
    · refine q p2 _ ?_ (s1.new hp2)
      rw [upd_same, eb]; rfl
  | num z =>
    obtain ⟨p, rfl, h⟩ := hra
    exact ⟨_, rfl, ixT h (by decide) rfl (.inl ⟨rfl, _, rfl, no (by decide +kernel) (rest p fun _ z => by cases z)⟩)⟩
  | op s i j =>
    obtain ⟨p, rfl, h⟩ := hra
    exact ⟨_, rfl, ixT h (by decide) rfl (.inl ⟨rfl, _, rfl, no (by decide +kernel) (rest p fun _ z => by cases z)⟩)⟩
  | call k as =>
    obtain ⟨p, q1, rfl, h, h1⟩ := hra
    exact ⟨_, rfl, ixT h (by decide) rfl (.inl ⟨rfl, _, rfl, no (by decide +kernel) (rest p fun _ z => by cases z)⟩)⟩
  | say i =>
    obtain ⟨p, rfl, h⟩ := hra
    exact ⟨_, rfl, ixT h (by decide) rfl (.inl ⟨rfl, _, rfl, no (by decide +kernel) (rest p fun _ z => by cases z)⟩)⟩
  | jump to =>
    obtain ⟨p, rfl, h⟩ := hra
    exact ⟨_, rfl, ixT h (by decide) rfl (.inl ⟨rfl, _, rfl, no (by decide +kernel) (rest p fun _ z => by cases z)⟩)⟩
  | test i to =>
    obtain ⟨p, rfl, h⟩ := hra
    exact ⟨_, rfl, ixT h (by decide) rfl (.inl ⟨rfl, _, rfl, no (by decide +kernel) (rest p fun _ z => by cases z)⟩)⟩
  | give i =>
    obtain ⟨p, rfl, h⟩ := hra
    exact ⟨_, rfl, ixT h (by decide) rfl (.inl ⟨rfl, _, rfl, no (by decide +kernel) (rest p fun _ z => by cases z)⟩)⟩
abbrev sgn : Str := "+-*<="
theorem sgn_len : sgn.length ≤ sizeLine := by decide +kernel
theorem sgn_code (j : Nat) (h : j < 5) : ∃ c, sgn.cps.toList[j]? = some c := by
  have hl : sgn.cps.toList.length = 5 := by decide +kernel
  exact ⟨_, List.getElem?_eq_getElem (by omega)⟩
theorem r_rows {K : PySem.W.Frag} {vs : List V} {H : Hp} {Q : VK} {E : XK} (h : sp_rows K vs H Q E) : t_rows K { nx := fun _ H' => Q .non H', rt := Q } (start N_rows vs) H := by
  obtain ⟨st, n, k, x, rfl, S, hk, n1, n16, q⟩ := h
  refine ⟨_, rfl, _, rfl, st, _, k, rfl, S, by omega, by omega, by omega, fun i H1 i0 i1 S1 B1 => ?_⟩
  refine ⟨_, rfl, _, rfl, st, _, k + 1, rfl, S1, by omega, by omega, by omega, fun j H2 j0 j1 S2 B2 => ?_⟩
  have B2' := B1.trans B2
  show t_rows_2 K _ [some (.ref st), some (.int (n : Nat)), some (.str x), some (.int i), some (.int j), none] H2
  unfold t_rows_2
  refine asg_open (lst_open ?_)
  refine cons_open (tup_open (cons_tup [.str "num", .int 7] (fun R r => r) (by show 2 ≤ 100; decide) fun p0 H3 h3 s3 => cons_v rfl ⟨(by show 2 ≤ sizeLine; decide), fun q0 nq0 => ?_⟩))
  have hq0 : upd H3 q0 (.tup [.ref p0, .str x]) q0 = some (.tup [.ref p0, .str x]) := upd_same
  have sq0 : Same H3 (upd H3 q0 (.tup [.ref p0, .str x])) := (Same.refl H3).new nq0
  generalize upd H3 q0 (.tup [.ref p0, .str x]) = H4 at hq0 sq0 ⊢
  have S4 := (S2.same s3).same sq0
  have B4 : But st H H4 := (B2'.trans s3.but).trans sq0.but
  refine cons_open (tup_open (cons_open (tup_open (cons_c ?_))))
  refine ⟨_, rfl, st, 5, k + 2, rfl, S4, by omega, by decide, by decide, fun d H5 d0 d1 S5 B5 => ?_⟩
  obtain ⟨c, hc⟩ := sgn_code d.toNat (by omega)
  have ns : ∀ {y : Addr} {xs : List V}, H4 y = some (.tup xs) → H5 y = some (.tup xs) := fun {y xs} e => B5 y _ (fun z => by rw [z, S4.lst.choose_spec] at e; cases e) e
  have hp0 := ns (sq0 _ _ h3)
  have hq0 := ns hq0
  have B5' : But st H H5 := B4.trans B5
  refine ixS sgn_len d0 hc (cons_v rfl (cons_v rfl ⟨(by show 4 ≤ sizeLine; decide), fun p1 np1 => cons_v rfl ⟨(by show 2 ≤ sizeLine; decide), fun q1 nq1 => ?_⟩⟩))
  have h1 : upd (upd H5 p1 (.tup [.str "op", .str ⟨#[c]⟩, .int i, .int j])) q1 (.tup [.ref p1, .str x]) p1 = some (.tup [.str "op", .str ⟨#[c]⟩, .int i, .int j]) := ((Same.refl _).new nq1) _ _ upd_same
  have hq1 : upd (upd H5 p1 (.tup [.str "op", .str ⟨#[c]⟩, .int i, .int j])) q1 (.tup [.ref p1, .str x]) q1 = some (.tup [.ref p1, .str x]) := upd_same
  have s6 : Same H5 (upd (upd H5 p1 (.tup [.str "op", .str ⟨#[c]⟩, .int i, .int j])) q1 (.tup [.ref p1, .str x])) := ((Same.refl H5).new np1).new nq1
  generalize upd (upd H5 p1 (.tup [.str "op", .str ⟨#[c]⟩, .int i, .int j])) q1 (.tup [.ref p1, .str x]) = H6 at h1 hq1 s6 ⊢
  refine cons_open (tup_open (cons_open (tup_open (cons_c (cons_c (cons_tup [.int i, .int j] (fun R r => ⟨_, rfl, _, rfl, r⟩) (by show 2 ≤ 100; decide) fun a2 H7 h7 s7 => ?_))))))
  refine ⟨(by show 3 ≤ sizeLine; decide), fun p2 np2 => cons_v rfl ⟨(by show 2 ≤ sizeLine; decide), fun q2 nq2 => ?_⟩⟩
  have h2 : upd (upd H7 p2 (.tup [.str "call", .int 0, .ref a2])) q2 (.tup [.ref p2, .str x]) p2 = some (.tup [.str "call", .int 0, .ref a2]) := ((Same.refl _).new nq2) _ _ upd_same
  have hq2 : upd (upd H7 p2 (.tup [.str "call", .int 0, .ref a2])) q2 (.tup [.ref p2, .str x]) q2 = some (.tup [.ref p2, .str x]) := upd_same
  have s8 : Same H7 (upd (upd H7 p2 (.tup [.str "call", .int 0, .ref a2])) q2 (.tup [.ref p2, .str x])) := ((Same.refl H7).new np2).new nq2
  generalize upd (upd H7 p2 (.tup [.str "call", .int 0, .ref a2])) q2 (.tup [.ref p2, .str x]) = H8 at h2 hq2 s8 ⊢
  refine ⟨(by show 3 ≤ sizeLine; decide), fun L nL => ?_⟩
  have hL : upd H8 L (.lst [.ref q0, .ref q1, .ref q2]) L = some (.lst [.ref q0, .ref q1, .ref q2]) := upd_same
  have s9 : Same H8 (upd H8 L (.lst [.ref q0, .ref q1, .ref q2])) := (Same.refl H8).new nL
  show t_rows_1 K _ [some (.ref st), some (.int (n : Nat)), some (.str x), some (.int i), some (.int j), some (.ref L)] _
  generalize upd H8 L (.lst [.ref q0, .ref q1, .ref q2]) = H9 at hL s9 ⊢
  refine ret_open ⟨_, rfl, ?_⟩
  refine lst_open ?_
  refine cons_open (tup_open (cons_tup [.str "keep", .int i] (fun R r => ⟨_, rfl, r⟩) (by show 2 ≤ 100; decide) fun p3 H10 h10 s10 => ⟨(by show 2 ≤ sizeLine; decide), fun q3 nq3 => ?_⟩))
  have hq3 : upd H10 q3 (.tup [.ref p3, .non]) q3 = some (.tup [.ref p3, .non]) := upd_same
  have t10 : Same H10 (upd H10 q3 (.tup [.ref p3, .non])) := (Same.refl H10).new nq3
  generalize upd H10 q3 (.tup [.ref p3, .non]) = G10 at hq3 t10 ⊢
  refine cons_open (tup_open (cons_tup [.str "say", .int i] (fun R r => ⟨_, rfl, r⟩) (by show 2 ≤ 100; decide) fun p4 H11 h11 s11 => ⟨(by show 2 ≤ sizeLine; decide), fun q4 nq4 => ?_⟩))
  have hq4 : upd H11 q4 (.tup [.ref p4, .non]) q4 = some (.tup [.ref p4, .non]) := upd_same
  have t11 : Same H11 (upd H11 q4 (.tup [.ref p4, .non])) := (Same.refl H11).new nq4
  generalize upd H11 q4 (.tup [.ref p4, .non]) = G11 at hq4 t11 ⊢
  refine cons_open (tup_open (cons_tup [.str "test", .int i, .int 0] (fun R r => ⟨_, rfl, r⟩) (by show 3 ≤ 100; decide) fun p5 H12 h12 s12 => ⟨(by show 2 ≤ sizeLine; decide), fun q5 nq5 => ?_⟩))
  have hq5 : upd H12 q5 (.tup [.ref p5, .non]) q5 = some (.tup [.ref p5, .non]) := upd_same
  have t12 : Same H12 (upd H12 q5 (.tup [.ref p5, .non])) := (Same.refl H12).new nq5
  generalize upd H12 q5 (.tup [.ref p5, .non]) = G12 at hq5 t12 ⊢
  refine cons_open (tup_open (cons_tup [.str "jump", .int 0] (fun R r => r) (by show 2 ≤ 100; decide) fun p6 H13 h13 s13 => ⟨(by show 2 ≤ sizeLine; decide), fun q6 nq6 => ?_⟩))
  have hq6 : upd H13 q6 (.tup [.ref p6, .non]) q6 = some (.tup [.ref p6, .non]) := upd_same
  have t13 : Same H13 (upd H13 q6 (.tup [.ref p6, .non])) := (Same.refl H13).new nq6
  generalize upd H13 q6 (.tup [.ref p6, .non]) = G13 at hq6 t13 ⊢
  refine ⟨(by show 4 ≤ sizeLine; decide), fun M nM => ?_⟩
  have a13 : Same G12 G13 := s13.trans t13
  have a12 : Same G11 G13 := (s12.trans t12).trans a13
  have a11 : Same G10 G13 := (s11.trans t11).trans a12
  have a10 : Same H9 G13 := (s10.trans t10).trans a11
  have a8 : Same H8 G13 := s9.trans a10
  have a7 : Same H7 G13 := s8.trans a8
  have a6 : Same H6 G13 := s7.trans a7
  have a5 : Same H5 G13 := s6.trans a6
  have hL' := a10 _ _ hL
  have hM : upd G13 M (.lst [.ref q3, .ref q4, .ref q5, .ref q6]) M = some (.lst [.ref q3, .ref q4, .ref q5, .ref q6]) := upd_same
  have sM : Same G13 (upd G13 M (.lst [.ref q3, .ref q4, .ref q5, .ref q6])) := (Same.refl G13).new nM
  generalize upd G13 M (.lst [.ref q3, .ref q4, .ref q5, .ref q6]) = G14 at hM sM ⊢
  refine .inr (.inr (.inl ⟨L, M, _, _, rfl, rfl, sM _ _ hL', hM, (by show 7 ≤ sizeLine; decide), fun R nR => ?_⟩))
  have sR : Same G14 (upd G14 R (.lst ([.ref q0, .ref q1, .ref q2] ++ [.ref q3, .ref q4, .ref q5, .ref q6]))) := (Same.refl G14).new nR
  have z : Same G13 (upd G14 R (.lst ([.ref q0, .ref q1, .ref q2] ++ [.ref q3, .ref q4, .ref q5, .ref q6]))) := sM.trans sR
  have z5 : Same H5 (upd G14 R (.lst ([.ref q0, .ref q1, .ref q2] ++ [.ref q3, .ref q4, .ref q5, .ref q6]))) := a5.trans z
  have SR := S5.same z5
  have nRs : R ≠ st := fun e => by
    have e1 := (a5.trans sM) st _ S5.lst.choose_spec
    rw [e] at nR; rw [nR] at e1; cases e1
  have HR : H R = none := (B5'.trans (a5.trans sM).but).free nRs nR
  refine q R _ [(.num 7, some x), (.op ⟨#[c]⟩ i j, some x), (.call 0 [i, j], some x), (.keep i, none), (.say i, none), (.test i 0, none), (.jump 0, none)] (k + 3) _ upd_same ?_ ?_ nRs HR SR (by omega) (B5'.trans z5.but)
  · refine .cons ⟨q0, _, rfl, z5 _ _ hq0, p0, rfl, z5 _ _ hp0⟩ (.cons ⟨q1, _, rfl, (a6.trans z) _ _ hq1, p1, rfl, (a6.trans z) _ _ h1⟩ (.cons ⟨q2, _, rfl, (a8.trans z) _ _ hq2, p2, a2, rfl, (a8.trans z) _ _ h2, (a7.trans z) _ _ h7⟩ (.cons ⟨q3, _, rfl, (a11.trans z) _ _ hq3, p3, rfl, ((t10.trans a11).trans z) _ _ h10⟩
      (.cons ⟨q4, _, rfl, (a12.trans z) _ _ hq4, p4, rfl, ((t11.trans a12).trans z) _ _ h11⟩ (.cons ⟨q5, _, rfl, (a13.trans z) _ _ hq5, p5, rfl, ((t12.trans a13).trans z) _ _ h12⟩ (.cons ⟨q6, _, rfl, z _ _ hq6, p6, rfl, (t13.trans z) _ _ h13⟩ .nil))))))
  · intro e he os hos
    simp only [List.mem_cons, List.not_mem_nil, or_false] at he
    rcases he with rfl | rfl | rfl | rfl | rfl | rfl | rfl
    · exact ⟨fun _ z => by (cases z), rfl⟩
    · exact ⟨fun _ z => by (cases z), rfl⟩
    · exact ⟨fun _ z => by (cases z), rfl⟩
    · exact ⟨fun i' z => by cases z; exact ⟨i0, by omega⟩, rfl⟩
    · exact ⟨fun _ z => by (cases z), rfl⟩
    · exact ⟨fun _ z => by (cases z), rfl⟩
    · exact ⟨fun _ z => by (cases z), rfl⟩
end Bg
end
section
set_option Elab.async false
set_option linter.all false
set_option maxRecDepth 100000
set_option maxHeartbeats 4000000
namespace Bg
open PySem L2
theorem eqVs_same (os : List (Option Str)) : eqVs (oVs os) (oVs os) = true := by rw [eqVs_o]; exact decide_eq_true rfl
theorem r_law {K : PySem.W.Frag} {vs : List V} {H : Hp} {Q : VK} {E : XK} (h : sp_law K vs H Q E) : t_law K { nx := fun _ H' => Q .non H', rt := Q } (start N_law vs) H := by
  obtain ⟨scr, ns, rfl, hscr, hns, q⟩ := h
  refine ⟨_, rfl, (by show 3 ≤ sizeLine; decide), fun st hst => ?_⟩
  have S1 : Stt K (upd H st (.lst [.ref scr, .int 0, .int 0])) st 0 := ⟨scr, ns, 0, upd_same, hscr.mono (.of_same ((Same.refl H).new hst)), hns⟩
  have hscr1 : ScrAt K (upd H st (.lst [.ref scr, .int 0, .int 0])) scr ns := hscr.mono (.of_same ((Same.refl H).new hst))
  show t_law_12 K _ [some (.ref scr), some (.ref st), none, none, none, none, none, none, none, none, none, none] (upd H st (.lst [.ref scr, .int 0, .int 0]))
  generalize upd H st (.lst [.ref scr, .int 0, .int 0]) = H1 at S1 hscr1 ⊢
  refine ⟨_, rfl, st, 6, 0, rfl, S1, by omega, by decide, fun nm ys k2 H2 hn ylen ynd yok hnm S2 hk2 B2 => ?_⟩
  have nms : nm ≠ st := fun z => by rw [z, S1.lst.choose_spec] at hn; cases hn
  have hscr2 : ScrAt K H2 scr ns := hscr1.mono (.of_but B2 S1.lst.choose_spec)
  show t_law_11 K _ [some (.ref scr), some (.ref st), some (.ref nm), none, none, none, none, none, none, none, none, none] H2
  refine ⟨_, rfl, _, _, rfl, .inl ⟨_, hscr2.sq, rfl⟩, _, _, rfl, rfl, ⟨by decide, by decide⟩, _, _, rfl, .inl ⟨_, _, rfl, rfl, ?_⟩⟩
  rw [List.length_map]
  generalize hm : 1 + (if ((ns.length : Nat) : Int) / 4 < (11 : Int) then ((ns.length : Nat) : Int) / 4 else 11) = m
  have m12 : m ≤ 12 := by rw [← hm]; split <;> omega
  have m0 : 0 ≤ m := by rw [← hm]; split <;> omega
  refine ⟨m, (by rw [← hm]), by omega, by omega, for_range (n := m.toNat) (fun i σ' H' => ∃ o3 o4 o5 o6 o7 o8 o9 o10 o11 k', σ' = [some (.ref scr), some (.ref st), some (.ref nm), o3, o4, o5, o6, o7, o8, o9, o10, o11] ∧ H' nm = some (.lst (ys.map V.str)) ∧ Stt K H' st k' ∧ k' ≤ 100 + 100 * i)
    ⟨_, _, _, _, _, _, _, _, _, k2, rfl, hnm, S2, by omega⟩ ?_ ?_⟩
  · rintro i σ' H3 hi ⟨o3, o4, o5, o6, o7, o8, o9, o10, o11, k3, rfl, hnm3, S3, hk3⟩
    have hi : i < 12 := by omega
    refine ⟨_, rfl, st, 4, k3, rfl, S3, by omega, by decide, by decide, fun a H4 a0 a1 S4 B4 => .inl ⟨_, _, rfl, rfl, ?_⟩⟩
    refine ⟨_, rfl, st, 16, k3 + 1, rfl, S4, by omega, by decide, by decide, fun b H5 b0 b1 S5 B5 => .inl ⟨_, _, rfl, rfl, ?_⟩⟩
    refine ⟨(by show 2 ≤ sizeLine; decide), fun L nL => ?_⟩
    have nLs : L ≠ st := fun z => by rw [z, S5.lst.choose_spec] at nL; cases nL
    refine ⟨_, rfl, st, 2, k3 + 2, rfl, S5.new nL, by omega, by decide, by decide, fun c H6 c0 c1 S6 B6 => ?_⟩
    have h6 := B6 L _ nLs upd_same
    have hnm5 := B5 nm _ nms (B4 nm _ nms hnm3)
    have hnm6 := B6 nm _ nms (by rw [upd_ne (ne_of_none hnm5 nL)]; exact hnm5)
    have main : ∀ n : Nat, 1 ≤ n → n ≤ 16 → t_law_9 K { nx := fun σ' H' => ∃ o3 o4 o5 o6 o7 o8 o9 o10 o11 k', σ' = [some (.ref scr), some (.ref st), some (.ref nm), o3, o4, o5, o6, o7, o8, o9, o10, o11] ∧ H' nm = some (.lst (ys.map V.str)) ∧ Stt K H' st k' ∧ k' ≤ 100 + 100 * (i + 1), rt := Q, ct := fun σ' H' => ∃ o3 o4 o5 o6 o7 o8 o9 o10 o11 k', σ' = [some (.ref scr), some (.ref st), some (.ref nm), o3, o4, o5, o6, o7, o8, o9, o10, o11] ∧ H' nm = some (.lst (ys.map V.str)) ∧ Stt K H' st k' ∧ k' ≤ 100 + 100 * (i + 1), bk := t_law_1 K { nx := fun _ H' => Q .non H', rt := Q } } [some (.ref scr), some (.ref st), some (.ref nm), some (.int (0 + i)), some (.int (n : Nat)), o5, o6, o7, o8, o9, o10, o11] H6 := fun n n1 n16 => by
      refine ⟨_, rfl, _, rfl, _, rfl, st, nm, n, k3 + 3, ys, rfl, S6, by omega, hnm6, nms, by omega, n16, fun bt os k7 H7 hb ol S7 hk7 B7 => ?_⟩
      have hnm7 := B7 nm _ nms hnm6
      have nbs : bt ≠ st := fun z => by rw [z, S7.lst.choose_spec] at hb; cases hb
      have one : os ≠ [] := fun z => by rw [z] at ol; simp at ol; omega
      have yne : ys ≠ [] := fun z => by rw [z] at ylen; simp at ylen
      show t_law_8 K _ [some (.ref scr), some (.ref st), some (.ref nm), some (.int (0 + i)), some (.int (n : Nat)), some (.ref bt), o6, o7, o8, o9, o10, o11] H7
      refine .inr ⟨_, rfl, _, rfl, _, rfl, st, nm, bt, k7, ys, os, rfl, S7, by omega, hnm7, nms, yne, by omega, hb, one, by omega, fun c1 os1 k8 H8 hc1 ol1 S8 hk8 B8 => ?_⟩
      have hnm8 := B8 nm _ nms hnm7
      have hb8 := B8 bt _ nbs hb
      have nc1 : c1 ≠ st := fun z => by rw [z, S8.lst.choose_spec] at hc1; cases hc1
      refine ⟨_, rfl, _, rfl, _, rfl, st, nm, n, k8, ys, rfl, S8, by omega, hnm8, nms, by omega, n16, fun c2 os2 k9 H9 hc2 ol2 S9 hk9 B9 => ?_⟩
      have hnm9 := B9 nm _ nms hnm8
      have hb9 := B9 bt _ nbs hb8
      have hc19 := B9 c1 _ nc1 hc1
      refine ⟨_, rfl, (by show 3 ≤ sizeLine; decide), fun T nT => ⟨T, rfl, ⟨_, SqT.of upd_same⟩, ?_⟩⟩
      have sT : Same H9 (upd H9 T (.tup [.ref c1, .ref c2, .ref bt])) := (Same.refl H9).new nT
      have hT : upd H9 T (.tup [.ref c1, .ref c2, .ref bt]) T = some (.tup [.ref c1, .ref c2, .ref bt]) := upd_same
      generalize upd H9 T (.tup [.ref c1, .ref c2, .ref bt]) = H10 at sT hT ⊢
      refine for_tup (xs := [.ref c1, .ref c2, .ref bt]) (fun _ σ' H' => ∃ o6 o7 o8 o9 o10 o11, σ' = [some (.ref scr), some (.ref st), some (.ref nm), some (.int (0 + i)), some (.int (n : Nat)), some (.ref bt), o6, o7, o8, o9, o10, o11] ∧ Same H10 H') ⟨_, _, _, _, _, _, rfl, Same.refl _⟩ ?_ ?_ ?_
      · rintro j σ' H' _ ⟨_, _, _, _, _, _, _, s'⟩
        exact SqT.of (s' _ _ hT)
      · rintro j x σ' H11 hx ⟨p6, p7, p8, p9, p10, p11, rfl, s11⟩
        have ot : ∃ (c : Addr) (os' : List (Option Str)), x = .ref c ∧ H11 c = some (.tup (oVs os')) ∧ os'.length = n := by
          match j, hx with
          | 0, hx => cases hx; exact ⟨c1, os1, rfl, s11 _ _ (sT _ _ hc19), by omega⟩
          | 1, hx => cases hx; exact ⟨c2, os2, rfl, s11 _ _ (sT _ _ hc2), ol2⟩
          | 2, hx => cases hx; exact ⟨bt, os, rfl, s11 _ _ (sT _ _ hb9), ol⟩
        obtain ⟨c, os', rfl, hc, ol'⟩ := ot
        have hb11 := s11 _ _ (sT _ _ hb9)
        show t_law_7 K _ [some (.ref scr), some (.ref st), some (.ref nm), some (.int (0 + i)), some (.int (n : Nat)), some (.ref bt), some (.ref c), p7, p8, p9, p10, p11] H11
        refine .inr (tup_open (cons_tup [.ref bt, .ref c] (fun R r => ⟨_, rfl, _, rfl, r⟩) (by show 2 ≤ 100; decide) fun t1 G1 g1 u1 => ?_))
        refine cons_tup [.ref c, .ref bt] (fun R r => ⟨_, rfl, _, rfl, r⟩) (by show 2 ≤ 100; decide) fun t2 G2 g2 u2 => ?_
        refine ⟨(by show 2 ≤ sizeLine; decide), fun t3 n3 => ⟨t3, rfl, ⟨_, SqT.of upd_same⟩, ?_⟩⟩
        have u3 : Same G2 (upd G2 t3 (.tup [.ref t1, .ref t2])) := (Same.refl G2).new n3
        have g3 : upd G2 t3 (.tup [.ref t1, .ref t2]) t3 = some (.tup [.ref t1, .ref t2]) := upd_same
        generalize upd G2 t3 (.tup [.ref t1, .ref t2]) = G3 at u3 g3 ⊢
        have u13 : Same H11 G3 := (u1.trans u2).trans u3
        refine for_tup (xs := [.ref t1, .ref t2]) (fun _ σ' H' => ∃ o7 o8 o9 o10 o11, σ' = [some (.ref scr), some (.ref st), some (.ref nm), some (.int (0 + i)), some (.int (n : Nat)), some (.ref bt), some (.ref c), o7, o8, o9, o10, o11] ∧ Same G3 H') ⟨_, _, _, _, _, rfl, Same.refl _⟩ ?_ ?_ ?_
        · rintro j' σ' H' _ ⟨_, _, _, _, _, _, s'⟩
          exact SqT.of (s' _ _ g3)
        · rintro j' x' σ' H12 hx' ⟨r7, r8, r9, r10, r11, rfl, s12⟩
          have pr : ∃ (t a1 a2 : Addr) (as1 as2 : List (Option Str)), x' = .ref t ∧ H12 t = some (.tup [.ref a1, .ref a2]) ∧ H12 a1 = some (.tup (oVs as1)) ∧ H12 a2 = some (.tup (oVs as2)) ∧ as1.length = n ∧ as2.length = n := by
            match j', hx' with
            | 0, hx' => cases hx'; exact ⟨t1, bt, c, os, os', rfl, s12 _ _ (u3 _ _ (u2 _ _ g1)), s12 _ _ (u13 _ _ hb11), s12 _ _ (u13 _ _ hc), ol, ol'⟩
            | 1, hx' => cases hx'; exact ⟨t2, c, bt, os', os, rfl, s12 _ _ (u3 _ _ g2), s12 _ _ (u13 _ _ hc), s12 _ _ (u13 _ _ hb11), ol', ol⟩
          obtain ⟨t, a1, a2, as1, as2, rfl, ht, ha1, ha2, al1, al2⟩ := pr
          refine ⟨t, _, rfl, SqT.of ht, rfl, _, _, rfl, _, _, rfl, rfl, ?_⟩
          show t_law_6 K _ [some (.ref scr), some (.ref st), some (.ref nm), some (.int (0 + i)), some (.int (n : Nat)), some (.ref bt), some (.ref c), some (.ref a1), some (.ref a2), r9, r10, r11] H12
          refine ⟨_, rfl, _, rfl, a1, a2, as1, as2, rfl, ha1, ha2, by omega, by omega, fun H13 s13 => ?_⟩
          show t_law_5 K _ [some (.ref scr), some (.ref st), some (.ref nm), some (.int (0 + i)), some (.int (n : Nat)), some (.ref bt), some (.ref c), some (.ref a1), some (.ref a2), some (.bl (wkB as1 as2)), r10, r11] H13
          refine ⟨_, rfl, _, _, _, rfl, .bl_bool _, _, rfl, iteF ?_⟩
          refine ⟨_, rfl, _, rfl, _, rfl, a1, a2, as1, as2, rfl, s13 _ _ ha1, s13 _ _ ha2, by omega, by omega, .inl ⟨rfl, _, rfl, ?_⟩⟩
          refine if_f (by rw [decide_eq_true rfl]; rfl) ⟨_, _, _, _, _, rfl, s12.trans s13⟩
        · rintro σ' H12 ⟨r7, r8, r9, r10, r11, rfl, s12⟩
          exact ⟨_, _, _, _, _, _, rfl, (s11.trans u13).trans s12⟩
      · rintro σ' H11 ⟨p6, p7, p8, p9, p10, p11, rfl, s11⟩
        have S11 := (S9.same sT).same s11
        have hnm11 := s11 _ _ (sT _ _ hnm9)
        have hb11 := s11 _ _ (sT _ _ hb9)
        refine .inl ⟨_, rfl, _, rfl, _, rfl, _, rfl, st, 6, k9, rfl, S11, by omega, by decide, by decide, fun d H12 d0 d1 S12 B12 => ?_⟩
        have hnm12 := B12 nm _ nms hnm11
        have hb12 := B12 bt _ nbs hb11
        have hd : d.toNat < ys.length := by omega
        refine ixL (SqL.of hnm12) d0 (strs_get (List.getElem?_eq_getElem hd)) ?_
        refine ⟨st, n, k9 + 1, ys[d.toNat], rfl, S12, by omega, n1, n16, fun l vs' qs k13 H13 hl al good nls Hl S13 hk13 B13 => ⟨l, rfl, ⟨_, SqL.of hl⟩, ?_⟩⟩
        have hnm13 := B13 nm _ nms hnm12
        have hb13 := B13 bt _ nbs hb12
        refine for_list (xs := vs') (fun _ σ' H' => ∃ o9 o10 o11, σ' = [some (.ref scr), some (.ref st), some (.ref nm), some (.int (0 + i)), some (.int (n : Nat)), some (.ref bt), p6, p7, p8, o9, o10, o11] ∧ Same H13 H') ⟨_, _, _, rfl, Same.refl _⟩ ?_ ?_ ?_
        · rintro j σ' H' _ ⟨_, _, _, _, s'⟩
          exact SqL.of (s' _ _ hl)
        · rintro j x σ' H14 hx ⟨r9, r10, r11, rfl, s14⟩
          obtain ⟨qq, eq, ra⟩ := al.of_v hx
          have gd := good qq (List.mem_of_getElem? eq) os ol
          obtain ⟨p, rv, rfl, hp, hr⟩ := ra.mono (.of_same s14)
          refine ⟨p, _, rfl, SqT.of hp, rfl, _, _, rfl, _, _, rfl, rfl, ?_⟩
          show t_law_3 K _ [some (.ref scr), some (.ref st), some (.ref nm), some (.int (0 + i)), some (.int (n : Nat)), some (.ref bt), p6, p7, p8, r9, some rv, some (oV qq.2)] H14
          have hb14 := s14 _ _ hb13
          refine ⟨_, rfl, _, rfl, _, rfl, rv, bt, qq.1, os, qq.2, rfl, hr, hb14, one, by omega, gd, fun F H15 h15 s15 => ?_⟩
          show t_law_2 K _ [some (.ref scr), some (.ref st), some (.ref nm), some (.int (0 + i)), some (.int (n : Nat)), some (.ref bt), p6, p7, p8, some (.ref F), some rv, some (oV qq.2)] H15
          refine ⟨_, rfl, _, _, _, rfl, .tup_tuple (SqT.of h15), _, rfl, iteF ?_⟩
          refine ⟨_, rfl, _, rfl, _, rfl, _, rfl, rv, bt, qq.1, os, qq.2, rfl, hr.mono (.of_same s15), s15 _ _ hb14, one, by omega, gd, fun F2 H16 h16 s16 => ?_⟩
          refine .inr (.inl ⟨F, F2, _, _, rfl, rfl, SqT.of (s16 _ _ h15), SqT.of h16, oVs_flat _, oVs_flat _, _, rfl, ?_⟩)
          refine if_f (by show (!eqVs _ _) = false; rw [eqVs_same]; rfl) ⟨_, _, _, rfl, (s14.trans s15).trans s16⟩
        · rintro σ' H14 ⟨r9, r10, r11, rfl, s14⟩
          exact ⟨_, _, _, _, _, _, _, _, _, k13, rfl, s14 _ _ hnm13, S13.same s14, by omega⟩
    rcases (by omega : c = 0 ∨ c = 1) with rfl | rfl
    · refine ixL (SqL.of h6) (by decide) rfl ?_
      have := main (1 + a.toNat) (by omega) (by omega)
      have e : ((1 + a.toNat : Nat) : Int) = 1 + a := by omega
      rw [e] at this
      exact this
    · refine ixL (SqL.of h6) (by decide) rfl ?_
      have := main (1 + b.toNat) (by omega) (by omega)
      have e : ((1 + b.toNat : Nat) : Int) = 1 + b := by omega
      rw [e] at this
      exact this
  · rintro σ' H3 ⟨o3, o4, o5, o6, o7, o8, o9, o10, o11, k3, rfl, hnm3, S3, hk3⟩
    exact q H3
end Bg
end
set_option Elab.async false
set_option linter.all false
set_option maxRecDepth 100000
set_option maxHeartbeats 4000000
namespace Bg
open PySem PySem.Spec PyProof.Rows L2
section
variable {P : Program} {w : World} {K : PySem.W.Frag} {mg : Str → Option Value} {base : Heap}
theorem len_draw {vs : List V} {H : Hp} {Q : VK} {E : XK} (h : sp_draw K vs H Q E) : vs.length = PS_draw.length := by
  first | (obtain ⟨rfl, _⟩ := h; rfl) | (obtain ⟨_, rfl, _⟩ := h; rfl) | (obtain ⟨_, _, rfl, _⟩ := h; rfl) | (obtain ⟨_, _, _, rfl, _⟩ := h; rfl) | (obtain ⟨_, _, _, _, rfl, _⟩ := h; rfl) | (obtain ⟨_, _, _, _, _, rfl, _⟩ := h; rfl) | (obtain ⟨_, _, _, _, _, _, rfl, _⟩ := h; rfl) | (obtain ⟨_, _, _, _, _, _, _, rfl, _⟩ := h; rfl) | (obtain ⟨_, _, _, _, _, _, _, _, rfl, _⟩ := h; rfl) | (obtain ⟨_, _, _, _, _, _, _, _, _, rfl, _⟩ := h; rfl) | (obtain ⟨_, _, _, _, _, _, _, _, _, _, rfl, _⟩ := h; rfl) | (obtain ⟨_, _, _, _, _, _, _, _, _, _, _, rfl, _⟩ := h; rfl) | (obtain ⟨_, _, _, _, _, _, _, _, _, _, _, _, rfl, _⟩ := h; rfl) | (obtain ⟨_, _, _, _, _, _, _, _, _, _, _, _, _, rfl, _⟩ := h; rfl) | (obtain ⟨_, _, _, _, _, _, _, _, _, _, _, _, _, _, rfl, _⟩ := h; rfl) | (obtain ⟨_, _, _, _, _, _, _, _, _, _, _, _, _, _, _, rfl, _⟩ := h; rfl) | (obtain ⟨_, _, _, _, _, _, _, _, _, _, _, _, _, _, _, _, rfl, _⟩ := h; rfl) | (obtain ⟨_, _, _, _, _, _, _, _, _, _, _, _, _, _, _, _, _, rfl, _⟩ := h; rfl) | (obtain ⟨_, _, _, _, _, _, _, _, _, _, _, _, _, _, _, _, _, _, rfl, _⟩ := h; rfl) | (obtain ⟨_, _, _, _, _, _, _, _, _, _, _, _, _, _, _, _, _, _, _, rfl, _⟩ := h; rfl) | (obtain ⟨_, _, _, _, _, _, _, _, _, _, _, _, _, _, _, _, _, _, _, _, rfl, _⟩ := h; rfl) | (obtain ⟨_, _, _, _, _, _, _, _, _, _, _, _, _, _, _, _, _, _, _, _, _, rfl, _⟩ := h; rfl) | (obtain ⟨_, _, _, _, _, _, _, _, _, _, _, _, _, _, _, _, _, _, _, _, _, _, rfl, _⟩ := h; rfl) | (obtain ⟨_, _, _, _, _, _, _, _, _, _, _, _, _, _, _, _, _, _, _, _, _, _, _, rfl, _⟩ := h; rfl) | (obtain ⟨_, _, _, _, _, _, _, _, _, _, _, _, _, _, _, _, _, _, _, _, _, _, _, _, rfl, _⟩ := h; rfl) | (obtain ⟨_, _, _, _, _, _, _, _, _, _, _, _, _, _, _, _, _, _, _, _, _, _, _, _, _, rfl, _⟩ := h; rfl)
theorem ok_draw {f : Addr} {fd : FuncData} (F : Fun K "_law_draw" "_law_draw" s_draw f fd) (B : Blt mg)  : FnOk P w K mg base CX0 K_draw f fd PS_draw (sp_draw K) :=
  F.ok sc_draw (fun vs H Q E h => len_draw h) fun cdv A outer s H vs Q E hr h => ⟨_, d_draw B hr, r_draw (E := E) h⟩
theorem len_rows {vs : List V} {H : Hp} {Q : VK} {E : XK} (h : sp_rows K vs H Q E) : vs.length = PS_rows.length := by
  first | (obtain ⟨rfl, _⟩ := h; rfl) | (obtain ⟨_, rfl, _⟩ := h; rfl) | (obtain ⟨_, _, rfl, _⟩ := h; rfl) | (obtain ⟨_, _, _, rfl, _⟩ := h; rfl) | (obtain ⟨_, _, _, _, rfl, _⟩ := h; rfl) | (obtain ⟨_, _, _, _, _, rfl, _⟩ := h; rfl) | (obtain ⟨_, _, _, _, _, _, rfl, _⟩ := h; rfl) | (obtain ⟨_, _, _, _, _, _, _, rfl, _⟩ := h; rfl) | (obtain ⟨_, _, _, _, _, _, _, _, rfl, _⟩ := h; rfl) | (obtain ⟨_, _, _, _, _, _, _, _, _, rfl, _⟩ := h; rfl) | (obtain ⟨_, _, _, _, _, _, _, _, _, _, rfl, _⟩ := h; rfl) | (obtain ⟨_, _, _, _, _, _, _, _, _, _, _, rfl, _⟩ := h; rfl) | (obtain ⟨_, _, _, _, _, _, _, _, _, _, _, _, rfl, _⟩ := h; rfl) | (obtain ⟨_, _, _, _, _, _, _, _, _, _, _, _, _, rfl, _⟩ := h; rfl) | (obtain ⟨_, _, _, _, _, _, _, _, _, _, _, _, _, _, rfl, _⟩ := h; rfl) | (obtain ⟨_, _, _, _, _, _, _, _, _, _, _, _, _, _, _, rfl, _⟩ := h; rfl) | (obtain ⟨_, _, _, _, _, _, _, _, _, _, _, _, _, _, _, _, rfl, _⟩ := h; rfl) | (obtain ⟨_, _, _, _, _, _, _, _, _, _, _, _, _, _, _, _, _, rfl, _⟩ := h; rfl) | (obtain ⟨_, _, _, _, _, _, _, _, _, _, _, _, _, _, _, _, _, _, rfl, _⟩ := h; rfl) | (obtain ⟨_, _, _, _, _, _, _, _, _, _, _, _, _, _, _, _, _, _, _, rfl, _⟩ := h; rfl) | (obtain ⟨_, _, _, _, _, _, _, _, _, _, _, _, _, _, _, _, _, _, _, _, rfl, _⟩ := h; rfl) | (obtain ⟨_, _, _, _, _, _, _, _, _, _, _, _, _, _, _, _, _, _, _, _, _, rfl, _⟩ := h; rfl) | (obtain ⟨_, _, _, _, _, _, _, _, _, _, _, _, _, _, _, _, _, _, _, _, _, _, rfl, _⟩ := h; rfl) | (obtain ⟨_, _, _, _, _, _, _, _, _, _, _, _, _, _, _, _, _, _, _, _, _, _, _, rfl, _⟩ := h; rfl) | (obtain ⟨_, _, _, _, _, _, _, _, _, _, _, _, _, _, _, _, _, _, _, _, _, _, _, _, rfl, _⟩ := h; rfl) | (obtain ⟨_, _, _, _, _, _, _, _, _, _, _, _, _, _, _, _, _, _, _, _, _, _, _, _, _, rfl, _⟩ := h; rfl)
theorem ok_rows {f : Addr} {fd : FuncData} (F : Fun K "_law_rows" "_law_rows" s_rows f fd) (B : Blt mg) (c_draw : Callee P w K mg base "_law_draw" PS_draw K_draw (sp_draw K)) : FnOk P w K mg base CX0 K_rows f fd PS_rows (sp_rows K) :=
  F.ok sc_rows (fun vs H Q E h => len_rows h) fun cdv A outer s H vs Q E hr h => ⟨_, d_rows B c_draw hr, r_rows (E := E) h⟩
theorem len_behind {vs : List V} {H : Hp} {Q : VK} {E : XK} (h : sp_behind K vs H Q E) : vs.length = PS_behind.length := by
  first | (obtain ⟨rfl, _⟩ := h; rfl) | (obtain ⟨_, rfl, _⟩ := h; rfl) | (obtain ⟨_, _, rfl, _⟩ := h; rfl) | (obtain ⟨_, _, _, rfl, _⟩ := h; rfl) | (obtain ⟨_, _, _, _, rfl, _⟩ := h; rfl) | (obtain ⟨_, _, _, _, _, rfl, _⟩ := h; rfl) | (obtain ⟨_, _, _, _, _, _, rfl, _⟩ := h; rfl) | (obtain ⟨_, _, _, _, _, _, _, rfl, _⟩ := h; rfl) | (obtain ⟨_, _, _, _, _, _, _, _, rfl, _⟩ := h; rfl) | (obtain ⟨_, _, _, _, _, _, _, _, _, rfl, _⟩ := h; rfl) | (obtain ⟨_, _, _, _, _, _, _, _, _, _, rfl, _⟩ := h; rfl) | (obtain ⟨_, _, _, _, _, _, _, _, _, _, _, rfl, _⟩ := h; rfl) | (obtain ⟨_, _, _, _, _, _, _, _, _, _, _, _, rfl, _⟩ := h; rfl) | (obtain ⟨_, _, _, _, _, _, _, _, _, _, _, _, _, rfl, _⟩ := h; rfl) | (obtain ⟨_, _, _, _, _, _, _, _, _, _, _, _, _, _, rfl, _⟩ := h; rfl) | (obtain ⟨_, _, _, _, _, _, _, _, _, _, _, _, _, _, _, rfl, _⟩ := h; rfl) | (obtain ⟨_, _, _, _, _, _, _, _, _, _, _, _, _, _, _, _, rfl, _⟩ := h; rfl) | (obtain ⟨_, _, _, _, _, _, _, _, _, _, _, _, _, _, _, _, _, rfl, _⟩ := h; rfl) | (obtain ⟨_, _, _, _, _, _, _, _, _, _, _, _, _, _, _, _, _, _, rfl, _⟩ := h; rfl) | (obtain ⟨_, _, _, _, _, _, _, _, _, _, _, _, _, _, _, _, _, _, _, rfl, _⟩ := h; rfl) | (obtain ⟨_, _, _, _, _, _, _, _, _, _, _, _, _, _, _, _, _, _, _, _, rfl, _⟩ := h; rfl) | (obtain ⟨_, _, _, _, _, _, _, _, _, _, _, _, _, _, _, _, _, _, _, _, _, rfl, _⟩ := h; rfl) | (obtain ⟨_, _, _, _, _, _, _, _, _, _, _, _, _, _, _, _, _, _, _, _, _, _, rfl, _⟩ := h; rfl) | (obtain ⟨_, _, _, _, _, _, _, _, _, _, _, _, _, _, _, _, _, _, _, _, _, _, _, rfl, _⟩ := h; rfl) | (obtain ⟨_, _, _, _, _, _, _, _, _, _, _, _, _, _, _, _, _, _, _, _, _, _, _, _, rfl, _⟩ := h; rfl) | (obtain ⟨_, _, _, _, _, _, _, _, _, _, _, _, _, _, _, _, _, _, _, _, _, _, _, _, _, rfl, _⟩ := h; rfl)
theorem ok_behind {f : Addr} {fd : FuncData} (F : Fun K "_law_behind" "_law_behind" s_behind f fd) (B : Blt mg)  : FnOk P w K mg base CX0 K_behind f fd PS_behind (sp_behind K) :=
  F.ok sc_behind (fun vs H Q E h => len_behind h) fun cdv A outer s H vs Q E hr h => ⟨_, d_behind B hr, r_behind (E := E) h⟩
theorem len_p_pushed {vs : List V} {H : Hp} {Q : VK} {E : XK} (h : sp_p_pushed K vs H Q E) : vs.length = PS_p_pushed.length := by
  first | (obtain ⟨rfl, _⟩ := h; rfl) | (obtain ⟨_, rfl, _⟩ := h; rfl) | (obtain ⟨_, _, rfl, _⟩ := h; rfl) | (obtain ⟨_, _, _, rfl, _⟩ := h; rfl) | (obtain ⟨_, _, _, _, rfl, _⟩ := h; rfl) | (obtain ⟨_, _, _, _, _, rfl, _⟩ := h; rfl) | (obtain ⟨_, _, _, _, _, _, rfl, _⟩ := h; rfl) | (obtain ⟨_, _, _, _, _, _, _, rfl, _⟩ := h; rfl) | (obtain ⟨_, _, _, _, _, _, _, _, rfl, _⟩ := h; rfl) | (obtain ⟨_, _, _, _, _, _, _, _, _, rfl, _⟩ := h; rfl) | (obtain ⟨_, _, _, _, _, _, _, _, _, _, rfl, _⟩ := h; rfl) | (obtain ⟨_, _, _, _, _, _, _, _, _, _, _, rfl, _⟩ := h; rfl) | (obtain ⟨_, _, _, _, _, _, _, _, _, _, _, _, rfl, _⟩ := h; rfl) | (obtain ⟨_, _, _, _, _, _, _, _, _, _, _, _, _, rfl, _⟩ := h; rfl) | (obtain ⟨_, _, _, _, _, _, _, _, _, _, _, _, _, _, rfl, _⟩ := h; rfl) | (obtain ⟨_, _, _, _, _, _, _, _, _, _, _, _, _, _, _, rfl, _⟩ := h; rfl) | (obtain ⟨_, _, _, _, _, _, _, _, _, _, _, _, _, _, _, _, rfl, _⟩ := h; rfl) | (obtain ⟨_, _, _, _, _, _, _, _, _, _, _, _, _, _, _, _, _, rfl, _⟩ := h; rfl) | (obtain ⟨_, _, _, _, _, _, _, _, _, _, _, _, _, _, _, _, _, _, rfl, _⟩ := h; rfl) | (obtain ⟨_, _, _, _, _, _, _, _, _, _, _, _, _, _, _, _, _, _, _, rfl, _⟩ := h; rfl) | (obtain ⟨_, _, _, _, _, _, _, _, _, _, _, _, _, _, _, _, _, _, _, _, rfl, _⟩ := h; rfl) | (obtain ⟨_, _, _, _, _, _, _, _, _, _, _, _, _, _, _, _, _, _, _, _, _, rfl, _⟩ := h; rfl) | (obtain ⟨_, _, _, _, _, _, _, _, _, _, _, _, _, _, _, _, _, _, _, _, _, _, rfl, _⟩ := h; rfl) | (obtain ⟨_, _, _, _, _, _, _, _, _, _, _, _, _, _, _, _, _, _, _, _, _, _, _, rfl, _⟩ := h; rfl) | (obtain ⟨_, _, _, _, _, _, _, _, _, _, _, _, _, _, _, _, _, _, _, _, _, _, _, _, rfl, _⟩ := h; rfl) | (obtain ⟨_, _, _, _, _, _, _, _, _, _, _, _, _, _, _, _, _, _, _, _, _, _, _, _, _, rfl, _⟩ := h; rfl)
theorem ok_p_pushed {f : Addr} {fd : FuncData} (F : Fun K "pushed" "pushed" s_p_pushed f fd) (B : Blt mg)  : FnOk P w K mg base CX0 K_p_pushed f fd PS_p_pushed (sp_p_pushed K) :=
  F.ok sc_p_pushed (fun vs H Q E h => len_p_pushed h) fun cdv A outer s H vs Q E hr h => ⟨_, d_p_pushed B hr, r_p_pushed (E := E) h⟩
theorem len_p_set_anew {vs : List V} {H : Hp} {Q : VK} {E : XK} (h : sp_p_set_anew K vs H Q E) : vs.length = PS_p_set_anew.length := by
  first | (obtain ⟨rfl, _⟩ := h; rfl) | (obtain ⟨_, rfl, _⟩ := h; rfl) | (obtain ⟨_, _, rfl, _⟩ := h; rfl) | (obtain ⟨_, _, _, rfl, _⟩ := h; rfl) | (obtain ⟨_, _, _, _, rfl, _⟩ := h; rfl) | (obtain ⟨_, _, _, _, _, rfl, _⟩ := h; rfl) | (obtain ⟨_, _, _, _, _, _, rfl, _⟩ := h; rfl) | (obtain ⟨_, _, _, _, _, _, _, rfl, _⟩ := h; rfl) | (obtain ⟨_, _, _, _, _, _, _, _, rfl, _⟩ := h; rfl) | (obtain ⟨_, _, _, _, _, _, _, _, _, rfl, _⟩ := h; rfl) | (obtain ⟨_, _, _, _, _, _, _, _, _, _, rfl, _⟩ := h; rfl) | (obtain ⟨_, _, _, _, _, _, _, _, _, _, _, rfl, _⟩ := h; rfl) | (obtain ⟨_, _, _, _, _, _, _, _, _, _, _, _, rfl, _⟩ := h; rfl) | (obtain ⟨_, _, _, _, _, _, _, _, _, _, _, _, _, rfl, _⟩ := h; rfl) | (obtain ⟨_, _, _, _, _, _, _, _, _, _, _, _, _, _, rfl, _⟩ := h; rfl) | (obtain ⟨_, _, _, _, _, _, _, _, _, _, _, _, _, _, _, rfl, _⟩ := h; rfl) | (obtain ⟨_, _, _, _, _, _, _, _, _, _, _, _, _, _, _, _, rfl, _⟩ := h; rfl) | (obtain ⟨_, _, _, _, _, _, _, _, _, _, _, _, _, _, _, _, _, rfl, _⟩ := h; rfl) | (obtain ⟨_, _, _, _, _, _, _, _, _, _, _, _, _, _, _, _, _, _, rfl, _⟩ := h; rfl) | (obtain ⟨_, _, _, _, _, _, _, _, _, _, _, _, _, _, _, _, _, _, _, rfl, _⟩ := h; rfl) | (obtain ⟨_, _, _, _, _, _, _, _, _, _, _, _, _, _, _, _, _, _, _, _, rfl, _⟩ := h; rfl) | (obtain ⟨_, _, _, _, _, _, _, _, _, _, _, _, _, _, _, _, _, _, _, _, _, rfl, _⟩ := h; rfl) | (obtain ⟨_, _, _, _, _, _, _, _, _, _, _, _, _, _, _, _, _, _, _, _, _, _, rfl, _⟩ := h; rfl) | (obtain ⟨_, _, _, _, _, _, _, _, _, _, _, _, _, _, _, _, _, _, _, _, _, _, _, rfl, _⟩ := h; rfl) | (obtain ⟨_, _, _, _, _, _, _, _, _, _, _, _, _, _, _, _, _, _, _, _, _, _, _, _, rfl, _⟩ := h; rfl) | (obtain ⟨_, _, _, _, _, _, _, _, _, _, _, _, _, _, _, _, _, _, _, _, _, _, _, _, _, rfl, _⟩ := h; rfl)
theorem ok_p_set_anew {f : Addr} {fd : FuncData} (F : Fun K "set_anew" "set_anew" s_p_set_anew f fd) (B : Blt mg) (c_p_pushed : Callee P w K mg base "pushed" PS_p_pushed K_p_pushed (sp_p_pushed K)) : FnOk P w K mg base CX0 K_p_set_anew f fd PS_p_set_anew (sp_p_set_anew K) :=
  F.ok sc_p_set_anew (fun vs H Q E h => len_p_set_anew h) fun cdv A outer s H vs Q E hr h => ⟨_, d_p_set_anew B c_p_pushed hr, r_p_set_anew (E := E) h⟩
theorem len_p_behind {vs : List V} {H : Hp} {Q : VK} {E : XK} (h : sp_p_behind K vs H Q E) : vs.length = PS_p_behind.length := by
  first | (obtain ⟨rfl, _⟩ := h; rfl) | (obtain ⟨_, rfl, _⟩ := h; rfl) | (obtain ⟨_, _, rfl, _⟩ := h; rfl) | (obtain ⟨_, _, _, rfl, _⟩ := h; rfl) | (obtain ⟨_, _, _, _, rfl, _⟩ := h; rfl) | (obtain ⟨_, _, _, _, _, rfl, _⟩ := h; rfl) | (obtain ⟨_, _, _, _, _, _, rfl, _⟩ := h; rfl) | (obtain ⟨_, _, _, _, _, _, _, rfl, _⟩ := h; rfl) | (obtain ⟨_, _, _, _, _, _, _, _, rfl, _⟩ := h; rfl) | (obtain ⟨_, _, _, _, _, _, _, _, _, rfl, _⟩ := h; rfl) | (obtain ⟨_, _, _, _, _, _, _, _, _, _, rfl, _⟩ := h; rfl) | (obtain ⟨_, _, _, _, _, _, _, _, _, _, _, rfl, _⟩ := h; rfl) | (obtain ⟨_, _, _, _, _, _, _, _, _, _, _, _, rfl, _⟩ := h; rfl) | (obtain ⟨_, _, _, _, _, _, _, _, _, _, _, _, _, rfl, _⟩ := h; rfl) | (obtain ⟨_, _, _, _, _, _, _, _, _, _, _, _, _, _, rfl, _⟩ := h; rfl) | (obtain ⟨_, _, _, _, _, _, _, _, _, _, _, _, _, _, _, rfl, _⟩ := h; rfl) | (obtain ⟨_, _, _, _, _, _, _, _, _, _, _, _, _, _, _, _, rfl, _⟩ := h; rfl) | (obtain ⟨_, _, _, _, _, _, _, _, _, _, _, _, _, _, _, _, _, rfl, _⟩ := h; rfl) | (obtain ⟨_, _, _, _, _, _, _, _, _, _, _, _, _, _, _, _, _, _, rfl, _⟩ := h; rfl) | (obtain ⟨_, _, _, _, _, _, _, _, _, _, _, _, _, _, _, _, _, _, _, rfl, _⟩ := h; rfl) | (obtain ⟨_, _, _, _, _, _, _, _, _, _, _, _, _, _, _, _, _, _, _, _, rfl, _⟩ := h; rfl) | (obtain ⟨_, _, _, _, _, _, _, _, _, _, _, _, _, _, _, _, _, _, _, _, _, rfl, _⟩ := h; rfl) | (obtain ⟨_, _, _, _, _, _, _, _, _, _, _, _, _, _, _, _, _, _, _, _, _, _, rfl, _⟩ := h; rfl) | (obtain ⟨_, _, _, _, _, _, _, _, _, _, _, _, _, _, _, _, _, _, _, _, _, _, _, rfl, _⟩ := h; rfl) | (obtain ⟨_, _, _, _, _, _, _, _, _, _, _, _, _, _, _, _, _, _, _, _, _, _, _, _, rfl, _⟩ := h; rfl) | (obtain ⟨_, _, _, _, _, _, _, _, _, _, _, _, _, _, _, _, _, _, _, _, _, _, _, _, _, rfl, _⟩ := h; rfl)
theorem ok_p_behind {f : Addr} {fd : FuncData} (F : Fun K "behind" "behind" s_p_behind f fd) (B : Blt mg) (c_p_set_anew : Callee P w K mg base "set_anew" PS_p_set_anew K_p_set_anew (sp_p_set_anew K)) (c_p_pushed : Callee P w K mg base "pushed" PS_p_pushed K_p_pushed (sp_p_pushed K)) : FnOk P w K mg base CX0 K_p_behind f fd PS_p_behind (sp_p_behind K) :=
  F.ok sc_p_behind (fun vs H Q E h => len_p_behind h) fun cdv A outer s H vs Q E hr h => ⟨_, d_p_behind B c_p_set_anew c_p_pushed hr, r_p_behind (E := E) h⟩
theorem len_near {vs : List V} {H : Hp} {Q : VK} {E : XK} (h : sp_near K vs H Q E) : vs.length = PS_near.length := by
  first | (obtain ⟨rfl, _⟩ := h; rfl) | (obtain ⟨_, rfl, _⟩ := h; rfl) | (obtain ⟨_, _, rfl, _⟩ := h; rfl) | (obtain ⟨_, _, _, rfl, _⟩ := h; rfl) | (obtain ⟨_, _, _, _, rfl, _⟩ := h; rfl) | (obtain ⟨_, _, _, _, _, rfl, _⟩ := h; rfl) | (obtain ⟨_, _, _, _, _, _, rfl, _⟩ := h; rfl) | (obtain ⟨_, _, _, _, _, _, _, rfl, _⟩ := h; rfl) | (obtain ⟨_, _, _, _, _, _, _, _, rfl, _⟩ := h; rfl) | (obtain ⟨_, _, _, _, _, _, _, _, _, rfl, _⟩ := h; rfl) | (obtain ⟨_, _, _, _, _, _, _, _, _, _, rfl, _⟩ := h; rfl) | (obtain ⟨_, _, _, _, _, _, _, _, _, _, _, rfl, _⟩ := h; rfl) | (obtain ⟨_, _, _, _, _, _, _, _, _, _, _, _, rfl, _⟩ := h; rfl) | (obtain ⟨_, _, _, _, _, _, _, _, _, _, _, _, _, rfl, _⟩ := h; rfl) | (obtain ⟨_, _, _, _, _, _, _, _, _, _, _, _, _, _, rfl, _⟩ := h; rfl) | (obtain ⟨_, _, _, _, _, _, _, _, _, _, _, _, _, _, _, rfl, _⟩ := h; rfl) | (obtain ⟨_, _, _, _, _, _, _, _, _, _, _, _, _, _, _, _, rfl, _⟩ := h; rfl) | (obtain ⟨_, _, _, _, _, _, _, _, _, _, _, _, _, _, _, _, _, rfl, _⟩ := h; rfl) | (obtain ⟨_, _, _, _, _, _, _, _, _, _, _, _, _, _, _, _, _, _, rfl, _⟩ := h; rfl) | (obtain ⟨_, _, _, _, _, _, _, _, _, _, _, _, _, _, _, _, _, _, _, rfl, _⟩ := h; rfl) | (obtain ⟨_, _, _, _, _, _, _, _, _, _, _, _, _, _, _, _, _, _, _, _, rfl, _⟩ := h; rfl) | (obtain ⟨_, _, _, _, _, _, _, _, _, _, _, _, _, _, _, _, _, _, _, _, _, rfl, _⟩ := h; rfl) | (obtain ⟨_, _, _, _, _, _, _, _, _, _, _, _, _, _, _, _, _, _, _, _, _, _, rfl, _⟩ := h; rfl) | (obtain ⟨_, _, _, _, _, _, _, _, _, _, _, _, _, _, _, _, _, _, _, _, _, _, _, rfl, _⟩ := h; rfl) | (obtain ⟨_, _, _, _, _, _, _, _, _, _, _, _, _, _, _, _, _, _, _, _, _, _, _, _, rfl, _⟩ := h; rfl) | (obtain ⟨_, _, _, _, _, _, _, _, _, _, _, _, _, _, _, _, _, _, _, _, _, _, _, _, _, rfl, _⟩ := h; rfl)
theorem ok_near {f : Addr} {fd : FuncData} (F : Fun K "_law_near" "_law_near" s_near f fd) (B : Blt mg) (c_draw : Callee P w K mg base "_law_draw" PS_draw K_draw (sp_draw K)) : FnOk P w K mg base CX0 K_near f fd PS_near (sp_near K) :=
  F.ok sc_near (fun vs H Q E h => len_near h) fun cdv A outer s H vs Q E hr h => ⟨_, d_near B c_draw hr, r_near (E := E) h⟩
theorem len_belt {vs : List V} {H : Hp} {Q : VK} {E : XK} (h : sp_belt K vs H Q E) : vs.length = PS_belt.length := by
  first | (obtain ⟨rfl, _⟩ := h; rfl) | (obtain ⟨_, rfl, _⟩ := h; rfl) | (obtain ⟨_, _, rfl, _⟩ := h; rfl) | (obtain ⟨_, _, _, rfl, _⟩ := h; rfl) | (obtain ⟨_, _, _, _, rfl, _⟩ := h; rfl) | (obtain ⟨_, _, _, _, _, rfl, _⟩ := h; rfl) | (obtain ⟨_, _, _, _, _, _, rfl, _⟩ := h; rfl) | (obtain ⟨_, _, _, _, _, _, _, rfl, _⟩ := h; rfl) | (obtain ⟨_, _, _, _, _, _, _, _, rfl, _⟩ := h; rfl) | (obtain ⟨_, _, _, _, _, _, _, _, _, rfl, _⟩ := h; rfl) | (obtain ⟨_, _, _, _, _, _, _, _, _, _, rfl, _⟩ := h; rfl) | (obtain ⟨_, _, _, _, _, _, _, _, _, _, _, rfl, _⟩ := h; rfl) | (obtain ⟨_, _, _, _, _, _, _, _, _, _, _, _, rfl, _⟩ := h; rfl) | (obtain ⟨_, _, _, _, _, _, _, _, _, _, _, _, _, rfl, _⟩ := h; rfl) | (obtain ⟨_, _, _, _, _, _, _, _, _, _, _, _, _, _, rfl, _⟩ := h; rfl) | (obtain ⟨_, _, _, _, _, _, _, _, _, _, _, _, _, _, _, rfl, _⟩ := h; rfl) | (obtain ⟨_, _, _, _, _, _, _, _, _, _, _, _, _, _, _, _, rfl, _⟩ := h; rfl) | (obtain ⟨_, _, _, _, _, _, _, _, _, _, _, _, _, _, _, _, _, rfl, _⟩ := h; rfl) | (obtain ⟨_, _, _, _, _, _, _, _, _, _, _, _, _, _, _, _, _, _, rfl, _⟩ := h; rfl) | (obtain ⟨_, _, _, _, _, _, _, _, _, _, _, _, _, _, _, _, _, _, _, rfl, _⟩ := h; rfl) | (obtain ⟨_, _, _, _, _, _, _, _, _, _, _, _, _, _, _, _, _, _, _, _, rfl, _⟩ := h; rfl) | (obtain ⟨_, _, _, _, _, _, _, _, _, _, _, _, _, _, _, _, _, _, _, _, _, rfl, _⟩ := h; rfl) | (obtain ⟨_, _, _, _, _, _, _, _, _, _, _, _, _, _, _, _, _, _, _, _, _, _, rfl, _⟩ := h; rfl) | (obtain ⟨_, _, _, _, _, _, _, _, _, _, _, _, _, _, _, _, _, _, _, _, _, _, _, rfl, _⟩ := h; rfl) | (obtain ⟨_, _, _, _, _, _, _, _, _, _, _, _, _, _, _, _, _, _, _, _, _, _, _, _, rfl, _⟩ := h; rfl) | (obtain ⟨_, _, _, _, _, _, _, _, _, _, _, _, _, _, _, _, _, _, _, _, _, _, _, _, _, rfl, _⟩ := h; rfl)
theorem ok_belt {f : Addr} {fd : FuncData} (F : Fun K "_law_belt" "_law_belt" s_belt f fd) (B : Blt mg) (c_draw : Callee P w K mg base "_law_draw" PS_draw K_draw (sp_draw K)) : FnOk P w K mg base CX0 K_belt f fd PS_belt (sp_belt K) :=
  F.ok sc_belt (fun vs H Q E h => len_belt h) fun cdv A outer s H vs Q E hr h => ⟨_, d_belt B c_draw hr, r_belt (E := E) h⟩
theorem len_weaker {vs : List V} {H : Hp} {Q : VK} {E : XK} (h : sp_weaker K vs H Q E) : vs.length = PS_weaker.length := by
  first | (obtain ⟨rfl, _⟩ := h; rfl) | (obtain ⟨_, rfl, _⟩ := h; rfl) | (obtain ⟨_, _, rfl, _⟩ := h; rfl) | (obtain ⟨_, _, _, rfl, _⟩ := h; rfl) | (obtain ⟨_, _, _, _, rfl, _⟩ := h; rfl) | (obtain ⟨_, _, _, _, _, rfl, _⟩ := h; rfl) | (obtain ⟨_, _, _, _, _, _, rfl, _⟩ := h; rfl) | (obtain ⟨_, _, _, _, _, _, _, rfl, _⟩ := h; rfl) | (obtain ⟨_, _, _, _, _, _, _, _, rfl, _⟩ := h; rfl) | (obtain ⟨_, _, _, _, _, _, _, _, _, rfl, _⟩ := h; rfl) | (obtain ⟨_, _, _, _, _, _, _, _, _, _, rfl, _⟩ := h; rfl) | (obtain ⟨_, _, _, _, _, _, _, _, _, _, _, rfl, _⟩ := h; rfl) | (obtain ⟨_, _, _, _, _, _, _, _, _, _, _, _, rfl, _⟩ := h; rfl) | (obtain ⟨_, _, _, _, _, _, _, _, _, _, _, _, _, rfl, _⟩ := h; rfl) | (obtain ⟨_, _, _, _, _, _, _, _, _, _, _, _, _, _, rfl, _⟩ := h; rfl) | (obtain ⟨_, _, _, _, _, _, _, _, _, _, _, _, _, _, _, rfl, _⟩ := h; rfl) | (obtain ⟨_, _, _, _, _, _, _, _, _, _, _, _, _, _, _, _, rfl, _⟩ := h; rfl) | (obtain ⟨_, _, _, _, _, _, _, _, _, _, _, _, _, _, _, _, _, rfl, _⟩ := h; rfl) | (obtain ⟨_, _, _, _, _, _, _, _, _, _, _, _, _, _, _, _, _, _, rfl, _⟩ := h; rfl) | (obtain ⟨_, _, _, _, _, _, _, _, _, _, _, _, _, _, _, _, _, _, _, rfl, _⟩ := h; rfl) | (obtain ⟨_, _, _, _, _, _, _, _, _, _, _, _, _, _, _, _, _, _, _, _, rfl, _⟩ := h; rfl) | (obtain ⟨_, _, _, _, _, _, _, _, _, _, _, _, _, _, _, _, _, _, _, _, _, rfl, _⟩ := h; rfl) | (obtain ⟨_, _, _, _, _, _, _, _, _, _, _, _, _, _, _, _, _, _, _, _, _, _, rfl, _⟩ := h; rfl) | (obtain ⟨_, _, _, _, _, _, _, _, _, _, _, _, _, _, _, _, _, _, _, _, _, _, _, rfl, _⟩ := h; rfl) | (obtain ⟨_, _, _, _, _, _, _, _, _, _, _, _, _, _, _, _, _, _, _, _, _, _, _, _, rfl, _⟩ := h; rfl) | (obtain ⟨_, _, _, _, _, _, _, _, _, _, _, _, _, _, _, _, _, _, _, _, _, _, _, _, _, rfl, _⟩ := h; rfl)
theorem ok_weaker {f : Addr} {fd : FuncData} (F : Fun K "_law_weaker" "_law_weaker" s_weaker f fd) (B : Blt mg)  : FnOk P w K mg base CX0 K_weaker f fd PS_weaker (sp_weaker K) :=
  F.ok sc_weaker (fun vs H Q E h => len_weaker h) fun cdv A outer s H vs Q E hr h => ⟨_, d_weaker B hr, r_weaker (E := E) h⟩
theorem len_p_weaker {vs : List V} {H : Hp} {Q : VK} {E : XK} (h : sp_p_weaker K vs H Q E) : vs.length = PS_p_weaker.length := by
  first | (obtain ⟨rfl, _⟩ := h; rfl) | (obtain ⟨_, rfl, _⟩ := h; rfl) | (obtain ⟨_, _, rfl, _⟩ := h; rfl) | (obtain ⟨_, _, _, rfl, _⟩ := h; rfl) | (obtain ⟨_, _, _, _, rfl, _⟩ := h; rfl) | (obtain ⟨_, _, _, _, _, rfl, _⟩ := h; rfl) | (obtain ⟨_, _, _, _, _, _, rfl, _⟩ := h; rfl) | (obtain ⟨_, _, _, _, _, _, _, rfl, _⟩ := h; rfl) | (obtain ⟨_, _, _, _, _, _, _, _, rfl, _⟩ := h; rfl) | (obtain ⟨_, _, _, _, _, _, _, _, _, rfl, _⟩ := h; rfl) | (obtain ⟨_, _, _, _, _, _, _, _, _, _, rfl, _⟩ := h; rfl) | (obtain ⟨_, _, _, _, _, _, _, _, _, _, _, rfl, _⟩ := h; rfl) | (obtain ⟨_, _, _, _, _, _, _, _, _, _, _, _, rfl, _⟩ := h; rfl) | (obtain ⟨_, _, _, _, _, _, _, _, _, _, _, _, _, rfl, _⟩ := h; rfl) | (obtain ⟨_, _, _, _, _, _, _, _, _, _, _, _, _, _, rfl, _⟩ := h; rfl) | (obtain ⟨_, _, _, _, _, _, _, _, _, _, _, _, _, _, _, rfl, _⟩ := h; rfl) | (obtain ⟨_, _, _, _, _, _, _, _, _, _, _, _, _, _, _, _, rfl, _⟩ := h; rfl) | (obtain ⟨_, _, _, _, _, _, _, _, _, _, _, _, _, _, _, _, _, rfl, _⟩ := h; rfl) | (obtain ⟨_, _, _, _, _, _, _, _, _, _, _, _, _, _, _, _, _, _, rfl, _⟩ := h; rfl) | (obtain ⟨_, _, _, _, _, _, _, _, _, _, _, _, _, _, _, _, _, _, _, rfl, _⟩ := h; rfl) | (obtain ⟨_, _, _, _, _, _, _, _, _, _, _, _, _, _, _, _, _, _, _, _, rfl, _⟩ := h; rfl) | (obtain ⟨_, _, _, _, _, _, _, _, _, _, _, _, _, _, _, _, _, _, _, _, _, rfl, _⟩ := h; rfl) | (obtain ⟨_, _, _, _, _, _, _, _, _, _, _, _, _, _, _, _, _, _, _, _, _, _, rfl, _⟩ := h; rfl) | (obtain ⟨_, _, _, _, _, _, _, _, _, _, _, _, _, _, _, _, _, _, _, _, _, _, _, rfl, _⟩ := h; rfl) | (obtain ⟨_, _, _, _, _, _, _, _, _, _, _, _, _, _, _, _, _, _, _, _, _, _, _, _, rfl, _⟩ := h; rfl) | (obtain ⟨_, _, _, _, _, _, _, _, _, _, _, _, _, _, _, _, _, _, _, _, _, _, _, _, _, rfl, _⟩ := h; rfl)
theorem ok_p_weaker {f : Addr} {fd : FuncData} (F : Fun K "weaker" "weaker" s_p_weaker f fd) (B : Blt mg)  : FnOk P w K mg base CX0 K_p_weaker f fd PS_p_weaker (sp_p_weaker K) :=
  F.ok sc_p_weaker (fun vs H Q E h => len_p_weaker h) fun cdv A outer s H vs Q E hr h => ⟨_, d_p_weaker B hr, r_p_weaker (E := E) h⟩
theorem len_names {vs : List V} {H : Hp} {Q : VK} {E : XK} (h : sp_names K vs H Q E) : vs.length = PS_names.length := by
  first | (obtain ⟨rfl, _⟩ := h; rfl) | (obtain ⟨_, rfl, _⟩ := h; rfl) | (obtain ⟨_, _, rfl, _⟩ := h; rfl) | (obtain ⟨_, _, _, rfl, _⟩ := h; rfl) | (obtain ⟨_, _, _, _, rfl, _⟩ := h; rfl) | (obtain ⟨_, _, _, _, _, rfl, _⟩ := h; rfl) | (obtain ⟨_, _, _, _, _, _, rfl, _⟩ := h; rfl) | (obtain ⟨_, _, _, _, _, _, _, rfl, _⟩ := h; rfl) | (obtain ⟨_, _, _, _, _, _, _, _, rfl, _⟩ := h; rfl) | (obtain ⟨_, _, _, _, _, _, _, _, _, rfl, _⟩ := h; rfl) | (obtain ⟨_, _, _, _, _, _, _, _, _, _, rfl, _⟩ := h; rfl) | (obtain ⟨_, _, _, _, _, _, _, _, _, _, _, rfl, _⟩ := h; rfl) | (obtain ⟨_, _, _, _, _, _, _, _, _, _, _, _, rfl, _⟩ := h; rfl) | (obtain ⟨_, _, _, _, _, _, _, _, _, _, _, _, _, rfl, _⟩ := h; rfl) | (obtain ⟨_, _, _, _, _, _, _, _, _, _, _, _, _, _, rfl, _⟩ := h; rfl) | (obtain ⟨_, _, _, _, _, _, _, _, _, _, _, _, _, _, _, rfl, _⟩ := h; rfl) | (obtain ⟨_, _, _, _, _, _, _, _, _, _, _, _, _, _, _, _, rfl, _⟩ := h; rfl) | (obtain ⟨_, _, _, _, _, _, _, _, _, _, _, _, _, _, _, _, _, rfl, _⟩ := h; rfl) | (obtain ⟨_, _, _, _, _, _, _, _, _, _, _, _, _, _, _, _, _, _, rfl, _⟩ := h; rfl) | (obtain ⟨_, _, _, _, _, _, _, _, _, _, _, _, _, _, _, _, _, _, _, rfl, _⟩ := h; rfl) | (obtain ⟨_, _, _, _, _, _, _, _, _, _, _, _, _, _, _, _, _, _, _, _, rfl, _⟩ := h; rfl) | (obtain ⟨_, _, _, _, _, _, _, _, _, _, _, _, _, _, _, _, _, _, _, _, _, rfl, _⟩ := h; rfl) | (obtain ⟨_, _, _, _, _, _, _, _, _, _, _, _, _, _, _, _, _, _, _, _, _, _, rfl, _⟩ := h; rfl) | (obtain ⟨_, _, _, _, _, _, _, _, _, _, _, _, _, _, _, _, _, _, _, _, _, _, _, rfl, _⟩ := h; rfl) | (obtain ⟨_, _, _, _, _, _, _, _, _, _, _, _, _, _, _, _, _, _, _, _, _, _, _, _, rfl, _⟩ := h; rfl) | (obtain ⟨_, _, _, _, _, _, _, _, _, _, _, _, _, _, _, _, _, _, _, _, _, _, _, _, _, rfl, _⟩ := h; rfl)
theorem ok_names {f : Addr} {fd : FuncData} (F : Fun K "_law_names" "_law_names" s_names f fd) (B : Blt mg) (c_draw : Callee P w K mg base "_law_draw" PS_draw K_draw (sp_draw K)) : FnOk P w K mg base CX0 K_names f fd PS_names (sp_names K) :=
  F.ok sc_names (fun vs H Q E h => len_names h) fun cdv A outer s H vs Q E hr h => ⟨_, d_names B c_draw hr, r_names (E := E) h⟩
theorem len_law {vs : List V} {H : Hp} {Q : VK} {E : XK} (h : sp_law K vs H Q E) : vs.length = PS_law.length := by
  first | (obtain ⟨rfl, _⟩ := h; rfl) | (obtain ⟨_, rfl, _⟩ := h; rfl) | (obtain ⟨_, _, rfl, _⟩ := h; rfl) | (obtain ⟨_, _, _, rfl, _⟩ := h; rfl) | (obtain ⟨_, _, _, _, rfl, _⟩ := h; rfl) | (obtain ⟨_, _, _, _, _, rfl, _⟩ := h; rfl) | (obtain ⟨_, _, _, _, _, _, rfl, _⟩ := h; rfl) | (obtain ⟨_, _, _, _, _, _, _, rfl, _⟩ := h; rfl) | (obtain ⟨_, _, _, _, _, _, _, _, rfl, _⟩ := h; rfl) | (obtain ⟨_, _, _, _, _, _, _, _, _, rfl, _⟩ := h; rfl) | (obtain ⟨_, _, _, _, _, _, _, _, _, _, rfl, _⟩ := h; rfl) | (obtain ⟨_, _, _, _, _, _, _, _, _, _, _, rfl, _⟩ := h; rfl) | (obtain ⟨_, _, _, _, _, _, _, _, _, _, _, _, rfl, _⟩ := h; rfl) | (obtain ⟨_, _, _, _, _, _, _, _, _, _, _, _, _, rfl, _⟩ := h; rfl) | (obtain ⟨_, _, _, _, _, _, _, _, _, _, _, _, _, _, rfl, _⟩ := h; rfl) | (obtain ⟨_, _, _, _, _, _, _, _, _, _, _, _, _, _, _, rfl, _⟩ := h; rfl) | (obtain ⟨_, _, _, _, _, _, _, _, _, _, _, _, _, _, _, _, rfl, _⟩ := h; rfl) | (obtain ⟨_, _, _, _, _, _, _, _, _, _, _, _, _, _, _, _, _, rfl, _⟩ := h; rfl) | (obtain ⟨_, _, _, _, _, _, _, _, _, _, _, _, _, _, _, _, _, _, rfl, _⟩ := h; rfl) | (obtain ⟨_, _, _, _, _, _, _, _, _, _, _, _, _, _, _, _, _, _, _, rfl, _⟩ := h; rfl) | (obtain ⟨_, _, _, _, _, _, _, _, _, _, _, _, _, _, _, _, _, _, _, _, rfl, _⟩ := h; rfl) | (obtain ⟨_, _, _, _, _, _, _, _, _, _, _, _, _, _, _, _, _, _, _, _, _, rfl, _⟩ := h; rfl) | (obtain ⟨_, _, _, _, _, _, _, _, _, _, _, _, _, _, _, _, _, _, _, _, _, _, rfl, _⟩ := h; rfl) | (obtain ⟨_, _, _, _, _, _, _, _, _, _, _, _, _, _, _, _, _, _, _, _, _, _, _, rfl, _⟩ := h; rfl) | (obtain ⟨_, _, _, _, _, _, _, _, _, _, _, _, _, _, _, _, _, _, _, _, _, _, _, _, rfl, _⟩ := h; rfl) | (obtain ⟨_, _, _, _, _, _, _, _, _, _, _, _, _, _, _, _, _, _, _, _, _, _, _, _, _, rfl, _⟩ := h; rfl)
theorem ok_law {f : Addr} {fd : FuncData} (F : Fun K "law" "law" s_law f fd) (B : Blt mg) (c_draw : Callee P w K mg base "_law_draw" PS_draw K_draw (sp_draw K)) (c_rows : Callee P w K mg base "_law_rows" PS_rows K_rows (sp_rows K)) (c_behind : Callee P w K mg base "_law_behind" PS_behind K_behind (sp_behind K)) (c_p_behind : Callee P w K mg base "behind" PS_p_behind K_p_behind (sp_p_behind K)) (c_near : Callee P w K mg base "_law_near" PS_near K_near (sp_near K)) (c_belt : Callee P w K mg base "_law_belt" PS_belt K_belt (sp_belt K)) (c_weaker : Callee P w K mg base "_law_weaker" PS_weaker K_weaker (sp_weaker K)) (c_p_weaker : Callee P w K mg base "weaker" PS_p_weaker K_p_weaker (sp_p_weaker K)) (c_names : Callee P w K mg base "_law_names" PS_names K_names (sp_names K)) : FnOk P w K mg base CX0 K_law f fd PS_law (sp_law K) :=
  F.ok sc_law (fun vs H Q E h => len_law h) fun cdv A outer s H vs Q E hr h => ⟨_, d_law B c_draw c_rows c_behind c_p_behind c_near c_belt c_weaker c_p_weaker c_names hr, r_law (E := E) h⟩
end
theorem all_mk {l : PySem.W.OpenLaw} {w : World} {K : PySem.W.Frag} {h : Heap} {mg : Str → Option Value} {fa : Addr} (X : K.In h) (G : h.Ns mainGlobals mg) (hfa : mg "law" = some (.ref fa))
    {od0 an0 : Option Addr} {sl0 : Array (Option Value)} {oc0 kV0 dc0 pm0 cd0 ct0 : Value} {f0 : Addr}
    (a0 : PySem.W.nsIn K mainGlobals "_law_draw" = some (some (.ref f0)))
    (l0 : K.lookup f0 = some ⟨oc0, od0, .func (PySem.W.fnOf "_law_draw" "_law_draw" (defArgs s_draw) (defBody s_draw) (defScope s_draw) .none kV0 dc0 pm0 an0 cd0 ct0), sl0⟩) (c0 : PySem.W.codeIn K cd0 "_law_draw" = true) (k0 : PySem.W.keepIn K (.ref f0) = true)
    {od1 an1 : Option Addr} {sl1 : Array (Option Value)} {oc1 kV1 dc1 pm1 cd1 ct1 : Value} {f1 : Addr}
    (a1 : PySem.W.nsIn K mainGlobals "_law_rows" = some (some (.ref f1)))
    (l1 : K.lookup f1 = some ⟨oc1, od1, .func (PySem.W.fnOf "_law_rows" "_law_rows" (defArgs s_rows) (defBody s_rows) (defScope s_rows) .none kV1 dc1 pm1 an1 cd1 ct1), sl1⟩) (c1 : PySem.W.codeIn K cd1 "_law_rows" = true) (k1 : PySem.W.keepIn K (.ref f1) = true)
    {od2 an2 : Option Addr} {sl2 : Array (Option Value)} {oc2 kV2 dc2 pm2 cd2 ct2 : Value} {f2 : Addr}
    (a2 : PySem.W.nsIn K mainGlobals "_law_behind" = some (some (.ref f2)))
    (l2 : K.lookup f2 = some ⟨oc2, od2, .func (PySem.W.fnOf "_law_behind" "_law_behind" (defArgs s_behind) (defBody s_behind) (defScope s_behind) .none kV2 dc2 pm2 an2 cd2 ct2), sl2⟩) (c2 : PySem.W.codeIn K cd2 "_law_behind" = true) (k2 : PySem.W.keepIn K (.ref f2) = true)
    {od3 an3 : Option Addr} {sl3 : Array (Option Value)} {oc3 kV3 dc3 pm3 cd3 ct3 : Value} {f3 : Addr}
    (a3 : PySem.W.nsIn K mainGlobals "pushed" = some (some (.ref f3)))
    (l3 : K.lookup f3 = some ⟨oc3, od3, .func (PySem.W.fnOf "pushed" "pushed" (defArgs s_p_pushed) (defBody s_p_pushed) (defScope s_p_pushed) .none kV3 dc3 pm3 an3 cd3 ct3), sl3⟩) (c3 : PySem.W.codeIn K cd3 "pushed" = true) (k3 : PySem.W.keepIn K (.ref f3) = true)
    {od4 an4 : Option Addr} {sl4 : Array (Option Value)} {oc4 kV4 dc4 pm4 cd4 ct4 : Value} {f4 : Addr}
    (a4 : PySem.W.nsIn K mainGlobals "set_anew" = some (some (.ref f4)))
    (l4 : K.lookup f4 = some ⟨oc4, od4, .func (PySem.W.fnOf "set_anew" "set_anew" (defArgs s_p_set_anew) (defBody s_p_set_anew) (defScope s_p_set_anew) .none kV4 dc4 pm4 an4 cd4 ct4), sl4⟩) (c4 : PySem.W.codeIn K cd4 "set_anew" = true) (k4 : PySem.W.keepIn K (.ref f4) = true)
    {od5 an5 : Option Addr} {sl5 : Array (Option Value)} {oc5 kV5 dc5 pm5 cd5 ct5 : Value} {f5 : Addr}
    (a5 : PySem.W.nsIn K mainGlobals "behind" = some (some (.ref f5)))
    (l5 : K.lookup f5 = some ⟨oc5, od5, .func (PySem.W.fnOf "behind" "behind" (defArgs s_p_behind) (defBody s_p_behind) (defScope s_p_behind) .none kV5 dc5 pm5 an5 cd5 ct5), sl5⟩) (c5 : PySem.W.codeIn K cd5 "behind" = true) (k5 : PySem.W.keepIn K (.ref f5) = true)
    {od6 an6 : Option Addr} {sl6 : Array (Option Value)} {oc6 kV6 dc6 pm6 cd6 ct6 : Value} {f6 : Addr}
    (a6 : PySem.W.nsIn K mainGlobals "_law_near" = some (some (.ref f6)))
    (l6 : K.lookup f6 = some ⟨oc6, od6, .func (PySem.W.fnOf "_law_near" "_law_near" (defArgs s_near) (defBody s_near) (defScope s_near) .none kV6 dc6 pm6 an6 cd6 ct6), sl6⟩) (c6 : PySem.W.codeIn K cd6 "_law_near" = true) (k6 : PySem.W.keepIn K (.ref f6) = true)
    {od7 an7 : Option Addr} {sl7 : Array (Option Value)} {oc7 kV7 dc7 pm7 cd7 ct7 : Value} {f7 : Addr}
    (a7 : PySem.W.nsIn K mainGlobals "_law_belt" = some (some (.ref f7)))
    (l7 : K.lookup f7 = some ⟨oc7, od7, .func (PySem.W.fnOf "_law_belt" "_law_belt" (defArgs s_belt) (defBody s_belt) (defScope s_belt) .none kV7 dc7 pm7 an7 cd7 ct7), sl7⟩) (c7 : PySem.W.codeIn K cd7 "_law_belt" = true) (k7 : PySem.W.keepIn K (.ref f7) = true)
    {od8 an8 : Option Addr} {sl8 : Array (Option Value)} {oc8 kV8 dc8 pm8 cd8 ct8 : Value} {f8 : Addr}
    (a8 : PySem.W.nsIn K mainGlobals "_law_weaker" = some (some (.ref f8)))
    (l8 : K.lookup f8 = some ⟨oc8, od8, .func (PySem.W.fnOf "_law_weaker" "_law_weaker" (defArgs s_weaker) (defBody s_weaker) (defScope s_weaker) .none kV8 dc8 pm8 an8 cd8 ct8), sl8⟩) (c8 : PySem.W.codeIn K cd8 "_law_weaker" = true) (k8 : PySem.W.keepIn K (.ref f8) = true)
    {od9 an9 : Option Addr} {sl9 : Array (Option Value)} {oc9 kV9 dc9 pm9 cd9 ct9 : Value} {f9 : Addr}
    (a9 : PySem.W.nsIn K mainGlobals "weaker" = some (some (.ref f9)))
    (l9 : K.lookup f9 = some ⟨oc9, od9, .func (PySem.W.fnOf "weaker" "weaker" (defArgs s_p_weaker) (defBody s_p_weaker) (defScope s_p_weaker) .none kV9 dc9 pm9 an9 cd9 ct9), sl9⟩) (c9 : PySem.W.codeIn K cd9 "weaker" = true) (k9 : PySem.W.keepIn K (.ref f9) = true)
    {od10 an10 : Option Addr} {sl10 : Array (Option Value)} {oc10 kV10 dc10 pm10 cd10 ct10 : Value} {f10 : Addr}
    (a10 : PySem.W.nsIn K mainGlobals "_law_names" = some (some (.ref f10)))
    (l10 : K.lookup f10 = some ⟨oc10, od10, .func (PySem.W.fnOf "_law_names" "_law_names" (defArgs s_names) (defBody s_names) (defScope s_names) .none kV10 dc10 pm10 an10 cd10 ct10), sl10⟩) (c10 : PySem.W.codeIn K cd10 "_law_names" = true) (k10 : PySem.W.keepIn K (.ref f10) = true)
    {od11 an11 : Option Addr} {sl11 : Array (Option Value)} {oc11 kV11 dc11 pm11 cd11 ct11 : Value} {f11 : Addr}
    (a11 : PySem.W.nsIn K mainGlobals "law" = some (some (.ref f11)))
    (l11 : K.lookup f11 = some ⟨oc11, od11, .func (PySem.W.fnOf "law" "law" (defArgs s_law) (defBody s_law) (defScope s_law) .none kV11 dc11 pm11 an11 cd11 ct11), sl11⟩) (c11 : PySem.W.codeIn K cd11 "law" = true) (k11 : PySem.W.keepIn K (.ref f11) = true)
    (z_len : PySem.W.nsIn K mainGlobals "len" = some none) (z_range : PySem.W.nsIn K mainGlobals "range" = some none) (z_divmod : PySem.W.nsIn K mainGlobals "divmod" = some none) (z_max : PySem.W.nsIn K mainGlobals "max" = some none) (z_min : PySem.W.nsIn K mainGlobals "min" = some none) (z_sum : PySem.W.nsIn K mainGlobals "sum" = some none) (z_all : PySem.W.nsIn K mainGlobals "all" = some none) (z_isinstance : PySem.W.nsIn K mainGlobals "isinstance" = some none) (z_int : PySem.W.nsIn K mainGlobals "int" = some none) (z_bool : PySem.W.nsIn K mainGlobals "bool" = some none) (z_list : PySem.W.nsIn K mainGlobals "list" = some none) (z_tuple : PySem.W.nsIn K mainGlobals "tuple" = some none) (z_enumerate : PySem.W.nsIn K mainGlobals "enumerate" = some none) (z_zip : PySem.W.nsIn K mainGlobals "zip" = some none) (z_sorted : PySem.W.nsIn K mainGlobals "sorted" = some none) (z_set : PySem.W.nsIn K mainGlobals "set" = some none) (z_dict : PySem.W.nsIn K mainGlobals "dict" = some none) (z_str : PySem.W.nsIn K mainGlobals "str" = some none) (z_any : PySem.W.nsIn K mainGlobals "any" = some none) (z_reversed : PySem.W.nsIn K mainGlobals "reversed" = some none) (z_abs : PySem.W.nsIn K mainGlobals "abs" = some none) :
    ∃ fd : FuncData, (∀ (s : Shared) (v : Value), BindsTo s fd ⟨[v], []⟩ [("_law_script", v)]) ∧ ∀ base : Heap, K.In base → base.Ns mainGlobals mg → FnOk l.prog w K mg base CX0 K_law fa fd PS_law (sp_law K) := by
  have e := hfa.symm.trans (PySem.W.mg_of X G a11)
  cases e
  have B : Blt mg := ⟨PySem.W.mg_none_of X G z_len, PySem.W.mg_none_of X G z_range, PySem.W.mg_none_of X G z_divmod, PySem.W.mg_none_of X G z_max, PySem.W.mg_none_of X G z_min, PySem.W.mg_none_of X G z_sum, PySem.W.mg_none_of X G z_all, PySem.W.mg_none_of X G z_isinstance, PySem.W.mg_none_of X G z_int, PySem.W.mg_none_of X G z_bool, PySem.W.mg_none_of X G z_list, PySem.W.mg_none_of X G z_tuple, PySem.W.mg_none_of X G z_enumerate, PySem.W.mg_none_of X G z_zip, PySem.W.mg_none_of X G z_sorted, PySem.W.mg_none_of X G z_set, PySem.W.mg_none_of X G z_dict, PySem.W.mg_none_of X G z_str, PySem.W.mg_none_of X G z_any, PySem.W.mg_none_of X G z_reversed, PySem.W.mg_none_of X G z_abs⟩
  have F0 := fun_mk (st := s_draw) l0 c0 k0
  have b0 := F0.binds (ps := PS_draw) fun _ _ _ _ _ _ us hl => match us, hl with | [_, _], _ => rfl
  have F1 := fun_mk (st := s_rows) l1 c1 k1
  have b1 := F1.binds (ps := PS_rows) fun _ _ _ _ _ _ us hl => match us, hl with | [_, _, _], _ => rfl
  have F2 := fun_mk (st := s_behind) l2 c2 k2
  have b2 := F2.binds (ps := PS_behind) fun _ _ _ _ _ _ us hl => match us, hl with | [_, _, _], _ => rfl
  have F3 := fun_mk (st := s_p_pushed) l3 c3 k3
  have b3 := F3.binds (ps := PS_p_pushed) fun _ _ _ _ _ _ us hl => match us, hl with | [_, _], _ => rfl
  have F4 := fun_mk (st := s_p_set_anew) l4 c4 k4
  have b4 := F4.binds (ps := PS_p_set_anew) fun _ _ _ _ _ _ us hl => match us, hl with | [_, _], _ => rfl
  have F5 := fun_mk (st := s_p_behind) l5 c5 k5
  have b5 := F5.binds (ps := PS_p_behind) fun _ _ _ _ _ _ us hl => match us, hl with | [_, _, _], _ => rfl
  have F6 := fun_mk (st := s_near) l6 c6 k6
  have b6 := F6.binds (ps := PS_near) fun _ _ _ _ _ _ us hl => match us, hl with | [_, _, _], _ => rfl
  have F7 := fun_mk (st := s_belt) l7 c7 k7
  have b7 := F7.binds (ps := PS_belt) fun _ _ _ _ _ _ us hl => match us, hl with | [_, _, _], _ => rfl
  have F8 := fun_mk (st := s_weaker) l8 c8 k8
  have b8 := F8.binds (ps := PS_weaker) fun _ _ _ _ _ _ us hl => match us, hl with | [_, _], _ => rfl
  have F9 := fun_mk (st := s_p_weaker) l9 c9 k9
  have b9 := F9.binds (ps := PS_p_weaker) fun _ _ _ _ _ _ us hl => match us, hl with | [_, _], _ => rfl
  have F10 := fun_mk (st := s_names) l10 c10 k10
  have b10 := F10.binds (ps := PS_names) fun _ _ _ _ _ _ us hl => match us, hl with | [_, _], _ => rfl
  have F11 := fun_mk (st := s_law) l11 c11 k11
  refine ⟨PySem.W.fnOf "law" "law" (defArgs s_law) (defBody s_law) (defScope s_law) .none kV11 dc11 pm11 an11 cd11 ct11, fun s v => .of_eq rfl, fun base _ _ => ?_⟩
  have c_draw : Callee l.prog w K mg base "_law_draw" PS_draw K_draw (sp_draw K) := ⟨⟨_, _, PySem.W.mg_of X G a0, k0, b0, ok_draw F0 B⟩⟩
  have c_rows : Callee l.prog w K mg base "_law_rows" PS_rows K_rows (sp_rows K) := ⟨⟨_, _, PySem.W.mg_of X G a1, k1, b1, ok_rows F1 B c_draw⟩⟩
  have c_behind : Callee l.prog w K mg base "_law_behind" PS_behind K_behind (sp_behind K) := ⟨⟨_, _, PySem.W.mg_of X G a2, k2, b2, ok_behind F2 B⟩⟩
  have c_p_pushed : Callee l.prog w K mg base "pushed" PS_p_pushed K_p_pushed (sp_p_pushed K) := ⟨⟨_, _, PySem.W.mg_of X G a3, k3, b3, ok_p_pushed F3 B⟩⟩
  have c_p_set_anew : Callee l.prog w K mg base "set_anew" PS_p_set_anew K_p_set_anew (sp_p_set_anew K) := ⟨⟨_, _, PySem.W.mg_of X G a4, k4, b4, ok_p_set_anew F4 B c_p_pushed⟩⟩
  have c_p_behind : Callee l.prog w K mg base "behind" PS_p_behind K_p_behind (sp_p_behind K) := ⟨⟨_, _, PySem.W.mg_of X G a5, k5, b5, ok_p_behind F5 B c_p_set_anew c_p_pushed⟩⟩
  have c_near : Callee l.prog w K mg base "_law_near" PS_near K_near (sp_near K) := ⟨⟨_, _, PySem.W.mg_of X G a6, k6, b6, ok_near F6 B c_draw⟩⟩
  have c_belt : Callee l.prog w K mg base "_law_belt" PS_belt K_belt (sp_belt K) := ⟨⟨_, _, PySem.W.mg_of X G a7, k7, b7, ok_belt F7 B c_draw⟩⟩
  have c_weaker : Callee l.prog w K mg base "_law_weaker" PS_weaker K_weaker (sp_weaker K) := ⟨⟨_, _, PySem.W.mg_of X G a8, k8, b8, ok_weaker F8 B⟩⟩
  have c_p_weaker : Callee l.prog w K mg base "weaker" PS_p_weaker K_p_weaker (sp_p_weaker K) := ⟨⟨_, _, PySem.W.mg_of X G a9, k9, b9, ok_p_weaker F9 B⟩⟩
  have c_names : Callee l.prog w K mg base "_law_names" PS_names K_names (sp_names K) := ⟨⟨_, _, PySem.W.mg_of X G a10, k10, b10, ok_names F10 B c_draw⟩⟩
  exact ok_law F11 B c_draw c_rows c_behind c_p_behind c_near c_belt c_weaker c_p_weaker c_names
theorem scr_of {K : PySem.W.Frag} {H : Hp} {a : Addr} {ns : List Int} (o : Only H) (h : SqL K H a (ns.map V.int)) : ScrAt K H a ns := by
  rcases h with (h | h) | h
  · rcases o a with z | ⟨ob, xs, z⟩ <;> rw [h] at z <;> cases z
  · exact .inl h
  · exact .inr h
theorem walk {l : PySem.W.OpenLaw} {q : Program} {loose : List Str} {XP : (Str → Option Value) → Heap → Prop} {YP : World → Heap → Prop} {d : DefRec} {K : Params → PySem.W.Frag} (hn : l.most = some 63) (hdf : d.params.defaults = [])
    (hY : ∀ (w : World) (h : Heap), YP w h → (K w.params).In h)
    (F : ∀ (w : World) (mg : Str → Option Value) (fa : Addr) (h : Heap), (K w.params).In h → h.Ns mainGlobals mg → mg d.name = some (.ref fa) →
      ∃ fd : FuncData, (∀ (s : Shared) (u : Value), BindsTo s fd ⟨[u], []⟩ [("_law_script", u)]) ∧ ∀ base : Heap, (K w.params).In base → base.Ns mainGlobals mg → FnOk l.prog w (K w.params) mg base CX0 K_law fa fd PS_law (sp_law (K w.params))) :
    PySem.W.WalkO q loose XP YP l.row.toRowW d [] (fun f vs => PySem.call f vs) :=
  L2.walk_of (n := 63) (k := K_law) (x := "_law_script") (CX := fun _ => CX0) (sp := fun w => sp_law (K w.params)) hn (by decide) hdf ⟨rfl, by decide, by decide⟩ hY F (fun _ _ a ns hl hO hS => ⟨a, ns, rfl, scr_of hO hS, hl, fun _ => rfl⟩) fun _ _ _ _ _ z => z
end Bg
open PySem PySem.W PyProof.Rows
set_option maxRecDepth 100000 in
set_option maxHeartbeats 0 in
theorem PySem.Challenge.cw_beltgarth_k51_names_on_belts_holds : PySem.Challenge.rw_beltgarth_k51_names_on_belts.Holds := by
  w_on; o_law; k_head; (case hw => w_witness2)
  k_fill
  refine Bg.walk (l := PySem.Challenge.rw_beltgarth_k51_names_on_belts) rfl rfl (fun w h Y => PySem.W.kIn_of Y) ?F
  case F =>
    intro w mg fa h KX G hmg
    refine' Bg.all_mk KX G hmg ?a0 ?l0 ?c0 ?k0 ?a1 ?l1 ?c1 ?k1 ?a2 ?l2 ?c2 ?k2 ?a3 ?l3 ?c3 ?k3 ?a4 ?l4 ?c4 ?k4 ?a5 ?l5 ?c5 ?k5 ?a6 ?l6 ?c6 ?k6 ?a7 ?l7 ?c7 ?k7 ?a8 ?l8 ?c8 ?k8 ?a9 ?l9 ?c9 ?k9 ?a10 ?l10 ?c10 ?k10 ?a11 ?l11 ?c11 ?k11 ?z_len ?z_range ?z_divmod ?z_max ?z_min ?z_sum ?z_all ?z_isinstance ?z_int ?z_bool ?z_list ?z_tuple ?z_enumerate ?z_zip ?z_sorted ?z_set ?z_dict ?z_str ?z_any ?z_reversed ?z_abs
    (case a0 => k_is)
    (case l0 => k_is)
    (case c0 => k_is)
    (case k0 => k_is)
    (case a1 => k_is)
    (case l1 => k_is)
    (case c1 => k_is)
    (case k1 => k_is)
    (case a2 => k_is)
    (case l2 => k_is)
    (case c2 => k_is)
    (case k2 => k_is)
    (case a3 => k_is)
    (case l3 => k_is)
    (case c3 => k_is)
    (case k3 => k_is)
    (case a4 => k_is)
    (case l4 => k_is)
    (case c4 => k_is)
    (case k4 => k_is)
    (case a5 => k_is)
    (case l5 => k_is)
    (case c5 => k_is)
    (case k5 => k_is)
    (case a6 => k_is)
    (case l6 => k_is)
    (case c6 => k_is)
    (case k6 => k_is)
    (case a7 => k_is)
    (case l7 => k_is)
    (case c7 => k_is)
    (case k7 => k_is)
    (case a8 => k_is)
    (case l8 => k_is)
    (case c8 => k_is)
    (case k8 => k_is)
    (case a9 => k_is)
    (case l9 => k_is)
    (case c9 => k_is)
    (case k9 => k_is)
    (case a10 => k_is)
    (case l10 => k_is)
    (case c10 => k_is)
    (case k10 => k_is)
    (case a11 => k_is)
    (case l11 => k_is)
    (case c11 => k_is)
    (case k11 => k_is)
    (case z_len => k_is)
    (case z_range => k_is)
    (case z_divmod => k_is)
    (case z_max => k_is)
    (case z_min => k_is)
    (case z_sum => k_is)
    (case z_all => k_is)
    (case z_isinstance => k_is)
    (case z_int => k_is)
    (case z_bool => k_is)
    (case z_list => k_is)
    (case z_tuple => k_is)
    (case z_enumerate => k_is)
    (case z_zip => k_is)
    (case z_sorted => k_is)
    (case z_set => k_is)
    (case z_dict => k_is)
    (case z_str => k_is)
    (case z_any => k_is)
    (case z_reversed => k_is)
    (case z_abs => k_is)
