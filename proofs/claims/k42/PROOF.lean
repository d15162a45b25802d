import PyProof.Rows.All
import Wide.All
import OpenK.AllK
import Wide.FinOn
import Lean
import PyProof.EqAt
import PyProof.EqKinds
import PyProof.TupleCall
import PySem.Challenge.RW_beltgarth_k42_code_that_fits
section
set_option Elab.async false
set_option linter.all false
set_option maxRecDepth 100000
namespace L2
open PySem PySem.Spec PyProof.Rows
abbrev Key := Sum Int Str
def keyIs : Key → Value → Bool
  | .inl k, v => Value.isInt k v
  | .inr x, v => Value.isStrOf x v
def keyH (w : World) : Key → Int
  | .inl k => hashInt k
  | .inr x => hashStr w x
theorem keyIs_shape : ∀ {k : Key} {v : Value}, keyIs k v = true → (∃ i t, k = Sum.inl i ∧ v = Value.int i t) ∨ (∃ x t, k = Sum.inr x ∧ v = Value.str x t)
  | .inl i, v, h => by
    obtain ⟨t, e⟩ := Value.isInt_shape (k := i) (v := v) h
    exact .inl ⟨i, t, rfl, e⟩
  | .inr x, v, h => by
    obtain ⟨t, e⟩ := Value.isStrOf_shape (x := x) (v := v) h
    exact .inr ⟨x, t, rfl, e⟩
theorem keyIs_int (i : Int) (t : Tok) : keyIs (.inl i) (.int i t) = true := by simp [keyIs, Value.isInt]
theorem keyIs_str (x : Str) (t : Tok) : keyIs (.inr x) (.str x t) = true := by simp [keyIs, Value.isStrOf]
theorem key_ll (a b : Int) : decide ((Sum.inl a : Key) = Sum.inl b) = (a == b) := by
  by_cases e : a = b
  · subst e; simp
  · have h : ¬ (Sum.inl a : Key) = Sum.inl b := fun q => e (Sum.inl.inj q)
    rw [decide_eq_false h]
    exact (beq_eq_false_iff_ne.mpr e).symm
theorem key_rr (a b : Str) : decide ((Sum.inr a : Key) = Sum.inr b) = decide (a = b) := by
  by_cases e : a = b
  · subst e; simp
  · have h : ¬ (Sum.inr a : Key) = Sum.inr b := fun q => e (Sum.inr.inj q)
    rw [decide_eq_false h, decide_eq_false e]
theorem key_lr (a : Int) (b : Str) : decide ((Sum.inl a : Key) = Sum.inr b) = false := decide_eq_false (fun q => nomatch q)
theorem key_rl (a : Str) (b : Int) : decide ((Sum.inr a : Key) = Sum.inl b) = false := decide_eq_false (fun q => nomatch q)
def mixKind (prog : Program) (w : World) : PySem.KeyKind prog w Key where
  is := keyIs
  hash := keyH w
  inj := fun v a b ha hb => by
    rcases keyIs_shape ha with ⟨i, t, rfl, rfl⟩ | ⟨x, t, rfl, rfl⟩
    · rcases keyIs_shape hb with ⟨j, u, rfl, e⟩ | ⟨y, u, rfl, e⟩
      · injection e with e1 _; rw [e1]
      · exact nomatch e
    · rcases keyIs_shape hb with ⟨j, u, rfl, e⟩ | ⟨y, u, rfl, e⟩
      · exact nomatch e
      · injection e with e1 _; rw [e1]
  byValue := fun k v h => by
    rcases keyIs_shape h with ⟨i, t, rfl, rfl⟩ | ⟨x, t, rfl, rfl⟩ <;> rfl
  pyHash := fun hv h => by
    rcases keyIs_shape hv with ⟨i, t, rfl, rfl⟩ | ⟨x, t, rfl, rfl⟩
    · exact wpAny_pyHash_int h
    · exact wpAny_pyHash_str h
  eqBool := fun hu hv h => by
    rcases keyIs_shape hu with ⟨i, t, rfl, rfl⟩ | ⟨x, t, rfl, rfl⟩
    · rcases keyIs_shape hv with ⟨j, u, rfl, rfl⟩ | ⟨y, u, rfl, rfl⟩
      · rw [key_ll] at h; exact wpAny_eqBool_int h
      · rw [key_lr] at h; exact SeqAt.EqAt.int_str i t y u _ _ _ _ h
    · rcases keyIs_shape hv with ⟨j, u, rfl, rfl⟩ | ⟨y, u, rfl, rfl⟩
      · rw [key_rl] at h; exact SeqAt.EqAt.str_int x t j u _ _ _ _ h
      · rw [key_rr] at h; exact wpAny_eqBool_str h
  «strs» := fun k x t v h => by
    rcases keyIs_shape h with ⟨i, u, rfl, e⟩ | ⟨y, u, rfl, e⟩
    · exact nomatch e
    · injection e with e1 _
      subst e1
      cases v <;> rfl
theorem mixKind_int (prog : Program) (w : World) (i : Int) (t : Tok) : (mixKind prog w).is (.inl i) (.int i t) = true := keyIs_int i t
theorem mixKind_str (prog : Program) (w : World) (x : Str) (t : Tok) : (mixKind prog w).is (.inr x) (.str x t) = true := keyIs_str x t
end L2
namespace L2
open PySem PySem.Spec PyProof.Rows
inductive V where
  | non | bl (b : Bool) | int (i : Int) | str (x : Str) | byt (b : Array UInt8) | flt (b : UInt64) | ref (a : Addr) | ty (n : String)
  deriving DecidableEq
def RelV : V → Value → Prop
  | .non, u => u = Value.none
  | .bl b, u => u = Value.bool b
  | .int i, u => ∃ t, u = Value.int i t
  | .str x, u => ∃ t, u = Value.str x t
  | .byt b, u => ∃ t, u = Value.bytes b t
  | .flt b, u => ∃ t, u = Value.float b t
  | .ref a, u => u = Value.ref a
  | .ty n, u => u = Value.type n
abbrev Vals : List V → List Value → Prop := Paired RelV
theorem Vals.length {xs : List V} {us : List Value} (r : Vals xs us) : xs.length = us.length := Paired.length r
theorem Vals.get : ∀ {xs : List V} {us : List Value} {i : Nat} {x : V}, Vals xs us → xs[i]? = some x → ∃ u, us[i]? = some u ∧ RelV x u
  | _, _, _, _, .nil, e => by simp at e
  | _, _, 0, _, .cons r _, e => by simp at e; subst e; exact ⟨_, rfl, r⟩
  | _, _, i + 1, x, .cons _ t, e => by
    obtain ⟨u, h1, h2⟩ := Vals.get (i := i) (x := x) t (by simpa using e)
    exact ⟨u, by simpa using h1, h2⟩
theorem Vals.set {x : V} {u : Value} (r : RelV x u) : ∀ {xs : List V} {us : List Value} (i : Nat), Vals xs us → Vals (xs.set i x) (us.set i u)
  | _, _, _, .nil => .nil
  | _, _, 0, .cons _ t => .cons r t
  | _, _, i + 1, .cons q t => .cons q (Vals.set r i t)
theorem Vals.append : ∀ {xs ys : List V} {us ws : List Value}, Vals xs us → Vals ys ws → Vals (xs ++ ys) (us ++ ws)
  | _, _, _, _, .nil, s => s
  | _, _, _, _, .cons r t, s => .cons r (Vals.append t s)
theorem Vals.take : ∀ {xs : List V} {us : List Value} (n : Nat), Vals xs us → Vals (xs.take n) (us.take n)
  | _, _, 0, _ => .nil
  | _, _, _ + 1, .nil => .nil
  | _, _, n + 1, .cons r t => .cons r (Vals.take n t)
theorem Vals.drop : ∀ {xs : List V} {us : List Value} (n : Nat), Vals xs us → Vals (xs.drop n) (us.drop n)
  | _, _, 0, r => r
  | _, _, _ + 1, .nil => .nil
  | _, _, n + 1, .cons _ t => Vals.drop n t
def RelO : Option V → Option Value → Prop
  | some v, some u => RelV v u
  | none, none => True
  | _, _ => False
def KV {κ : Type} : List (κ × V) → List (κ × Value) → Prop := Paired fun (p : κ × V) (q : κ × Value) => p.1 = q.1 ∧ RelV p.2 q.2
def kV : Key → V
  | .inl i => .int i
  | .inr x => .str x
inductive HO where
  /-- a list -/
  | lst (xs : List V)
  /-- a tuple (never changes) -/
  | tup (xs : List V)
  /-- a dict whose keys are ints and texts; one whose keys are tuples of ints and texts (the empty one is both) -/
  | dK (kvs : List (Key × V)) | dT (kvs : List (List Key × V))
  /-- a set of ints: its members, its size -/
  | set (S : Int → Bool) (n : Nat)
  /-- an instance of the class at C, its dict at dx, its attributes -/
  | ins (C dx : Addr) (fs : List (Str × V))
  /-- the dict of the instance at x -/
  | own (x : Addr)
  /-- the dict of an exception -/
  | xd (fs : List (Str × V))
  /-- a bound method, f of x -/
  | met (f x : Addr)
  /-- a range object lo, lo + 1, .. below hi -/
  | rng (lo hi : Int)
  /-- a thing that is known to the object (the script; a dict while a loop walks it): read, never written while it is so -/
  | frz (o : Obj) (u : HO)
  /-- a code object's table -/
  | tbl (ps : Array Value)
  /-- any other thing, by what is true of its one object (a def of one's own: SetO a S n := HO.ext fun h => ..) -/
  | ext (φ : Heap → Prop)
abbrev Hp := Addr → Option HO
def upd (H : Hp) (a : Addr) (o : HO) : Hp := fun b => if b = a then some o else H b
theorem upd_same {H : Hp} {a : Addr} {o : HO} : upd H a o a = some o := by unfold upd; rw [if_pos rfl]
theorem upd_ne {H : Hp} {a b : Addr} {o : HO} (h : b ≠ a) : upd H a o b = H b := by unfold upd; rw [if_neg h]
theorem ne_of {H : Hp} {a b : Addr} {o u : HO} (h : H a = some o) (h' : H b = some u) (d : o ≠ u) : a ≠ b := by
  intro e; subst e; rw [h] at h'; exact d (Option.some.inj h')
theorem ne_of_none {H : Hp} {a b : Addr} {o : HO} (h : H a = some o) (h' : H b = none) : a ≠ b := by
  intro e; subst e; rw [h] at h'; cases h'
section
variable (P : Program) (w : World)
def ObjOk (H : Hp) (h : Heap) (a : Addr) : HO → Prop
  | .lst xs => xs.length ≤ sizeLine ∧ ∃ (its : List Value) (n : Nat), Vals xs its ∧ h.get? a = some { cls := .type "list", data := .seq its.toArray n }
  | .tup xs => xs.length ≤ sizeLine ∧ ∃ its : List Value, Vals xs its ∧ IsTup h a its.toArray
  | .dK kvs => kvs.length ≤ sizeLine ∧ (a == sysModules) = false ∧ ∃ vs, KV kvs vs ∧ h.DictOf (mixKind P w) a vs
  | .dT kvs => kvs.length ≤ sizeLine ∧ (a == sysModules) = false ∧ ∃ xs : List (List Key × Addr × Value),
      Paired (fun (p : List Key × V) (q : List Key × Addr × Value) => p.1 = q.1 ∧ H q.2.1 = some (.tup (p.1.map kV)) ∧ RelV p.2 q.2.2) kvs xs ∧
      ∃ o es ep, h.get? a = some o ∧ o.ExactDict ∧ o.data = .dict es ep ∧ es.toList = xs.map (entryOfKey (tupleKind (mixKind P w))) ∧ (xs.map (·.1)).Nodup
  | .set S n => h.SetOf (intKind P w) a S n
  | .ins C dx fs => H dx = some (.own a) ∧ fs.length ≤ 1000 ∧ dx ≠ a ∧ h.get? a = some (PySem.W.instObj C dx) ∧
      ∃ mA, h.Ns1 dx mA ∧ (∀ f, RelO (fs.lookup f) (mA f)) ∧ PySem.Within mA (fs.map (·.1))
  | .own _ => ∃ o, h.get? a = some o
  | .xd fs => ∃ mA, h.Ns1 a mA ∧ ∀ f, RelO (fs.lookup f) (mA f)
  | .rng lo hi => ∃ t u v, h.get? a = some { cls := .type "range", data := .fields #[.int lo t, .int hi u, .int 1 v] }
  | .frz o u => h.get? a = some o ∧ ObjOk H h a u
  | .tbl ps => h.get? a = some { cls := .none, data := .fields ps }
  | .met f x => h.get? a = some (PySem.W.methodObj (.ref f) (.ref x))
  | .ext φ => φ h ∧ (∃ o, h.get? a = some o) ∧ ∀ h1 h2 : Heap, φ h1 → (∀ o, h1.get? a = some o → h2.get? a = some o) → φ h2
def HOk (H : Hp) (h : Heap) : Prop := ∀ a o, H a = some o → ObjOk P w H h a o
end
section
variable {P : Program} {w : World} {H H' : Hp} {h h' : Heap} {a : Addr} {o : HO}
theorem ObjOk.lt (x : ObjOk P w H h a o) : a < h.objs.size := by
  cases o with
  | lst xs => obtain ⟨_, _, _, _, e⟩ := x; exact Heap.lt_size e
  | tup xs => obtain ⟨_, _, _, p⟩ := x; exact p.lt
  | dK kvs => obtain ⟨_, _, _, _, o, _, _, e, _⟩ := x; exact Heap.lt_size e
  | dT kvs => obtain ⟨_, _, _, _, o, _, _, e, _⟩ := x; exact Heap.lt_size e
  | set S n => obtain ⟨o, _, _, _, e, _⟩ := x; exact Heap.lt_size e
  | ins C dx fs => obtain ⟨_, _, _, e, _⟩ := x; exact Heap.lt_size e
  | own y => obtain ⟨_, e⟩ := x; exact Heap.lt_size e
  | xd fs => obtain ⟨_, ⟨_, _, _, e, _⟩, _⟩ := x; exact Heap.lt_size e
  | rng lo hi => obtain ⟨_, _, _, e⟩ := x; exact Heap.lt_size e
  | frz ob u => obtain ⟨e, _⟩ := x; exact Heap.lt_size e
  | tbl ps => exact Heap.lt_size (show h.get? a = some _ from x)
  | met f y => exact Heap.lt_size (show h.get? a = some _ from x)
  | ext φ => obtain ⟨_, ⟨_, e⟩, _⟩ := x; exact Heap.lt_size e
theorem Paired.mapP {α β : Type} {F G : α → β → Prop} : ∀ {l₁ : List α} {l₂ : List β}, Paired F l₁ l₂ → (∀ a b, F a b → G a b) → Paired G l₁ l₂
  | _, _, .nil, _ => .nil
  | _, _, .cons r t, f => .cons (f _ _ r) (Paired.mapP t f)
theorem ObjOk.stay (x : ObjOk P w H h a o) (k : ∀ b u, (b = a ∨ H b = some (.own a)) → h.get? b = some u → h'.get? b = some u)
    (ho : ∀ b, H b = some (.own a) → H' b = some (.own a)) (ht : ∀ b xs, H b = some (.tup xs) → H' b = some (.tup xs)) : ObjOk P w H' h' a o := by
  induction o with
  | lst xs => obtain ⟨z, its, n, r, e⟩ := x; exact ⟨z, its, n, r, k _ _ (.inl rfl) e⟩
  | tup xs => obtain ⟨z, its, r, ob, e, c⟩ := x; exact ⟨z, its, r, ob, k _ _ (.inl rfl) e, c⟩
  | dK kvs => obtain ⟨z, y, vs, r, ob, es, ep, e, c⟩ := x; exact ⟨z, y, vs, r, ob, es, ep, k _ _ (.inl rfl) e, c⟩
  | dT kvs =>
    obtain ⟨z, y, xs, r, ob, es, ep, e, c⟩ := x
    exact ⟨z, y, xs, Paired.mapP r fun p q z => ⟨z.1, ht _ _ z.2.1, z.2.2⟩, ob, es, ep, k _ _ (.inl rfl) e, c⟩
  | set S n => obtain ⟨ob, es, ep, t, e, c⟩ := x; exact ⟨ob, es, ep, t, k _ _ (.inl rfl) e, c⟩
  | ins C dx fs =>
    obtain ⟨d, z, ne, e, mA, ⟨od, es, ep, e2, c⟩, r⟩ := x
    exact ⟨ho _ d, z, ne, k _ _ (.inl rfl) e, mA, ⟨od, es, ep, k _ _ (.inr d) e2, c⟩, r⟩
  | own y => obtain ⟨ob, e⟩ := x; exact ⟨ob, k _ _ (.inl rfl) e⟩
  | xd fs => obtain ⟨mA, ⟨od, es, ep, e, c⟩, r⟩ := x; exact ⟨mA, ⟨od, es, ep, k _ _ (.inl rfl) e, c⟩, r⟩
  | rng lo hi => obtain ⟨t, u, v, e⟩ := x; exact ⟨t, u, v, k _ _ (.inl rfl) e⟩
  | frz ob u ih => obtain ⟨e, q⟩ := x; exact ⟨k _ _ (.inl rfl) e, ih q⟩
  | tbl ps =>
    have e : h.get? a = some { cls := .none, data := .fields ps } := x
    show h'.get? a = some { cls := .none, data := .fields ps }
    exact k a _ (.inl rfl) e
  | met f y =>
    have e : h.get? a = some (PySem.W.methodObj (.ref f) (.ref y)) := x
    show h'.get? a = some (PySem.W.methodObj (.ref f) (.ref y))
    exact k a _ (.inl rfl) e
  | ext φ => obtain ⟨p, ⟨o, e⟩, st⟩ := x; exact ⟨st _ _ p fun o q => k _ _ (.inl rfl) q, ⟨o, k _ _ (.inl rfl) e⟩, st⟩
theorem HOk.lt (x : HOk P w H h) (e : H a = some o) : a < h.objs.size := (x a o e).lt
theorem HOk.fresh (x : HOk P w H h) (e : h.objs.size ≤ a) : H a = none := by
  cases q : H a with
  | none => rfl
  | some u => exact absurd (Nat.lt_of_lt_of_le (x.lt q) e) (Nat.lt_irrefl _)
theorem HOk.kept (x : HOk P w H h) (k : ∀ b u, h.get? b = some u → h'.get? b = some u) : HOk P w H h' := fun a o e =>
  (x a o e).stay (fun b u _ q => k b u q) (fun _ q => q) fun _ _ q => q
theorem HOk.laid (x : HOk P w H h) (k : ∀ b u, h.get? b = some u → h'.get? b = some u) (hp : h.objs.size ≤ a) (new : ObjOk P w (upd H a o) h' a o) : HOk P w (upd H a o) h' := fun b u e => by
  have hn := x.fresh hp
  by_cases hb : b = a
  · subst hb; rw [upd_same] at e; cases e; exact new
  · rw [upd_ne hb] at e
    exact (x b u e).stay (fun c v _ q => k c v q) (fun c q => by rw [upd_ne (ne_of_none q hn)]; exact q) fun c xs q => by rw [upd_ne (ne_of_none q hn)]; exact q
end
def Rd (H : Hp) (a : Addr) (u : HO) : Prop := H a = some u ∨ ∃ o, H a = some (.frz o u)
theorem Rd.ok {P : Program} {w : World} {H : Hp} {h : Heap} {a : Addr} {u : HO} (r : Rd H a u) (x : HOk P w H h) : ObjOk P w H h a u := by
  rcases r with r | ⟨o, r⟩
  · exact x a u r
  · obtain ⟨_, q⟩ := x a _ r
    exact q
def Mut : Option HO → Prop
  | some (.lst _) => True
  | some (.dK _) => True
  | some (.dT _) => True
  | some (.set _ _) => True
  | some (.ins _ _ _) => True
  | some (.ext _) => True
  | _ => False
section
variable {P : Program} {w : World} {H : Hp} {h h' : Heap} {x e : Addr} {o' : HO}
theorem HOk.write (ok : HOk P w H h) (mu : Mut (H x)) (he : e = x ∨ H e = some (.own x)) (k : ∀ b u, b ≠ e → h.get? b = some u → h'.get? b = some u) (heo : ∃ u, h'.get? e = some u)
    (new : ObjOk P w (upd H x o') h' x o') : HOk P w (upd H x o') h' := fun b u q => by
  have nown : ∀ c y, H c = some (.own y) → c ≠ x := fun c y r z => by subst z; rw [r] at mu; exact mu
  have ntup : ∀ c xs, H c = some (.tup xs) → c ≠ x := fun c xs r z => by subst z; rw [r] at mu; exact mu
  by_cases hb : b = x
  · subst hb; rw [upd_same] at q; cases q; exact new
  · rw [upd_ne hb] at q
    by_cases hbe : b = e
    · have q' : H b = some (.own x) := by
        rcases he with z | z
        · exact absurd (hbe.trans z) hb
        · rw [hbe]; exact z
      rw [q] at q'; cases q'
      obtain ⟨v, hv⟩ := heo
      exact ⟨v, by rw [hbe]; exact hv⟩
    · refine (ok b u q).stay (fun c v hc r => k c v ?_ r) (fun c r => by rw [upd_ne (nown c b r)]; exact r) fun c xs r => by rw [upd_ne (ntup c xs r)]; exact r
      rcases hc with rfl | hc
      · exact hbe
      · rintro rfl
        rcases he with z | z
        · exact nown c b hc z
        · rw [hc] at z; cases z; exact hb rfl
end
structure Un (fs ex : List Addr) (H H' : Hp) (h h' : Heap) : Prop where
  keep : ∀ b o, h.get? b = some o → H b = none → b ∉ fs → b ∉ ex → h'.get? b = some o
  slot : ∀ b o, h.get? b = some o → H b = none → b ∈ fs → b ∉ ex → ∃ sl, h'.get? b = some { o with slots := sl }
  free : ∀ b o, h.get? b = some o → H b = none → b ∉ ex → H' b = none
  there : ∀ b o, h.get? b = some o → b ∉ ex → ∃ o', h'.get? b = some o'
  tups : ∀ b xs, H b = some (.tup xs) → H' b = some (.tup xs)
  frzs : ∀ b o u, H b = some (.frz o u) → H' b = some (.frz o u)
  tbls : ∀ b ps, H b = some (.tbl ps) → ∃ more, H' b = some (.tbl (ps ++ more))
section
variable {fs fs' ex ex' : List Addr} {H H1 H2 : Hp} {h h1 h2 h' : Heap} {a x e : Addr} {o : HO}
theorem Un.any (u : Un fs ex H H1 h h1) {b : Addr} {ob : Obj} (q : h.get? b = some ob) (n : H b = none) (hx : b ∉ ex) : ∃ sl, h1.get? b = some { ob with slots := sl } := by
  by_cases hb : b ∈ fs
  · exact u.slot b ob q n hb hx
  · exact ⟨ob.slots, u.keep b ob q n hb hx⟩
theorem Un.kept (k : ∀ b u, h.get? b = some u → h'.get? b = some u) : Un fs ex H H h h' :=
  ⟨fun b ob q _ _ _ => k b ob q, fun b ob q _ _ _ => ⟨ob.slots, k b ob q⟩, fun _ _ _ n _ => n, fun b ob q _ => ⟨ob, k b ob q⟩, fun _ _ q => q, fun _ _ _ q => q, fun _ ps q => ⟨#[], by rw [q]; simp⟩⟩
theorem Un.refl : Un fs ex H H h h := Un.kept fun _ _ q => q
theorem Un.laid (k : ∀ b u, h.get? b = some u → h'.get? b = some u) (hp : h.objs.size ≤ a) (hn : H a = none) : Un fs ex H (upd H a o) h h' where
  keep := fun b u q _ _ _ => k b u q
  slot := fun b u q _ _ _ => ⟨u.slots, k b u q⟩
  free := fun b u q n _ => by rw [upd_ne (Nat.ne_of_lt (Nat.lt_of_lt_of_le (Heap.lt_size q) hp))]; exact n
  there := fun b u q _ => ⟨u, k b u q⟩
  tups := fun b xs q => by rw [upd_ne (ne_of_none q hn)]; exact q
  frzs := fun b u xs q => by rw [upd_ne (ne_of_none q hn)]; exact q
  tbls := fun b ps q => ⟨#[], by rw [upd_ne (ne_of_none q hn), q]; simp⟩
theorem Un.write (mu : Mut (H x)) (he : e = x ∨ H e = some (.own x)) (k : ∀ b u, b ≠ e → h.get? b = some u → h'.get? b = some u) (heo : ∃ u, h'.get? e = some u) : Un fs ex H (upd H x o) h h' := by
  have hx : ∀ b, H b = none → b ≠ x := fun b n z => by subst z; rw [n] at mu; exact mu
  have hb : ∀ b, H b = none → b ≠ e := fun b n z => by
    subst z
    rcases he with r | r
    · exact hx b n r
    · rw [n] at r; cases r
  have hm : ∀ b u, H b = some u → ¬ Mut (some u) → b ≠ x := fun b u q nm z => by subst z; rw [q] at mu; exact nm mu
  refine ⟨fun b u q n _ _ => k b u (hb b n) q, fun b u q n _ _ => ⟨u.slots, k b u (hb b n) q⟩, fun b u q n _ => by rw [upd_ne (hx b n)]; exact n, fun b u q _ => ?_,
    fun b xs q => by rw [upd_ne (hm b _ q fun z => z)]; exact q, fun b u xs q => by rw [upd_ne (hm b _ q fun z => z)]; exact q, fun b ps q => ⟨#[], by rw [upd_ne (hm b _ q fun z => z), q]; simp⟩⟩
  by_cases hbe : b = e
  · subst hbe; exact heo
  · exact ⟨u, k b u hbe q⟩
end
def trk (h : Heap) (H : Hp) : List Addr := (List.range h.objs.size).filter fun a => (H a).isSome
def hidT (h : Heap) (H : Hp) : Heap := PySem.W.hideAll h (trk h H)
theorem hidT_size (h : Heap) (H : Hp) : (hidT h H).objs.size = h.objs.size := PySem.W.hideAll_size _ _
theorem hidT_get {h : Heap} {H : Hp} {b : Addr} {o : Obj} (e : h.get? b = some o) (n : H b = none) : (hidT h H).get? b = some o :=
  PySem.W.hideAll_get _ e fun hm => by
    have q : (H b).isSome = true := (List.mem_filter.mp hm).2
    rw [n] at q; simp at q
theorem of_hidT {h : Heap} {H : Hp} {b : Addr} {o : Obj} (e : (hidT h H).get? b = some o) : h.get? b = some o ∧ H b = none := by
  have e' : h.get? b = some o := PySem.W.of_hideAll (trk h H) e
  refine ⟨e', ?_⟩
  cases q : H b with
  | none => rfl
  | some x =>
    have hm : b ∈ trk h H := List.mem_filter.mpr ⟨List.mem_range.mpr (Heap.lt_size e'), by simp [q]⟩
    have z : (hidT h H).get? b = none := PySem.W.hideAll_none (trk h H) hm
    rw [z] at e; cases e
end L2
namespace L2
open PySem PySem.Spec PyProof.Rows
structure Mod (K : PySem.W.Frag) (mg : Str → Option Value) (base : Heap) : Prop where
  kin : K.In base
  glob : base.Ns mainGlobals mg
  blt : ∃ mb, base.Ns builtinsNs mb ∧ ∀ x : Str, x ≠ "__name__" → mb x = bootBuiltins x
  nolimit : base.NoLimit
structure Cx where
  prog : Program
  w : World
  K : PySem.W.Frag
  mg : Str → Option Value
  base : Heap
  A : Around
  N : List Str
  s₀ : Shared
  H₀ : Hp
  env : Env
  outer : List Env
  stack : List Env
  ex : List Addr
  fn : Str → Bool
  calm : Bool
  pn : List (Addr × Obj)
  xe : Value → Shared → Prop
def frs (l : List Env) : List Addr := l.filterMap (·.frame)
abbrev Cx.fs (X : Cx) : List Addr := frs X.outer
def Vis (sc : Scope) (x : Str) : Prop := sc.names.lookup x = some .local ∨ sc.names.lookup x = some .cell ∨ sc.names.lookup x = some .free
def Loc (sc : Scope) (x : Str) : Prop := sc.names.lookup x = some .local ∨ sc.names.lookup x = some .cell
def Look (env : Env) (h : Heap) (m : Str → Option Value) (x : Str) (u : Value) : Prop :=
  (env.kindOf x = some .local ∧ m x = some u) ∨ ((env.kindOf x = some .cell ∨ env.kindOf x = some .free) ∧ ∃ c, env.cells.lookup x = some c ∧ h.IsCell c (some u))
structure Cx.Ok (X : Cx) : Prop where
  mod : Mod X.K X.mg X.base
  kind : X.env.scope.kind = .function
  glob : X.env.globals = mainGlobals
  blt : X.env.builtins = builtinsNs
  above : X.s₀.heap.objs.size ≤ X.env.locals
  inj : ∀ x y c, X.env.cells.lookup x = some c → X.env.cells.lookup y = some c → x = y
  has : ∀ x, (X.env.kindOf x = some .cell ∨ X.env.kindOf x = some .free) → ∃ c, X.env.cells.lookup x = some c
  cab : ∀ x c, X.fn x = true → X.env.cells.lookup x = some c → X.s₀.heap.objs.size ≤ c
  hd : X.calm = true → X.A.handled = none
  frames : X.A.frames = some X.stack
  stk : X.stack = X.outer ∨ (X.stack = X.env :: X.outer ∧ X.env.frame = some X.env.locals)
  exf : ∀ b ∈ X.ex, b ≠ X.env.locals ∧ ∀ x c, X.env.cells.lookup x = some c → c ≠ b
  bs : ∀ b o, X.base.get? b = some o → X.s₀.heap.get? b = some o ∧ X.H₀ b = none
  bsz : X.base.objs.size ≤ X.s₀.heap.objs.size
  noex : ∀ b o, X.base.get? b = some o → b ∉ X.ex
  exfs : ∀ b ∈ X.ex, b ∉ X.fs
  funs : X.s₀.heap.FunFrames X.base X.outer
  frf : ∀ b ∈ X.fs, X.H₀ b = none
structure Inv (X : Cx) (pins : List (Addr × Obj)) (σ : List (Option V)) (H : Hp) (s : Shared) : Prop where
  ok : X.Ok
  os : s.os = X.s₀.os
  bare : AllBare s.gens
  base : Un X.fs X.ex X.H₀ H X.s₀.heap s.heap
  loc : ∃ m, s.heap.Ns X.env.locals m ∧ ∀ (i : Nat) (x : Str) (v : V), X.N[i]? = some x → σ[i]? = some (some v) → Vis X.env.scope x → ∃ u, RelV v u ∧ Look X.env s.heap m x u
  cell : ∀ x c, X.env.cells.lookup x = some c → ∃ v, s.heap.IsCell c v
  free : H X.env.locals = none
  freeC : ∀ x c, X.env.cells.lookup x = some c → H c = none
  pin : ∀ p ∈ X.pn ++ pins, s.heap.get? p.1 = some p.2 ∧ H p.1 = none ∧ p.1 ≠ X.env.locals ∧ p.1 ∉ X.fs ∧ ∀ v, p.2.data ≠ .cell v
  hok : HOk X.prog X.w H s.heap
  len : σ.length = X.N.length
section
variable {X : Cx} {pins : List (Addr × Obj)} {σ : List (Option V)} {H H' : Hp} {s : Shared} {h' : Heap}
theorem Cx.Ok.nofr (ok : X.Ok) {b : Addr} {o : Obj} (e : X.base.get? b = some o) : b ∉ X.fs := fun hb => by
  have := (ok.funs.mem hb).1
  rw [e] at this; cases this
theorem Inv.bs (I : Inv X pins σ H s) : ∀ b o, X.base.get? b = some o → s.heap.get? b = some o ∧ H b = none := fun b o e =>
  ⟨I.base.keep b o (I.ok.bs b o e).1 (I.ok.bs b o e).2 (I.ok.nofr e) (I.ok.noex b o e), I.base.free b o (I.ok.bs b o e).1 (I.ok.bs b o e).2 (I.ok.noex b o e)⟩
theorem Inv.bk (I : Inv X pins σ H s) : ∀ b o, X.base.get? b = some o → s.heap.get? b = some o := fun b o e => (I.bs b o e).1
theorem Inv.mod (I : Inv X pins σ H s) : Mod X.K X.mg X.base := I.ok.mod
theorem Inv.kIn (I : Inv X pins σ H s) : X.K.In s.heap := I.ok.mod.kin.keeps I.bk
theorem Inv.lt (I : Inv X pins σ H s) : X.env.locals < s.heap.objs.size := let ⟨_, hn, _⟩ := I.loc; hn.lt
theorem Inv.sz (I : Inv X pins σ H s) : X.s₀.heap.objs.size ≤ s.heap.objs.size := Nat.le_trans I.ok.above (Nat.le_of_lt I.lt)
theorem Inv.nofs (I : Inv X pins σ H s) {a : Addr} (h : s.heap.objs.size ≤ a) : a ∉ X.fs := fun hb => by
  obtain ⟨_, o, ho, _⟩ := I.ok.funs.mem hb
  exact absurd (Nat.lt_of_lt_of_le (Heap.lt_size ho) (Nat.le_trans I.sz h)) (Nat.lt_irrefl _)
theorem Inv.cne (I : Inv X pins σ H s) : ∀ x c, X.env.cells.lookup x = some c → c ≠ X.env.locals := fun x c e z => by
  obtain ⟨v, o, ho, hd⟩ := I.cell x c e
  obtain ⟨m, ⟨o', es, ep, ho', hd', _⟩, _⟩ := I.loc
  rw [z, ho'] at ho; cases ho; rw [hd'] at hd; cases hd
theorem Inv.funs (I : Inv X pins σ H s) : s.heap.FunFrames X.base X.outer := by
  have all : ∀ (l : List Env), (∀ b ∈ frs l, b ∈ X.fs) → X.s₀.heap.FunFrames X.base l → s.heap.FunFrames X.base l := by
    intro l
    induction l with
    | nil => intro _ _; trivial
    | cons env r ih =>
      intro hs hl
      obtain ⟨hk, ⟨L, o, hf, hn, ho, hd⟩, hr⟩ := hl
      have hL : L ∈ X.fs := hs L (by unfold frs; rw [List.filterMap_cons, hf]; exact List.mem_cons_self)
      obtain ⟨sl, e⟩ := I.base.slot L o ho (I.ok.frf L hL) hL fun z => I.ok.exfs L z hL
      exact ⟨hk, ⟨L, _, hf, hn, e, hd⟩, ih (fun b hb => hs b (by unfold frs; rw [List.filterMap_cons, hf]; exact List.mem_cons_of_mem _ hb)) hr⟩
  exact all X.outer (fun _ hb => hb) I.ok.funs
theorem Inv.stack (I : Inv X pins σ H s) : s.heap.FunFrames X.base X.stack := by
  rcases I.ok.stk with e | ⟨e, hf⟩
  · rw [e]; exact I.funs
  · rw [e]
    obtain ⟨m, hn, _⟩ := I.loc
    refine .cons (by rw [I.ok.kind]; decide) hf hn ?_ I.funs
    exact Heap.get?_none_of_le (Nat.le_trans I.ok.bsz I.ok.above)
theorem Inv.stkSub (I : Inv X pins σ H s) : ∀ b ∈ frs X.stack, b ∈ X.env.locals :: X.fs := fun b hb => by
  rcases I.ok.stk with e | ⟨e, hf⟩
  · rw [e] at hb; exact List.mem_cons_of_mem _ hb
  · rw [e] at hb
    unfold frs at hb
    rw [List.filterMap_cons, hf] at hb
    exact hb
theorem Inv.stkFree (I : Inv X pins σ H s) : ∀ b ∈ frs X.stack, H b = none := fun b hb => by
  rcases List.mem_cons.mp (I.stkSub b hb) with e | hb
  · rw [e]; exact I.free
  · obtain ⟨_, o, ho, _⟩ := I.ok.funs.mem hb
    exact I.base.free b o ho (I.ok.frf b hb) fun z => I.ok.exfs b z hb
theorem Inv.step {g' : Array GenState} {t' : Nat} {d' : Drawn} {ch : List Addr} (I : Inv X pins σ H s)
    (hch : ∀ b ∈ ch, (b ∈ X.ex ∨ X.s₀.heap.objs.size ≤ b) ∧ b ≠ X.env.locals ∧ (∀ x c, X.env.cells.lookup x = some c → c ≠ b) ∧ ∀ p ∈ X.pn ++ pins, p.1 ≠ b)
    (keep : ∀ b o, b ≠ X.env.locals → b ∉ X.fs → b ∉ ch → s.heap.get? b = some o → H b = none → h'.get? b = some o)
    (slot : ∀ b o, b ≠ X.env.locals → b ∈ X.fs → b ∉ ch → s.heap.get? b = some o → H b = none → ∃ sl, h'.get? b = some { o with slots := sl }) (free : ∀ b o, b ∉ ch → s.heap.get? b = some o → H b = none → H' b = none)
    (there : ∀ b o, b ∉ ch → s.heap.get? b = some o → ∃ o', h'.get? b = some o')
    (tups : ∀ b xs, H b = some (.tup xs) → H' b = some (.tup xs)) (frzs : ∀ b o u, H b = some (.frz o u) → H' b = some (.frz o u)) (tbls : ∀ b ps, H b = some (.tbl ps) → ∃ more, H' b = some (.tbl (ps ++ more)))
    (ns : ∀ m, s.heap.Ns X.env.locals m → h'.Ns X.env.locals m) (hok : HOk X.prog X.w H' h') (hg : AllBare g') :
    Inv X pins σ H' { s with heap := h', gens := g', drawn := d', toks := t' } := by
  have neL : ∀ b o, X.s₀.heap.get? b = some o → b ≠ X.env.locals := fun b o e => Nat.ne_of_lt (Nat.lt_of_lt_of_le (Heap.lt_size e) I.ok.above)
  have neC : ∀ b o, X.s₀.heap.get? b = some o → b ∉ X.ex → b ∉ ch := fun b o e hx hb => by
    rcases (hch b hb).1 with z | z
    · exact hx z
    · exact absurd (Nat.lt_of_lt_of_le (Heap.lt_size e) z) (Nat.lt_irrefl _)
  have cellK : ∀ x c, X.env.cells.lookup x = some c → ∀ v, s.heap.IsCell c v → h'.IsCell c v := fun x c e v ⟨o, ho, hd⟩ => by
    have nch : c ∉ ch := fun z => (hch c z).2.2.1 x c e rfl
    by_cases hc : c ∈ X.fs
    · obtain ⟨sl, q⟩ := slot c o (I.cne x c e) hc nch ho (I.freeC x c e)
      exact ⟨_, q, hd⟩
    · exact ⟨o, keep c o (I.cne x c e) hc nch ho (I.freeC x c e), hd⟩
  refine ⟨I.ok, I.os, hg, ⟨fun b o e n hb hx => ?_, fun b o e n hb hx => ?_, fun b o e n hx => ?_, fun b o e hx => ?_, fun b xs e => tups b xs (I.base.tups b xs e), fun b o xs e => frzs b o xs (I.base.frzs b o xs e), fun b ps e => ?_⟩, ?_, fun x c e => ?_, ?_, fun x c e => ?_, fun p hp => ?_, hok, I.len⟩
  · exact keep b o (neL b o e) hb (neC b o e hx) (I.base.keep b o e n hb hx) (I.base.free b o e n hx)
  · obtain ⟨sl, e1⟩ := I.base.slot b o e n hb hx
    obtain ⟨sl', e2⟩ := slot b _ (neL b o e) hb (neC b o e hx) e1 (I.base.free b o e n hx)
    exact ⟨sl', e2⟩
  · obtain ⟨o', e1⟩ := I.base.there b o e hx
    exact free b o' (neC b o e hx) e1 (I.base.free b o e n hx)
  · obtain ⟨o', e1⟩ := I.base.there b o e hx
    exact there b o' (neC b o e hx) e1
  · obtain ⟨m1, e1⟩ := I.base.tbls b ps e
    obtain ⟨m2, e2⟩ := tbls b _ e1
    exact ⟨m1 ++ m2, by rw [e2, Array.append_assoc]⟩
  · obtain ⟨m, hn, hl⟩ := I.loc
    refine ⟨m, ns m hn, fun i x v e1 e2 e3 => ?_⟩
    obtain ⟨u, r, l⟩ := hl i x v e1 e2 e3
    refine ⟨u, r, ?_⟩
    rcases l with l | ⟨k, c, e, z⟩
    · exact .inl l
    · exact .inr ⟨k, c, e, cellK x c e _ z⟩
  · obtain ⟨v, z⟩ := I.cell x c e
    exact ⟨v, cellK x c e v z⟩
  · obtain ⟨m, ⟨o, _, _, ho, _⟩, _⟩ := I.loc
    exact free _ o (fun z => (hch _ z).2.1 rfl) ho I.free
  · obtain ⟨v, o, ho, hd⟩ := I.cell x c e
    exact free c o (fun z => (hch c z).2.2.1 x c e rfl) ho (I.freeC x c e)
  · obtain ⟨e, n, ne, nf, d⟩ := I.pin p hp
    have nch : p.1 ∉ ch := fun z => (hch p.1 z).2.2.2 p hp rfl
    exact ⟨keep p.1 p.2 ne nf nch e n, free p.1 p.2 nch e n, ne, nf, d⟩
theorem Inv.un {t' : Nat} (I : Inv X pins σ H s) (u : Un X.fs [] H H' s.heap h') (hok : HOk X.prog X.w H' h') : Inv X pins σ H' { s with heap := h', toks := t' } := by
  obtain ⟨m, ⟨o, es, ep, ho, r⟩, _⟩ := id I.loc
  obtain ⟨sl, hL⟩ := u.any ho I.free (by simp)
  exact I.step (g' := s.gens) (d' := s.drawn) (ch := []) (fun _ z => nomatch z) (fun b o _ hb _ e n => u.keep b o e n hb (by simp)) (fun b o _ hb _ e n => u.slot b o e n hb (by simp)) (fun b o _ e n => u.free b o e n (by simp)) (fun b o _ e => u.there b o e (by simp)) u.tups u.frzs u.tbls (fun m' hm => by
    obtain ⟨o', es', ep', ho', r'⟩ := hm
    rw [ho] at ho'; cases ho'
    exact ⟨_, es', ep', hL, r'⟩) hok I.bare
theorem Inv.call {g' : Array GenState} {t' : Nat} {d' : Drawn} {ch : List Addr} (I : Inv X pins σ H s) (u : Un (frs X.stack) ch H H' s.heap h') (hok : HOk X.prog X.w H' h') (hg : AllBare g')
    (hch : ∀ b ∈ ch, (b ∈ X.ex ∨ X.s₀.heap.objs.size ≤ b) ∧ b ≠ X.env.locals ∧ (∀ x c, X.env.cells.lookup x = some c → c ≠ b) ∧ ∀ p ∈ X.pn ++ pins, p.1 ≠ b) :
    Inv X pins σ H' { s with heap := h', gens := g', drawn := d', toks := t' } := by
  obtain ⟨m, ⟨o, es, ep, ho, r⟩, _⟩ := id I.loc
  obtain ⟨sl, hL⟩ := u.any ho I.free fun z => (hch _ z).2.1 rfl
  exact I.step (ch := ch) hch (fun b o hL hb hc e n => u.keep b o e n (fun z => (List.mem_cons.mp (I.stkSub b z)).elim hL hb) hc) (fun b o _ _ hc e n => u.any e n hc) (fun b o hc e n => u.free b o e n hc) (fun b o hc e => u.there b o e hc) u.tups u.frzs u.tbls (fun m' hm => by
    obtain ⟨o', es', ep', ho', r'⟩ := hm
    rw [ho] at ho'; cases ho'
    exact ⟨_, es', ep', hL, r'⟩) hok hg
theorem Inv.turned {t' : Nat} {it : Addr} (I : Inv X pins σ H s) (k : ∀ b o, b ≠ it → s.heap.get? b = some o → h'.get? b = some o) (hn : H it = none) (hL : it ≠ X.env.locals)
    (h1 : it ∈ X.ex ∨ X.s₀.heap.objs.size ≤ it) (h2 : ∀ x c, X.env.cells.lookup x = some c → c ≠ it) (h3 : ∀ p ∈ X.pn ++ pins, p.1 ≠ it) : Inv X pins σ H { s with heap := h', toks := t' } := by
  have nit : ∀ b u, H b = some u → b ≠ it := fun b u e z => by rw [z, hn] at e; cases e
  refine I.step (g' := s.gens) (d' := s.drawn) (ch := [it]) (fun b hb => ?_) (fun b o _ _ hc e _ => k b o (fun z => hc (by simp [z])) e) (fun b o _ _ hc e _ => ⟨o.slots, k b o (fun z => hc (by simp [z])) e⟩) (fun _ _ _ _ n => n)
    (fun b o hc e => ⟨o, k b o (fun z => hc (by simp [z])) e⟩) (fun _ _ e => e) (fun _ _ _ e => e) (fun b ps e => ⟨#[], by rw [e]; simp⟩) (fun m hm => ?_) (fun b u e => ?_) I.bare
  · have e : b = it := by simpa using hb
    subst e
    exact ⟨h1, hL, h2, h3⟩
  · obtain ⟨o, es, ep, ho, r⟩ := hm
    exact ⟨o, es, ep, k _ o (Ne.symm hL) ho, r⟩
  · refine (I.hok b u e).stay (fun c v hc q => k c v ?_ q) (fun _ q => q) fun _ _ q => q
    rcases hc with z | z
    · rw [z]; exact nit b u e
    · exact nit c _ z
theorem Inv.tok (I : Inv X pins σ H s) (t : Nat) : Inv X pins σ H { s with toks := t } := I.un (h' := s.heap) (t' := t) Un.refl I.hok
theorem Inv.kept {t' : Nat} (I : Inv X pins σ H s) (k : ∀ b u, s.heap.get? b = some u → h'.get? b = some u) : Inv X pins σ H { s with heap := h', toks := t' } := I.un (Un.kept k) (I.hok.kept k)
theorem Inv.laid {a : Addr} {o : HO} {t' : Nat} (I : Inv X pins σ H s) (k : ∀ b u, s.heap.get? b = some u → h'.get? b = some u) (hp : s.heap.objs.size ≤ a) (new : ObjOk X.prog X.w (upd H a o) h' a o) :
    Inv X pins σ (upd H a o) { s with heap := h', toks := t' } := I.un (Un.laid k hp (I.hok.fresh hp)) (I.hok.laid k hp new)
theorem Inv.write {x e : Addr} {o : HO} {t' : Nat} (I : Inv X pins σ H s) (mu : Mut (H x)) (he : e = x ∨ H e = some (.own x)) (k : ∀ b u, b ≠ e → s.heap.get? b = some u → h'.get? b = some u) (heo : ∃ u, h'.get? e = some u)
    (new : ObjOk X.prog X.w (upd H x o) h' x o) : Inv X pins σ (upd H x o) { s with heap := h', toks := t' } := I.un (Un.write mu he k heo) (I.hok.write mu he k heo new)
theorem Inv.pins_of {pins' : List (Addr × Obj)} (I : Inv X pins σ H s) (h : ∀ p ∈ pins', s.heap.get? p.1 = some p.2 ∧ H p.1 = none ∧ p.1 ≠ X.env.locals ∧ p.1 ∉ X.fs ∧ ∀ v, p.2.data ≠ .cell v) : Inv X pins' σ H s :=
  ⟨I.ok, I.os, I.bare, I.base, I.loc, I.cell, I.free, I.freeC, fun p hp => (List.mem_append.mp hp).elim (fun z => I.pin p (List.mem_append_left _ z)) (h p), I.hok, I.len⟩
theorem nodup_ix {N : List Str} (hN : N.Nodup) {i j : Nat} {x : Str} (a : N[i]? = some x) (b : N[j]? = some x) : i = j := by
  obtain ⟨h1, e1⟩ := List.getElem?_eq_some_iff.mp a
  obtain ⟨h2, e2⟩ := List.getElem?_eq_some_iff.mp b
  exact (List.getElem_inj hN).mp (e1.trans e2.symm)
theorem store_ok2 {M : Model} {A : Around} {E : Value → Shared → Prop} {i : Nat} {x : Str} {v : V} {u : Value} {Q : Unit → Shared → Prop} (I : Inv X pins σ H s) (hN : X.N.Nodup) (hi : X.N[i]? = some x) (hx : Loc X.env.scope x) (r : RelV v u)
    (h : ∀ s', Inv X pins (σ.set i (some v)) H s' → (∃ a, Heap.SameBut a s.heap s'.heap ∧ (a = X.env.locals ∨ X.env.cells.lookup x = some a)) → Q () s') (hf : X.fn x = true ∨ X.env.scope.names.lookup x = some .local := by first | exact .inl rfl | exact .inr rfl | assumption) : wpAny M A (storeName X.env x u) Q E s := by
  obtain ⟨m, hn, hl⟩ := id I.loc
  have hcls : (X.env.scope.kind == .class || (X.env.scope.kind == .module && X.env.locals != X.env.globals)) = false := by rw [I.ok.kind]; rfl
  have hiσ : i < σ.length := by rw [I.len]; exact (List.getElem?_eq_some_iff.mp hi).1
  have cne := I.cne
  have tracked : ∀ {a : Addr} {h' : Heap}, (∃ o, s.heap.get? a = some o ∧ H a = none) → Heap.SameBut a s.heap h' → HOk X.prog X.w H h' := fun {a h'} ha hs b ob e => by
    obtain ⟨_, _, hfree⟩ := ha
    refine (I.hok b ob e).stay (fun c w' hc q => (hs.2 c ?_).trans q) (fun _ q => q) fun _ _ q => q
    rintro rfl
    rcases hc with rfl | hc
    · rw [hfree] at e; cases e
    · rw [hfree] at hc; cases hc
  rcases hx with hk | hk
  · refine wpAny_storeName_local hk hn (fun h' hn' hs => ?_) hcls
    obtain ⟨oL, _, _, hoL, _⟩ := id hn
    refine h _ ⟨I.ok, I.os, I.bare, ⟨fun b o e n hb hx => ?_, fun b o e n hb hx => ?_, I.base.free, fun b o e hx => ?_, I.base.tups, I.base.frzs, I.base.tbls⟩, ⟨_, hn', fun j y v' e1 e2 e3 => ?_⟩, fun y c e => ?_, I.free, I.freeC, fun p hp => ?_, tracked ⟨oL, hoL, I.free⟩ hs, by simpa using I.len⟩ ⟨_, hs, .inl rfl⟩
    · exact (hs.2 b (Nat.ne_of_lt (Nat.lt_of_lt_of_le (Heap.lt_size e) I.ok.above))).trans (I.base.keep b o e n hb hx)
    · obtain ⟨sl, e1⟩ := I.base.slot b o e n hb hx
      exact ⟨sl, (hs.2 b (Nat.ne_of_lt (Nat.lt_of_lt_of_le (Heap.lt_size e) I.ok.above))).trans e1⟩
    · obtain ⟨o', e1⟩ := I.base.there b o e hx
      exact ⟨o', (hs.2 b (Nat.ne_of_lt (Nat.lt_of_lt_of_le (Heap.lt_size e) I.ok.above))).trans e1⟩
    · by_cases hj : j = i
      · subst hj
        rw [hi] at e1; cases e1
        rw [List.getElem?_set_self hiσ] at e2
        cases e2
        exact ⟨u, r, .inl ⟨hk, by simp⟩⟩
      · rw [List.getElem?_set_ne (Ne.symm hj)] at e2
        obtain ⟨u', r', q⟩ := hl j y v' e1 e2 e3
        refine ⟨u', r', ?_⟩
        rcases q with ⟨k, e⟩ | ⟨k, c, e, z⟩
        · refine .inl ⟨k, ?_⟩
          have : y ≠ x := fun e => hj (nodup_ix hN e1 (e ▸ hi))
          simp [this, e]
        · exact .inr ⟨k, c, e, z.sameBut hs (cne y c e)⟩
    · obtain ⟨w', z⟩ := I.cell y c e
      exact ⟨w', z.sameBut hs (cne y c e)⟩
    · obtain ⟨e, n, ne, nf, d⟩ := I.pin p hp
      exact ⟨(hs.2 p.1 ne).trans e, n, ne, nf, d⟩
  · have hfn : X.fn x = true := by
      rcases hf with z | z
      · exact z
      · rw [z] at hk; cases hk
    obtain ⟨c, hc⟩ := I.ok.has x (.inl hk)
    obtain ⟨w', z⟩ := I.cell x c hc
    refine wpAny_storeName_cell I.ok.kind hk hc z (fun h' hc' hs => ?_)
    obtain ⟨oc, hoc, hocd⟩ := id z
    refine h { s with heap := h' } ⟨I.ok, I.os, I.bare, ⟨fun b o e n hb hx => ?_, fun b o e n hb hx => ?_, I.base.free, fun b o e hx => ?_, I.base.tups, I.base.frzs, I.base.tbls⟩, ⟨m, hn.sameBut hs (Ne.symm (cne x c hc)), fun j y v' e1 e2 e3 => ?_⟩, fun y c' e => ?_, I.free, I.freeC, fun p hp => ?_, tracked ⟨oc, hoc, I.freeC x c hc⟩ hs, by simpa using I.len⟩ ⟨c, hs, .inr hc⟩
    · exact (hs.2 b (Nat.ne_of_lt (Nat.lt_of_lt_of_le (Heap.lt_size e) (I.ok.cab x c hfn hc)))).trans (I.base.keep b o e n hb hx)
    · obtain ⟨sl, e1⟩ := I.base.slot b o e n hb hx
      exact ⟨sl, (hs.2 b (Nat.ne_of_lt (Nat.lt_of_lt_of_le (Heap.lt_size e) (I.ok.cab x c hfn hc)))).trans e1⟩
    · obtain ⟨o', e1⟩ := I.base.there b o e hx
      exact ⟨o', (hs.2 b (Nat.ne_of_lt (Nat.lt_of_lt_of_le (Heap.lt_size e) (I.ok.cab x c hfn hc)))).trans e1⟩
    · by_cases hj : j = i
      · subst hj
        rw [hi] at e1; cases e1
        rw [List.getElem?_set_self hiσ] at e2
        cases e2
        exact ⟨u, r, .inr ⟨.inl hk, c, hc, hc'⟩⟩
      · rw [List.getElem?_set_ne (Ne.symm hj)] at e2
        obtain ⟨u', r', q⟩ := hl j y v' e1 e2 e3
        refine ⟨u', r', ?_⟩
        rcases q with q | ⟨k, c', e, z'⟩
        · exact .inl q
        · refine .inr ⟨k, c', e, z'.sameBut hs ?_⟩
          rintro rfl
          exact hj (nodup_ix hN e1 (I.ok.inj _ _ _ e hc ▸ hi))
    · by_cases hcc : c' = c
      · subst hcc; exact ⟨_, hc'⟩
      · obtain ⟨w2, z2⟩ := I.cell y c' e
        exact ⟨w2, z2.sameBut hs hcc⟩
    · obtain ⟨e, n, ne, nf, d⟩ := I.pin p hp
      refine ⟨(hs.2 p.1 ?_).trans e, n, ne, nf, d⟩
      intro q
      rw [q, hoc] at e
      have q' : oc = p.2 := Option.some.inj e
      exact d w' (by rw [← q']; exact hocd)
theorem store_ok {M : Model} {A : Around} {E : Value → Shared → Prop} {i : Nat} {x : Str} {v : V} {u : Value} {Q : Unit → Shared → Prop} (I : Inv X pins σ H s) (hN : X.N.Nodup) (hi : X.N[i]? = some x) (hx : Loc X.env.scope x) (r : RelV v u)
    (h : ∀ s', Inv X pins (σ.set i (some v)) H s' → Q () s') (hf : X.fn x = true ∨ X.env.scope.names.lookup x = some .local := by first | exact .inl rfl | exact .inr rfl | assumption) : wpAny M A (storeName X.env x u) Q E s :=
  store_ok2 I hN hi hx r (fun s' I' _ => h s' I') hf
theorem Inv.call' {s' : Shared} {ch : List Addr} (I : Inv X pins σ H s) (ho : s'.os = s.os) (u : Un (frs X.stack) ch H H' s.heap s'.heap) (hok : HOk X.prog X.w H' s'.heap) (hg : AllBare s'.gens)
    (hch : ∀ b ∈ ch, (b ∈ X.ex ∨ X.s₀.heap.objs.size ≤ b) ∧ b ≠ X.env.locals ∧ (∀ x c, X.env.cells.lookup x = some c → c ≠ b) ∧ ∀ p ∈ X.pn ++ pins, p.1 ≠ b) : Inv X pins σ H' s' := by
  obtain ⟨h', g', d', t', o'⟩ := s'
  have e : o' = s.os := ho
  subst e
  exact I.call (g' := g') (t' := t') (d' := d') u hok hg hch
end
abbrev XK := Value → Option Addr → Hp → Prop
abbrev St := List (Option V)
abbrev VK := V → Hp → Prop
abbrev TE := St → Hp → VK → Prop
abbrev TT := St → Hp → (Bool → Hp → Prop) → Prop
abbrev TA := St → Hp → (List V → Hp → Prop) → Prop
structure Ends where
  nx : St → Hp → Prop
  rt : VK
  bk : St → Hp → Prop := fun _ _ => False
  ct : St → Hp → Prop := fun _ _ => False
abbrev TS := Ends → St → Hp → Prop
def EP (X : Cx) (pins : List (Addr × Obj)) (σ : St) (Q : VK) (u : Value) (s' : Shared) : Prop := ∃ v H', Inv X pins σ H' s' ∧ RelV v u ∧ Q v H'
def TP (X : Cx) (pins : List (Addr × Obj)) (σ : St) (Q : Bool → Hp → Prop) (b : Bool) (s' : Shared) : Prop := ∃ H', Inv X pins σ H' s' ∧ Q b H'
def AP (X : Cx) (pins : List (Addr × Obj)) (σ : St) (Q : List V → Hp → Prop) (us : List Value) (s' : Shared) : Prop := ∃ vs H', Inv X pins σ H' s' ∧ Vals vs us ∧ Q vs H'
def SP (X : Cx) (pins : List (Addr × Obj)) (D : Ends) (f : Flow) (s' : Shared) : Prop :=
  match f with
  | .next => ∃ σ' H', Inv X pins σ' H' s' ∧ D.nx σ' H'
  | .brk => ∃ σ' H', Inv X pins σ' H' s' ∧ D.bk σ' H'
  | .cont => ∃ σ' H', Inv X pins σ' H' s' ∧ D.ct σ' H'
  | .ret u => ∃ v σ' H', Inv X pins σ' H' s' ∧ RelV v u ∧ D.rt v H'
def PE (X : Cx) (e : Expr) (t : TE) : Prop :=
  ∀ (pins : List (Addr × Obj)) (s : Shared) (σ : St) (H : Hp) (Q : VK), Inv X pins σ H s → t σ H Q → wpAny (model X.prog X.w) X.A (eval e X.env) (EP X pins σ Q) X.xe s
def PT (X : Cx) (e : Expr) (t : TT) : Prop :=
  ∀ (pins : List (Addr × Obj)) (s : Shared) (σ : St) (H : Hp) (Q : Bool → Hp → Prop), Inv X pins σ H s → t σ H Q → wpAny (model X.prog X.w) X.A (isTrue e X.env (eval e X.env)) (TP X pins σ Q) X.xe s
def PW (X : Cx) (e : Expr) (t : TT) : Prop :=
  ∀ (whole : Sem Value) (pins : List (Addr × Obj)) (s : Shared) (σ : St) (H : Hp) (Q : Bool → Hp → Prop), Inv X pins σ H s → t σ H Q → wpAny (model X.prog X.w) X.A (isTrue e X.env whole) (TP X pins σ Q) X.xe s
theorem PW.pt {X : Cx} {e : Expr} {t : TT} (h : PW X e t) : PT X e t := h _
def PA (X : Cx) (es : List Expr) (t : TA) : Prop :=
  ∀ (pos : Pos) (pins : List (Addr × Obj)) (s : Shared) (σ : St) (H : Hp) (Q : List V → Hp → Prop), Inv X pins σ H s → t σ H Q → wpAny (model X.prog X.w) X.A (spliced (backTo pos (starEach es X.env))) (AP X pins σ Q) X.xe s
def PS (X : Cx) (st : Stmt) (t : TS) : Prop :=
  ∀ (pins : List (Addr × Obj)) (s : Shared) (σ : St) (H : Hp) (D : Ends), Inv X pins σ H s → t D σ H → wpAny (model X.prog X.w) X.A (exec st X.env) (SP X pins D) X.xe s
def PSs (X : Cx) (st : List Stmt) (t : TS) : Prop :=
  ∀ (pins : List (Addr × Obj)) (s : Shared) (σ : St) (H : Hp) (D : Ends), Inv X pins σ H s → t D σ H → wpAny (model X.prog X.w) X.A (execs st X.env) (SP X pins D) X.xe s
theorem thn {α : Type} {t : Sem α} {Q Q' : α → Shared → Prop} {M : Model} {A : Around} {E : Value → Shared → Prop} {s : Shared} (h : wpAny M A t Q E s) (hQ : ∀ a s, Q a s → Q' a s) : wpAny M A t Q' E s := wpAny_mono h hQ fun _ _ x => x
end L2
namespace L2
open PySem PySem.Spec PyProof.Rows
section
variable {X : Cx}
def tVar (i : Nat) : TE := fun σ H Q => ∃ v, σ[i]? = some (some v) ∧ Q v H
def tC (v : V) : TE := fun _ H Q => Q v H
theorem pe_var {i : Nat} {x : Str} {pos : Pos} (hN : X.N[i]? = some x) (hv : Vis X.env.scope x) (hd : (x == ("__debug__" : Str)) = false := by decide) (hcd : (x == ("__classdict__" : Str)) = false := by decide) : PE X (.Name x pos) (tVar i) := by
  intro pins s σ H Q I h
  obtain ⟨v, e, h⟩ := h
  obtain ⟨m, hn, hl⟩ := I.loc
  obtain ⟨u, r, l⟩ := hl i x v hN e hv
  have fin : EP X pins σ Q u s := ⟨v, H, I, r, h⟩
  rcases l with ⟨hk, hm⟩ | ⟨hk, c, hc, hcell⟩
  · exact wpAny_Name (wpAny_loadName_local I.ok.kind hk hn hm fin) hd
  · rcases hk with hk | hk
    · exact wpAny_Name (wpAny_loadName_cell I.ok.kind hk hc hcell fin) hd
    · exact wpAny_Name (wpAny_loadName_free I.ok.kind hk hc hcell fin hcd) hd
theorem pe_int {i j pos} : PE X (.Constant (.int i) j pos) (tC (.int i)) := fun _ _ _ H _ I h => wpAny_Constant_int ⟨.int i, H, I.tok _, ⟨_, rfl⟩, h⟩
theorem pe_bl {b j pos} : PE X (.Constant (.bool b) j pos) (tC (.bl b)) := fun _ _ _ H _ I h => Constant_bool ⟨.bl b, H, I, rfl, h⟩
theorem pe_non {j pos} : PE X (.Constant .none j pos) (tC .non) := fun _ _ _ H _ I h => Constant_none ⟨.non, H, I, rfl, h⟩
theorem pe_str {x j pos} : PE X (.Constant (.str x) j pos) (tC (.str x)) := fun _ _ _ H _ I h => Calls.Constant_str ⟨.str x, H, I.tok _, ⟨_, rfl⟩, h⟩
def Gl (X : Cx) (x : Str) : Prop := X.env.kindOf x = some .globalImplicit
theorem ld_glob {E : Value → Shared → Prop} {pins : List (Addr × Obj)} {s : Shared} {σ : St} {H : Hp} {x : Str} {u : Value} {pos : Pos} {Q : Value → Shared → Prop} (I : Inv X pins σ H s) (hg : Gl X x) (hm : X.mg x = some u) (h : Q u s)
    (hd : (x == ("__debug__" : Str)) = false := by decide) : wpAny (model X.prog X.w) X.A (eval (.Name x pos) X.env) Q E s :=
  Calls.Name_function_global I.ok.kind hg (Calls.loadGlobal_global (by rw [I.ok.glob]; exact I.mod.glob.keeps I.bk) hm h) hd
theorem ld_blt {E : Value → Shared → Prop} {pins : List (Addr × Obj)} {s : Shared} {σ : St} {H : Hp} {x : Str} {u : Value} {pos : Pos} {Q : Value → Shared → Prop} (I : Inv X pins σ H s) (hg : Gl X x) (hm : X.mg x = none) (hv : bootBuiltins x = some u) (h : Q u s)
    (hn : x ≠ "__name__" := by decide) (hd : (x == ("__debug__" : Str)) = false := by decide) : wpAny (model X.prog X.w) X.A (eval (.Name x pos) X.env) Q E s := by
  obtain ⟨mb, h1, h2⟩ := I.mod.blt
  exact Calls.Name_function_global I.ok.kind hg (Calls.loadGlobal_builtin (by rw [I.ok.glob]; exact I.mod.glob.keeps I.bk) hm (by rw [I.ok.blt]; exact h1.keeps I.bk) ((h2 x hn).trans hv) h) hd
theorem pe_bltn {x : Str} {v : V} {u : Value} {pos : Pos} (hg : Gl X x) (hm : X.mg x = none) (hv : bootBuiltins x = some u) (r : RelV v u) (hn : x ≠ "__name__" := by decide) (hd : (x == ("__debug__" : Str)) = false := by decide) : PE X (.Name x pos) (tC v) :=
  fun _ _ _ H _ I h => ld_blt I hg hm hv ⟨v, H, I, r, h⟩ hn hd
variable {a b : Expr} {ta tb : TE} {pos : Pos}
def tB (t : TE) : TT := fun σ H Q => t σ H fun x H1 => ∃ c, x = .bl c ∧ Q c H1
theorem pt_val {e : Expr} {t : TE} (h : PE X e t) (he : ∀ whole, isTrue e X.env whole = (do let v ← whole; standAt e.pos; holding [v] (truthy v)) := by intro _; rfl) : PT X e (tB t) := by
  intro pins s σ H Q I hw
  refine isTrue_plain (thn (h pins s σ H _ I hw) fun v s1 ⟨x, H1, I1, r1, q1⟩ => ?_) (he _)
  obtain ⟨d, rfl, q⟩ := q1
  cases r1
  exact wpAny_truthy_bool ⟨H1, I1, q⟩
variable {tA tB' : TT} {rest : List Expr}
def tAnd (t u : TT) : TT := fun σ H Q => t σ H fun c H1 => if c = true then u σ H1 Q else Q false H1
def tOr (t u : TT) : TT := fun σ H Q => t σ H fun c H1 => if c = true then Q true H1 else u σ H1 Q
def tNot (t : TT) : TT := fun σ H Q => t σ H fun c H1 => Q (!c) H1
theorem pw_and1 (ha : PT X a tA) : PW X (.BoolOp .And [a] pos) tA := by
  intro wh pins s σ H Q I h
  refine isTrue_and (thn (ha pins s σ H Q I h) fun c s1 e => ?_)
  cases c with
  | true => exact isTrue_and_nil e
  | false => exact e
theorem pw_or1 (ha : PT X a tA) : PW X (.BoolOp .Or [a] pos) tA := by
  intro wh pins s σ H Q I h
  refine isTrue_or (thn (ha pins s σ H Q I h) fun c s1 e => ?_)
  cases c with
  | false => exact isTrue_or_nil e
  | true => exact e
theorem pw_and (ha : PT X a tA) (hb : PW X (.BoolOp .And (b :: rest) pos) tB') : PW X (.BoolOp .And (a :: b :: rest) pos) (tAnd tA tB') := by
  intro wh pins s σ H Q I h
  refine isTrue_and (thn (ha pins s σ H _ I h) fun c s1 ⟨H1, I1, q1⟩ => ?_)
  cases c with
  | true => exact hb wh pins s1 σ H1 Q I1 q1
  | false => exact ⟨H1, I1, q1⟩
theorem pw_or (ha : PT X a tA) (hb : PW X (.BoolOp .Or (b :: rest) pos) tB') : PW X (.BoolOp .Or (a :: b :: rest) pos) (tOr tA tB') := by
  intro wh pins s σ H Q I h
  refine isTrue_or (thn (ha pins s σ H _ I h) fun c s1 ⟨H1, I1, q1⟩ => ?_)
  cases c with
  | true => exact ⟨H1, I1, q1⟩
  | false => exact hb wh pins s1 σ H1 Q I1 q1
theorem pt_not (ha : PT X a tA) : PT X (.UnaryOp .Not a pos) (tNot tA) := by
  intro pins s σ H Q I h
  exact isTrue_not (ha pins s σ H (fun c H1 => Q (!c) H1) I h)
def tAndV (ta tb : TE) : TE := fun σ H Q => ta σ H fun x H1 => ∃ c, x = .bl c ∧ if c = true then tb σ H1 Q else Q (.bl false) H1
def tOrV (ta tb : TE) : TE := fun σ H Q => ta σ H fun x H1 => ∃ c, x = .bl c ∧ if c = true then Q (.bl true) H1 else tb σ H1 Q
def tNotV (ta : TE) : TE := fun σ H Q => ta σ H fun x H1 => ∃ c, x = .bl c ∧ Q (.bl (!c)) H1
theorem pe_one {op} {t : TE} (h : PE X a t) : PE X (.BoolOp op [a] pos) t := fun pins s σ H Q I hw => BoolOp_one (h pins s σ H Q I hw)
theorem pe_and (ha : PE X a ta) (hb : PE X (.BoolOp .And (b :: rest) pos) tb) : PE X (.BoolOp .And (a :: b :: rest) pos) (tAndV ta tb) := by
  intro pins s σ H Q I h
  refine BoolOp_and (thn (ha pins s σ H _ I h) fun v s1 ⟨x, H1, I1, r1, q1⟩ => ?_)
  obtain ⟨c, rfl, q1⟩ := q1
  cases r1
  refine wpAny_truthy_bool ?_
  cases c with
  | true => exact hb pins s1 σ H1 Q I1 q1
  | false => exact ⟨.bl false, H1, I1, rfl, q1⟩
theorem pe_or (ha : PE X a ta) (hb : PE X (.BoolOp .Or (b :: rest) pos) tb) : PE X (.BoolOp .Or (a :: b :: rest) pos) (tOrV ta tb) := by
  intro pins s σ H Q I h
  refine BoolOp_or (thn (ha pins s σ H _ I h) fun v s1 ⟨x, H1, I1, r1, q1⟩ => ?_)
  obtain ⟨c, rfl, q1⟩ := q1
  cases r1
  refine wpAny_truthy_bool ?_
  cases c with
  | false => exact hb pins s1 σ H1 Q I1 q1
  | true => exact ⟨.bl true, H1, I1, rfl, q1⟩
theorem pe_not (ha : PE X a ta) : PE X (.UnaryOp .Not a pos) (tNotV ta) := by
  intro pins s σ H Q I h
  refine UnaryOp_ (thn (ha pins s σ H _ I h) fun v s1 ⟨x, H1, I1, r1, q1⟩ => ?_)
  obtain ⟨c, rfl, q1⟩ := q1
  cases r1
  exact not_of (wpAny_truthy_bool ⟨.bl (!c), H1, I1, rfl, q1⟩)
end
end L2
namespace L2
open PySem PySem.Spec PyProof.Rows
def SqL (K : PySem.W.Frag) (H : Hp) (a : Addr) (xs : List V) : Prop :=
  Rd H a (.lst xs) ∨
    ∃ (o : Obj) (its : Array Value) (n : Nat), K.lookup a = some o ∧ o.cls = .type "list" ∧ o.dict = none ∧ o.data = .seq its n ∧ its.size ≤ sizeLine ∧ Vals xs its.toList
def SqT (K : PySem.W.Frag) (H : Hp) (a : Addr) (xs : List V) : Prop :=
  Rd H a (.tup xs) ∨
    ∃ (o : Obj) (its : Array Value) (n : Nat), K.lookup a = some o ∧ o.cls = .type "tuple" ∧ o.data = .seq its n ∧ its.size ≤ sizeLine ∧ Vals xs its.toList
def absV : Value → Option V
  | .none => some .non
  | .bool b => some (.bl b)
  | .int i _ => some (.int i)
  | .str x _ => some (.str x)
  | .bytes b _ => some (.byt b)
  | .float b _ => some (.flt b)
  | .ref a => some (.ref a)
  | .type n => some (.ty n)
  | _ => none
theorem RelV.abs {x : V} {u : Value} (r : RelV x u) : absV u = some x := by
  cases x with
  | non => cases r; rfl
  | bl _ => cases r; rfl
  | int _ => obtain ⟨t, rfl⟩ := r; rfl
  | str _ => obtain ⟨t, rfl⟩ := r; rfl
  | byt _ => obtain ⟨t, rfl⟩ := r; rfl
  | flt _ => obtain ⟨t, rfl⟩ := r; rfl
  | ref _ => cases r; rfl
  | ty _ => cases r; rfl
theorem RelV.inj {x y : V} {u : Value} (r : RelV x u) (q : RelV y u) : x = y := Option.some.inj (r.abs.symm.trans q.abs)
theorem Vals.inj : ∀ {xs ys : List V} {us : List Value}, Vals xs us → Vals ys us → xs = ys
  | _, _, _, .nil, .nil => rfl
  | _, _, _, .cons r t, .cons r' t' => by rw [r.inj r', Vals.inj t t']
section
variable {X : Cx} {pins : List (Addr × Obj)} {σ : St} {H : Hp} {s : Shared} {a : Addr} {xs ys : List V}
theorem SqL.of {K : PySem.W.Frag} (h : H a = some (.lst xs)) : SqL K H a xs := .inl (.inl h)
theorem SqT.of {K : PySem.W.Frag} (h : H a = some (.tup xs)) : SqT K H a xs := .inl (.inl h)
theorem Inv.list (I : Inv X pins σ H s) (h : SqL X.K H a xs) : ∃ its : List Value, Vals xs its ∧ PlainL s.heap a its.toArray ∧ xs.length ≤ sizeLine := by
  rcases h with h | ⟨o, its, n, hk, hc, hd, hs, hz, r⟩
  · obtain ⟨z, its, n, r, e⟩ := h.ok I.hok
    exact ⟨its, r, ⟨_, n, e, rfl, rfl, rfl⟩, z⟩
  · refine ⟨its.toList, r, ⟨o, n, I.kIn a o hk, hc, hd, by simpa using hs⟩, ?_⟩
    have e := r.length
    simp only [Array.length_toList] at e
    omega
theorem Inv.tuple (I : Inv X pins σ H s) (h : SqT X.K H a xs) : ∃ its : List Value, Vals xs its ∧ IsTup s.heap a its.toArray ∧ xs.length ≤ sizeLine := by
  rcases h with h | ⟨o, its, n, hk, hc, hs, hz, r⟩
  · obtain ⟨z, its, r, p⟩ := h.ok I.hok
    exact ⟨its, r, p, z⟩
  · refine ⟨its.toList, r, ⟨o, I.kIn a o hk, hc, n, by simpa using hs⟩, ?_⟩
    have e := r.length
    simp only [Array.length_toList] at e
    omega
theorem Inv.list_inj (I : Inv X pins σ H s) (h : SqL X.K H a xs) (h' : SqL X.K H a ys) : xs = ys := by
  obtain ⟨its, r, ⟨o, n, e, _, _, d⟩, _⟩ := I.list h
  obtain ⟨its', r', ⟨o', n', e', _, _, d'⟩, _⟩ := I.list h'
  rw [e] at e'; cases e'
  rw [d] at d'
  injection d' with d1 _
  have : its = its' := by simpa using congrArg Array.toList d1
  subst this
  exact r.inj r'
theorem Inv.tuple_inj (I : Inv X pins σ H s) (h : SqT X.K H a xs) (h' : SqT X.K H a ys) : xs = ys := by
  obtain ⟨its, r, ⟨o, e, _, n, d⟩, _⟩ := I.tuple h
  obtain ⟨its', r', ⟨o', e', _, n', d'⟩, _⟩ := I.tuple h'
  rw [e] at e'; cases e'
  rw [d] at d'
  injection d' with d1 _
  have : its = its' := by simpa using congrArg Array.toList d1
  subst this
  exact r.inj r'
end
abbrev Cx.wish (X : Cx) (E : Value → Shared → Prop) : Cx := { X with xe := E }
abbrev Cx.nox (X : Cx) : Cx := X.wish fun _ _ => False
theorem Cx.Ok.wish {X : Cx} (ok : X.Ok) (E : Value → Shared → Prop) : (X.wish E).Ok :=
  ⟨ok.mod, ok.kind, ok.glob, ok.blt, ok.above, ok.inj, ok.has, ok.cab, ok.hd, ok.frames, ok.stk, ok.exf, ok.bs, ok.bsz, ok.noex, ok.exfs, ok.funs, ok.frf⟩
theorem Cx.Ok.unwish {X : Cx} {E : Value → Shared → Prop} (ok : (X.wish E).Ok) : X.Ok :=
  ⟨ok.mod, ok.kind, ok.glob, ok.blt, ok.above, ok.inj, ok.has, ok.cab, ok.hd, ok.frames, ok.stk, ok.exf, ok.bs, ok.bsz, ok.noex, ok.exfs, ok.funs, ok.frf⟩
section
variable {X : Cx} {pins : List (Addr × Obj)} {σ : St} {H : Hp} {s : Shared} {E : Value → Shared → Prop}
theorem Inv.wish (I : Inv X pins σ H s) (E : Value → Shared → Prop) : Inv (X.wish E) pins σ H s := ⟨I.ok.wish E, I.os, I.bare, I.base, I.loc, I.cell, I.free, I.freeC, I.pin, I.hok, I.len⟩
theorem Inv.unwish (I : Inv (X.wish E) pins σ H s) : Inv X pins σ H s := ⟨I.ok.unwish, I.os, I.bare, I.base, I.loc, I.cell, I.free, I.freeC, I.pin, I.hok, I.len⟩
theorem SP.unwish {D : Ends} {f : Flow} {s' : Shared} (h : SP (X.wish E) pins D f s') : SP X pins D f s' := by
  cases f with
  | next => obtain ⟨σ', H', I, q⟩ := h; exact ⟨σ', H', I.unwish, q⟩
  | brk => obtain ⟨σ', H', I, q⟩ := h; exact ⟨σ', H', I.unwish, q⟩
  | cont => obtain ⟨σ', H', I, q⟩ := h; exact ⟨σ', H', I.unwish, q⟩
  | ret u => obtain ⟨v, σ', H', I, r, q⟩ := h; exact ⟨v, σ', H', I.unwish, r, q⟩
theorem PSs.nox {st : List Stmt} {t : TS} (h : PSs X.nox st t) : PSs X st t := fun pins s σ H D I hw =>
  wpAny_mono (h pins s σ H D (I.wish _) hw) (fun _ _ q => q.unwish) fun _ _ z => False.elim z
end
section
variable {X : Cx} {st : Stmt} {rest : List Stmt} {t u : TS} {e : Expr} {te : TE} {pos : Pos}
def tNext : TS := fun D σ H => D.nx σ H
def tSeq (t u : TS) : TS := fun D σ H => t { D with nx := u D } σ H
theorem pss_nil : PSs X [] tNext := fun _ _ σ H _ I h => wpAny_execs_nil ⟨σ, H, I, h⟩
theorem pss_cons (h1 : PS X st t) (h2 : PSs X rest u) : PSs X (st :: rest) (tSeq t u) := by
  intro pins s σ H D I h
  refine wpAny_execs_cons (thn (h1 pins s σ H { D with nx := u D } I h) fun f s1 q => ?_)
  cases f with
  | next =>
    obtain ⟨σ', H', I', q⟩ := q
    exact h2 pins s1 σ' H' D I' q
  | ret v => exact q
  | brk => exact q
  | cont => exact q
theorem pss_one (h1 : PS X st t) : PSs X [st] t := by
  intro pins s σ H D I h
  refine wpAny_execs_cons (thn (h1 pins s σ H D I h) fun f s1 q => ?_)
  cases f with
  | next => exact wpAny_execs_nil q
  | ret v => exact q
  | brk => exact q
  | cont => exact q
theorem Inv.quiet {pins : List (Addr × Obj)} {σ : St} {H : Hp} {s : Shared} (I : Inv X pins σ H s) : interactive X.env = false := by simp [interactive, I.ok.kind]
def tDrop (te : TE) : TS := fun D σ H => te σ H fun _ H1 => D.nx σ H1
theorem ps_expr (he : PE X e te) (hs : swapsWith e none pos.line X.env = pure false := by rfl) : PS X (.Expr e pos) (tDrop te) := by
  intro pins s σ H D I h
  exact wpAny_Expr_any (thn (he pins s σ H _ I h) fun v s1 ⟨x, H1, I1, r1, q1⟩ => ⟨σ, H1, I1, q1⟩) I.quiet hs
def tRet (te : TE) : TS := fun D σ H => te σ H D.rt
theorem ps_ret (he : PE X e te) : PS X (.Return (some e) pos) (tRet te) := by
  intro pins s σ H D I h
  exact wpAny_Return_some (thn (he pins s σ H _ I h) fun v s1 ⟨x, H1, I1, r1, q1⟩ => ⟨x, σ, H1, I1, r1, q1⟩)
def tIfS (c : TT) (t u : TS) : TS := fun D σ H => c σ H fun b H1 => if b = true then t D σ H1 else u D σ H1
theorem ps_if {c : Expr} {a b : List Stmt} {tc : TT} (hc : PT X c tc) (ha : PSs X a t) (hb : PSs X b u) : PS X (.If c a b pos) (tIfS tc t u) := by
  intro pins s σ H D I h
  refine wpAny_If (thn (hc pins s σ H _ I h) fun d s1 ⟨H1, I1, q1⟩ => ?_)
  cases d with
  | true => exact ha pins s1 σ H1 D I1 q1
  | false => exact hb pins s1 σ H1 D I1 q1
end
abbrev TG := V → St → Hp → (St → Hp → Prop) → Prop
abbrev TGs := List V → St → Hp → (St → Hp → Prop) → Prop
def PG (X : Cx) (target : Expr) (t : TG) : Prop :=
  ∀ (pins : List (Addr × Obj)) (s : Shared) (σ : St) (H : Hp) (v : V) (u : Value) (Q : St → Hp → Prop), Inv X pins σ H s → RelV v u → t v σ H Q →
    wpAny (model X.prog X.w) X.A (assign target X.env u) (fun _ s' => ∃ σ' H', Inv X pins σ' H' s' ∧ Q σ' H') X.xe s
def PGs (X : Cx) (ts : List Expr) (t : TGs) : Prop :=
  ∀ (pins : List (Addr × Obj)) (s : Shared) (σ : St) (H : Hp) (vs : List V) (us : List Value) (Q : St → Hp → Prop), Inv X pins σ H s → Vals vs us → t vs σ H Q →
    wpAny (model X.prog X.w) X.A (assignInOrder ((assignEach ts X.env).map (·.2)) us) (fun _ s' => ∃ σ' H', Inv X pins σ' H' s' ∧ Q σ' H') X.xe s
abbrev TSet := V → V → V → Hp → (Hp → Prop) → Prop
def PSet (X : Cx) (t : TSet) : Prop :=
  ∀ (pins : List (Addr × Obj)) (s : Shared) (σ : St) (H : Hp) (o i v : V) (ov iv u : Value) (Q : Hp → Prop), Inv X pins σ H s → RelV o ov → RelV i iv → RelV v u → t o i v H Q →
    wpAny (model X.prog X.w) X.A (setItem ov iv u) (fun _ s' => ∃ H', Inv X pins σ H' s' ∧ Q H') X.xe s
section
variable {X : Cx} {pos : Pos}
def gName (i : Nat) : TG := fun v σ H Q => Q (σ.set i (some v)) H
theorem pg_name {i : Nat} {x : Str} (hN : X.N.Nodup) (hi : X.N[i]? = some x) (hx : Loc X.env.scope x) (hf : X.fn x = true ∨ X.env.scope.names.lookup x = some .local := by first | exact .inl rfl | exact .inr rfl | assumption) : PG X (.Name x pos) (gName i) := by
  intro pins s σ H v u Q I r h
  exact wpAny_assign_Name (store_ok I hN hi hx r (fun s' I' => ⟨_, H, I', h⟩) hf)
def gNil : TGs := fun vs σ H Q => vs = [] ∧ Q σ H
def gCons (t : TG) (u : TGs) : TGs := fun vs σ H Q => ∃ v r, vs = v :: r ∧ t v σ H fun σ' H' => u r σ' H' Q
theorem pgs_nil : PGs X [] gNil := by
  intro pins s σ H vs us Q I r h
  obtain ⟨e, h⟩ := h
  subst e
  cases r
  exact assignInOrder_nil ⟨σ, H, I, h⟩
theorem pgs_cons {e : Expr} {es : List Expr} {t : TG} {u : TGs} (h1 : PG X e t) (h2 : PGs X es u)
    (hs : (assignEach (e :: es) X.env).map (·.2) = assign e X.env :: (assignEach es X.env).map (·.2) := by rfl) : PGs X (e :: es) (gCons t u) := by
  intro pins s σ H vs us Q I r h
  obtain ⟨v, vr, e1, h⟩ := h
  subst e1
  cases r with
  | cons r rr =>
    rw [hs]
    refine assignInOrder_cons (thn (h1 pins s σ H _ _ _ I r h) fun _ s1 ⟨σ1, H1, I1, q1⟩ => ?_)
    exact h2 pins s1 σ1 H1 _ _ Q I1 rr q1
def gTup (K : PySem.W.Frag) (n : Nat) (t : TGs) : TG := fun v σ H Q => ∃ a xs, v = .ref a ∧ SqT K H a xs ∧ xs.length = n ∧ t xs σ H Q
theorem pg_tup {es : List Expr} {k : Nat} {t : TGs} {n : Nat} (hc : X.calm = true) (h : PGs X es t)
    (hn : (assignEach es X.env).length = n := by rfl) (hst : (assignEach es X.env).findIdx? (·.1) = none := by rfl) : PG X (.Tuple es k pos) (gTup X.K n t) := by
  intro pins s σ H v u Q I r hw
  obtain ⟨a, xs, e1, hq, hl, hw⟩ := hw
  subst e1
  cases r
  obtain ⟨its, rv, ht, hz⟩ := I.tuple hq
  refine assign_Tuple_tuple (I.ok.hd hc) ht (by simp [hn, ← hl, rv.length]) hst fun h' hx => ?_
  have I1 : Inv X pins σ H { s with heap := h' } := I.kept (t' := s.toks) fun b o e => hx b o (Nat.ne_of_lt (Heap.lt_size e)) e
  exact h pins _ σ H xs _ Q I1 (by simpa using rv) hw
def gSub (to ti : TE) (t : TSet) : TG := fun v σ H Q => to σ H fun o H1 => ti σ H1 fun i H2 => t o i v H2 fun H3 => Q σ H3
theorem pg_sub {o i : Expr} {to ti : TE} {t : TSet} (ho : PE X o to) (hi : PE X i ti) (hs : PSet X t)
    (ha : ∀ v, assign (.Subscript o i pos) X.env v = (do
      let ov ← holding [v] (eval o X.env)
      let iv ← holding [v, ov] (eval i X.env)
      standAt pos
      holding [v, ov, iv] (setItem ov iv v)
      release [v, ov, iv] []) := by intro _; rfl) : PG X (.Subscript o i pos) (gSub to ti t) := by
  intro pins s σ H v u Q I r h
  rw [ha]
  refine wpAny_bind (wpAny_holding (thn (ho pins s σ H _ I h) fun ov s1 ⟨x, H1, I1, r1, q1⟩ => ?_))
  refine wpAny_bind (wpAny_holding (thn (hi pins s1 σ H1 _ I1 q1) fun iv s2 ⟨y, H2, I2, r2, q2⟩ => ?_))
  refine wpAny_bind (wpAny_standAt (wpAny_bind (wpAny_holding (thn (hs pins s2 σ H2 x y v ov iv u _ I2 r1 r2 r q2) fun _ s3 ⟨H3, I3, q3⟩ => ?_))))
  exact wpAny_release ⟨σ, H3, I3, q3⟩
def tAsg (te : TE) (g : TG) : TS := fun D σ H => te σ H fun x H1 => g x σ H1 D.nx
theorem ps_asg {tg e : Expr} {te : TE} {g : TG} (he : PE X e te) (hg : PG X tg g) (hs : swapsWithSole [tg] e pos.line X.env = pure false := by rfl) (hw : swappedStores [tg] e X.env = pure none := by rfl)
    (h1 : (assignEach [tg] X.env).map (·.2) = [assign tg X.env] := by rfl) : PS X (.Assign [tg] e pos) (tAsg te g) := by
  intro pins s σ H D I h
  refine wpAny_Assign_stores (thn (he pins s σ H _ I h) fun v s1 ⟨x, H1, I1, r1, q1⟩ => ?_) hs hw
  rw [h1]
  exact thn (hg pins s1 σ H1 x v _ I1 r1 q1) fun _ s2 q => q
theorem ps_set {i : Nat} {x : Str} {e : Expr} {te : TE} {pos' : Pos} (hN : X.N.Nodup) (hi : X.N[i]? = some x) (hx : Loc X.env.scope x) (he : PE X e te) (hs : swapsWith e (some (.Name x pos')) pos.line X.env = pure false := by rfl) (hf : X.fn x = true ∨ X.env.scope.names.lookup x = some .local := by first | exact .inl rfl | exact .inr rfl | assumption) :
    PS X (.Assign [.Name x pos'] e pos) (tAsg te (gName i)) := by
  intro pins s σ H D I h
  refine wpAny_Assign_Name (thn (he pins s σ H _ I h) fun v s1 ⟨y, H1, I1, r1, q1⟩ => ?_) hs
  exact store_ok I1 hN hi hx r1 (fun s2 I2 => ⟨_, H1, I2, q1⟩) hf
end
section
variable {X : Cx} {pos : Pos}
def tWhile (c : TT) (tb : TS) : TS := fun D σ H => ∃ W : Nat → St → Hp → Prop, (∃ m, W m σ H) ∧ ∀ m σ H, W m σ H →
  c σ H fun b H1 => if b = true then ∃ N : St → Hp → Prop, (∀ σ' H', N σ' H' → ∃ m', m' < m ∧ W m' σ' H') ∧ tb { D with nx := N, ct := N, bk := D.nx } σ H1 else D.nx σ H1
theorem ps_while {c : Expr} {body : List Stmt} {tc : TT} {tb : TS} (hp : PassesOwn (model X.prog X.w) X.A X.env X.xe) (hc : PT X c tc) (hb : PSs X body tb) : PS X (.While c body [] pos) (tWhile tc tb) := by
  intro pins s σ H D I h
  obtain ⟨W, ⟨m0, w0⟩, turn⟩ := h
  refine wpAny_While (codeAny_whileLoop (fun n s' => ∃ σ' H', Inv X pins σ' H' s' ∧ W n σ' H') ?_ m0 ⟨σ, H, I, w0⟩)
  rintro n s1 ⟨σ1, H1, I1, w1⟩
  refine wpAny_passesOwn hp (thn (hc pins s1 σ1 H1 _ I1 (turn n σ1 H1 w1)) fun b s2 ⟨H2, I2, q2⟩ => ?_)
  cases b with
  | true =>
    obtain ⟨N, hN, q2⟩ := q2
    rw [if_pos rfl]
    refine wpAny_passesOwn hp (thn (hb pins s2 σ1 H2 _ I2 q2) fun f s3 q3 => ?_)
    cases f with
    | next =>
      obtain ⟨σ3, H3, I3, n3⟩ := q3
      obtain ⟨m', hm, w3⟩ := hN σ3 H3 n3
      exact ⟨m', hm, σ3, H3, I3, w3⟩
    | cont =>
      obtain ⟨σ3, H3, I3, n3⟩ := q3
      obtain ⟨m', hm, w3⟩ := hN σ3 H3 n3
      exact ⟨m', hm, σ3, H3, I3, w3⟩
    | brk => exact q3
    | ret v => exact q3
  | false =>
    rw [if_neg Bool.false_ne_true]
    exact wpAny_execs_nil ⟨σ1, H2, I2, q2⟩
end
structure It where
  go : Nat → Hp → Prop
  yld : Nat → Hp → V → Hp → Prop
  stop : Nat → Hp → Prop
def FpOk (X : Cx) (pins : List (Addr × Obj)) (H : Hp) (b : Addr) : Prop :=
  H b = none ∧ b ≠ X.env.locals ∧ b ∉ X.fs ∧ (b ∈ X.ex ∨ X.s₀.heap.objs.size ≤ b) ∧ (∀ x c, X.env.cells.lookup x = some c → c ≠ b) ∧ ∀ p ∈ X.pn ++ pins, p.1 ≠ b
theorem Inv.fpOk {X : Cx} {pins : List (Addr × Obj)} {σ : St} {H H' : Hp} {s : Shared} {b : Addr} (I : Inv X pins σ H s) (hb : s.heap.objs.size ≤ b) (hn : H' b = none) : FpOk X pins H' b := by
  refine ⟨hn, Nat.ne_of_gt (Nat.lt_of_lt_of_le I.lt hb), I.nofs hb, .inr (Nat.le_trans I.sz hb), fun x c e z => ?_, fun p hp z => ?_⟩
  · obtain ⟨v, q⟩ := I.cell x c e
    exact absurd (Nat.lt_of_lt_of_le q.lt (by rw [z]; exact hb)) (Nat.lt_irrefl _)
  · exact absurd (Nat.lt_of_lt_of_le (Heap.lt_size (I.pin p hp).1) (by rw [z]; exact hb)) (Nat.lt_irrefl _)
structure Turn (P : Program) (w : World) (K : PySem.W.Frag) (tg : Expr) (J : It) (fp : List Addr) (it : Addr) (tn : Nat → Heap → Prop) : Prop where
  mem : it ∈ fp
  obj : ∀ i h, tn i h → ∀ b ∈ fp, ∃ o, h.get? b = some o ∧ ∀ v, o.data ≠ .cell v
  keep : ∀ i h h', tn i h → (∀ b ∈ fp, ∀ o, h.get? b = some o → h'.get? b = some o) → tn i h'
  item : ∀ (X : Cx), X.prog = P → X.w = w → X.K = K → X.calm = true → ∀ (i : Nat) (pins : List (Addr × Obj)) (s : Shared) (σ : St) (H : Hp) (E : Value → Shared → Prop), Inv X pins σ H s → (∀ b ∈ fp, FpOk X pins H b) → tn i s.heap → J.go i H →
    wpAny (model P w) X.A (pyNext (.ref it)) (fun r s1 => ∃ u, r = some u ∧
      wpAny (model P w) X.A (letOwnedTupleGo tg (.ref it) u) (fun _ s2 => ∃ x H', Inv X pins σ H' s2 ∧ RelV x u ∧ J.yld i H x H' ∧ tn (i + 1) s2.heap ∧ ∀ b ∈ fp, H' b = none) E s1) E s
  done : ∀ (X : Cx), X.prog = P → X.w = w → X.K = K → X.calm = true → ∀ (i : Nat) (pins : List (Addr × Obj)) (s : Shared) (σ : St) (H : Hp) (E : Value → Shared → Prop), Inv X pins σ H s → (∀ b ∈ fp, FpOk X pins H b) → tn i s.heap → J.stop i H →
    wpAny (model P w) X.A (pyNext (.ref it)) (fun r s1 => r = none ∧ Inv X pins σ H s1) E s
  self : ∀ (A : Around) (i : Nat) (s : Shared) (Q : Value → Shared → Prop) (E : Value → Shared → Prop), tn i s.heap → Q (.ref it) s → wpAny (model P w) A (pyIter (.ref it)) Q E s
abbrev TI := St → Hp → (It → Hp → Prop) → Prop
def PIE (X : Cx) (pins : List (Addr × Obj)) (σ : St) (tg : Expr) (R : It → Hp → Prop) (itv : Value) (s2 : Shared) : Prop :=
  ∃ (it : Addr) (fp : List Addr) (tn : Nat → Heap → Prop) (J : It) (H' : Hp), itv = .ref it ∧ Inv X pins σ H' s2 ∧ Turn X.prog X.w X.K tg J fp it tn ∧ tn 0 s2.heap ∧ (∀ b ∈ fp, FpOk X pins H' b) ∧ R J H'
def PI (X : Cx) (tg iter : Expr) (wi : TI) : Prop :=
  ∀ (pins : List (Addr × Obj)) (s : Shared) (σ : St) (H : Hp) (R : It → Hp → Prop), Inv X pins σ H s → wi σ H R →
    wpAny (model X.prog X.w) X.A (eval iter X.env) (fun v s1 => wpAny (model X.prog X.w) X.A (pyIter v) (PIE X pins σ tg R) X.xe s1) X.xe s
theorem go_of {M : Model} {A : Around} {E : Value → Shared → Prop} {s : Shared} {tg : Expr} {it : Addr} {u : Value} {o : Obj} {n : String} {vs : Array Value} {Q : Unit → Shared → Prop} (ho : s.heap.get? it = some o) (hc : o.cls = .type n) (hd : o.data = .fields vs)
    (hn : ["enumerate", "zip", "dict_itemiterator", "dict_reverseitemiterator", "odict_iterator", "itertools.zip_longest", "itertools.pairwise"].contains n = false) (hQ : Q () s) : wpAny M A (letOwnedTupleGo tg (.ref it) u) Q E s := by
  unfold letOwnedTupleGo
  cases tg <;> first
    | exact wpAny_pure hQ
    | (cases u <;> first
        | exact wpAny_pure hQ
        | (refine wpAny_bind (wpAny_load ho ?_)
           rw [hc, hd]
           show wpAny M A (if (["enumerate", "zip", "dict_itemiterator", "dict_reverseitemiterator", "odict_iterator", "itertools.zip_longest", "itertools.pairwise"].contains n && vs[0]? == some (rawInt _)) = true then _ else _) Q E s
           rw [if_neg (by intro h; rw [hn, Bool.false_and] at h; cases h)]
           exact wpAny_pure hQ))
def Itl (K : PySem.W.Frag) (a : Addr) : It :=
  ⟨fun i H => ∃ xs x, SqL K H a xs ∧ xs[i]? = some x, fun i H x H' => H' = H ∧ ∀ xs, SqL K H a xs → xs[i]? = some x, fun i H => ∃ xs, SqL K H a xs ∧ xs.length ≤ i⟩
def Itt (K : PySem.W.Frag) (a : Addr) : It :=
  ⟨fun i H => ∃ xs x, SqT K H a xs ∧ xs[i]? = some x, fun i H x H' => H' = H ∧ ∀ xs, SqT K H a xs → xs[i]? = some x, fun i H => ∃ xs, SqT K H a xs ∧ xs.length ≤ i⟩
def Itr (lo : Int) (n : Nat) : It := ⟨fun i _ => i < n, fun i H x H' => H' = H ∧ x = .int (lo + i), fun i _ => n ≤ i⟩
theorem turn_list {P : Program} {w : World} {K : PySem.W.Frag} {tg : Expr} (a it : Addr) : Turn P w K tg (Itl K a) [it] it (fun i h => h.IsListIter it a i) where
  mem := by simp
  obj := fun i h st b hb => by
    have e : b = it := by simpa using hb
    subst e
    obtain ⟨o, e, c, d⟩ := st
    exact ⟨o, e, fun v z => by rw [d] at z; cases z⟩
  keep := fun i h h' st k => st.at fun o e => k it (by simp) o e
  item := by
    intro X hP hw hK hc i pins s σ H E I hf st hg
    subst hP hw hK
    obtain ⟨xs, x, hq, hx⟩ := hg
    obtain ⟨its, rv, p, hz⟩ := I.list hq
    obtain ⟨u, hu, ru⟩ := rv.get hx
    obtain ⟨f0, f1, f2, f3, f4, f5⟩ := hf it (by simp)
    refine wpAny_pyNext_list_item st p.isList (x := u) (by simpa using hu) fun h' st' sb => ?_
    have I1 : Inv X pins σ H { s with heap := h' } := I.turned (t' := s.toks) (fun b o hb e => (sb.2 b hb).trans e) f0 f1 f3 f4 f5
    obtain ⟨o, e, c, d⟩ := id st'
    exact ⟨u, rfl, go_of (s := { s with heap := h' }) e c d (by decide) ⟨x, H, I1, ru, ⟨rfl, fun ys hy => by rw [I.list_inj hy hq]; exact hx⟩, st', fun b hb => (hf b hb).1⟩⟩
  done := by
    intro X hP hw hK hc i pins s σ H E I hf st hg
    subst hP hw hK
    obtain ⟨xs, hq, hx⟩ := hg
    obtain ⟨its, rv, p, hz⟩ := I.list hq
    obtain ⟨f0, f1, f2, f3, f4, f5⟩ := hf it (by simp)
    have hl := rv.length
    exact wpAny_pyNext_list_end (I.ok.hd hc) st p.isList (by simp; omega) fun h' eb => ⟨rfl, I.turned (t' := s.toks) (fun b o hb e => eb b o hb e) f0 f1 f3 f4 f5⟩
  self := fun _ _ _ _ _ st h => wpAny_pyIter_listiter st h
theorem turn_tuple {P : Program} {w : World} {K : PySem.W.Frag} {tg : Expr} (a it : Addr) : Turn P w K tg (Itt K a) [it] it (fun i h => h.IsTupleIter it a i) where
  mem := by simp
  obj := fun i h st b hb => by
    have e : b = it := by simpa using hb
    subst e
    obtain ⟨o, e, c, d⟩ := st
    exact ⟨o, e, fun v z => by rw [d] at z; cases z⟩
  keep := fun i h h' st k => st.at fun o e => k it (by simp) o e
  item := by
    intro X hP hw hK hc i pins s σ H E I hf st hg
    subst hP hw hK
    obtain ⟨xs, x, hq, hx⟩ := hg
    obtain ⟨its, rv, p, hz⟩ := I.tuple hq
    obtain ⟨u, hu, ru⟩ := rv.get hx
    obtain ⟨f0, f1, f2, f3, f4, f5⟩ := hf it (by simp)
    refine wpAny_pyNext_tuple_item st (show s.heap.IsTuple a its.toArray from p) (x := u) (by simpa using hu) fun h' st' sb => ?_
    have I1 : Inv X pins σ H { s with heap := h' } := I.turned (t' := s.toks) (fun b o hb e => (sb.2 b hb).trans e) f0 f1 f3 f4 f5
    obtain ⟨o, e, c, d⟩ := id st'
    exact ⟨u, rfl, go_of (s := { s with heap := h' }) e c d (by decide) ⟨x, H, I1, ru, ⟨rfl, fun ys hy => by rw [I.tuple_inj hy hq]; exact hx⟩, st', fun b hb => (hf b hb).1⟩⟩
  done := by
    intro X hP hw hK hc i pins s σ H E I hf st hg
    subst hP hw hK
    obtain ⟨xs, hq, hx⟩ := hg
    obtain ⟨its, rv, p, hz⟩ := I.tuple hq
    obtain ⟨f0, f1, f2, f3, f4, f5⟩ := hf it (by simp)
    have hl := rv.length
    exact wpAny_pyNext_tuple_end (I.ok.hd hc) st (show s.heap.IsTuple a its.toArray from p) (by simp; omega) fun h' eb => ⟨rfl, I.turned (t' := s.toks) (fun b o hb e => eb b o hb e) f0 f1 f3 f4 f5⟩
  self := fun _ _ _ _ _ st h => wpAny_pyIter_tupleiter st h
theorem turn_range {P : Program} {w : World} {K : PySem.W.Frag} {tg : Expr} (it : Addr) (lo : Int) (n : Nat) : Turn P w K tg (Itr lo n) [it] it (fun i h => IsRangeIter h it (lo + (i : Nat) * 1) ((n : Int) - (i : Nat)) 1) where
  mem := by simp
  obj := fun i h st b hb => by
    have e : b = it := by simpa using hb
    subst e
    exact ⟨_, st, fun v z => by
      have z' : Data.fields _ = Data.cell v := z
      cases z'⟩
  keep := fun i h h' st k => k it (by simp) _ st
  item := by
    intro X hP hw hK hc i pins s σ H E I hf st hg
    subst hP hw hK
    obtain ⟨f0, f1, f2, f3, f4, f5⟩ := hf it (by simp)
    have W := Walks.range (prog := X.prog) (w := X.w) (I.ok.hd hc) it lo 1 n
    refine W.item i s _ _ hg st fun v h' tk hv st' kk => ?_
    obtain ⟨t, rfl⟩ := hv
    have I1 : Inv X pins σ H { s with heap := h', toks := tk } := I.turned (fun b o hb e => kk b o (by simpa using hb) e) f0 f1 f3 f4 f5
    refine ⟨_, rfl, go_of (s := { s with heap := h', toks := tk }) (n := "range_iterator") st' rfl rfl (by decide) ⟨.int (lo + i), H, I1, ⟨t, ?_⟩, ⟨rfl, rfl⟩, st', fun b hb => (hf b hb).1⟩⟩
    rw [Int.mul_one]
  done := by
    intro X hP hw hK hc i pins s σ H E I hf st hg
    subst hP hw hK
    obtain ⟨f0, f1, f2, f3, f4, f5⟩ := hf it (by simp)
    exact wpAny_pyNext_range_end (I.ok.hd hc) st (by have : n ≤ i := hg; omega) fun h' eb => ⟨rfl, I.turned (t' := s.toks) (fun b o hb e => eb b o hb e) f0 f1 f3 f4 f5⟩
  self := fun _ _ _ _ _ st h => wpAny_pyIter_rangeiter st h
end L2
namespace L2
open PySem PySem.Spec PyProof.Rows
section
variable {X : Cx} {tg : Expr}
def iList (K : PySem.W.Frag) (tl : TE) : TI := fun σ H R => tl σ H fun x H1 => ∃ a, x = .ref a ∧ (∃ xs, SqL K H1 a xs) ∧ R (Itl K a) H1
def iTup (K : PySem.W.Frag) (tl : TE) : TI := fun σ H R => tl σ H fun x H1 => ∃ a, x = .ref a ∧ (∃ xs, SqT K H1 a xs) ∧ R (Itt K a) H1
theorem pi_list {l : Expr} {tl : TE} (hl : PE X l tl) : PI X tg l (iList X.K tl) := by
  intro pins s σ H R I h
  refine thn (hl pins s σ H _ I h) fun v s1 ⟨x, H1, I1, r1, q1⟩ => ?_
  obtain ⟨a, e, ⟨xs, hq⟩, q⟩ := q1
  subst e
  cases r1
  obtain ⟨its, rv, p, hz⟩ := I1.list hq
  refine wpAny_pyIter_list p.isList ?_
  refine ⟨s1.heap.objs.size, [s1.heap.objs.size], _, _, H1, rfl, I1.kept (t' := s1.toks) fun b o e => Heap.get?_push_of_some _ e, turn_list a _, ⟨_, Heap.get?_push_size _ rfl, rfl, rfl⟩, fun b hb => ?_, q⟩
  have e : b = s1.heap.objs.size := by simpa using hb
  subst e
  exact I1.fpOk (Nat.le_refl _) (I1.hok.fresh (Nat.le_refl _))
theorem pi_tup {l : Expr} {tl : TE} (hl : PE X l tl) : PI X tg l (iTup X.K tl) := by
  intro pins s σ H R I h
  refine thn (hl pins s σ H _ I h) fun v s1 ⟨x, H1, I1, r1, q1⟩ => ?_
  obtain ⟨a, e, ⟨xs, hq⟩, q⟩ := q1
  subst e
  cases r1
  obtain ⟨its, rv, p, hz⟩ := I1.tuple hq
  refine wpAny_pyIter_tuple (show s1.heap.IsTuple a its.toArray from p) ?_
  refine ⟨s1.heap.objs.size, [s1.heap.objs.size], _, _, H1, rfl, I1.kept (t' := s1.toks) fun b o e => Heap.get?_push_of_some _ e, turn_tuple a _, ⟨_, Heap.get?_push_size _ rfl, rfl, rfl⟩, fun b hb => ?_, q⟩
  have e : b = s1.heap.objs.size := by simpa using hb
  subst e
  exact I1.fpOk (Nat.le_refl _) (I1.hok.fresh (Nat.le_refl _))
theorem range_it {pins : List (Addr × Obj)} {σ : St} {H : Hp} {s : Shared} {R : It → Hp → Prop} {E : Value → Shared → Prop} {lo hi : Int} {t u v : Tok} {tk : Nat} (I : Inv X pins σ H s) (h1 : -(2 ^ 62) ≤ lo) (h2 : lo < 2 ^ 62) (h3 : -(2 ^ 62) ≤ hi) (h4 : hi < 2 ^ 62)
    (q : R (Itr lo (hi - lo).toNat) H) : wpAny (model X.prog X.w) X.A (pyIter (.ref s.heap.objs.size)) (PIE X pins σ tg R) E { s with heap := s.heap.push { cls := .type "range", data := .fields #[.int lo t, .int hi u, .int 1 v] }, toks := tk } := by
  refine wpAny_pyIter_range (IsRange.new ..) (small_one h1 h2 h3 h4) ?_
  have I1 : Inv X pins σ H { s with heap := s.heap.push { cls := .type "range", data := .fields #[.int lo t, .int hi u, .int 1 v] }, toks := tk } := I.kept fun b o e => Heap.get?_push_of_some _ e
  refine ⟨(s.heap.push { cls := .type "range", data := .fields #[.int lo t, .int hi u, .int 1 v] }).objs.size, [(s.heap.push { cls := .type "range", data := .fields #[.int lo t, .int hi u, .int 1 v] }).objs.size], _, _, H, rfl,
    I1.kept (t' := tk) fun b o e => Heap.get?_push_of_some _ e, turn_range _ lo (hi - lo).toNat, ?_, fun b hb => ?_, q⟩
  · have e1 : lo + ((0 : Nat) : Int) * 1 = lo := by simp
    have e2 : (((hi - lo).toNat : Nat) : Int) - ((0 : Nat) : Int) = Builtin.Range.rangeSize lo hi 1 := by rw [rangeSize_one]; split <;> omega
    show IsRangeIter _ _ (lo + ((0 : Nat) : Int) * 1) ((((hi - lo).toNat : Nat) : Int) - ((0 : Nat) : Int)) 1
    rw [e1, e2]
    exact Heap.get?_push_size _ rfl
  · have e : b = (s.heap.push { cls := .type "range", data := .fields #[.int lo t, .int hi u, .int 1 v] }).objs.size := by simpa using hb
    subst e
    exact I1.fpOk (Nat.le_refl _) (I1.hok.fresh (Nat.le_refl _))
def iRng1 (ta : TA) : TI := fun σ H R => ta σ H fun vs H1 => ∃ j : Int, vs = [.int j] ∧ -(2 ^ 62) ≤ j ∧ j < 2 ^ 62 ∧ R (Itr 0 j.toNat) H1
theorem pi_range1 {a : Expr} {ta : TA} {p pos : Pos} (hg : Gl X "range") (hm : X.mg "range" = none) (ha : PA X [a] ta) (hs : starEach [a] X.env = [(false, eval a X.env)] := by rfl) : PI X tg (.Call (.Name "range" p) [a] [] pos) (iRng1 ta) := by
  intro pins s σ H R I h
  refine Call_ (ld_blt I hg hm boot_range (PyProof.Rows.callWith_type1 (thn (ha pos pins s σ H _ I h) fun us s1 ⟨vs, H1, I1, r1, q1⟩ => ?_) hs rfl))
  obtain ⟨j, e, q1, q2, q⟩ := q1
  subst e
  cases r1 with
  | cons r rr =>
    cases rr
    obtain ⟨t, rfl⟩ := r
    exact call_range_1 (range_it I1 (by omega) (by omega) q1 q2 (by simpa using q))
def tFor (wi : TI) (g : TG) (tb : TS) : TS := fun D σ H => wi σ H fun J H1 => ∃ W : Nat → Nat → St → Hp → Prop, (∃ m, W 0 m σ H1) ∧ ∀ i m σ H, W i m σ H →
  (J.stop i H ∧ D.nx σ H) ∨ (J.go i H ∧ ∃ N : St → Hp → Prop, (∀ σ' H', N σ' H' → ∃ m', m' < m ∧ W (i + 1) m' σ' H') ∧ ∀ x H', J.yld i H x H' → g x σ H' fun σ2 H2 => tb { D with nx := N, ct := N, bk := D.nx } σ2 H2)
def pinsAt (fp : List Addr) (h : Heap) : List (Addr × Obj) := fp.filterMap fun b => (h.get? b).map fun o => (b, o)
theorem mem_pinsAt {fp : List Addr} {h : Heap} {b : Addr} {o : Obj} (hb : b ∈ fp) (e : h.get? b = some o) : (b, o) ∈ pinsAt fp h := List.mem_filterMap.mpr ⟨b, hb, by rw [e]; rfl⟩
theorem of_pinsAt {fp : List Addr} {h : Heap} {p : Addr × Obj} (hp : p ∈ pinsAt fp h) : p.1 ∈ fp ∧ h.get? p.1 = some p.2 := by
  obtain ⟨b, hb, e⟩ := List.mem_filterMap.mp hp
  cases q : h.get? b with
  | none => rw [q] at e; cases e
  | some o =>
    rw [q] at e
    have e' : (b, o) = p := Option.some.inj e
    subst e'
    exact ⟨hb, q⟩
theorem Inv.pinned {pins : List (Addr × Obj)} {σ : St} {H : Hp} {s : Shared} {fp : List Addr} (I : Inv X pins σ H s) (hf : ∀ b ∈ fp, FpOk X pins H b) (ho : ∀ b ∈ fp, ∃ o, s.heap.get? b = some o ∧ ∀ v, o.data ≠ .cell v) : Inv X (pins ++ pinsAt fp s.heap) σ H s :=
  I.pins_of fun p hp => (List.mem_append.mp hp).elim (fun z => I.pin p (List.mem_append_right _ z)) fun z => by
    obtain ⟨hb, e⟩ := of_pinsAt z
    obtain ⟨f0, f1, f2, _⟩ := hf p.1 hb
    obtain ⟨o, e', d⟩ := ho p.1 hb
    rw [e] at e'; cases e'
    exact ⟨e, f0, f1, f2, d⟩
theorem Inv.unpinned {pins pl : List (Addr × Obj)} {σ : St} {H : Hp} {s : Shared} (I : Inv X (pins ++ pl) σ H s) : Inv X pins σ H s := I.pins_of fun p hp => I.pin p (List.mem_append_right _ (List.mem_append_left _ hp))
theorem ps_for {iter : Expr} {body : List Stmt} {wi : TI} {g : TG} {tb : TS} {pos : Pos} (hp : PassesOwn (model X.prog X.w) X.A X.env X.xe) (hc : X.calm = true) (hi : PI X tg iter wi) (hg : PG X tg g) (hb : PSs X body tb)
    (hs : ∀ x, foldedSetIterable iter X.env x = pure x := by intro _; rfl) : PS X (.For tg iter body [] pos) (tFor wi g tb) := by
  intro pins s σ H D I h
  refine wpAny_For (thn (hi pins s σ H _ I h) fun v s1 h1 => thn h1 fun itv s2 h2 => ?_) hs
  obtain ⟨it, fp, tn, J, H2, e, I2, T, st2, f2, W, ⟨m0, w0⟩, turn⟩ := h2
  subst e
  have stat : ∀ {H' : Hp}, (∀ b ∈ fp, H' b = none) → ∀ b ∈ fp, FpOk X pins H' b := fun hn b hb => ⟨hn b hb, (f2 b hb).2⟩
  refine codeAny_forLoop_any (fun n s' => ∃ i σ' H', Inv X pins σ' H' s' ∧ tn i s'.heap ∧ (∀ b ∈ fp, H' b = none) ∧ W i n σ' H') ?_ m0 ⟨0, σ, H2, I2, st2, fun b hb => (f2 b hb).1, w0⟩
  rintro n s3 ⟨i, σ3, H3, I3, st3, fr3, w3⟩
  rcases turn i n σ3 H3 w3 with ⟨stop, qn⟩ | ⟨go, N, hN, step⟩
  · refine wpAny_passesOwn hp (thn (T.done X rfl rfl rfl hc i pins s3 σ3 H3 X.xe I3 (stat fr3) st3 stop) fun r s4 ⟨hr, I4⟩ => ?_)
    subst hr
    exact wpAny_execs_nil ⟨σ3, H3, I4, qn⟩
  · refine wpAny_passesOwn hp (thn (T.item X rfl rfl rfl hc i pins s3 σ3 H3 X.xe I3 (stat fr3) st3 go) fun r s4 ⟨u, hr, h4⟩ => ?_)
    subst hr
    refine wpAny_passesOwn hp (thn h4 fun _ s5 ⟨x, H5, I5, r5, y5, st5, fr5⟩ => ?_)
    have I5' := I5.pinned (stat fr5) (T.obj _ _ st5)
    refine wpAny_passesOwn hp (thn (hg _ s5 σ3 H5 x u _ I5' r5 (step x H5 y5)) fun _ s6 ⟨σ6, H6, I6, q6⟩ => ?_)
    refine wpAny_passesOwn hp (thn (hb _ s6 σ6 H6 _ I6 q6) fun f s7 q7 => ?_)
    have again : ∀ {σ7 : St} {H7 : Hp}, Inv X (pins ++ pinsAt fp s5.heap) σ7 H7 s7 → N σ7 H7 → ∃ m, m < n ∧ ∃ i σ' H', Inv X pins σ' H' s7 ∧ tn i s7.heap ∧ (∀ b ∈ fp, H' b = none) ∧ W i m σ' H' := fun {σ7 H7} I7 n7 => by
      obtain ⟨m', hm, w7⟩ := hN σ7 H7 n7
      refine ⟨m', hm, i + 1, σ7, H7, I7.unpinned, T.keep _ _ _ st5 fun b hb o e => (I7.pin (b, o) (List.mem_append_right _ (List.mem_append_right _ (mem_pinsAt hb e)))).1, fun b hb => ?_, w7⟩
      obtain ⟨o, e, d⟩ := T.obj _ _ st5 b hb
      exact (I7.pin (b, o) (List.mem_append_right _ (List.mem_append_right _ (mem_pinsAt hb e)))).2.1
    cases f with
    | next => obtain ⟨σ7, H7, I7, n7⟩ := q7; exact again I7 n7
    | cont => obtain ⟨σ7, H7, I7, n7⟩ := q7; exact again I7 n7
    | brk => obtain ⟨σ7, H7, I7, q7⟩ := q7; exact ⟨σ7, H7, I7.unpinned, q7⟩
    | ret v => obtain ⟨x7, σ7, H7, I7, r7, q7⟩ := q7; exact ⟨x7, σ7, H7, I7.unpinned, r7, q7⟩
end
theorem for_list {K : PySem.W.Frag} {a : Addr} {xs : List V} {g : TG} {tb : TS} {D : Ends} {σ : St} {H : Hp} (Pv : Nat → St → Hp → Prop) (h0 : Pv 0 σ H) (hl : ∀ i σ H, i ≤ xs.length → Pv i σ H → SqL K H a xs)
    (hs : ∀ i x σ H, xs[i]? = some x → Pv i σ H → g x σ H fun σ2 H2 => tb { D with nx := Pv (i + 1), ct := Pv (i + 1), bk := D.nx } σ2 H2) (hd : ∀ σ H, Pv xs.length σ H → D.nx σ H) :
    ∃ W : Nat → Nat → St → Hp → Prop, (∃ m, W 0 m σ H) ∧ ∀ i m σ H, W i m σ H →
      ((Itl K a).stop i H ∧ D.nx σ H) ∨ ((Itl K a).go i H ∧ ∃ N : St → Hp → Prop, (∀ σ' H', N σ' H' → ∃ m', m' < m ∧ W (i + 1) m' σ' H') ∧ ∀ x H', (Itl K a).yld i H x H' → g x σ H' fun σ2 H2 => tb { D with nx := N, ct := N, bk := D.nx } σ2 H2) := by
  refine ⟨fun i m σ H => m = xs.length - i ∧ i ≤ xs.length ∧ Pv i σ H, ⟨xs.length, by simp, Nat.zero_le _, h0⟩, ?_⟩
  rintro i m σ H ⟨rfl, hi, p⟩
  have q := hl i σ H hi p
  by_cases hlt : i < xs.length
  · refine .inr ⟨⟨xs, xs[i], q, by simp [hlt]⟩, Pv (i + 1), fun σ' H' p' => ⟨xs.length - (i + 1), by omega, rfl, hlt, p'⟩, fun x H' y => ?_⟩
    obtain ⟨e, y⟩ := y
    subst e
    exact hs i x σ _ (y xs q) p
  · have e : i = xs.length := by omega
    subst e
    exact .inl ⟨⟨xs, q, Nat.le_refl _⟩, hd σ H p⟩
theorem for_tup {K : PySem.W.Frag} {a : Addr} {xs : List V} {g : TG} {tb : TS} {D : Ends} {σ : St} {H : Hp} (Pv : Nat → St → Hp → Prop) (h0 : Pv 0 σ H) (hl : ∀ i σ H, i ≤ xs.length → Pv i σ H → SqT K H a xs)
    (hs : ∀ i x σ H, xs[i]? = some x → Pv i σ H → g x σ H fun σ2 H2 => tb { D with nx := Pv (i + 1), ct := Pv (i + 1), bk := D.nx } σ2 H2) (hd : ∀ σ H, Pv xs.length σ H → D.nx σ H) :
    ∃ W : Nat → Nat → St → Hp → Prop, (∃ m, W 0 m σ H) ∧ ∀ i m σ H, W i m σ H →
      ((Itt K a).stop i H ∧ D.nx σ H) ∨ ((Itt K a).go i H ∧ ∃ N : St → Hp → Prop, (∀ σ' H', N σ' H' → ∃ m', m' < m ∧ W (i + 1) m' σ' H') ∧ ∀ x H', (Itt K a).yld i H x H' → g x σ H' fun σ2 H2 => tb { D with nx := N, ct := N, bk := D.nx } σ2 H2) := by
  refine ⟨fun i m σ H => m = xs.length - i ∧ i ≤ xs.length ∧ Pv i σ H, ⟨xs.length, by simp, Nat.zero_le _, h0⟩, ?_⟩
  rintro i m σ H ⟨rfl, hi, p⟩
  have q := hl i σ H hi p
  by_cases hlt : i < xs.length
  · refine .inr ⟨⟨xs, xs[i], q, by simp [hlt]⟩, Pv (i + 1), fun σ' H' p' => ⟨xs.length - (i + 1), by omega, rfl, hlt, p'⟩, fun x H' y => ?_⟩
    obtain ⟨e, y⟩ := y
    subst e
    exact hs i x σ _ (y xs q) p
  · have e : i = xs.length := by omega
    subst e
    exact .inl ⟨⟨xs, q, Nat.le_refl _⟩, hd σ H p⟩
theorem for_range {lo : Int} {n : Nat} {g : TG} {tb : TS} {D : Ends} {σ : St} {H : Hp} (Pv : Nat → St → Hp → Prop) (h0 : Pv 0 σ H)
    (hs : ∀ i σ H, i < n → Pv i σ H → g (.int (lo + i)) σ H fun σ2 H2 => tb { D with nx := Pv (i + 1), ct := Pv (i + 1), bk := D.nx } σ2 H2) (hd : ∀ σ H, Pv n σ H → D.nx σ H) :
    ∃ W : Nat → Nat → St → Hp → Prop, (∃ m, W 0 m σ H) ∧ ∀ i m σ H, W i m σ H →
      ((Itr lo n).stop i H ∧ D.nx σ H) ∨ ((Itr lo n).go i H ∧ ∃ N : St → Hp → Prop, (∀ σ' H', N σ' H' → ∃ m', m' < m ∧ W (i + 1) m' σ' H') ∧ ∀ x H', (Itr lo n).yld i H x H' → g x σ H' fun σ2 H2 => tb { D with nx := N, ct := N, bk := D.nx } σ2 H2) := by
  refine ⟨fun i m σ H => m = n - i ∧ i ≤ n ∧ Pv i σ H, ⟨n, by simp, Nat.zero_le _, h0⟩, ?_⟩
  rintro i m σ H ⟨rfl, hi, p⟩
  by_cases hlt : i < n
  · refine .inr ⟨hlt, Pv (i + 1), fun σ' H' p' => ⟨n - (i + 1), by omega, rfl, hlt, p'⟩, fun x H' y => ?_⟩
    obtain ⟨e, y⟩ := y
    subst e y
    exact hs i σ _ hlt p
  · have e : i = n := by omega
    subst e
    exact .inl ⟨Nat.le_refl _, hd σ H p⟩
end L2
namespace L2
open PySem PySem.Spec PyProof.Rows
abbrev R2 := V → V → Hp → VK → Prop
def OpR (X : Cx) (f : Value → Value → Sem Value) (r : R2) : Prop :=
  ∀ (pins : List (Addr × Obj)) (s : Shared) (σ : St) (H : Hp) (x y : V) (v u : Value) (Q : VK), Inv X pins σ H s → RelV x v → RelV y u → r x y H Q →
    wpAny (model X.prog X.w) X.A (f v u) (EP X pins σ Q) X.xe s
def UnR (X : Cx) (f : Value → Sem Value) (r : V → Hp → VK → Prop) : Prop :=
  ∀ (pins : List (Addr × Obj)) (s : Shared) (σ : St) (H : Hp) (x : V) (v : Value) (Q : VK), Inv X pins σ H s → RelV x v → r x H Q →
    wpAny (model X.prog X.w) X.A (f v) (EP X pins σ Q) X.xe s
def CallR (X : Cx) (f : Value) (r : List V → Hp → VK → Prop) : Prop :=
  ∀ (pins : List (Addr × Obj)) (s : Shared) (σ : St) (H : Hp) (xs : List V) (us : List Value) (Q : VK), Inv X pins σ H s → Vals xs us → r xs H Q →
    wpAny (model X.prog X.w) X.A (call f us) (EP X pins σ Q) X.xe s
def tOp (r : R2) (ta tb : TE) : TE := fun σ H Q => ta σ H fun x H1 => tb σ H1 fun y H2 => r x y H2 Q
def tUn (r : V → Hp → VK → Prop) (ta : TE) : TE := fun σ H Q => ta σ H fun x H1 => r x H1 Q
def rI (C : Int → Int → Prop) (g : Int → Int → V) : R2 := fun x y H Q => ∃ i j, x = .int i ∧ y = .int j ∧ C i j ∧ Q (g i j) H
def rI0 (g : Int → Int → V) : R2 := fun x y H Q => ∃ i j, x = .int i ∧ y = .int j ∧ Q (g i j) H
def rU (g : Int → V) : V → Hp → VK → Prop := fun x H Q => ∃ i, x = .int i ∧ Q (g i) H
section
variable {X : Cx} {a b c : Expr} {ta tb tc : TE} {pos : Pos}
theorem binT (ha : PE X a ta) (hb : PE X b tb) {pins : List (Addr × Obj)} {s : Shared} {σ : St} {H : Hp} {R : V → V → Hp → Prop} (I : Inv X pins σ H s)
    (h : ta σ H fun x H1 => tb σ H1 fun y H2 => R x y H2) {Q : Value → Shared → Prop} {f : Value → Value → Sem Value}
    (hf : ∀ v u s2 x y H2, Inv X pins σ H2 s2 → RelV x v → RelV y u → R x y H2 → wpAny (model X.prog X.w) X.A (f v u) Q X.xe s2) :
    wpAny (model X.prog X.w) X.A (eval a X.env) (fun v s₁ => wpAny (model X.prog X.w) X.A (eval b X.env) (fun u s₂ => wpAny (model X.prog X.w) X.A (f v u) Q X.xe s₂) X.xe s₁) X.xe s := by
  refine thn (ha pins s σ H _ I h) fun v s1 ⟨x, H1, I1, r1, q1⟩ => ?_
  refine thn (hb pins s1 σ H1 _ I1 q1) fun u s2 ⟨y, H2, I2, r2, q2⟩ => ?_
  exact hf v u s2 x y H2 I2 r1 r2 q2
theorem pe_op {op : Operator} {r : R2} (ho : OpR X (binaryOp op) r) (ha : PE X a ta) (hb : PE X b tb) : PE X (.BinOp a op b pos) (tOp r ta tb) := by
  intro pins s σ H Q I h
  exact wpAny_BinOp (binT ha hb I h fun v u s2 x y H2 I2 rx ry q => ho pins s2 σ H2 x y v u Q I2 rx ry q)
theorem pe_un {op : UnaryOp} {r : V → Hp → VK → Prop} (ho : UnR X (unaryOp op) r) (ha : PE X a ta) : PE X (.UnaryOp op a pos) (tUn r ta) := by
  intro pins s σ H Q I h
  exact UnaryOp_ (thn (ha pins s σ H _ I h) fun v s1 ⟨x, H1, I1, r1, q1⟩ => ho pins s1 σ H1 x v Q I1 r1 q1)
theorem opI {f : Value → Value → Sem Value} {C : Int → Int → Prop} {g : Int → Int → Int}
    (rule : ∀ (i j : Int) (t u : Tok) (s : Shared) (Q : Value → Shared → Prop) (E : Value → Shared → Prop), C i j → Q (.int (g i j) s.toks) { s with toks := s.toks + 1 } → wpAny (model X.prog X.w) X.A (f (.int i t) (.int j u)) Q E s) :
    OpR X f (rI C fun i j => .int (g i j)) := by
  intro pins s σ H x y v u Q I rx ry h
  obtain ⟨i, j, rfl, rfl, hc, q⟩ := h
  obtain ⟨t, rfl⟩ := rx
  obtain ⟨t', rfl⟩ := ry
  exact rule i j t t' s _ _ hc ⟨.int (g i j), H, I.tok _, ⟨_, rfl⟩, q⟩
theorem opI0 {f : Value → Value → Sem Value} {g : Int → Int → Int}
    (rule : ∀ (i j : Int) (t u : Tok) (s : Shared) (Q : Value → Shared → Prop) (E : Value → Shared → Prop), Q (.int (g i j) s.toks) { s with toks := s.toks + 1 } → wpAny (model X.prog X.w) X.A (f (.int i t) (.int j u)) Q E s) :
    OpR X f (rI0 fun i j => .int (g i j)) := by
  intro pins s σ H x y v u Q I rx ry h
  obtain ⟨i, j, rfl, rfl, q⟩ := h
  obtain ⟨t, rfl⟩ := rx
  obtain ⟨t', rfl⟩ := ry
  exact rule i j t t' s _ _ ⟨.int (g i j), H, I.tok _, ⟨_, rfl⟩, q⟩
theorem opB0 {f : Value → Value → Sem Value} {g : Int → Int → Bool}
    (rule : ∀ (i j : Int) (t u : Tok) (s : Shared) (Q : Value → Shared → Prop) (E : Value → Shared → Prop), Q (.bool (g i j)) s → wpAny (model X.prog X.w) X.A (f (.int i t) (.int j u)) Q E s) :
    OpR X f (rI0 fun i j => .bl (g i j)) := by
  intro pins s σ H x y v u Q I rx ry h
  obtain ⟨i, j, rfl, rfl, q⟩ := h
  obtain ⟨t, rfl⟩ := rx
  obtain ⟨t', rfl⟩ := ry
  exact rule i j t t' s _ _ ⟨.bl (g i j), H, I, rfl, q⟩
def CDiv (i j : Int) : Prop := 0 < j ∧ j < 1073741824
def CPow (i j : Int) : Prop := 0 ≤ j ∧ j ≤ 1000000 ∧ i.natAbs < 2 ^ 64
def CMul (i j : Int) : Prop := (-(2 ^ 64) < i ∧ i < 2 ^ 64) ∨ (-(2 ^ 64) < j ∧ j < 2 ^ 64)
theorem CMul.ok {i j : Int} (h : CMul i j) : IntMulOk i j := by
  rcases h with ⟨h1, h2⟩ | ⟨h1, h2⟩
  · exact .of_left (intBits_le_64 h1 h2)
  · exact .of_right (intBits_le_64 h1 h2)
theorem op_add : OpR X (binaryOp .Add) (rI0 fun i j => .int (i + j)) := opI0 fun _ _ _ _ _ _ _ q => add_int q
theorem op_sub : OpR X (binaryOp .Sub) (rI0 fun i j => .int (i - j)) := opI0 fun _ _ _ _ _ _ _ q => sub_int q
theorem op_mul : OpR X (binaryOp .Mult) (rI CMul fun i j => .int (i * j)) := opI fun _ _ _ _ _ _ _ hc q => mul_int q hc.ok
theorem op_fdiv : OpR X (binaryOp .FloorDiv) (rI CDiv fun i j => .int (i / j)) := opI fun i j _ _ _ _ _ hc q => by
  have h1 : (0 : Int) < j := hc.1
  have h2 : j < 1073741824 := hc.2
  exact floordiv_int (by omega) (by rw [Int.fdiv_eq_ediv_of_nonneg i (by omega)]; exact q) (.inl (PyProof.noPylong_small (by omega)))
theorem op_mod : OpR X (binaryOp .Mod) (rI (fun _ j => 0 < j) fun i j => .int (i % j)) := opI fun i j _ _ _ _ _ hc q => by
  have h1 : (0 : Int) < j := hc
  exact mod_int' (by omega) (by rw [Int.fmod_eq_emod_of_nonneg i (by omega)]; exact q)
theorem op_pow : OpR X (binaryOp .Pow) (rI CPow fun i j => .int (i ^ j.toNat)) := opI fun _ _ _ _ _ _ _ hc q => pow_int_small hc.1 hc.2.1 hc.2.2 q
theorem unI {f : Value → Sem Value} {g : Int → Int}
    (rule : ∀ (i : Int) (t : Tok) (s : Shared) (Q : Value → Shared → Prop) (E : Value → Shared → Prop), Q (.int (g i) s.toks) { s with toks := s.toks + 1 } → wpAny (model X.prog X.w) X.A (f (.int i t)) Q E s) :
    UnR X f (rU fun i => .int (g i)) := by
  intro pins s σ H x v Q I rx h
  obtain ⟨i, rfl, q⟩ := h
  obtain ⟨t, rfl⟩ := rx
  exact rule i t s _ _ ⟨.int (g i), H, I.tok _, ⟨_, rfl⟩, q⟩
theorem un_neg : UnR X (unaryOp .USub) (rU fun i => .int (-i)) := unI fun _ _ _ _ _ q => neg_int q
end
def scal : V → V → Bool
  | .non, .non => true | .non, .int _ => true | .int _, .non => true | .non, .bl _ => true | .bl _, .non => true | .non, .str _ => true | .str _, .non => true
  | .int _, .int _ => true | .bl _, .bl _ => true | .str _, .str _ => true | .byt _, .byt _ => true
  | .int _, .str _ => true | .str _, .int _ => true | .bl _, .str _ => true | .str _, .bl _ => true
  | _, _ => false
def rEq : R2 := fun x y H Q => scal x y = true ∧ Q (.bl (decide (x = y))) H
def rNe : R2 := fun x y H Q => scal x y = true ∧ Q (.bl (!decide (x = y))) H
theorem dec_int {i j : Int} : decide (V.int i = V.int j) = (i == j) := by
  rw [Bool.eq_iff_iff]
  simp
theorem dec_bl {i j : Bool} : decide (V.bl i = V.bl j) = (i == j) := by
  rw [Bool.eq_iff_iff]
  simp
theorem dec_str {i j : Str} : decide (V.str i = V.str j) = (i == j) := by
  rw [Bool.eq_iff_iff]
  simp
theorem dec_byt {i j : Array UInt8} : decide (V.byt i = V.byt j) = (i.toList == j.toList) := by
  rw [Bool.eq_iff_iff]
  cases i
  cases j
  simp
section
variable {X : Cx} {a b c : Expr} {ta tb tc : TE} {pos : Pos}
theorem fin_bl {pins : List (Addr × Obj)} {σ : St} {H : Hp} {s : Shared} {Q : VK} {k k' : Bool} (I : Inv X pins σ H s) (q : Q (.bl k) H) (e : k = k') : EP X pins σ Q (.bool k') s := by
  subst e
  exact ⟨.bl k, H, I, rfl, q⟩
theorem op_eq : OpR X (compareOp .Eq) rEq := by
  intro pins s σ H x y v u Q I rx ry h
  obtain ⟨hs, q⟩ := h
  cases x with
  | non =>
    cases rx
    cases y with
    | non => cases ry; exact PySem.EqNone.eq_none_none (fin_bl I q (by simp))
    | bl j => cases ry; exact PySem.EqNone.eq_none_bool (fin_bl I q (by simp))
    | int j => obtain ⟨t', rfl⟩ := ry; exact PySem.EqNone.eq_none_int (fin_bl I q (by simp))
    | str j => obtain ⟨t', rfl⟩ := ry; exact PySem.EqNone.eq_none_str (fin_bl I q (by simp))
    | _ => exact absurd (show false = true from hs) Bool.false_ne_true
  | bl i =>
    cases rx
    cases y with
    | non => cases ry; exact PySem.EqNone.eq_bool_none (fin_bl I q (by simp))
    | bl j => cases ry; exact eq_bool (fin_bl I q dec_bl)
    | str j => obtain ⟨t', rfl⟩ := ry; exact PySem.EqMixed.eq_bool_str (fin_bl I q (by simp))
    | _ => exact absurd (show false = true from hs) Bool.false_ne_true
  | int i =>
    obtain ⟨t, rfl⟩ := rx
    cases y with
    | non => cases ry; exact PySem.EqNone.eq_int_none (fin_bl I q (by simp))
    | int j => obtain ⟨t', rfl⟩ := ry; exact eq_int (fin_bl I q dec_int)
    | str j => obtain ⟨t', rfl⟩ := ry; exact PySem.EqMixed.eq_int_str (fin_bl I q (by simp))
    | _ => exact absurd (show false = true from hs) Bool.false_ne_true
  | str i =>
    obtain ⟨t, rfl⟩ := rx
    cases y with
    | non => cases ry; exact PySem.EqNone.eq_str_none (fin_bl I q (by simp))
    | bl j => cases ry; exact PySem.EqMixed.eq_str_bool (fin_bl I q (by simp))
    | int j => obtain ⟨t', rfl⟩ := ry; exact PySem.EqMixed.eq_str_int (fin_bl I q (by simp))
    | str j => obtain ⟨t', rfl⟩ := ry; exact eq_str (fin_bl I q dec_str)
    | _ => exact absurd (show false = true from hs) Bool.false_ne_true
  | byt i =>
    obtain ⟨t, rfl⟩ := rx
    cases y with
    | byt j => obtain ⟨t', rfl⟩ := ry; exact PySem.W.eq_bytes (fin_bl I q dec_byt)
    | _ => exact absurd (show false = true from hs) Bool.false_ne_true
  | _ => cases y <;> exact absurd (show false = true from hs) Bool.false_ne_true
theorem op_ne : OpR X (compareOp .NotEq) rNe := by
  intro pins s σ H x y v u Q I rx ry h
  obtain ⟨hs, q⟩ := h
  cases x with
  | non =>
    cases rx
    cases y with
    | non => cases ry; exact PySem.EqNone.ne_none_none (fin_bl I q (by simp))
    | bl j => cases ry; exact PySem.EqNone.ne_none_bool (fin_bl I q (by simp))
    | int j => obtain ⟨t', rfl⟩ := ry; exact PySem.EqNone.ne_none_int (fin_bl I q (by simp))
    | str j => obtain ⟨t', rfl⟩ := ry; exact PySem.EqNone.ne_none_str (fin_bl I q (by simp))
    | _ => exact absurd (show false = true from hs) Bool.false_ne_true
  | bl i =>
    cases rx
    cases y with
    | non => cases ry; exact PySem.EqNone.ne_bool_none (fin_bl I q (by simp))
    | bl j => cases ry; exact ne_bool (fin_bl I q (congrArg not dec_bl))
    | str j => obtain ⟨t', rfl⟩ := ry; exact PySem.EqMixed.ne_bool_str (fin_bl I q (by simp))
    | _ => exact absurd (show false = true from hs) Bool.false_ne_true
  | int i =>
    obtain ⟨t, rfl⟩ := rx
    cases y with
    | non => cases ry; exact PySem.EqNone.ne_int_none (fin_bl I q (by simp))
    | int j => obtain ⟨t', rfl⟩ := ry; exact ne_int (fin_bl I q (congrArg not dec_int))
    | str j => obtain ⟨t', rfl⟩ := ry; exact PySem.EqMixed.ne_int_str (fin_bl I q (by simp))
    | _ => exact absurd (show false = true from hs) Bool.false_ne_true
  | str i =>
    obtain ⟨t, rfl⟩ := rx
    cases y with
    | non => cases ry; exact PySem.EqNone.ne_str_none (fin_bl I q (by simp))
    | bl j => cases ry; exact PySem.EqMixed.ne_str_bool (fin_bl I q (by simp))
    | int j => obtain ⟨t', rfl⟩ := ry; exact PySem.EqMixed.ne_str_int (fin_bl I q (by simp))
    | str j => obtain ⟨t', rfl⟩ := ry; exact ne_str (fin_bl I q (congrArg not dec_str))
    | _ => exact absurd (show false = true from hs) Bool.false_ne_true
  | byt i =>
    obtain ⟨t, rfl⟩ := rx
    cases y with
    | byt j => obtain ⟨t', rfl⟩ := ry; exact PySem.W.ne_bytes (fin_bl I q (congrArg not dec_byt))
    | _ => exact absurd (show false = true from hs) Bool.false_ne_true
  | _ => cases y <;> exact absurd (show false = true from hs) Bool.false_ne_true
theorem op_lt : OpR X (compareOp .Lt) (rI0 fun i j => .bl (decide (i < j))) := opB0 fun _ _ _ _ _ _ _ q => lt_int q
theorem op_le : OpR X (compareOp .LtE) (rI0 fun i j => .bl (decide (i ≤ j))) := opB0 fun _ _ _ _ _ _ _ q => le_int q
theorem op_gt : OpR X (compareOp .Gt) (rI0 fun i j => .bl (decide (j < i))) := opB0 fun _ _ _ _ _ _ _ q => gt_int q
theorem op_ge : OpR X (compareOp .GtE) (rI0 fun i j => .bl (decide (j ≤ i))) := opB0 fun _ _ _ _ _ _ _ q => ge_int q
theorem op_notN : OpR X (compareOp .IsNot) (fun x y H Q => y = .non ∧ Q (.bl (!decide (x = .non))) H) := by
  intro pins s σ H x y v u Q I rx ry h
  obtain ⟨rfl, q⟩ := h
  cases ry
  refine isnot_none_gen (fin_bl I q ?_)
  cases x <;> first
    | (cases rx; rfl)
    | (obtain ⟨t, rfl⟩ := rx; rfl)
theorem OpR.or {f : Value → Value → Sem Value} {r r' : R2} (h : OpR X f r) (h' : OpR X f r') : OpR X f (fun x y H Q => r x y H Q ∨ r' x y H Q) := by
  intro pins s σ H x y v u Q I rx ry q
  rcases q with q | q
  · exact h pins s σ H x y v u Q I rx ry q
  · exact h' pins s σ H x y v u Q I rx ry q
theorem pe_cmpR {op : CmpOp} {r : R2} (ho : OpR X (compareOp op) r) (ha : PE X a ta) (hb : PE X b tb) (hm : behindInMarks op b = false) : PE X (.Compare a [op] [b] pos) (tOp r ta tb) := by
  intro pins s σ H Q I h
  exact wpAny_Compare1 (binT ha hb I h fun v u s2 x y H2 I2 rx ry q => ho pins s2 σ H2 x y v u Q I2 rx ry q) hm
def tTest (t : TE) : TT := fun σ H Q => t σ H fun x H' => ∃ k, x = .bl k ∧ Q k H'
theorem pt_cmpR {op : CmpOp} {r : R2} (ho : OpR X (compareOp op) r) (ha : PE X a ta) (hb : PE X b tb) (hm : behindInMarks op b = false) : PT X (.Compare a [op] [b] pos) (tTest (tOp r ta tb)) := by
  intro pins s σ H Q I h
  refine wpAny_isTrue_Compare1 (thn (ha pins s σ H _ I h) fun v s1 ⟨x, H1, I1, r1, q1⟩ => thn (hb pins s1 σ H1 _ I1 q1) fun u s2 ⟨y, H2, I2, r2, q2⟩ =>
    thn (ho pins s2 σ H2 x y v u _ I2 r1 r2 q2) fun c s3 ⟨z, H3, I3, r3, k, e, q3⟩ => ?_) hm
  subst e
  cases r3
  exact wpAny_truthy_bool ⟨H3, I3, q3⟩
def tChain (r r' : R2) (ta tb tc : TE) : TE := fun σ H Q => ta σ H fun x H1 => tb σ H1 fun y H2 => r x y H2 fun z H3 => ∃ k, z = .bl k ∧
  (if k = true then tc σ H3 fun w' H4 => r' y w' H4 Q else Q (.bl false) H3)
theorem pt_chain {op op' : CmpOp} {r r' : R2} (ho : OpR X (compareOp op) r) (ho' : OpR X (compareOp op') r') (ha : PE X a ta) (hb : PE X b tb) (hc : PE X c tc)
    (hm : lastMarks [op, op'] [b, c] = false := by with_unfolding_all rfl) : PT X (.Compare a [op, op'] [b, c] pos) (tTest (tChain r r' ta tb tc)) := by
  intro pins s σ H Q I h
  refine isTrue_chain (thn (ha pins s σ H _ I h) fun v s1 ⟨x, H1, I1, r1, q1⟩ => test_link (thn (hb pins s1 σ H1 _ I1 q1) fun u s2 ⟨y, H2, I2, r2, q2⟩ =>
    thn (ho pins s2 σ H2 x y v u _ I2 r1 r2 q2) fun d s3 ⟨z, H3, I3, r3, k, e, q3⟩ => ?_)) hm
  subst e
  cases r3
  refine wpAny_truthy_bool ?_
  cases k with
  | false =>
    obtain ⟨k', e', q'⟩ := q3
    cases e'
    exact ite_ff ⟨H3, I3, q'⟩
  | true =>
    refine ite_tt (test_last (thn (hc pins s3 σ H3 _ I3 q3) fun w' s4 ⟨z', H4, I4, r4, q4⟩ => thn (ho' pins s4 σ H4 y z' u w' _ I4 r2 r4 q4) fun d' s5 ⟨z2, H5, I5, r5, k2, e2, q5⟩ => ?_))
    subst e2
    cases r5
    exact wpAny_truthy_bool ⟨H5, I5, q5⟩
theorem line63 : (sizeLine : Nat) < 2 ^ 63 := by rw [sizeLine_eq]; decide
theorem op_add_str : OpR X (binaryOp .Add) (fun x y H Q => ∃ i j, x = .str i ∧ y = .str j ∧ i.length + j.length ≤ sizeLine ∧ Q (.str (i ++ j)) H) := by
  intro pins s σ H x y v u Q I rx ry h
  obtain ⟨i, j, rfl, rfl, hz, q⟩ := h
  obtain ⟨t, rfl⟩ := rx
  obtain ⟨t', rfl⟩ := ry
  exact add_str (fun t' tk => ⟨.str (i ++ j), H, I.tok _, ⟨_, rfl⟩, q⟩) hz
theorem vals1 {x : V} {us : List Value} (r : Vals [x] us) : ∃ u, us = [u] ∧ RelV x u := by
  cases r with
  | cons r1 r2 => cases r2; exact ⟨_, rfl, r1⟩
theorem vals2 {x y : V} {us : List Value} (r : Vals [x, y] us) : ∃ u w', us = [u, w'] ∧ RelV x u ∧ RelV y w' := by
  cases r with
  | cons r1 r2 =>
    cases r2 with
    | cons r3 r4 => cases r4; exact ⟨_, _, rfl, r1, r3⟩
theorem call_int1 : CallR X (.type "int") (fun xs H Q => (∃ i, xs = [.int i] ∧ Q (.int i) H) ∨ ∃ k, xs = [.bl k] ∧ Q (.int (if k then 1 else 0)) H) := by
  intro pins s σ H xs us Q I r h
  rcases h with ⟨i, rfl, q⟩ | ⟨k, rfl, q⟩
  · obtain ⟨u, rfl, t, rfl⟩ := vals1 r
    exact call_int_int ⟨.int i, H, I, ⟨_, rfl⟩, q⟩
  · obtain ⟨u, rfl, r1⟩ := vals1 r
    cases r1
    exact call_int_bool ⟨.int (if k then 1 else 0), H, I.tok _, ⟨_, rfl⟩, q⟩
def LenV (K : PySem.W.Frag) (x : V) (H : Hp) (n : Nat) : Prop :=
  match x with
  | .str y => y.length ≤ sizeLine ∧ n = y.length
  | .byt y => y.size ≤ sizeLine ∧ n = y.size
  | .ref p => (∃ xs, SqL K H p xs ∧ n = xs.length) ∨ ∃ xs, SqT K H p xs ∧ n = xs.length
  | _ => False
theorem call_len : CallR X (.builtin "len") (fun xs H Q => ∃ x n, xs = [x] ∧ LenV X.K x H n ∧ Q (.int n) H) := by
  intro pins s σ H xs us Q I r h
  obtain ⟨x, n, rfl, e, q⟩ := h
  obtain ⟨u, rfl, rx⟩ := vals1 r
  have hl := line63
  have hs : sizeLine = 16777216 := sizeLine_eq
  cases x with
  | str y =>
    obtain ⟨t, rfl⟩ := rx
    obtain ⟨hy, e'⟩ : y.length ≤ sizeLine ∧ n = y.length := e
    subst e'
    exact len_str (by omega) ⟨.int _, H, I.tok _, ⟨_, rfl⟩, q⟩
  | byt y =>
    obtain ⟨t, rfl⟩ := rx
    obtain ⟨hy, e'⟩ : y.size ≤ sizeLine ∧ n = y.size := e
    subst e'
    exact PySem.W.len_bytes (by omega) ⟨.int _, H, I.tok _, ⟨_, rfl⟩, q⟩
  | ref p =>
    cases rx
    have e' : (∃ xs, SqL X.K H p xs ∧ n = xs.length) ∨ ∃ xs, SqT X.K H p xs ∧ n = xs.length := e
    rcases e' with ⟨xs, hx, e'⟩ | ⟨xs, hx, e'⟩
    · subst e'
      obtain ⟨its, r', pl, hz⟩ := I.list hx
      have hlen := r'.length
      exact Calls.call_len_list pl.isList (by simp only [List.size_toArray]; omega) ⟨.int xs.length, H, I.tok _, ⟨_, by simp only [List.size_toArray]; rw [hlen]⟩, q⟩
    · subst e'
      obtain ⟨its, r', pl, hz⟩ := I.tuple hx
      have hlen := r'.length
      exact len_tuple pl (by simp only [List.size_toArray]; omega) ⟨.int xs.length, H, I.tok _, ⟨_, by simp only [List.size_toArray]; rw [hlen]⟩, q⟩
  | _ => exact (show False from e).elim
end
end L2
namespace L2
open PySem PySem.Spec PyProof.Rows
section
variable {prog : Program} {w : World} {A : Around} {E : Value → Shared → Prop} {s : Shared} {K : PySem.W.Frag} {x dx C f : Addr} {mA : Str → Option Value} {name : Str} {v : Value}
end
section
variable {P : Program} {w : World} {H H' : Hp} {h h' : Heap} {a C dx : Addr} {fs fs' : List (Str × V)}
end
section
variable {X : Cx} {pins : List (Addr × Obj)} {σ : St} {H : Hp} {s : Shared} {a C dx : Addr} {fs : List (Str × V)} {f : Str} {v : V} {A : Around} {E : Value → Shared → Prop}
end
section
variable {X : Cx} {o e value : Expr} {f : Str} {pos pos' tpos : Pos} {ta tv : TE}
end
section
variable {X : Cx} {pins : List (Addr × Obj)} {σ : St} {H : Hp} {s : Shared} {A : Around} {E : Value → Shared → Prop} {Q : Value → Shared → Prop} {c : Value} {b : Bool}
end
end L2
namespace L2
open PySem PySem.Spec PyProof.Rows
structure Room (k : Nat) (A : Around) : Prop where
  hd : A.handled = none
  dp : A.depth + 3 * k + 5 < recursionLimit
  un : A.units + 16 * k + 200 < cLine
theorem Room.mono {j k : Nat} {A : Around} (r : Room k A) (h : j ≤ k) : Room j A := ⟨r.hd, by have := r.dp; omega, by have := r.un; omega⟩
theorem Room.deeper {k : Nat} {A : Around} (r : Room (k + 1) A) (env : Env) : Room k (A.deeper env) :=
  ⟨r.hd, by have := r.dp; show A.depth + 1 + 3 * k + 5 < _; omega, by have := r.un; show A.units + 3 + 16 * k + 200 < _; omega⟩
theorem Room.depth {k : Nat} {A : Around} (r : Room k A) : A.depth < recursionLimit := by have := r.dp; omega
theorem Room.units {k : Nat} {A : Around} (r : Room k A) : A.units + 64 < cLine := by have := r.un; omega
theorem Room.units0 {k : Nat} {A : Around} (r : Room k A) : A.units < cLine := by have := r.un; omega
def tNil : TA := fun _ H Q => Q [] H
def tCons (ta : TE) (tr : TA) : TA := fun σ H Q => ta σ H fun x H1 => tr σ H1 fun xs H2 => Q (x :: xs) H2
section
variable {X : Cx} {e : Expr} {es : List Expr} {te : TE} {t : TA} {pos : Pos}
theorem pa_nil : PA X [] tNil := fun _ _ _ _ H Q I h => Calls.spliced_nil ⟨[], H, I, .nil, h⟩
theorem pa_cons (ha : PE X e te) (hr : PA X es t) (hs : starEach (e :: es) X.env = (false, eval e X.env) :: starEach es X.env := by rfl) : PA X (e :: es) (tCons te t) := by
  intro pos pins s σ H Q I h
  rw [hs]
  show wpAny _ _ (spliced ((false, eval e X.env) :: backTo pos (starEach es X.env))) _ _ s
  refine Calls.spliced_cons (thn (ha pins s σ H _ I h) fun u s1 ⟨x, H1, I1, r1, q1⟩ => ?_)
  exact thn (hr pos pins s1 σ H1 _ I1 q1) fun us s2 ⟨xs, H2, I2, r2, q2⟩ => ⟨x :: xs, H2, I2, .cons r1 r2, q2⟩
def tTup (t : TA) : TE := fun σ H Q => t σ H fun xs H1 => xs.length ≤ sizeLine ∧ ∀ p, H1 p = none → Q (.ref p) (upd H1 p (.tup xs))
def tLst (t : TA) : TE := fun σ H Q => t σ H fun xs H1 => xs.length ≤ sizeLine ∧ ∀ p, H1 p = none → Q (.ref p) (upd H1 p (.lst xs))
theorem pe_tup {x1} (h : PA X es t) : PE X (.Tuple es x1 pos) (tTup t) := by
  intro pins s σ H Q I hq
  refine wpAny_Tuple_spliced (thn (h pos pins s σ H _ I hq) fun us s1 ⟨xs, H1, I1, r, z, q⟩ => ⟨by rw [← r.length]; exact z, ?_⟩)
  have hf : H1 s1.heap.objs.size = none := I1.hok.fresh (Nat.le_refl _)
  refine ⟨.ref s1.heap.objs.size, upd H1 s1.heap.objs.size (.tup xs), I1.laid (t' := s1.toks) (fun b u e => Heap.get?_push_of_some _ e) (Nat.le_refl _) ?_, rfl, q _ hf⟩
  exact ⟨z, us, r, ⟨_, Heap.get?_push_size _ rfl, rfl, _, rfl⟩⟩
theorem pe_lst (h : PA X es t) : PE X (.List es pos) (tLst t) := by
  intro pins s σ H Q I hq
  refine wpAny_List_spliced (thn (h pos pins s σ H _ I hq) fun us s1 ⟨xs, H1, I1, r, z, q⟩ => ⟨by rw [← r.length]; exact z, ?_⟩)
  have hf : H1 s1.heap.objs.size = none := I1.hok.fresh (Nat.le_refl _)
  refine ⟨.ref s1.heap.objs.size, upd H1 s1.heap.objs.size (.lst xs), I1.laid (t' := s1.toks) (fun b u e => Heap.get?_push_of_some _ e) (Nat.le_refl _) ?_, rfl, q _ hf⟩
  exact ⟨z, us, 0, r, Heap.get?_push_size _ rfl⟩
end
abbrev Sp := List V → Hp → VK → XK → Prop
abbrev CXT := List Env → Hp → Shared → XK → Value → Shared → Prop
structure Env0 (P : Program) (w : World) (K : PySem.W.Frag) (mg : Str → Option Value) (base : Heap) (A : Around) (outer : List Env) (s : Shared) (H : Hp) : Prop where
  frames : A.frames = some outer
  mod : Mod K mg base
  bs : ∀ b o, base.get? b = some o → s.heap.get? b = some o ∧ H b = none
  bsz : base.objs.size ≤ s.heap.objs.size
  funs : s.heap.FunFrames base outer
  frf : ∀ b ∈ frs outer, H b = none
  hok : HOk P w H s.heap
  bare : AllBare s.gens
def CE (outer : List Env) (P : Program) (w : World) (H : Hp) (s : Shared) (Q : VK) (u : Value) (s' : Shared) : Prop :=
  ∃ v H', s'.os = s.os ∧ AllBare s'.gens ∧ Un (frs outer) [] H H' s.heap s'.heap ∧ HOk P w H' s'.heap ∧ RelV v u ∧ Q v H'
def CR (CX : CXT) (outer : List Env) (P : Program) (w : World) (H : Hp) (s : Shared) (Q : VK) (E : XK) (r : Result) (s' : Shared) : Prop :=
  match r with
  | .ok (.ret u) => CE outer P w H s Q u s'
  | .ok _ => False
  | .error e => CX outer H s E e s'
structure FnOk (P : Program) (w : World) (K : PySem.W.Frag) (mg : Str → Option Value) (base : Heap) (CX : CXT) (k : Nat) (f : Addr) (fd : FuncData) (ps : List Str) (sp : Sp) : Prop where
  len : ∀ vs H Q E, sp vs H Q E → vs.length = ps.length
  run : ∀ (A : Around) (outer : List Env) (s : Shared) (H : Hp) (args : Args) (us : List Value) (vs : List V) (Q : VK) (E : XK), Room k A → Env0 P w K mg base A outer s H → BindsTo s fd args (ps.zip us) → Vals vs us → sp vs H Q E →
    codeAny (model P w) A (.call (.ref f) args) (CR CX outer P w H s Q E) s
section
variable {X : Cx} {pins : List (Addr × Obj)} {σ : St} {H : Hp} {s s' : Shared}
theorem Inv.env0 (I : Inv X pins σ H s) : Env0 X.prog X.w X.K X.mg X.base X.A X.stack s H :=
  ⟨I.ok.frames, I.ok.mod, I.bs, Nat.le_trans I.ok.bsz I.sz, I.stack, I.stkFree, I.hok, I.bare⟩
theorem Inv.after {Q : VK} {u : Value} (I : Inv X pins σ H s) (h : CE X.stack X.prog X.w H s Q u s') : EP X pins σ Q u s' := by
  obtain ⟨v, H', os, bare, un, hok, r, q⟩ := h
  obtain ⟨hh, g, d, t, os'⟩ := s'
  obtain rfl : os' = s.os := os
  exact ⟨v, H', I.call (h' := hh) (g' := g) (d' := d) (t' := t) (ch := []) un hok bare (fun b z => absurd z (by simp)), r, q⟩
end
def tCall (sp : Sp) (dvs : List V) (E : XK) (t : TA) : TE := fun σ H Q => t σ H fun vs H1 => sp (vs ++ dvs) H1 Q E
def Binds (K : PySem.W.Frag) (fd : FuncData) (ps : List Str) (ds : List Value) : Prop :=
  ∀ (s : Shared) (us : List Value), K.In s.heap → (us ++ ds).length = ps.length → BindsTo s fd ⟨us, []⟩ (ps.zip (us ++ ds))
theorem Binds.all {K : PySem.W.Frag} {fd : FuncData} {ps : List Str} (h : ∀ us : List Value, us.length = ps.length → bindArgs fd ⟨us, []⟩ = pure (ps.zip us)) : Binds K fd ps [] := fun s us _ hl => by
  rw [List.append_nil] at hl ⊢
  exact .of_eq (h us hl)
def Passes (CX : CXT) (X : Cx) (E : XK) : Prop := ∀ (pins : List (Addr × Obj)) (σ : St) (H : Hp) (s : Shared) (e : Value) (s' : Shared), Inv X pins σ H s → CX X.stack H s E e s' → X.xe e s'
section
variable {X : Cx} {CX : CXT} {k : Nat} {f C : Addr} {fd : FuncData} {ps : List Str} {sp : Sp} {dvs : List V} {ds : List Value} {E : XK} {x m : Str} {p pos apos : Pos} {e o : Expr} {es : List Expr} {ta : TE} {t : TA}
theorem run_fn {pins : List (Addr × Obj)} {σ : St} {H : Hp} {s : Shared} {Q : VK} {us : List Value} {vs : List V} (F : FnOk X.prog X.w X.K X.mg X.base CX k f fd ps sp) (hr : Room k X.A) (hb : Binds X.K fd ps ds) (hd : Vals dvs ds) (hx : Passes CX X E)
    (I : Inv X pins σ H s) (r : Vals vs us) (h : sp (vs ++ dvs) H Q E) : wpAny (model X.prog X.w) X.A (call (.ref f) us) (EP X pins σ Q) X.xe s := by
  have r2 : Vals (vs ++ dvs) (us ++ ds) := r.append hd
  have hl : (us ++ ds).length = ps.length := by rw [← r2.length]; exact F.len _ _ _ _ h
  refine wpAny_call (codeAny_mono (F.run X.A X.stack s H ⟨us, []⟩ (us ++ ds) (vs ++ dvs) Q E hr I.env0 (hb s us I.kIn hl) r2 h) fun r s' hq => ?_)
  cases r with
  | error e => exact hx pins σ H s e s' I hq
  | ok fl =>
    cases fl with
    | ret u => exact I.after hq
    | next => exact False.elim hq
    | brk => exact False.elim hq
    | cont => exact False.elim hq
theorem pe_call (F : FnOk X.prog X.w X.K X.mg X.base CX k f fd ps sp) (hr : Room k X.A) (hg : Gl X x) (hm : X.mg x = some (.ref f)) (hk : PySem.W.keepIn X.K (.ref f) = true) (hb : Binds X.K fd ps ds) (hd : Vals dvs ds) (hx : Passes CX X E)
    (ha : PA X (e :: es) t) (hdb : (x == ("__debug__" : Str)) = false := by decide) (he : starEach (e :: es) X.env = (false, eval e X.env) :: starEach es X.env := by rfl) (hpl : (backTo pos (starEach es X.env)).any (·.1) = false := by rfl) :
    PE X (.Call (.Name x p) (e :: es) [] pos) (tCall sp dvs E t) := by
  intro pins s σ H Q I h
  refine wpAny_Call_Name_kw (ld_glob I hg hm ?_ hdb)
  refine PySem.W.callWith_K (h₀ := X.base) I.ok.mod.kin hk (thn (ha pos pins s σ H _ I h) fun us s1 ⟨vs, H1, I1, r, q⟩ => ⟨I1.kIn, ?_⟩) he hpl
  exact run_fn F hr hb hd hx I1 r q
end
section
variable {X : Cx} {CX : CXT} {k : Nat} {f C : Addr} {fd : FuncData} {ps ks : List Str} {sp : Sp} {E : XK} {x m : Str} {p pos apos kpos : Pos} {e o : Expr} {es : List Expr} {kws : List Keyword} {te ta : TE} {t tk : TA} {nm : Option Str}
variable {g : List Value → List Value → List Value} {gV : List V → List V → List V}
end
structure FnScope (N P : List Str) (sc : Scope) : Prop where
  kind : sc.kind = .function
  co : sc.isCoroutine = false
  gen : sc.isGenerator = false
  nd : N.Nodup
  pre : N.take P.length = P
  par : ∀ x ∈ P, sc.names.lookup x = some .local ∨ sc.names.lookup x = some .cell
  nofree : ∀ y ∈ sc.names, y.2 ≠ .free
theorem bindL_out {kindOf : Str → Option NameKind} {x : Str} : ∀ {binds : List (Str × Value)} {m : Str → Option Value}, (∀ v, (x, v) ∉ binds) → bindL kindOf binds m x = m x
  | [], _, _ => rfl
  | (n, v) :: r, m, h => by
    unfold bindL
    rw [bindL_out fun w hw => h w (List.mem_cons_of_mem _ hw)]
    split
    · have : x ≠ n := by rintro rfl; exact h v List.mem_cons_self
      simp [this]
    · rfl
theorem bindC_out {kindOf : Str → Option NameKind} {x : Str} : ∀ {binds : List (Str × Value)} {m : Str → Option Value}, (∀ v, (x, v) ∉ binds) → bindC kindOf binds m x = m x
  | [], _, _ => rfl
  | (n, v) :: r, m, h => by
    unfold bindC
    rw [bindC_out fun w hw => h w (List.mem_cons_of_mem _ hw)]
    split
    · rfl
    · have : x ≠ n := by rintro rfl; exact h v List.mem_cons_self
      simp [this]
theorem bindL_get {kindOf : Str → Option NameKind} {x : Str} {v : Value} : ∀ {P : List Str} {vs : List Value} {i : Nat} {m : Str → Option Value}, P.Nodup → P[i]? = some x → vs[i]? = some v → kindOf x = some .local →
    bindL kindOf (P.zip vs) m x = some v
  | [], _, _, _, _, h, _, _ => by simp at h
  | _ :: _, [], _, _, _, _, h, _ => by simp at h
  | p :: P, w :: vs, 0, m, nd, h1, h2, hk => by
    simp at h1 h2; subst h1; subst h2
    show bindL kindOf ((p, w) :: P.zip vs) m p = _
    unfold bindL
    rw [bindL_out fun v hv => (List.nodup_cons.mp nd).1 (List.of_mem_zip hv).1, if_pos hk]
    simp
  | p :: P, w :: vs, i + 1, m, nd, h1, h2, hk => by
    show bindL kindOf ((p, w) :: P.zip vs) m x = _
    unfold bindL
    exact bindL_get (i := i) (List.nodup_cons.mp nd).2 (by simpa using h1) (by simpa using h2) hk
theorem bindC_get {kindOf : Str → Option NameKind} {x : Str} {v : Value} : ∀ {P : List Str} {vs : List Value} {i : Nat} {m : Str → Option Value}, P.Nodup → P[i]? = some x → vs[i]? = some v → kindOf x ≠ some .local →
    bindC kindOf (P.zip vs) m x = some v
  | [], _, _, _, _, h, _, _ => by simp at h
  | _ :: _, [], _, _, _, _, h, _ => by simp at h
  | p :: P, w :: vs, 0, m, nd, h1, h2, hk => by
    simp at h1 h2; subst h1; subst h2
    show bindC kindOf ((p, w) :: P.zip vs) m p = _
    unfold bindC
    rw [bindC_out fun v hv => (List.nodup_cons.mp nd).1 (List.of_mem_zip hv).1, if_neg hk]
    simp
  | p :: P, w :: vs, i + 1, m, nd, h1, h2, hk => by
    show bindC kindOf ((p, w) :: P.zip vs) m x = _
    unfold bindC
    exact bindC_get (i := i) (List.nodup_cons.mp nd).2 (by simpa using h1) (by simpa using h2) hk
def start (N : List Str) (vs : List V) : St := vs.map some ++ List.replicate (N.length - vs.length) none
def cxOf (CX : CXT) (P : Program) (w : World) (K : PySem.W.Frag) (mg : Str → Option Value) (base : Heap) (N : List Str) (qual : Str) (scope : Scope) (f : Addr) (cd : Value) (A : Around) (outer : List Env) (s : Shared) (H : Hp) (E : XK) : Cx where
  prog := P
  w := w
  K := K
  mg := mg
  base := base
  A := A.deeper (envOfC qual scope s.heap.objs.size f cd)
  N := N
  s₀ := s
  H₀ := H
  env := envOfC qual scope s.heap.objs.size f cd
  outer := outer
  stack := envOfC qual scope s.heap.objs.size f cd :: outer
  ex := []
  calm := true
  fn := fun _ => true
  pn := []
  xe := fun e s' => wpAny (model P w) (A.deeper (envOfC qual scope s.heap.objs.size f cd)) (leaving (envOfC qual scope s.heap.objs.size f cd) e) (fun _ s'' => CX outer H s E e s'') (fun e' s'' => CX outer H s E e' s'') s'
theorem cell_has {sc : Scope} {n : Nat} {x : Str} (h : sc.names.lookup x = some .cell) : ∃ c, (cellsFrom n sc.names []).lookup x = some c := by
  have q := PySem.W.cellsFrom_some sc.names n [] (.inl h)
  exact Option.isSome_iff_exists.mp q
theorem inv_start {CX : CXT} {P : Program} {w : World} {K : PySem.W.Frag} {mg : Str → Option Value} {base : Heap} {N ps : List Str} {qual : Str} {scope : Scope} {f : Addr} {cd : Value} {A : Around} {outer : List Env} {s s1 : Shared} {H : Hp} {E : XK} {us : List Value} {vs : List V}
    (S : FnScope N ps scope) (hd : A.handled = none) (e0 : Env0 P w K mg base A outer s H) (hl : vs.length = ps.length) (r : Vals vs us)
    (x : InCallC s s.heap.objs.size (bindL (envOfC qual scope s.heap.objs.size f cd).kindOf (ps.zip us) fun _ => none) (cellsFrom (s.heap.objs.size + 1) scope.names []) (bindC (envOfC qual scope s.heap.objs.size f cd).kindOf (ps.zip us) fun _ => none) s1) :
    Inv (cxOf CX P w K mg base N qual scope f cd A outer s H E) [] (start N vs) H s1 := by
  have hpl : ps.length ≤ N.length := by have := congrArg List.length S.pre; rw [List.length_take] at this; omega
  obtain ⟨h1, tk, rfl, hk⟩ := x.done
  have noA : ∀ b : Addr, b ∉ (cxOf CX P w K mg base N qual scope f cd A outer s H E).ex := fun b z => absurd (show b ∈ ([] : List Addr) from z) (by simp)
  refine ⟨⟨e0.mod, S.kind, rfl, rfl, Nat.le_refl _, fun y z c h1 h2 => ?_, fun y hy => ?_, fun y c _ h => ?_, fun _ => hd, Around.frames_deeper e0.frames, .inr ⟨rfl, rfl⟩, fun b z => absurd z (noA b), e0.bs, e0.bsz, fun b _ _ => noA b, fun b z => absurd z (noA b), e0.funs, e0.frf⟩,
    rfl, e0.bare, Un.kept hk, ⟨_, x.toInCall.ns, fun i y v h1 h2 h3 => ?_⟩, fun y c h => ⟨_, x.cell y c h⟩, e0.hok.fresh (Nat.le_refl _), fun y c h => ?_, fun p hp => absurd (show p ∈ ([] : List (Addr × Obj)) from hp) (by simp), e0.hok.kept hk, ?_⟩
  · exact name_of_addr x.apart (PySem.mem_of_lookup h1) (PySem.mem_of_lookup h2)
  · have hy : scope.names.lookup y = some .cell ∨ scope.names.lookup y = some .free := hy
    rcases hy with hy | hy
    · exact cell_has hy
    · exact absurd rfl (S.nofree _ (PySem.mem_of_lookup hy))
  · exact Nat.le_of_lt (x.above y c (PySem.mem_of_lookup h))
  · have hi : i < vs.length := by
      unfold start at h2
      by_cases hi : i < vs.length
      · exact hi
      · rw [List.getElem?_append_right (by simpa using hi)] at h2
        rw [List.getElem?_replicate] at h2
        split at h2 <;> cases h2
    have ha : vs[i]? = some v := by
      unfold start at h2
      rw [List.getElem?_append_left (by simpa using hi), List.getElem?_map] at h2
      cases e : vs[i]? with
      | none => rw [e] at h2; cases h2
      | some a => rw [e] at h2; cases h2; rfl
    obtain ⟨u, hu, rv⟩ := r.get ha
    have hp : ps[i]? = some y := by
      rw [← S.pre, List.getElem?_take_of_lt (by omega)]; exact h1
    have ndP : ps.Nodup := by rw [← S.pre]; exact S.nd.sublist (List.take_sublist _ _)
    refine ⟨u, rv, ?_⟩
    rcases S.par y (List.mem_of_getElem? hp) with k | k
    · exact .inl ⟨k, bindL_get ndP hp hu k⟩
    · obtain ⟨c, e⟩ := cell_has (n := s.heap.objs.size + 1) k
      refine .inr ⟨.inl k, c, e, ?_⟩
      have q := x.cell y c e
      rw [bindC_get ndP hp hu (by show scope.names.lookup y ≠ _; rw [k]; decide)] at q
      exact q
  · exact e0.hok.fresh (Nat.le_of_lt (x.above y c (PySem.mem_of_lookup h)))
  · unfold start
    show _ = N.length
    rw [List.length_append, List.length_map, List.length_replicate]
    omega
theorem fn_of {CX : CXT} {P : Program} {w : World} {K : PySem.W.Frag} {mg : Str → Option Value} {base : Heap} {k : Nat} {f : Addr} {name qual : Str} {params : Arguments} {body : List Stmt} {scope : Scope} {dV kV doc pm cdv ct oc : Value} {an od : Option Addr}
    {osl : Array (Option Value)} {N ps : List Str} {sp : Sp} (lk : K.lookup f = some ⟨oc, od, .func (PySem.W.fnOf name qual params body scope dV kV doc pm an cdv ct), osl⟩) (hcd : PySem.W.codeIn K cdv qual = true) (S : FnScope N ps scope)
    (len : ∀ vs H Q E, sp vs H Q E → vs.length = ps.length)
    (hbody : ∀ (A : Around) (outer : List Env) (s : Shared) (H : Hp) (vs : List V) (Q : VK) (E : XK), Room k (A.deeper (envOfC qual scope s.heap.objs.size f cdv)) → sp vs H Q E →
      ∃ t, PSs (cxOf CX P w K mg base N qual scope f cdv A outer s H E) body t ∧ t { nx := fun _ H' => Q .non H', rt := Q } (start N vs) H) :
    FnOk P w K mg base CX (k + 1) f (PySem.W.fnOf name qual params body scope dV kV doc pm an cdv ct) ps sp := by
  refine ⟨len, fun A outer s H args us vs Q E hr e0 hb r hsp => ?_⟩
  have hl := len _ _ _ _ hsp
  have KX : K.In s.heap := e0.mod.kin.keeps fun b o e => (e0.bs b o e).1
  have lim : s.heap.NoLimit := e0.mod.nolimit.keeps fun b o e => (e0.bs b o e).1
  have hkind : ∀ y ∈ ps.zip us, scope.names.lookup y.1 = some .local ∨ (scope.names.lookup y.1 = some .cell ∧ ((cellsFrom (s.heap.objs.size + 1) scope.names []).lookup y.1).isSome = true) := fun ⟨n, v⟩ hy => by
    rcases S.par n (List.of_mem_zip hy).1 with q | q
    · exact .inl q
    · exact .inr ⟨q, PySem.W.cellsFrom_some _ _ _ (.inl q)⟩
  refine codeAny_call_function hr.depth (KX _ _ lk) rfl S.co S.gen rfl (PySem.W.codeRec_of KX hcd) (hb _ _ _ _ ?_)
  refine wpAny_newFunctionEnv_cells S.kind hkind fun env he s1 x => ?_
  subst he
  refine ⟨lim.keeps x.toInCall.keep, codeAny_func ?_⟩
  obtain ⟨t, ht, hq⟩ := hbody A outer s H vs Q E (hr.deeper _) hsp
  have I : Inv (cxOf CX P w K mg base N qual scope f cdv A outer s H E) [] (start N vs) H s1 := inv_start S hr.hd e0 hl r x
  refine wpAny_mono (ht [] s1 (start N vs) H _ I hq) (fun fl s' hs => ?_) fun e s' hs => hs
  have fin : ∀ {σ' : St} {H' : Hp} {v : V} {u : Value}, Inv (cxOf CX P w K mg base N qual scope f cdv A outer s H E) [] σ' H' s' → RelV v u → Q v H' → CE outer P w H s Q u s' :=
    fun {σ' H' v u} J rv q => ⟨v, H', J.os, J.bare, J.base, J.hok, rv, q⟩
  cases fl with
  | ret u =>
    obtain ⟨v, σ', H', J, rv, q⟩ := hs
    exact fin J rv q
  | next =>
    obtain ⟨σ', H', J, q⟩ := hs
    exact fin (v := V.non) (u := Value.none) J rfl q
  | brk =>
    obtain ⟨_, _, _, q⟩ := hs
    exact False.elim q
  | cont =>
    obtain ⟨_, _, _, q⟩ := hs
    exact False.elim q
end L2
namespace L2
open PySem PySem.Spec PyProof.Rows
section
variable {X : Cx} {x : Str} {p pos : Pos} {e : Expr} {es : List Expr} {t : TA} {id T : String} {r : List V → Hp → VK → Prop}
def tCB (r : List V → Hp → VK → Prop) (t : TA) : TE := fun σ H Q => t σ H fun vs H1 => r vs H1 Q
theorem pe_callB (hc : CallR X (.builtin id) r) (hg : Gl X x) (hm : X.mg x = none) (hv : bootBuiltins x = some (.builtin id)) (ha : PA X (e :: es) t) (hn : x ≠ "__name__" := by decide) (hdb : (x == ("__debug__" : Str)) = false := by decide)
    (he : starEach (e :: es) X.env = (false, eval e X.env) :: starEach es X.env := by rfl) (hpl : (backTo pos (starEach es X.env)).any (·.1) = false := by rfl) : PE X (.Call (.Name x p) (e :: es) [] pos) (tCB r t) := by
  intro pins s σ H Q I h
  refine wpAny_Call_Name_kw (ld_blt I hg hm hv ?_ hn hdb)
  exact PyProof.Rows.callWith_builtin1 (thn (ha pos pins s σ H _ I h) fun us s1 ⟨vs, H1, I1, r1, q1⟩ => hc pins s1 σ H1 vs us Q I1 r1 q1) he hpl
theorem pe_callTy (hc : CallR X (.type T) r) (hg : Gl X x) (hm : X.mg x = none) (hv : bootBuiltins x = some (.type T)) (ha : PA X (e :: es) t) (hn : x ≠ "__name__" := by decide) (hdb : (x == ("__debug__" : Str)) = false := by decide)
    (he : starEach (e :: es) X.env = (false, eval e X.env) :: starEach es X.env := by rfl) (hpl : (backTo pos (starEach es X.env)).any (·.1) = false := by rfl) : PE X (.Call (.Name x p) (e :: es) [] pos) (tCB r t) := by
  intro pins s σ H Q I h
  refine wpAny_Call_Name_kw (ld_blt I hg hm hv ?_ hn hdb)
  exact PyProof.Rows.callWith_type1 (thn (ha pos pins s σ H _ I h) fun us s1 ⟨vs, H1, I1, r1, q1⟩ => hc pins s1 σ H1 vs us Q I1 r1 q1) he hpl
end
end L2
namespace HT
open PySem PyProof.Rows
section
open PySem.SeqAt
open PySem.AutoSeq1 (wpAny_loadPart')
open PySem.MeetsSeq PySem.MeetsSeq2 PySem.MeetsSeq3
end
section
variable {prog : Program} {w : World} {A : Around} {E : Value → Shared → Prop} {s : Shared}
theorem cat_tup {t b : Addr} {vs ws : List Value} {Q : Value → Shared → Prop} (ht : IsTup s.heap t vs.toArray) (hb : IsTup s.heap b ws.toArray) (hv : vs ≠ [])
    (h1 : ws = [] → Q (.ref t) s) (h2 : ws ≠ [] → Q (.ref s.heap.objs.size) { s with heap := s.heap.push { cls := .type "tuple", data := .seq (vs ++ ws).toArray } })
    (hsz : vs.length + ws.length ≤ sizeLine) : wpAny (model prog w) A (binaryOp .Add (.ref t) (.ref b)) Q E s := by
  obtain ⟨⟨cls, dd, data, sl⟩, ho, hc, n, hd⟩ := id ht
  obtain ⟨⟨cls2, dd2, data2, sl2⟩, ho2, hc2, n2, hd2⟩ := id hb
  simp only at hc hd hc2 hd2
  subst hc hd hc2 hd2
  have e : vs.toArray ++ ws.toArray = (vs ++ ws).toArray := by simp
  by_cases hw : ws = []
  · exact concat_meets ⟨_, ho, rfl⟩ ⟨_, ho2, rfl⟩ noFill_tuple_add seq_tuple_add PySem.F.slot_tuple_add PySem.F.entry_tuple_add (PySem.F.args_tuple_add_2 _ _)
      (tuple_addW1 t b vs.toArray ws.toArray n n2 dd dd2 sl sl2 (by simpa using hv) (by simp [hw])) ⟨ho, ho2, h1 hw⟩
  · refine concat_meets ⟨_, ho, rfl⟩ ⟨_, ho2, rfl⟩ noFill_tuple_add seq_tuple_add PySem.F.slot_tuple_add PySem.F.entry_tuple_add (PySem.F.args_tuple_add_2 _ _)
      (tuple_addW2 t b vs.toArray ws.toArray n n2 dd dd2 sl sl2 (by simpa using hv) (by simpa using hw) (by rw [List.size_toArray, List.size_toArray]; exact hsz)) ⟨ho, ho2, ?_⟩
    rw [e]
    exact h2 hw
def sIx (n d : Nat) : Option Int → Nat
  | none => d
  | some v => if v < 0 then (v + (n : Int)).toNat else min v.toNat n
theorem sIx_none (n d : Nat) : sIx n d none = d := rfl
theorem sIx_nat (n d k : Nat) : sIx n d (some (k : Int)) = min k n := by
  show (if (k : Int) < 0 then ((k : Int) + (n : Int)).toNat else min (k : Int).toNat n) = min k n
  rw [if_neg (by omega), Int.toNat_natCast]
theorem sIx_le (n d : Nat) (hd : d ≤ n) (o : Option Int) : sIx n d o ≤ n := by
  cases o with
  | none => exact hd
  | some v =>
    show (if v < 0 then (v + (n : Int)).toNat else min v.toNat n) ≤ n
    by_cases hv : v < 0
    · rw [if_pos hv]; omega
    · rw [if_neg hv]; exact Nat.min_le_right _ _
theorem clip_eq (v : Int) (n d : Nat) : (if v < 0 then max (v + (n : Int)) 0 else min v (n : Int)) = ((sIx n d (some v) : Nat) : Int) := by
  show (if v < 0 then max (v + (n : Int)) 0 else min v (n : Int)) = (((if v < 0 then (v + (n : Int)).toNat else min v.toNat n) : Nat) : Int)
  by_cases hv : v < 0
  · simp only [if_pos hv]; omega
  · simp only [if_neg hv]; omega
theorem adjust_gen (lo hi : Option Int) (n : Nat) : Builtin.Slice.sliceAdjust lo hi 1 (n : Int) = (((sIx n 0 lo : Nat) : Int), ((sIx n n hi : Nat) : Int)) := by
  have h1 : ¬ ((1 : Int) < 0) := by omega
  unfold Builtin.Slice.sliceAdjust
  simp only [h1, if_false]
  refine Prod.ext ?_ ?_
  · cases lo with
    | none => rfl
    | some v => exact clip_eq v n 0
  · cases hi with
    | none => rfl
    | some v => exact clip_eq v n n
theorem places_gen (i j : Nat) : Builtin.Slice.slicePlaces (i : Int) (j : Int) 1 = j - i := by
  unfold Builtin.Slice.slicePlaces
  have h1 : (1 : Int) > 0 := by omega
  simp only [h1, if_true, Int.ediv_one]
  split <;> omega
theorem slicePart_ {v : Value} {o : Option Int} {Q : Option Int → Shared → Prop} (p : IsPart v o) (h : Q o s) : wpAny (model prog w) A (Builtin.Slice.slicePartIndex v) Q E s := by
  cases p with
  | none => exact slicePart_none h
  | int i t => exact slicePart_int h
theorem sliceApplied_gen {sl : Addr} {vl vu : Value} {lo hi : Option Int} {n : Nat} {Q : Int × Int × Nat → Shared → Prop} (hs : s.heap.IsSliceOf sl vl vu .none) (pl : IsPart vl lo) (pu : IsPart vu hi)
    (h : Q (((sIx n 0 lo : Nat) : Int), 1, sIx n n hi - sIx n 0 lo) s) : wpAny (model prog w) A (Builtin.Slice.sliceApplied (.ref sl) (pure (n : Int))) Q E s := by
  obtain ⟨os, hos, hcs, hds⟩ := id hs
  unfold Builtin.Slice.sliceApplied Builtin.Slice.sliceFields
  refine wpAny_bind (wpAny_bind (wpAny_field hos hds (x := vl) rfl (wpAny_bind (wpAny_field hos hds (x := vu) rfl (wpAny_bind (wpAny_field hos hds (x := .none) rfl (wpAny_pure ?_)))))))
  refine wpAny_bind (slicePart_none ?_)
  show wpAny _ _ (if ((1 : Int) == 0) = true then _ else _) _ _ s
  rw [if_neg (by decide)]
  refine wpAny_bind (slicePart_ pl (wpAny_bind (slicePart_ pu (wpAny_bind (wpAny_pure ?_)))))
  show wpAny _ _ (match Builtin.Slice.sliceAdjust lo hi 1 (n : Int) with | (lo, hi) => pure (lo, (1 : Int), Builtin.Slice.slicePlaces lo hi 1)) _ _ s
  rw [adjust_gen lo hi n]
  show wpAny _ _ (pure (((sIx n 0 lo : Nat) : Int), (1 : Int), Builtin.Slice.slicePlaces ((sIx n 0 lo : Nat) : Int) ((sIx n n hi : Nat) : Int) 1)) _ _ s
  rw [places_gen]
  exact wpAny_pure h
theorem pick_gen (xs : Array Value) (i k : Nat) : ((List.range k).filterMap fun (m : Nat) => xs[((i : Int) + (m : Int) * 1).toNat]?).toArray = ((xs.toList.drop i).take k).toArray := by
  have e : (fun (m : Nat) => xs[((i : Int) + (m : Int) * 1).toNat]?) = fun m => xs[i + m]? := by
    funext m
    have : ((i : Int) + (m : Int) * 1).toNat = i + m := by omega
    rw [this]
  rw [e]
  have := pick_run xs i k
  rw [List.filterMap_map] at this
  have e2 : ((fun x => xs[x]?) ∘ fun x => i + x) = fun m => xs[i + m]? := rfl
  rw [e2] at this
  rw [this]
theorem getItem_tuple_cut {t sl : Addr} {items : Array Value} {vl vu : Value} {lo hi : Option Int} {Q : Value → Shared → Prop} (ht : IsTup s.heap t items) (hs : s.heap.IsSliceOf sl vl vu .none) (pl : IsPart vl lo) (pu : IsPart vu hi)
    (hw : ¬ (sIx items.size 0 lo = 0 ∧ sIx items.size items.size hi = items.size))
    (h : Q (.ref s.heap.objs.size) { s with heap := s.heap.push { cls := .type "tuple", data := .seq ((items.toList.drop (sIx items.size 0 lo)).take (sIx items.size items.size hi - sIx items.size 0 lo)).toArray } })
    (hsz : items.size ≤ sizeLine) : wpAny (model prog w) A (getItem (.ref t) (.ref sl)) Q E s := by
  have htake : sizeOk (.seq ((items.toList.drop (sIx items.size 0 lo)).take (sIx items.size items.size hi - sIx items.size 0 lo)).toArray) := by
    show ((items.toList.drop (sIx items.size 0 lo)).take (sIx items.size items.size hi - sIx items.size 0 lo)).toArray.size ≤ sizeLine
    rw [List.size_toArray, List.length_take, List.length_drop, Array.length_toList]
    omega
  have hj : sIx items.size items.size hi ≤ items.size := sIx_le _ _ (Nat.le_refl _) hi
  obtain ⟨os, hos, hcs, hds⟩ := id hs
  have hTs : s.TypeIs (.ref sl) "slice" := ⟨os, hos, hcs⟩
  unfold getItem
  try with_reducible refine wpAny_holding ?_
  first | refine wpAny_bind (wpAny_pure ?_) | skip
  refine wpAny_bind (wpAny_sequenceKey ht.typeIs (by decide) ?_)
  refine wpAny_bind (wpAny_callSpecial?_slot (name := Str.ofString "__getitem__") ht.typeIs PyProof.Rows.slot_tuple_getitem
    (wpAny_call_entry PyProof.Rows.slot_tuple_getitem ht.typeIs entry_tuple_getitem ?_ (args_tuple_getitem _ _)))
  show wpAny _ _ (Builtin.Tuple.tupleItemsOf (.ref t) >>= _) _ _ s
  refine wpAny_bind (tupleItemsOf_ ht ?_)
  refine wpAny_bind (wpAny_typeOf hTs ?_)
  rw [if_pos (by decide)]
  refine wpAny_bind (sliceApplied_gen hs pl pu ?_)
  have hno : ¬ ((((sIx items.size 0 lo : Nat) : Int) == 0 && (1 : Int) == 1 && (sIx items.size items.size hi - sIx items.size 0 lo) == items.size) = true) := by
    intro q
    rw [Bool.and_eq_true, Bool.and_eq_true] at q
    have q1 : ((sIx items.size 0 lo : Nat) : Int) = 0 := eq_of_beq q.1.1
    have q2 : sIx items.size items.size hi - sIx items.size 0 lo = items.size := eq_of_beq q.2
    exact hw ⟨by omega, by omega⟩
  show wpAny _ _ (if (((sIx items.size 0 lo : Nat) : Int) == 0 && (1 : Int) == 1 && (sIx items.size items.size hi - sIx items.size 0 lo) == items.size) = true then _ else _) _ _ s
  rw [if_neg hno, pick_gen]
  first
    | exact wpAny_bind (m := Builtin.Tuple.tupleExact _) (wpAny_newObj_type (wpAny_pure ⟨_, rfl, wpAny_pure h⟩) htake)
    | exact wpAny_bind (m := Builtin.Tuple.tupleExact _) (wpAny_newObj_type (wpAny_bind (wpAny_pure (wpAny_pure ⟨_, rfl, wpAny_pure h⟩))) htake)
    | exact wpAny_bind (wpAny_bind (m := Builtin.Tuple.tupleExact _) (wpAny_newObj_type (wpAny_pure (wpAny_pure ⟨_, rfl, wpAny_pure h⟩)) htake))
    | exact wpAny_bind (wpAny_bind (m := Builtin.Tuple.tupleExact _) (wpAny_newObj_type (wpAny_pure ⟨_, rfl, wpAny_pure h⟩) htake))
end
end HT
namespace L2
open PySem PySem.Spec PyProof.Rows
abbrev TO := St → Hp → (Option Int → Hp → Prop) → Prop
def PO (X : Cx) (e : Option Expr) (t : TO) : Prop :=
  ∀ (pins : List (Addr × Obj)) (s : Shared) (σ : St) (H : Hp) (Q : Option Int → Hp → Prop), Inv X pins σ H s → t σ H Q →
    wpAny (model X.prog X.w) X.A (evalPart e X.env) (fun u s' => ∃ o H', Inv X pins σ H' s' ∧ IsPart u o ∧ Q o H') X.xe s
def tNoPart : TO := fun _ H Q => Q none H
def tPart (t : TE) : TO := fun σ H Q => t σ H fun x H1 => ∃ i, x = .int i ∧ Q (some i) H1
section
variable {X : Cx} {e : Expr} {te : TE} {lo hi : Option Expr} {tl th : TO} {pos p2 : Pos}
theorem po_none : PO X none tNoPart := by
  intro pins s σ H Q I h
  rw [evalPart_none]
  exact wpAny_pure ⟨none, H, I, .none, h⟩
theorem po_some (h : PE X e te) : PO X (some e) (tPart te) := by
  intro pins s σ H Q I hw
  rw [evalPart_some]
  refine thn (h pins s σ H _ I hw) fun u s1 ⟨x, H1, I1, r1, q1⟩ => ?_
  obtain ⟨i, rfl, q⟩ := q1
  obtain ⟨t, rfl⟩ := r1
  exact ⟨some i, H1, I1, .int i t, q⟩
def SlR (X : Cx) (r : V → Option Int → Option Int → Hp → VK → Prop) : Prop :=
  ∀ (pins : List (Addr × Obj)) (s : Shared) (σ : St) (H : Hp) (x : V) (v vl vu : Value) (lo hi : Option Int) (sl : Addr) (Q : VK), Inv X pins σ H s → RelV x v → s.heap.IsSliceOf sl vl vu .none → IsPart vl lo → IsPart vu hi → r x lo hi H Q →
    ∃ T id, typeLookup (.type T) "__getitem__" = pure (some (.builtin id)) ∧ s.TypeIs v T ∧ wpAny (model X.prog X.w) X.A (getItem v (.ref sl)) (EP X pins σ Q) X.xe s
theorem SlR.or {r r' : V → Option Int → Option Int → Hp → VK → Prop} (h : SlR X r) (h' : SlR X r') : SlR X (fun x lo hi H Q => r x lo hi H Q ∨ r' x lo hi H Q) := by
  intro pins s σ H x v vl vu lo hi sl Q I rx hs pl pu q
  rcases q with q | q
  · exact h pins s σ H x v vl vu lo hi sl Q I rx hs pl pu q
  · exact h' pins s σ H x v vl vu lo hi sl Q I rx hs pl pu q
def tSl (r : V → Option Int → Option Int → Hp → VK → Prop) (te : TE) (tl th : TO) : TE := fun σ H Q => te σ H fun x H1 => tl σ H1 fun l H2 => th σ H2 fun u H3 => r x l u H3 Q
theorem pe_slice {r : V → Option Int → Option Int → Hp → VK → Prop} (hr : SlR X r) (he : PE X e te) (hl : PO X lo tl) (hu : PO X hi th) : PE X (.Subscript e (.Slice lo hi none p2) pos) (tSl r te tl th) := by
  intro pins s σ H Q I h
  refine Subscript_ (thn (he pins s σ H _ I h) fun v s1 ⟨x, H1, I1, r1, q1⟩ => ?_)
  refine wpAny_Slice (thn (hl pins s1 σ H1 _ I1 q1) fun vl s2 ⟨l, H2, I2, pl, q2⟩ => thn (hu pins s2 σ H2 _ I2 q2) fun vu s3 ⟨u, H3, I3, pu, q3⟩ => ?_)
  rw [evalPart_none]
  refine wpAny_pure ?_
  have I4 : Inv X pins σ H3 { s3 with heap := s3.heap.push { cls := .type "slice", data := .fields #[vl, vu, .none] } } := I3.kept (t' := s3.toks) fun b ob q => Heap.get?_push_of_some _ q
  obtain ⟨T, id, hT, ht, hg⟩ := hr pins { s3 with heap := s3.heap.push { cls := .type "slice", data := .fields #[vl, vu, .none] } } σ H3 x v vl vu l u s3.heap.objs.size Q I4 r1 (Heap.IsSliceOf.new ..) pl pu q3
  show wpAny (model X.prog X.w) X.A (subscriptTail e (.Slice lo hi none p2) v (.ref s3.heap.objs.size)) (EP X pins σ Q) X.xe { s3 with heap := s3.heap.push { cls := .type "slice", data := .fields #[vl, vu, .none] } }
  exact tail_any (ops := [.ref s3.heap.objs.size, v]) ht hT hg (by with_unfolding_all rfl)
def cutV (xs : List V) (lo hi : Option Int) : List V := (xs.drop (HT.sIx xs.length 0 lo)).take (HT.sIx xs.length xs.length hi - HT.sIx xs.length 0 lo)
theorem cutV_length (xs : List V) (lo hi : Option Int) : (cutV xs lo hi).length ≤ xs.length := by
  unfold cutV
  rw [List.length_take, List.length_drop]
  omega
def rSlT (K : PySem.W.Frag) : V → Option Int → Option Int → Hp → VK → Prop := fun x lo hi H Q => ∃ a xs, x = .ref a ∧ SqT K H a xs ∧
  ¬ (HT.sIx xs.length 0 lo = 0 ∧ HT.sIx xs.length xs.length hi = xs.length) ∧ ∀ p, H p = none → Q (.ref p) (upd H p (.tup (cutV xs lo hi)))
theorem sl_tup : SlR X (rSlT X.K) := by
  intro pins s σ H x v vl vu lo hi sl Q I rx hs pl pu h
  obtain ⟨a, xs, rfl, hx, hw, q⟩ := h
  cases rx
  obtain ⟨its, r, ht, hz⟩ := I.tuple hx
  have hlen : its.toArray.size = xs.length := by rw [List.size_toArray]; exact r.length.symm
  refine ⟨"tuple", _, PyProof.Rows.slot_tuple_getitem.lookup, ht.typeIs, ?_⟩
  refine HT.getItem_tuple_cut ht hs pl pu (by rw [hlen]; exact hw) ?_ (by rw [hlen]; exact hz)
  rw [hlen]
  refine ⟨.ref s.heap.objs.size, _, I.laid (t' := s.toks) (o := .tup (cutV xs lo hi)) (fun b ob q => Heap.get?_push_of_some _ q) (Nat.le_refl _) ?_, rfl, q _ (I.hok.fresh (Nat.le_refl _))⟩
  exact ⟨Nat.le_trans (cutV_length xs lo hi) hz, _, (r.drop (HT.sIx xs.length 0 lo)).take (HT.sIx xs.length xs.length hi - HT.sIx xs.length 0 lo), IsTup.new _ _⟩
def rCatT (K : PySem.W.Frag) : R2 := fun x y H Q => ∃ a b xs ys, x = .ref a ∧ y = .ref b ∧ SqT K H a xs ∧ SqT K H b ys ∧ xs ≠ [] ∧ xs.length + ys.length ≤ sizeLine ∧
  (ys = [] → Q (.ref a) H) ∧ (ys ≠ [] → ∀ p, H p = none → Q (.ref p) (upd H p (.tup (xs ++ ys))))
theorem Vals.nil_iff {xs : List V} {us : List Value} (r : Vals xs us) : us = [] ↔ xs = [] := by
  cases r with
  | nil => simp
  | cons _ _ => simp
theorem op_catT : OpR X (binaryOp .Add) (rCatT X.K) := by
  intro pins s σ H x y v u Q I rx ry h
  obtain ⟨a, b, xs, ys, rfl, rfl, ha, hb, hx, hz, q1, q2⟩ := h
  cases rx
  cases ry
  obtain ⟨its, r1, p1, _⟩ := I.tuple ha
  obtain ⟨its2, r2, p2, _⟩ := I.tuple hb
  refine HT.cat_tup p1 p2 (fun z => hx (r1.nil_iff.mp z)) (fun z => ⟨.ref a, H, I, rfl, q1 (r2.nil_iff.mp z)⟩) (fun z => ?_) (by rw [← r1.length, ← r2.length]; exact hz)
  refine ⟨.ref s.heap.objs.size, _, I.laid (t' := s.toks) (o := .tup (xs ++ ys)) (fun b ob q => Heap.get?_push_of_some _ q) (Nat.le_refl _) ?_, rfl, q2 (fun w => z (r2.nil_iff.mpr w)) _ (I.hok.fresh (Nat.le_refl _))⟩
  exact ⟨by rw [List.length_append]; exact hz, _, r1.append r2, IsTup.new _ _⟩
end
end L2
namespace L2
open PySem PySem.Spec PyProof.Rows
def ixN (n : Nat) (i : Int) : Option Nat := if 0 ≤ i then (if i < n then some i.toNat else none) else if -(n : Int) ≤ i then some (i + n).toNat else none
def atI {α : Type} (xs : List α) (i : Int) : Option α := (ixN xs.length i).bind fun j => xs[j]?
theorem ixN_seq {n : Nat} {i : Int} {j : Nat} (h : ixN n i = some j) : seqIndex? i n = some j ∧ j < n ∧ -(n : Int) ≤ i ∧ i < n := by
  unfold ixN at h
  by_cases h0 : 0 ≤ i
  · rw [if_pos h0] at h
    by_cases h1 : i < n
    · rw [if_pos h1] at h
      have e : i.toNat = j := Option.some.inj h
      exact ⟨by rw [seqIndex_of h0 h1, e], by omega, by omega, h1⟩
    · rw [if_neg h1] at h; cases h
  · rw [if_neg h0] at h
    by_cases h1 : -(n : Int) ≤ i
    · rw [if_pos h1] at h
      have e : (i + n).toNat = j := Option.some.inj h
      exact ⟨by rw [seqIndex_neg (by omega) h1, e], by omega, h1, by omega⟩
    · rw [if_neg h1] at h; cases h
theorem atI_get {α : Type} {xs : List α} {i : Int} {v : α} (h : atI xs i = some v) : ∃ j, seqIndex? i xs.length = some j ∧ xs[j]? = some v ∧ j < xs.length ∧ -(xs.length : Int) ≤ i ∧ i < xs.length := by
  unfold atI at h
  cases e : ixN xs.length i with
  | none => rw [e] at h; cases h
  | some j =>
    rw [e] at h
    obtain ⟨h1, h2, h3, h4⟩ := ixN_seq e
    exact ⟨j, h1, h, h2, h3, h4⟩
def PlainIx (b : Expr) : Prop := ∀ o i, subscripted b false o i = operate [o, i] (getItem o i)
def IxR (X : Cx) (r : R2) : Prop :=
  ∀ (value slice : Expr) (pins : List (Addr × Obj)) (s : Shared) (σ : St) (H : Hp) (x y : V) (v u : Value) (Q : VK), Inv X pins σ H s → RelV x v → RelV y u → r x y H Q →
    subscripted slice false v u = operate [v, u] (getItem v u) → wpAny (model X.prog X.w) X.A (subscriptTail value slice v u) (EP X pins σ Q) X.xe s
section
variable {X : Cx} {a b : Expr} {ta tb : TE} {pos : Pos}
theorem IxR.or {r r' : R2} (h : IxR X r) (h' : IxR X r') : IxR X (fun x y H Q => r x y H Q ∨ r' x y H Q) := by
  intro value slice pins s σ H x y v u Q I rx ry q hs
  rcases q with q | q
  · exact h value slice pins s σ H x y v u Q I rx ry q hs
  · exact h' value slice pins s σ H x y v u Q I rx ry q hs
theorem pe_ix {r : R2} (hr : IxR X r) (ha : PE X a ta) (hb : PE X b tb) (hs : PlainIx b) : PE X (.Subscript a b pos) (tOp r ta tb) := by
  intro pins s σ H Q I h
  exact Subscript_ (binT ha hb I h fun v u s2 x y H2 I2 rx ry q => hr a b pins s2 σ H2 x y v u Q I2 rx ry q (hs _ _))
def rIxL (K : PySem.W.Frag) : R2 := fun x y H Q => ∃ p xs i v, x = .ref p ∧ y = .int i ∧ SqL K H p xs ∧ atI xs i = some v ∧ Q v H
def rIxT (K : PySem.W.Frag) : R2 := fun x y H Q => ∃ p xs i v, x = .ref p ∧ y = .int i ∧ SqT K H p xs ∧ atI xs i = some v ∧ Q v H
def rIxS : R2 := fun x y H Q => ∃ z i c, x = .str z ∧ y = .int i ∧ z.length ≤ sizeLine ∧ atI z.cps.toList i = some c ∧ Q (.str ⟨#[c]⟩) H
theorem ix_list : IxR X (rIxL X.K) := by
  intro value slice pins s σ H x y v u Q I rx ry h hs
  obtain ⟨p, xs, i, z, rfl, rfl, hq, he, q⟩ := h
  cases rx
  obtain ⟨t, rfl⟩ := ry
  obtain ⟨its, r, pl, hz⟩ := I.list hq
  obtain ⟨j, h1, h2, h3, h4, h5⟩ := atI_get he
  obtain ⟨w, ew, rw'⟩ := r.get h2
  have hl := r.length
  have hn := line63
  have fin : EP X pins σ Q w s := ⟨z, H, I, rw', q⟩
  by_cases h0 : 0 ≤ i
  · have hj : i.toNat = j := by
      rw [seqIndex_of h0 h5] at h1
      exact Option.some.inj h1
    exact item_listR pl.isList h0 (by omega) (by rw [hj]; simpa using ew) fin hs
  · have hj : (i + (its.toArray.size : Int)).toNat = j := by
      rw [seqIndex_neg (by omega) h4] at h1
      rw [List.size_toArray, ← hl]
      exact Option.some.inj h1
    exact subscriptTail_builtinR (x := w) pl.isList.typeIs slot_list_getitem.lookup
      (wpAny_getItem_list_neg (Q := fun r s' => r = w ∧ EP X pins σ Q r s') pl.isList (by omega) (by rw [List.size_toArray] <;> omega) (by omega) (by rw [hj]; simpa using ew) ⟨rfl, fin⟩) hs
theorem ix_tup : IxR X (rIxT X.K) := by
  intro value slice pins s σ H x y v u Q I rx ry h hs
  obtain ⟨p, xs, i, z, rfl, rfl, hq, he, q⟩ := h
  cases rx
  obtain ⟨t, rfl⟩ := ry
  obtain ⟨its, r, pl, hz⟩ := I.tuple hq
  obtain ⟨j, h1, h2, h3, h4, h5⟩ := atI_get he
  obtain ⟨w, ew, rw'⟩ := r.get h2
  have hl := r.length
  have hn := line63
  have fin : EP X pins σ Q w s := ⟨z, H, I, rw', q⟩
  exact subscriptTail_builtinR (x := w) pl.typeIs slot_tuple_getitem.lookup
    (getItem_tuple (j := j) (Q := fun r s' => r = w ∧ EP X pins σ Q r s') pl (by omega) (by omega) (by rw [List.size_toArray, ← hl]; exact h1) (by simpa using ew) ⟨rfl, fin⟩) hs
theorem ix_str : IxR X rIxS := by
  intro value slice pins s σ H x y v u Q I rx ry h hs
  obtain ⟨z, i, c, rfl, rfl, hz, he, q⟩ := h
  obtain ⟨t, rfl⟩ := rx
  obtain ⟨t', rfl⟩ := ry
  obtain ⟨j, h1, h2, h3, h4, h5⟩ := atI_get he
  have hl : z.cps.toList.length = z.length := by simp [Str.length]
  rw [hl] at h1 h4 h5
  have hn := line63
  exact tail_any (typeIs_str s z t) slot_str_getitem.lookup (getItem_str (c := c) (by
    have e1 : decide (i < -(2 ^ 63 : Int)) = false := decide_eq_false (by omega)
    have e2 : decide (i ≥ 2 ^ 63) = false := decide_eq_false (by omega)
    rw [e1, e2, Bool.or_false]) (by rw [h1]; simpa using h2) ⟨.str ⟨#[c]⟩, H, I.tok _, ⟨_, rfl⟩, q⟩) hs
def rIx (K : PySem.W.Frag) : R2 := fun x y H Q => rIxL K x y H Q ∨ rIxT K x y H Q ∨ rIxS x y H Q
theorem ix_seq : IxR X (rIx X.K) := ix_list.or (ix_tup.or ix_str)
theorem mapSeq_set (its : List Value) (n j : Nat) (u : Value) : Obj.mapSeq (·.setIfInBounds j u) { cls := .type "list", data := .seq its.toArray n } = { cls := .type "list", data := .seq (its.set j u).toArray n } := by
  simp [Obj.mapSeq]
theorem Inv.lst {pins : List (Addr × Obj)} {σ : St} {H : Hp} {s : Shared} {p : Addr} {xs : List V} (I : Inv X pins σ H s) (h : H p = some (.lst xs)) :
    ∃ (its : List Value) (n : Nat), Vals xs its ∧ s.heap.get? p = some { cls := .type "list", data := .seq its.toArray n } ∧ xs.length ≤ sizeLine := by
  obtain ⟨z, its, n, r, e⟩ := I.hok p _ h
  exact ⟨its, n, r, e, z⟩
theorem Inv.lstUpd {pins : List (Addr × Obj)} {σ : St} {H : Hp} {s : Shared} {p : Addr} {xs ys : List V} {its its' : List Value} {n n' : Nat} {f : Obj → Obj} (I : Inv X pins σ H s) (h : H p = some (.lst xs))
    (ho : s.heap.get? p = some { cls := .type "list", data := .seq its.toArray n }) (hf : f { cls := .type "list", data := .seq its.toArray n } = { cls := .type "list", data := .seq its'.toArray n' }) (r : Vals ys its') (hz : ys.length ≤ sizeLine) (t : Nat) :
    Inv X pins σ (upd H p (.lst ys)) { s with heap := s.heap.update p f, toks := t } := by
  have e : (s.heap.update p f).get? p = some { cls := .type "list", data := .seq its'.toArray n' } := by
    rw [Heap.get?_update_self f ho (by rw [hf] <;> rfl), hf]
  refine I.write (x := p) (e := p) (by rw [h]; trivial) (.inl rfl) (fun b u hb q => (Heap.get?_update_other _ _ (Ne.symm hb)).trans q) ⟨_, e⟩ ?_
  exact ⟨hz, its', n', r, e⟩
def rSetL : V → V → V → Hp → (Hp → Prop) → Prop := fun o i v H Q => ∃ p xs k j, o = .ref p ∧ i = .int k ∧ H p = some (.lst xs) ∧ ixN xs.length k = some j ∧ Q (upd H p (.lst (xs.set j v)))
theorem set_list : PSet X rSetL := by
  intro pins s σ H o i v ov iv u Q I ro ri rv h
  obtain ⟨p, xs, k, j, rfl, rfl, hp, hj, q⟩ := h
  cases ro
  obtain ⟨t, rfl⟩ := ri
  obtain ⟨its, n, r, ho, hz⟩ := I.lst hp
  obtain ⟨h1, h2, h3, h4⟩ := ixN_seq hj
  have hl := r.length
  have hn := line63
  have I' : Inv X pins σ (upd H p (.lst (xs.set j v))) { s with heap := s.heap.update p (Obj.mapSeq (·.setIfInBounds j u)) } :=
    I.lstUpd hp ho (mapSeq_set its n j u) (r.set rv j) (by rw [List.length_set]; exact hz) s.toks
  by_cases h0 : 0 ≤ k
  · have hk : k.toNat = j := by
      rw [seqIndex_of h0 h4] at h1
      exact Option.some.inj h1
    exact PySem.W.ki_setAt ho h0 (by omega) (by rw [List.size_toArray, ← hl]; exact h4) (by rw [hk]; exact ⟨_, I', q⟩)
  · have hk : (k + (its.toArray.size : Int)).toNat = j := by
      rw [seqIndex_neg (by omega) h3] at h1
      rw [List.size_toArray, ← hl]
      exact Option.some.inj h1
    exact PySem.W.ki_setBack ho (by omega) (by rw [List.size_toArray, ← hl]; exact h3) (by omega) (by rw [hk]; exact ⟨_, I', q⟩)
theorem slice_bounds (lo hi : Option Int) (n : Nat) : (sliceBounds lo hi none n).1 = ((HT.sIx n 0 lo : Nat) : Int) ∧ (sliceBounds lo hi none n).2.1 = ((HT.sIx n n hi : Nat) : Int) ∧ (sliceBounds lo hi none n).2.2 = 1 := by
  refine ⟨?_, ?_, rfl⟩
  · cases lo with
    | none => simp [sliceBounds, HT.sIx]
    | some i =>
      simp only [sliceBounds, HT.sIx, Option.getD_none, show (1 : Int) > 0 by decide, if_true]
      by_cases h : i < 0
      · simp only [h, if_true] <;> omega
      · simp only [h, if_false] <;> omega
  · cases hi with
    | none => simp [sliceBounds, HT.sIx]
    | some i =>
      simp only [sliceBounds, HT.sIx, Option.getD_none, show (1 : Int) > 0 by decide, if_true]
      by_cases h : i < 0
      · simp only [h, if_true] <;> omega
      · simp only [h, if_false] <;> omega
theorem slicePick_cut (its : List Value) (lo hi : Option Int) : slicePick its.toArray lo hi none = ((its.drop (HT.sIx its.length 0 lo)).take (HT.sIx its.length its.length hi - HT.sIx its.length 0 lo)).toArray := by
  obtain ⟨h1, h2, h3⟩ := slice_bounds lo hi its.toArray.size
  unfold slicePick
  rw [h1, h2, h3]
  simp only [sliceRange_one, pick_run, List.size_toArray] <;> rfl
def rSlL (K : PySem.W.Frag) : V → Option Int → Option Int → Hp → VK → Prop := fun x lo hi H Q => ∃ a xs, x = .ref a ∧ SqL K H a xs ∧ ∀ p, H p = none → Q (.ref p) (upd H p (.lst (cutV xs lo hi)))
theorem sl_list : SlR X (rSlL X.K) := by
  intro pins s σ H x v vl vu lo hi sl Q I rx hs pl pu h
  obtain ⟨a, xs, rfl, hx, q⟩ := h
  cases rx
  obtain ⟨its, r, ht, hz⟩ := I.list hx
  have hlen := r.length
  refine ⟨"list", _, slot_list_getitem.lookup, ht.isList.typeIs, ?_⟩
  refine wpAny_getItem_list_slice ht.isList hs pl pu .none (by simp) ?_ (by rw [List.size_toArray] <;> omega)
  rw [slicePick_cut, ← hlen]
  refine ⟨.ref s.heap.objs.size, _, I.laid (t' := s.toks) (o := .lst (cutV xs lo hi)) (fun b ob q => Heap.get?_push_of_some _ q) (Nat.le_refl _) ?_, rfl, q _ (I.hok.fresh (Nat.le_refl _))⟩
  exact ⟨Nat.le_trans (cutV_length xs lo hi) hz, _, 0, (r.drop (HT.sIx xs.length 0 lo)).take (HT.sIx xs.length xs.length hi - HT.sIx xs.length 0 lo), Heap.get?_push_size _ rfl⟩
def flatV : V → Bool
  | .non => true
  | .bl _ => true
  | .int _ => true
  | .str _ => true
  | _ => false
def eqV : V → V → Bool
  | .non, .non => true
  | .bl a, .bl b => a == b
  | .bl a, .int b => (if a then 1 else 0) == b
  | .int a, .bl b => a == (if b then 1 else 0)
  | .int a, .int b => a == b
  | .str a, .str b => a == b
  | _, _ => false
theorem eqAt_V {A : Around} {s : Shared} {y x : V} {u v : Value} (ry : RelV y u) (rx : RelV x v) (fy : flatV y = true) (fx : flatV x = true) : SeqAt.EqAt A s u v (eqV y x) := by
  cases y with
  | non =>
    cases ry
    cases x with
    | non => cases rx; exact SeqAt.EqAt.same _
    | bl b => cases rx; exact SeqAt.EqAt.none_bool b
    | int b => obtain ⟨t, rfl⟩ := rx; exact SeqAt.EqAt.none_int b t
    | str b => obtain ⟨t, rfl⟩ := rx; exact SeqAt.EqAt.none_str b t
    | _ => exact absurd (show false = true from fx) Bool.false_ne_true
  | bl a =>
    cases ry
    cases x with
    | non => cases rx; exact SeqAt.EqAt.bool_none a
    | bl b => cases rx; exact SeqAt.EqAt.bool_bool a b
    | int b => obtain ⟨t, rfl⟩ := rx; exact SeqAt.EqAt.bool_int a b t
    | str b => obtain ⟨t, rfl⟩ := rx; exact SeqAt.EqAt.bool_str a b t
    | _ => exact absurd (show false = true from fx) Bool.false_ne_true
  | int a =>
    obtain ⟨t', rfl⟩ := ry
    cases x with
    | non => cases rx; exact SeqAt.EqAt.int_none a t'
    | bl b => cases rx; exact SeqAt.EqAt.int_bool a t' b
    | int b => obtain ⟨t, rfl⟩ := rx; exact SeqAt.EqAt.int_int a t' b t
    | str b => obtain ⟨t, rfl⟩ := rx; exact SeqAt.EqAt.int_str a t' b t
    | _ => exact absurd (show false = true from fx) Bool.false_ne_true
  | str a =>
    obtain ⟨t', rfl⟩ := ry
    cases x with
    | non => cases rx; exact SeqAt.EqAt.str_none a t'
    | bl b => cases rx; exact SeqAt.EqAt.str_bool a t' b
    | int b => obtain ⟨t, rfl⟩ := rx; exact SeqAt.EqAt.str_int a t' b t
    | str b => obtain ⟨t, rfl⟩ := rx; exact SeqAt.EqAt.str_str a t' b t
    | _ => exact absurd (show false = true from fx) Bool.false_ne_true
  | _ => exact absurd (show false = true from fy) Bool.false_ne_true
def eqU (x : V) (u : Value) : Bool := match u with
  | .none => eqV .non x
  | .bool b => eqV (.bl b) x
  | .int i _ => eqV (.int i) x
  | .str z _ => eqV (.str z) x
  | _ => false
theorem eqU_of {x y : V} {u : Value} (r : RelV y u) (f : flatV y = true) : eqU x u = eqV y x := by
  cases y with
  | non => cases r; rfl
  | bl b => cases r; rfl
  | int i => obtain ⟨t, rfl⟩ := r; rfl
  | str z => obtain ⟨t, rfl⟩ := r; rfl
  | _ => exact absurd (show false = true from f) Bool.false_ne_true
theorem any_eqU {x : V} : ∀ {xs : List V} {us : List Value}, Vals xs us → xs.all flatV = true → us.any (eqU x) = xs.any fun y => eqV y x
  | _, _, .nil, _ => rfl
  | y :: xs, u :: us, .cons r t, f => by
    rw [List.all_cons, Bool.and_eq_true] at f
    rw [List.any_cons, List.any_cons, eqU_of r f.1, any_eqU t f.2]
theorem mem_eqAt {A : Around} {s : Shared} {x : V} {v : Value} (rx : RelV x v) (fx : flatV x = true) : ∀ {xs : List V} {us : List Value}, Vals xs us → xs.all flatV = true → ∀ u ∈ us, SeqAt.EqAt A s u v (eqU x u)
  | _, _, .nil, _ => fun u hu => by cases hu
  | y :: xs, u :: us, .cons r t, f => fun u' hu => by
    rw [List.all_cons, Bool.and_eq_true] at f
    rcases List.mem_cons.mp hu with rfl | hu
    · rw [eqU_of r f.1]; exact eqAt_V r rx f.1 fx
    · exact mem_eqAt rx fx t f.2 u' hu
def inV (x : V) (xs : List V) : Bool := xs.any fun y => eqV y x
def rIn (K : PySem.W.Frag) (neg : Bool) : R2 := fun x y H Q => ∃ p xs, y = .ref p ∧ (SqL K H p xs ∨ SqT K H p xs) ∧ flatV x = true ∧ xs.all flatV = true ∧ Q (.bl (if neg then !inV x xs else inV x xs)) H
theorem op_in_seq : OpR X (compareOp .In) (rIn X.K false) := by
  intro pins s σ H x y v u Q I rx ry h
  obtain ⟨p, xs, rfl, hq, fx, fs, q⟩ := h
  cases ry
  rcases hq with hq | hq
  · obtain ⟨its, r, pl, hz⟩ := I.list hq
    refine SeqAt.in_listAt (eqU x) pl.isList (fun w hw => mem_eqAt rx fx r fs w (by simpa using hw)) ⟨.bl _, H, I, rfl, ?_⟩
    rw [show its.toArray.any (eqU x) = its.any (eqU x) by simp, any_eqU r fs]
    exact q
  · obtain ⟨its, r, pl, hz⟩ := I.tuple hq
    refine SeqAt.in_tupleAt (eqU x) pl (fun w hw => mem_eqAt rx fx r fs w (by simpa using hw)) ⟨.bl _, H, I, rfl, ?_⟩
    rw [show its.toArray.any (eqU x) = its.any (eqU x) by simp, any_eqU r fs]
    exact q
theorem op_notIn_seq : OpR X (compareOp .NotIn) (rIn X.K true) := by
  intro pins s σ H x y v u Q I rx ry h
  obtain ⟨p, xs, rfl, hq, fx, fs, q⟩ := h
  cases ry
  rcases hq with hq | hq
  · obtain ⟨its, r, pl, hz⟩ := I.list hq
    refine SeqAt.notIn_listAt (eqU x) pl.isList (fun w hw => mem_eqAt rx fx r fs w (by simpa using hw)) ⟨.bl _, H, I, rfl, ?_⟩
    rw [show its.toArray.any (eqU x) = its.any (eqU x) by simp, any_eqU r fs]
    exact q
  · obtain ⟨its, r, pl, hz⟩ := I.tuple hq
    refine SeqAt.notIn_tupleAt (eqU x) pl (fun w hw => mem_eqAt rx fx r fs w (by simpa using hw)) ⟨.bl _, H, I, rfl, ?_⟩
    rw [show its.toArray.any (eqU x) = its.any (eqU x) by simp, any_eqU r fs]
    exact q
theorem call_list_of : CallR X (.type "list") (fun xs H Q => ∃ p ys, xs = [.ref p] ∧ (SqL X.K H p ys ∨ SqT X.K H p ys) ∧ ∀ l, H l = none → Q (.ref l) (upd H l (.lst ys))) := by
  intro pins s σ H xs us Q I r h
  obtain ⟨p, ys, rfl, hq, q⟩ := h
  obtain ⟨u, rfl, rx⟩ := vals1 r
  cases rx
  have fin : ∀ (its : List Value), Vals ys its → ys.length ≤ sizeLine → ∀ (h' : Heap) (c' : Nat), (∀ b o', s.heap.get? b = some o' → h'.get? b = some o') →
      h'.get? s.heap.objs.size = some { cls := .type "list", dict := none, data := .seq its.toArray c', slots := #[] } → EP X pins σ Q (.ref s.heap.objs.size) { s with heap := h' } := fun its r' hz h' c' kp e =>
    ⟨.ref s.heap.objs.size, _, I.laid (t' := s.toks) kp (Nat.le_refl _) (show ObjOk X.prog X.w _ h' _ (.lst ys) from ⟨hz, its, c', r', e⟩), rfl, q _ (I.hok.fresh (Nat.le_refl _))⟩
  rcases hq with hq | hq
  · obtain ⟨its, r', pl, hz⟩ := I.list hq
    have hlen := r'.length
    obtain ⟨o, ho, hc, n, hd⟩ := pl.isList
    exact call_list_seq p (.inl rfl) ho hc hd (fun h' c' kp e => fin its r' hz h' c' kp e) (by simp only [List.size_toArray] <;> omega)
  · obtain ⟨its, r', pl, hz⟩ := I.tuple hq
    have hlen := r'.length
    obtain ⟨o, ho, hc, n, hd⟩ := pl
    exact call_list_seq p (.inr rfl) ho hc hd (fun h' c' kp e => fin its r' hz h' c' kp e) (by simp only [List.size_toArray] <;> omega)
theorem call_tuple_of : CallR X (.type "tuple") (fun xs H Q => ∃ p ys, xs = [.ref p] ∧ ((SqL X.K H p ys ∧ ∀ l, H l = none → Q (.ref l) (upd H l (.tup ys))) ∨ (SqT X.K H p ys ∧ Q (.ref p) H))) := by
  intro pins s σ H xs us Q I r h
  obtain ⟨p, ys, rfl, h⟩ := h
  obtain ⟨u, rfl, rx⟩ := vals1 r
  cases rx
  rcases h with ⟨hq, q⟩ | ⟨hq, q⟩
  · obtain ⟨its, r', pl, hz⟩ := I.list hq
    have hlen := r'.length
    refine call_tuple_list pl.isList (fun h' kp => ?_) (by simp only [List.size_toArray] <;> omega)
    have I1 : Inv X pins σ H { s with heap := h' } := I.kept (t' := s.toks) kp
    have I2 : Inv X pins σ (upd H h'.objs.size (.tup ys)) { s with heap := h'.push { cls := .type "tuple", data := .seq its.toArray } } :=
      I1.laid (t' := s.toks) (fun b o e => Heap.get?_push_of_some _ e) (Nat.le_refl _) (show ObjOk X.prog X.w _ _ _ (.tup ys) from ⟨hz, its, r', IsTup.new _ _⟩)
    exact ⟨.ref h'.objs.size, _, I2, rfl, q _ (I1.hok.fresh (Nat.le_refl _))⟩
  · obtain ⟨its, r', pl, hz⟩ := I.tuple hq
    exact call_tuple_same pl ⟨.ref p, H, I, rfl, q⟩
variable {o e : Expr} {es : List Expr} {to : TE} {t : TA} {name : Str} {apos cpos : Pos} {T id : String} {r : V → List V → Hp → VK → Prop}
/- xs.append(e), list.index on a module's tuple .. are MtR facts of 06m -/
end
end L2
namespace L2
open PySem PySem.Spec PyProof.Rows
def MtM (X : Cx) (id : String) (r : V → List V → Hp → VK → Prop) : Prop :=
  ∀ (pins : List (Addr × Obj)) (s : Shared) (σ : St) (H : Hp) (x : V) (xs : List V) (v : Value) (us : List Value) (Q : VK), Inv X pins σ H s → RelV x v → Vals xs us → r x xs H Q →
    wpAny (model X.prog X.w) X.A (call (.builtin id) (v :: us)) (EP X pins σ Q) X.xe s
theorem Vals.one : ∀ {x : V} {us : List Value}, Vals [x] us → ∃ u, us = [u] ∧ RelV x u
  | _, _, .cons r .nil => ⟨_, rfl, r⟩
theorem Vals.rep {xs : List V} {us : List Value} (h : Vals xs us) : ∀ k : Nat, Vals (List.replicate k xs).flatten (List.replicate k us).flatten
  | 0 => .nil
  | k + 1 => by
    rw [List.replicate_succ, List.replicate_succ, List.flatten_cons, List.flatten_cons]
    exact Vals.append h (Vals.rep h k)
theorem foldl_rep (its : List Value) : ∀ (k : Nat) (acc : List Value),
    List.foldl (fun x1 x2 => x1 ++ x2) acc.toArray (List.replicate k its.toArray) = (acc ++ (List.replicate k its).flatten).toArray
  | 0, acc => by simp
  | k + 1, acc => by
    have e : acc.toArray ++ its.toArray = (acc ++ its).toArray := by simp
    have e2 : (acc ++ its) ++ (List.replicate k its).flatten = acc ++ (List.replicate (k + 1) its).flatten := by
      rw [List.replicate_succ, List.flatten_cons, List.append_assoc]
    rw [← e2, ← foldl_rep its k (acc ++ its), ← e, List.replicate_succ, List.foldl_cons]
section
variable {X : Cx} {pins : List (Addr × Obj)} {σ : St} {H : Hp} {s : Shared} {l b : Addr} {xs ys zs : List V}
theorem Inv.lset {its its' : List Value} {n : Nat} {f : Array Value → Array Value} {t' : Nat} (I : Inv X pins σ H s) (hH : H l = some (.lst xs))
    (e : s.heap.get? l = some { cls := .type "list", data := .seq its.toArray n }) (hf : f its.toArray = its'.toArray) (hv : Vals ys its') (hz : ys.length ≤ sizeLine) :
    Inv X pins σ (upd H l (.lst ys)) { s with heap := s.heap.update l (Obj.mapSeq f), toks := t' } := by
  have q := PySem.IsL.update e f
  rw [hf] at q
  refine I.write (x := l) (e := l) (by rw [hH]; exact trivial) (.inl rfl) (fun b' u hb hu => (Heap.get?_update_other s.heap (Obj.mapSeq f) (Ne.symm hb)).trans hu) ⟨_, q⟩ ?_
  exact ⟨hz, its', _, hv, q⟩
theorem Inv.lnew {its : List Value} {t' : Nat} (I : Inv X pins σ H s) (hv : Vals ys its) (hz : ys.length ≤ sizeLine) :
    Inv X pins σ (upd H s.heap.objs.size (.lst ys)) { s with heap := s.heap.push { cls := .type "list", data := .seq its.toArray }, toks := t' } :=
  I.laid (fun _ _ q => Heap.get?_push_of_some _ q) (Nat.le_refl _) ⟨hz, its, 0, hv, Heap.get?_push_size _ rfl⟩
theorem Inv.fresh (I : Inv X pins σ H s) : H s.heap.objs.size = none := I.hok.fresh (Nat.le_refl _)
theorem Inv.lstM (I : Inv X pins σ H s) (hH : H l = some (.lst xs)) : xs.length ≤ sizeLine ∧ ∃ (its : List Value) (n : Nat), Vals xs its ∧ xs.length = its.length ∧ s.heap.get? l = some { cls := .type "list", data := .seq its.toArray n } := by
  obtain ⟨z, its, n, r, e⟩ := I.hok l _ hH
  exact ⟨z, its, n, r, r.length, e⟩
end
section
variable {X : Cx}
def rAppend : V → List V → Hp → VK → Prop := fun x vs H Q => ∃ l xs y, x = .ref l ∧ vs = [y] ∧ H l = some (.lst xs) ∧ xs.length < sizeLine ∧ Q .non (upd H l (.lst (xs ++ [y])))
theorem mt_append : MtM X "list.append" rAppend := by
  intro pins s σ H x vs v us Q I rx rv h
  obtain ⟨l, xs, y, rfl, rfl, hH, hz, q⟩ := h
  cases rx
  obtain ⟨u, rfl, ru⟩ := rv.one
  obtain ⟨z, its, n, r, hl, e⟩ := I.lstM hH
  refine call_meets F.slot_list_append ⟨_, e, rfl⟩ F.entry_list_append (F.args_list_append_2 _ _) (PySem.list_append l its.toArray n u (by rw [List.size_toArray]; omega)) ⟨e, ?_⟩
  refine ⟨.non, _, I.lset (its' := its ++ [u]) hH e (by simp) (r.append (.cons ru .nil)) ?_, rfl, q⟩
  rw [List.length_append, List.length_singleton]
  omega
def rCat : R2 := fun x y H Q => ∃ l b xs zs, x = .ref l ∧ y = .ref b ∧ H l = some (.lst xs) ∧ H b = some (.lst zs) ∧ xs.length + zs.length ≤ sizeLine ∧ ∀ p, H p = none → Q (.ref p) (upd H p (.lst (xs ++ zs)))
theorem op_cat : OpR X (binaryOp .Add) rCat := by
  intro pins s σ H x y v u Q I rx ry h
  obtain ⟨l, b, xs, zs, rfl, rfl, hH, hB, hz, q⟩ := h
  cases rx
  cases ry
  obtain ⟨z, its, n, r, hl, e⟩ := I.lstM hH
  obtain ⟨z2, its2, n2, r2, hl2, e2⟩ := I.lstM hB
  refine PySem.P.add_list e e2 ?_ (by rw [List.size_toArray, List.size_toArray]; omega)
  have ea : its.toArray ++ its2.toArray = (its ++ its2).toArray := by simp
  rw [ea]
  exact ⟨.ref _, _, I.lnew (t' := s.toks) (r.append r2) (by rw [List.length_append]; omega), rfl, q _ I.fresh⟩
theorem len_rep {α : Type} (xs : List α) (k : Nat) : (List.replicate k xs).flatten.length = k * xs.length := by
  induction k with
  | zero => simp
  | succ k ih => rw [List.replicate_succ, List.flatten_cons, List.length_append, ih, Nat.succ_mul, Nat.add_comm]
end
section
variable {prog : Program} {w : World} {A : Around} {E : Value → Shared → Prop} {s : Shared}
set_option maxRecDepth 100000 in
end
section
variable {X : Cx}
end
end L2
namespace Att
open PySem PySem.W PySem.Calls PyProof.Rows
theorem ints_of_wellAll {P : Params} {h : Heap} : ∀ (ns : List Int) (vs : List Value), WellAll P h vs (ns.map WData.int) → IntsAre vs ns := by
  intro ns
  induction ns with
  | nil =>
    intro vs w
    rw [List.map_nil] at w
    cases w
    exact .nil
  | cons n ns ih =>
    intro vs w
    rw [List.map_cons] at w
    cases w with
    | cons a b =>
      cases a
      exact .cons _ _ (ih _ b)
theorem script_of {l : OpenLaw} {n : Nat} (hn : l.most = some n) {P : Params} {h : Heap} {args : List WData} {vals : List Value}
    (hpre : l.row.toRowW.claim.pre args = true) (hwl : WellAll P h vals args) :
    ∃ a vs ns, vals = [Value.ref a] ∧ args = [WData.list (ns.map WData.int)] ∧ h.get? a = some { cls := .type "list", data := .seq vs.toArray } ∧ IntsAre vs ns ∧ ns.length ≤ n := by
  have hsh : WShape.hasAll [] args [.list .int] = true := (pre_splitW hpre).1
  have hc : l.pre.holds [] { args := args } = true := (pre_splitW hpre).2
  obtain ⟨d, r, rfl, h1, h2⟩ := hasAllW_cons hsh
  obtain rfl := hasAllW_nil h2
  obtain ⟨xs, rfl, h3⟩ := hasW_list h1
  obtain ⟨ns, rfl⟩ := items_int h3
  have hlen : ns.length ≤ n := by
    unfold OpenLaw.pre at hc
    have h4 : (WTm.not (.lt (.lit (.int (n : Int))) (.len (.arg 0)))).holds [] { args := [.list (ns.map .int)] } = true := by
      have h4 := (holds_andW hc).1
      rw [hn] at h4
      exact h4
    have h5 := condW_of h4 (w_not (w_lt w_lit (w_len_list (w_arg rfl))))
    rw [List.length_map] at h5
    refine Nat.le_of_not_lt fun q => ?_
    have q' : (n : Int) < ((ns.length : Nat) : Int) := by omega
    first
      | (rw [decide_eq_true q'] at h5; exact absurd h5 (by decide))
      | (simp at h5; omega)
  cases hwl with
  | cons w1 w2 =>
    cases w2
    cases w1 with
    | list ho hall => exact ⟨_, _, ns, rfl, rfl, ho, ints_of_wellAll ns _ hall, hlen⟩
theorem post_true (l : OpenLaw) (args : List WData) : l.row.toRowW.claim.post args (.bool true) args = true :=
  postW_of (r := l.row.toRowW) (X := (true == true))
    (show WShape.has [] (.bool true) .bool = true by first | rfl | decide | simp [WShape.has, WShape.arms, WShape.armsAll])
    (show (WTm.eq .res (.lit (.bool true))).value [] { args := args, res := some (.bool true), after := args } = some (.bool (true == true)) from w_eq_bool (w_res rfl) w_lit) rfl
theorem attach_call {l : OpenLaw} {n : Nat} {q : Program} {loose : List Str} {XP : (Str → Option Value) → Heap → Prop} {YP : World → Heap → Prop} {d : DefRec}
    (hn : l.most = some n) (hdf : d.params.defaults = [])
    (call : ∀ (w : World) (s₀ s₁ : Shared) (mg mb : Str → Option Value) (fa : Addr) (o : Obj) (pm cd doc : Value) (a : Addr) (vs : List Value) (ns : List Int),
      Ground q loose [] XP w s₀ mg mb s₁.heap → YP w s₁.heap →
      s₁.heap.get? fa = some o → o.data = .func (docDef d.name d.params d.body d.scope pm cd doc) → s₁.heap.CodeRec cd d.name → mg d.name = some (.ref fa) →
      s₁.heap.get? a = some { cls := .type "list", data := .seq vs.toArray } → IntsAre vs ns → ns.length ≤ n → s₁.gens = #[] →
      codeAny (model l.prog w) callerA (.call (.ref fa) ⟨[.ref a], []⟩) (fun r s' => r = .ok (.ret (.bool true)) ∧ OldK s₁.heap s'.heap ∧ s'.os = s₁.os ∧ AllBare s'.gens) s₁) :
    WalkO q loose XP YP l.row.toRowW d [] (fun f vs => PySem.call f vs) := by
  intro w s₀ s₁ mg mb G Y fa o pm cd doc dV kV ho hd hcd hD hmg hg args vals as hpre hlay hrd hwl hlo
  obtain rfl : dV = .none := Dflts.none hD hdf
  obtain rfl : kV = .none := Dflts.noKw hD
  obtain ⟨a, vs, ns, rfl, rfl, hobj, hints, hlen⟩ := script_of hn hpre hwl
  refine enter_call (codeAny_mono (call w s₀ s₁ mg mb fa o pm cd doc a vs ns G Y ho (fd_plain hd) hcd hmg hobj hints hlen hg) fun r s' hq => ?_)
  obtain ⟨rfl, h2, h3, h4⟩ := hq
  exact ⟨.inl ⟨.bool true, .bool true, [], rfl, fun _ => rfl, .bool true, post_true l _, fun _ => ⟨List.Pairwise.nil, fun _ hm => (nomatch hm)⟩⟩, h2, h3, h4⟩
section
variable {prog : Program} {w : World} {A : Around} {E : Value → Shared → Prop} {s : Shared} {K : Frag}
end
end Att
namespace L2
open PySem PySem.Spec PyProof.Rows
theorem vals_ints : ∀ {vs : List Value} {ns : List Int}, IntsAre vs ns → Vals (ns.map V.int) vs
  | _, _, .nil => .nil
  | _, _, .cons n t h => .cons ⟨t, rfl⟩ (vals_ints h)
def Only (H : Hp) : Prop := ∀ b, H b = none ∨ ∃ o xs, H b = some (.frz o (.lst xs))
theorem law_call {P : Program} {w : World} {K : PySem.W.Frag} {mg mb : Str → Option Value} {CX : CXT} {k : Nat} {fa a : Addr} {fd : FuncData} {x : Str} {sp : Sp} {s₁ : Shared} {vs : List Value} {ns : List Int}
    (KX : K.In s₁.heap) (hns : s₁.heap.Ns mainGlobals mg) (hb : s₁.heap.Ns builtinsNs mb) (hbb : ∀ x : Str, x ≠ "__name__" → mb x = bootBuiltins x) (hlim : s₁.heap.NoLimit) (hg : s₁.gens = #[])
    (ha : s₁.heap.get? a = some { cls := .type "list", data := .seq vs.toArray }) (hi : IntsAre vs ns) (hl : ns.length ≤ sizeLine) (hr : Room k callerA)
    (F : ∀ base : Heap, K.In base → base.Ns mainGlobals mg → FnOk P w K mg base CX k fa fd [x] sp) (hbind : ∀ (s : Shared) (u : Value), BindsTo s fd ⟨[u], []⟩ [(x, u)])
    (hsp : ∀ H : Hp, Only H → SqL K H a (ns.map V.int) → sp [.ref a] H (fun v _ => v = .bl true) fun _ _ _ => False)
    (hCX : ∀ H e s', CX [] H s₁ (fun _ _ _ => False) e s' → False) :
    codeAny (model P w) callerA (.call (.ref fa) ⟨[.ref a], []⟩) (fun r s' => r = .ok (.ret (.bool true)) ∧ OldK s₁.heap s'.heap ∧ s'.os = s₁.os ∧ AllBare s'.gens) s₁ := by
  have rv := vals_ints hi
  have lenV := hi.length
  have core : ∀ H : Hp, Only H → SqL K H a (ns.map V.int) → HOk P w H s₁.heap → (∀ b, H b ≠ none → b = a) → (H a ≠ none → K.lookup a = none) →
      codeAny (model P w) callerA (.call (.ref fa) ⟨[.ref a], []⟩) (fun r s' => r = .ok (.ret (.bool true)) ∧ OldK s₁.heap s'.heap ∧ s'.os = s₁.os ∧ AllBare s'.gens) s₁ := by
    intro H hO hS hok hA hK
    have base_of : ∀ {b : Addr} {o : Obj}, s₁.heap.get? b = some o → H b = none → (hidT s₁.heap H).get? b = some o := fun e n => hidT_get e n
    have noA : ∀ {b : Addr} {o : Obj} {es : Array DictEntry} {ep : Nat}, s₁.heap.get? b = some o → o.data = .dict es ep → H b = none := fun {b o es ep} e d => by
      cases q : H b with
      | none => rfl
      | some u =>
        have e' : b = a := hA b (by rw [q]; simp)
        subst e'
        rw [ha] at e; cases e
        have d' : Data.seq vs.toArray _ = Data.dict es ep := d
        cases d'
    have nsK : ∀ {b : Addr} {m : Str → Option Value}, s₁.heap.Ns b m → (hidT s₁.heap H).Ns b m := fun {b m} ⟨o, es, ep, e, d, r⟩ => ⟨o, es, ep, base_of e (noA e d), d, r⟩
    have hKb : K.In (hidT s₁.heap H) := fun b o e => base_of (KX b o e) (by
      cases q : H b with
      | none => rfl
      | some u =>
        have e' : b = a := hA b (by rw [q]; simp)
        subst e'
        rw [hK (by rw [q]; simp)] at e; cases e)
    have hM : Mod K mg (hidT s₁.heap H) := ⟨hKb, nsK hns, ⟨mb, nsK hb, hbb⟩, let ⟨mc, h1, h2⟩ := hlim; ⟨mc, nsK h1, h2⟩⟩
    have e0 : Env0 P w K mg (hidT s₁.heap H) callerA [] s₁ H := ⟨rfl, hM, fun b o e => of_hidT e, Nat.le_of_eq (hidT_size _ _), trivial, fun b hb => absurd (show b ∈ ([] : List Addr) from hb) (by simp), hok, .of_eq hg⟩
    refine codeAny_mono ((F _ hKb (nsK hns)).run callerA [] s₁ H ⟨[.ref a], []⟩ [.ref a] [.ref a] _ _ hr e0 (hbind s₁ (.ref a)) (.cons rfl .nil) (hsp H hO hS)) fun r s' h => ?_
    cases r with
    | error e => exact (hCX H e s' h).elim
    | ok fl =>
      cases fl with
      | next => exact False.elim h
      | brk => exact False.elim h
      | cont => exact False.elim h
      | ret u =>
        obtain ⟨v, H', os, bare, un, hok', r', q⟩ := h
        have q' : v = .bl true := q
        subst q'
        obtain rfl : u = Value.bool true := r'
        refine ⟨rfl, OldK.of_keep fun b o e => ?_, os, bare⟩
        cases q : H b with
        | none => exact un.keep b o e q (by intro z; exact absurd (show b ∈ ([] : List Addr) from z) (by simp)) (by simp)
        | some u =>
          rcases hO b with z | ⟨ob, xs, z⟩
          · rw [q] at z; cases z
          · have z2 := un.frzs b ob _ z
            obtain ⟨e1, _⟩ := hok b _ z
            obtain ⟨e2, _⟩ := hok' b _ z2
            rw [e] at e1; cases e1
            exact e2
  cases hk : K.lookup a with
  | some o =>
    have e := KX a o hk
    rw [ha] at e
    cases e
    refine core (fun _ => none) (fun _ => .inl rfl) (.inr ⟨_, vs.toArray, _, hk, rfl, rfl, rfl, by rw [List.size_toArray, lenV]; exact hl, by simpa using rv⟩) (fun b u z => by have z' : (none : Option HO) = some u := z; cases z') (fun b z => absurd rfl z) fun z => absurd rfl z
  | none =>
    refine core (fun b => if b = a then some (.frz { cls := .type "list", data := .seq vs.toArray } (.lst (ns.map V.int))) else none) (fun b => ?_) (.inl (.inr ⟨{ cls := .type "list", data := .seq vs.toArray }, if_pos rfl⟩)) (fun b u z => ?_) (fun b z => ?_) fun _ => hk
    · by_cases hb : b = a
      · exact .inr ⟨_, _, if_pos hb⟩
      · exact .inl (if_neg hb)
    · by_cases hb : b = a
      · have z' := (if_pos hb).symm.trans z
        cases z'
        subst hb
        exact ⟨ha, by rw [List.length_map]; exact hl, vs, _, rv, ha⟩
      · have z' := (if_neg hb).symm.trans z
        cases z'
    · by_cases hb : b = a
      · exact hb
      · exact absurd (if_neg hb) z
end L2
namespace L2
open PySem PySem.Spec PyProof.Rows
theorem walk_of {l : PySem.W.OpenLaw} {n k : Nat} {q : Program} {loose : List Str} {XP : (Str → Option Value) → Heap → Prop} {YP : World → Heap → Prop} {d : DefRec} {K : Params → PySem.W.Frag} {CX : World → CXT} {sp : World → Sp} {x : Str}
    (hn : l.most = some n) (hn2 : n ≤ sizeLine) (hdf : d.params.defaults = []) (hr : Room k callerA)
    (hY : ∀ (w : World) (h : Heap), YP w h → (K w.params).In h)
    (F : ∀ (w : World) (mg : Str → Option Value) (fa : Addr) (h : Heap), (K w.params).In h → h.Ns mainGlobals mg → mg d.name = some (.ref fa) →
      ∃ fd : FuncData, (∀ (s : Shared) (u : Value), BindsTo s fd ⟨[u], []⟩ [(x, u)]) ∧
        ∀ base : Heap, (K w.params).In base → base.Ns mainGlobals mg → FnOk l.prog w (K w.params) mg base (CX w) k fa fd [x] (sp w))
    (hsp : ∀ (w : World) (H : Hp) (a : Addr) (ns : List Int), ns.length ≤ n → Only H → SqL (K w.params) H a (ns.map V.int) → sp w [.ref a] H (fun v _ => v = .bl true) fun _ _ _ => False)
    (hCX : ∀ (w : World) (H : Hp) (s : Shared) (e : Value) (s' : Shared), CX w [] H s (fun _ _ _ => False) e s' → False) :
    PySem.W.WalkO q loose XP YP l.row.toRowW d [] (fun f vs => PySem.call f vs) := by
  refine Att.attach_call hn hdf fun w s₀ s₁ mg mb fa o pm cd doc a vs ns G Y ho hd hcd hmg hobj hints hlen hg => ?_
  have KX := hY w _ Y
  obtain ⟨fd, hb, hF⟩ := F w mg fa _ KX G.T.g hmg
  exact law_call KX G.T.g G.T.b G.T.builtins G.T.nolimit hg hobj hints (Nat.le_trans hlen hn2) hr hF hb (fun H hO hS => hsp w H a ns hlen hO hS) fun H e s' => hCX w H s₁ e s'
end L2
/- THE LAST THEOREM (shape; LID, My.* are yours):
   My.Adr: a structure of the addresses that your layer names (classes, functions); My.Txt K t: a structure (Prop) of the equations over K;
   My.txt_mk : {K} {implicit addresses ..} (e1 : nsIn K mainGlobals "law" = some (some (.ref f))) (e2 : K.lookup f = some ⟨oc, od, .func (fnOf "law" "law" params body scope dV kV doc pm an cdv ct), sl⟩) (e3 : codeIn K cdv "law" = true) .. : ∃ t, My.Txt K t
set_option maxRecDepth 100000 in
set_option maxHeartbeats 0 in
theorem PySem.Challenge.cw_LID_holds : PySem.Challenge.rw_LID.Holds := by
  w_on; o_law; k_head; (case hw => w_witness2)
  k_fill
  refine L2.walk_of (l := PySem.Challenge.rw_LID) (n := 63) (k := 40) (x := "script") (CX := fun w => ..) (sp := fun _ => My.sp_law) rfl (by decide) rfl ⟨rfl, by decide, by decide⟩ (fun w h Y => PySem.W.kIn_of Y) ?F ?S ?C
  case F =>
    intro w mg fa h KX G hmg
    have T : ∃ t, My.Txt (L2.KOf KX) t := by
      dsimp only [L2.KOf]                          -- K must stand as «<heap const> w.params» for k_is
      refine' My.txt_mk ?e1 ?e2 ?e3 ..
      (case e1 => PySem.W.k_is)                    -- in the order: a name -> its address -> its object -> its parts
      (case e2 => PySem.W.k_is)
      ..
    obtain ⟨t, T⟩ := T
    have e0 := hmg.symm.trans (PySem.W.mg_of KX G T.law)
    cases e0                                       -- fa is the law's own address
    exact ⟨_, fun s u => .of_eq rfl, fun base kb nb => My.law_fn T kb nb⟩     -- if «.of_eq rfl» comes too early: refine' ⟨_, ?b, fun base kb nb => My.law_fn T kb nb⟩; exact fun s u => .of_eq rfl
  case S => exact fun w H a ns hl hO hS => ..
  case C => exact ..
(the tactic k_is has no namespace: write k_is) -/
namespace L2
open PySem PySem.Spec PyProof.Rows
def defArgs (s : Stmt) : Arguments := match s with
  | .FunctionDef _ a _ _ _ _ _ _ _ _ => a
  | _ => { posonlyargs := [], args := [], vararg := none, kwonlyargs := [], kw_defaults := [], kwarg := none, defaults := [] }
def defBody (s : Stmt) : List Stmt := match s with
  | .FunctionDef _ _ b _ _ _ _ _ _ _ => b
  | _ => []
def defScope (s : Stmt) : Scope := match s with
  | .FunctionDef _ _ _ _ _ _ sc _ _ _ => sc
  | _ => { kind := .function, names := [], isGenerator := false, isCoroutine := false }
abbrev CX0 : CXT := fun _ _ _ _ _ _ => False
abbrev E0 : XK := fun _ _ _ => False
theorem pass0 {X : Cx} : Passes CX0 X E0 := fun _ _ _ _ _ _ _ h => h.elim
structure Fun (K : PySem.W.Frag) (x qual : Str) (st : Stmt) (f : Addr) (fd : FuncData) : Prop where
  ex : ∃ (oc : Value) (od : Option Addr) (kV doc pm : Value) (an : Option Addr) (cdv ct : Value) (osl : Array (Option Value)),
    fd = PySem.W.fnOf x qual (defArgs st) (defBody st) (defScope st) .none kV doc pm an cdv ct ∧ K.lookup f = some ⟨oc, od, .func fd, osl⟩ ∧ PySem.W.codeIn K cdv qual = true
  kp : PySem.W.keepIn K (.ref f) = true
section
variable {P : Program} {w : World} {K : PySem.W.Frag} {mg : Str → Option Value} {base : Heap}
theorem Fun.ok {x qual : Str} {st : Stmt} {f : Addr} {fd : FuncData} {N ps : List Str} {k : Nat} {sp : Sp} (F : Fun K x qual st f fd) (S : FnScope N ps (defScope st)) (len : ∀ vs H Q E, sp vs H Q E → vs.length = ps.length)
    (hbody : ∀ (cdv : Value) (A : Around) (outer : List Env) (s : Shared) (H : Hp) (vs : List V) (Q : VK) (E : XK), Room k (A.deeper (envOfC qual (defScope st) s.heap.objs.size f cdv)) → sp vs H Q E →
      ∃ t, PSs (cxOf CX0 P w K mg base N qual (defScope st) f cdv A outer s H E).nox (defBody st) t ∧ t { nx := fun _ H' => Q .non H', rt := Q } (start N vs) H) : FnOk P w K mg base CX0 (k + 1) f fd ps sp := by
  obtain ⟨oc, od, kV, doc, pm, an, cdv, ct, osl, rfl, lk, hcd⟩ := F.ex
  refine fn_of lk hcd S len fun A outer s H vs Q E hr hsp => ?_
  obtain ⟨t, h, q⟩ := hbody cdv A outer s H vs Q E hr hsp
  exact ⟨t, h.nox, q⟩
theorem Fun.binds {x qual : Str} {st : Stmt} {f : Addr} {fd : FuncData} {ps : List Str} (F : Fun K x qual st f fd)
    (h : ∀ (kV doc pm : Value) (an : Option Addr) (cdv ct : Value) (us : List Value), us.length = ps.length → bindArgs (PySem.W.fnOf x qual (defArgs st) (defBody st) (defScope st) .none kV doc pm an cdv ct) ⟨us, []⟩ = pure (ps.zip us)) : Binds K fd ps [] := by
  obtain ⟨oc, od, kV, doc, pm, an, cdv, ct, osl, rfl, lk, hcd⟩ := F.ex
  exact .all (h kV doc pm an cdv ct)
theorem fun_mk {x qual : Str} {st : Stmt} {f : Addr} {oc : Value} {od an : Option Addr} {osl : Array (Option Value)} {kV doc pm cdv ct : Value} (l : K.lookup f = some ⟨oc, od, .func (PySem.W.fnOf x qual (defArgs st) (defBody st) (defScope st) .none kV doc pm an cdv ct), osl⟩)
    (c : PySem.W.codeIn K cdv qual = true) (k : PySem.W.keepIn K (.ref f) = true) : Fun K x qual st f (PySem.W.fnOf x qual (defArgs st) (defBody st) (defScope st) .none kV doc pm an cdv ct) := ⟨⟨oc, od, kV, doc, pm, an, cdv, ct, osl, rfl, l, c⟩, k⟩
end
theorem hu_of {A : Around} {k : Nat} (hr : Room k A) : A.units + 1 < cLine := Nat.lt_of_le_of_lt (Nat.add_le_add_left (by decide : 1 ≤ 64) _) hr.units
section
variable {X : Cx}
theorem pv (i : Nat) {x : Str} {pos : Pos} (hN : X.N[i]? = some x := by rfl) (hv : Vis X.env.scope x := by first | exact Or.inl rfl | exact Or.inr (Or.inl rfl) | exact Or.inr (Or.inr rfl)) (hd : (x == ("__debug__" : Str)) = false := by decide)
    (hcd : (x == ("__classdict__" : Str)) = false := by decide) : PE X (.Name x pos) (tVar i) := pe_var hN hv hd hcd
end
theorem iteF {A B : Prop} (h : B) : if false = true then A else B := by
  rw [if_neg Bool.false_ne_true]
  exact h
theorem iteT {A B : Prop} (h : A) : if true = true then A else B := by
  rw [if_pos rfl]
  exact h
def Same (H H' : Hp) : Prop := ∀ b o, H b = some o → H' b = some o
theorem Same.refl (H : Hp) : Same H H := fun _ _ h => h
theorem Same.trans {H H1 H2 : Hp} (a : Same H H1) (b : Same H1 H2) : Same H H2 := fun c o h => b c o (a c o h)
end L2
end
section
set_option Elab.async false
set_option linter.all false
set_option maxRecDepth 100000
set_option maxHeartbeats 4000000
namespace L2
open PySem PySem.Spec PyProof.Rows
section
variable {prog : Program} {w : World} {A : Around} {R : Result → Shared → Prop} {s : Shared}
theorem compLoop_own {elt target iter : Expr} {ifs : List Expr} {scope : Scope} {pos : Pos} {it acc : Value} {env : Env} (I : Nat → Shared → Prop)
    (turn : ∀ n s, I n s → wpAny (model prog w) A (pyNext it) (fun r s₁ => match r with
      | none => R (.ok .next) s₁
      | some v => wpAny (model prog w) A (letOwnedTupleGo target it v) (fun _ s₁ => wpAny (model prog w) A (assign target env v) (fun _ s₂ =>
          wpAny (model prog w) A (forIn ifs true fun c r => if r = true then do let ok ← isTrue c env (eval c env); pure (ForInStep.yield ok) else pure (ForInStep.yield r)) (fun ok s₃ =>
            if ok = true then wpAny (model prog w) A (eval elt env) (fun x s₄ =>
              wpAny (model prog w) A (call (.builtin "list.append") [acc, x]) (fun _ s₅ => ∃ m, m < n ∧ I m s₅) (fun _ _ => False) s₄) (fun _ _ => False) s₃
            else ∃ m, m < n ∧ I m s₃) (fun _ _ => False) s₂) (fun _ _ => False) s₁) (fun _ _ => False) s₁) (fun _ _ => False) s)
    (n : Nat) (h : I n s) :
    codeAny (model prog w) A (.compLoop (.ListComp elt [⟨target, iter, ifs, 0⟩] scope pos) 0 it acc env) R s := by
  refine codeAny_loop rfl I (fun n s hI => ?_) n h
  show wpAny _ A ((compTurn (.ListComp elt [⟨target, iter, ifs, 0⟩] scope pos) 0 it acc env).onRaise (fun x => do noteFrame x env; theTreesLotGoes x)) _ _ s
  refine wpAny_noted ?_
  rw [compTurn_list]
  refine wpAny_bind (wpAny_standAt (wpAny_bind (wpAny_mono (turn n s hI) (fun r s₁ h₁ => ?_) fun _ _ h' => h'.elim)))
  cases r with
  | none => exact wpAny_pure h₁
  | some v =>
    refine wpAny_bind (wpAny_mono h₁ (fun _ s₁' h₁' => ?_) fun _ _ h' => h'.elim)
    refine wpAny_bind (wpAny_mono h₁' (fun _ s₂ h₂ => wpAny_bind (wpAny_mono h₂ (fun ok s₃ h₃ => ?_) fun _ _ h' => h'.elim)) fun _ _ h' => h'.elim)
    cases ok with
    | false => exact wpAny_pure ⟨rfl, h₃⟩
    | true =>
      exact wpAny_bind (wpAny_bind (wpAny_mono h₃ (fun x s₄ h₄ => wpAny_bind (wpAny_mono h₄ (fun _ s₅ h₅ => wpAny_pure (wpAny_pure ⟨rfl, h₅⟩)) fun _ _ h' => h'.elim)) fun _ _ h' => h'.elim))
end
theorem closure_go {env : Env} {f : Str × NameKind → List (Str × Addr) → Sem (ForInStep (List (Str × Addr)))}
    (hf : ∀ n k cs, f (n, k) cs = if (k == NameKind.free) = true then (do let c ← cellOf env n; pure (.yield ((n, c) :: cs))) else pure (.yield cs)) :
    ∀ (names : List (Str × NameKind)) (cs : List (Str × Addr)), (∀ x ∈ names, x.2 = NameKind.free → ∃ c, env.cells.lookup x.1 = some c) → (∀ n c, cs.lookup n = some c → env.cells.lookup n = some c) →
      ∃ cl, (forIn names cs f : Sem (List (Str × Addr))) = pure cl ∧ (∀ n c, cl.lookup n = some c → env.cells.lookup n = some c) ∧ (∀ n, (cs.lookup n).isSome = true → (cl.lookup n).isSome = true) ∧ ∀ x ∈ names, x.2 = NameKind.free → (cl.lookup x.1).isSome = true
  | [], cs, _, h2 => ⟨cs, rfl, h2, fun _ h => h, fun _ h => nomatch h⟩
  | (n, k) :: r, cs, h1, h2 => by
    have h1r : ∀ x ∈ r, x.2 = NameKind.free → ∃ c, env.cells.lookup x.1 = some c := fun x hx => h1 x (List.mem_cons_of_mem _ hx)
    rw [List.forIn_cons, hf]
    by_cases hk : k = NameKind.free
    · subst hk
      obtain ⟨c, hc⟩ := h1 (n, NameKind.free) List.mem_cons_self rfl
      have h2' : ∀ m d, ((n, c) :: cs).lookup m = some d → env.cells.lookup m = some d := fun m d hd => by
        rw [List.lookup_cons] at hd
        cases e : (m == n) with
        | true =>
          rw [e] at hd
          have : m = n := by simpa using e
          rw [this]; cases hd; exact hc
        | false => rw [e] at hd; exact h2 m d hd
      obtain ⟨cl, e1, e2, e3, e4⟩ := closure_go hf r ((n, c) :: cs) h1r h2'
      refine ⟨cl, ?_, e2, fun m hm => e3 m ?_, fun x hx hk => ?_⟩
      · rw [← e1]
        have ec : cellOf env n = pure c := by unfold cellOf; rw [hc]
        rw [ec]
        rfl
      · rw [List.lookup_cons]
        cases e : (m == n) with
        | true => rfl
        | false => exact hm
      · rcases List.mem_cons.mp hx with rfl | hx
        · exact e3 n (by rw [List.lookup_cons, beq_self_eq_true]; rfl)
        · exact e4 x hx hk
    · have hb : (k == NameKind.free) = false := by simpa using hk
      obtain ⟨cl, e1, e2, e3, e4⟩ := closure_go hf r cs h1r h2
      refine ⟨cl, ?_, e2, e3, fun x hx hk' => ?_⟩
      · rw [← e1, hb]
        rfl
      · rcases List.mem_cons.mp hx with rfl | hx
        · exact absurd hk' hk
        · exact e4 x hx hk'
theorem closure_of {scope : Scope} {env : Env} (h1 : ∀ x ∈ scope.names, x.2 = NameKind.free → ∃ c, env.cells.lookup x.1 = some c) :
    ∃ cl, closureFor scope env = pure cl ∧ (∀ n c, cl.lookup n = some c → env.cells.lookup n = some c) ∧ ∀ x ∈ scope.names, x.2 = NameKind.free → (cl.lookup x.1).isSome = true := by
  obtain ⟨cl, e1, e2, _, e4⟩ := closure_go (env := env) (f := fun (x : Str × NameKind) cs => if (x.2 == NameKind.free) = true then (do let c ← cellOf env x.1; pure (.yield ((x.1, c) :: cs))) else pure (.yield cs)) (fun _ _ _ => rfl) scope.names [] h1 (fun _ _ h => nomatch h)
  refine ⟨cl, Eq.trans (show closureFor scope env = ((forIn scope.names ([] : List (Str × Addr)) fun (x : Str × NameKind) cs => if (x.2 == NameKind.free) = true then (do let c ← cellOf env x.1; pure (.yield ((x.1, c) :: cs))) else pure (.yield cs)) >>= fun cs => pure cs) from rfl) ?_, e2, e4⟩
  rw [e1]
  all_goals rfl
theorem lookup_relabel {env : Env} {x : Str} : ∀ (names : List (Str × NameKind)),
    (names.map fun (n, k) => if (k == NameKind.free && env.scope.kind == .function && env.kindOf n == some .cell) then (n, NameKind.cell) else (n, k)).lookup x =
      (names.lookup x).map fun k => if (k == NameKind.free && env.scope.kind == .function && env.kindOf x == some .cell) then NameKind.cell else k
  | [] => rfl
  | (n, k) :: r => by
    have ih := lookup_relabel (env := env) (x := x) r
    show List.lookup x ((if (k == NameKind.free && env.scope.kind == .function && env.kindOf n == some .cell) = true then (n, NameKind.cell) else (n, k)) :: _) = _
    cases hx : x == n with
    | true =>
      have e : x = n := by simpa using hx
      subst e
      by_cases hc : (k == NameKind.free && env.scope.kind == .function && env.kindOf x == some .cell) = true
      · rw [if_pos hc]; simp only [List.lookup_cons, hx, Option.map_some, if_pos hc]
      · rw [if_neg hc]; simp only [List.lookup_cons, hx, Option.map_some, if_neg hc]
    | false =>
      by_cases hc : (k == NameKind.free && env.scope.kind == .function && env.kindOf n == some .cell) = true
      · rw [if_pos hc]; simp only [List.lookup_cons, hx]; exact ih
      · rw [if_neg hc]; simp only [List.lookup_cons, hx]; exact ih
theorem rel_free {scope : Scope} {env : Env} {x : Str} (hcell : ∀ y ∈ scope.names, y.2 ≠ NameKind.cell) (h : (relabel scope env).names.lookup x = some .cell ∨ (relabel scope env).names.lookup x = some .free) : scope.names.lookup x = some .free := by
  have e : (relabel scope env).names.lookup x = _ := lookup_relabel (env := env) (x := x) scope.names
  rw [e] at h
  cases q : scope.names.lookup x with
  | none => rw [q] at h; rcases h with h | h <;> cases h
  | some k =>
    rw [q] at h
    by_cases hk : k = NameKind.free
    · rw [hk]
    · have hb : (k == NameKind.free) = false := by simpa using hk
      simp only [Option.map_some, hb, Bool.false_and, Bool.false_eq_true, if_false] at h
      rcases h with h | h
      · cases h; exact absurd rfl (hcell _ (PySem.mem_of_lookup q))
      · exact h
theorem rel_any {scope : Scope} {env : Env} {x : Str} (h : (relabel scope env).names.lookup x ≠ none) : scope.names.lookup x ≠ none := by
  have e : (relabel scope env).names.lookup x = _ := lookup_relabel (env := env) (x := x) scope.names
  intro q
  rw [e, q] at h
  exact h rfl
structure CompOk (sc : Scope) (N : List Str) (scope : Scope) (NY : List Str) (js : List Nat) : Prop where
  kind : scope.kind = .function
  cell : ∀ y ∈ scope.names, y.2 ≠ NameKind.cell
  names : ∀ x ∈ scope.names, x.2 = NameKind.local → scope.names.lookup x.1 = some .local
  free : ∀ x ∈ scope.names, x.2 = NameKind.free → sc.names.lookup x.1 = some .cell ∨ sc.names.lookup x.1 = some .free
  pre : NY.take N.length = N
  cap : ∀ p ∈ N.zipIdx, js.contains p.2 = true ∨ scope.names.lookup p.1 = none ∨ scope.names.lookup p.1 = some .free
def emS (js : List Nat) (k : Nat) (σ : St) : St := js.foldl (fun s j => s.set j none) σ ++ List.replicate k none
theorem clear_len : ∀ (js : List Nat) (σ : St), (js.foldl (fun s j => s.set j none) σ).length = σ.length
  | [], _ => rfl
  | j :: r, σ => by rw [List.foldl_cons, clear_len r, List.length_set]
theorem clear_get : ∀ (js : List Nat) (σ : St) (i : Nat) (v : V), (js.foldl (fun s j => s.set j none) σ)[i]? = some (some v) → σ[i]? = some (some v) ∧ js.contains i = false
  | [], σ, i, v, h => ⟨h, rfl⟩
  | j :: r, σ, i, v, h => by
    rw [List.foldl_cons] at h
    obtain ⟨h1, h2⟩ := clear_get r _ i v h
    by_cases e : j = i
    · subst e
      by_cases hj : j < σ.length
      · rw [List.getElem?_set_self hj] at h1; cases h1
      · rw [List.getElem?_eq_none (by rw [List.length_set]; omega)] at h1; cases h1
    · rw [List.getElem?_set_ne e] at h1
      refine ⟨h1, ?_⟩
      rw [List.contains_cons, h2]
      have : (i == j) = false := by simpa using fun z => e z.symm
      rw [this]; rfl
theorem emS_get {js : List Nat} {k : Nat} {σ : St} {i : Nat} {v : V} (h : (emS js k σ)[i]? = some (some v)) : σ[i]? = some (some v) ∧ js.contains i = false := by
  unfold emS at h
  by_cases hi : i < σ.length
  · rw [List.getElem?_append_left (by rw [clear_len]; exact hi)] at h
    exact clear_get js σ i v h
  · rw [List.getElem?_append_right (by rw [clear_len]; omega), List.getElem?_replicate] at h
    split at h <;> cases h
theorem emS_len {js : List Nat} {k : Nat} {σ : St} : (emS js k σ).length = σ.length + k := by
  unfold emS
  rw [List.length_append, clear_len, List.length_replicate]
def cxComp (X : Cx) (NY : List Str) (scope : Scope) (cl : List (Str × Addr)) (C : Addr) (s₀ : Shared) (H₀ : Hp) (fp : List Addr) : Cx :=
  { X with N := NY, s₀ := s₀, H₀ := H₀, env := compEnvC scope cl C X.env, outer := X.stack, ex := fp, fn := fun _ => false, pn := [], xe := fun _ _ => False }
def PIfs (X : Cx) (ifs : List Expr) (t : TT) : Prop :=
  ∀ (pins : List (Addr × Obj)) (s : Shared) (σ : St) (H : Hp) (Q : Bool → Hp → Prop), Inv X pins σ H s → t σ H Q →
    wpAny (model X.prog X.w) X.A (forIn ifs true fun c r => if r = true then do let ok ← isTrue c X.env (eval c X.env); pure (ForInStep.yield ok) else pure (ForInStep.yield r)) (TP X pins σ Q) X.xe s
def tYes : TT := fun _ H Q => Q true H
theorem pif_nil {X : Cx} : PIfs X [] tYes := fun _ _ _ H _ I h => wpAny_tests_nil ⟨H, I, h⟩
theorem pif_one {X : Cx} {c : Expr} {t : TT} (h : PT X c t) : PIfs X [c] t := fun pins s σ H Q I q => wpAny_tests_one (h pins s σ H Q I q)
def sApp (D : Addr) (tc : TT) (te : TE) : TS := fun E σ H => tc σ H fun b H1 => if b = true then te σ H1 fun y H2 => ∃ ys, H2 D = some (.lst ys) ∧ ys.length < sizeLine ∧ E.nx σ (upd H2 D (.lst (ys ++ [y]))) else E.nx σ H1
def tComp (js : List Nat) (k : Nat) (wi : TI) (g : TG) (tc : TT) (te : TE) : TE := fun σ H Q => wi σ H fun J H1 => ∀ D, H1 D = none →
  ∃ W : Nat → Nat → St → Hp → Prop, (∃ m, W 0 m (emS js k σ) (upd H1 D (.lst []))) ∧ ∀ i m σ H, W i m σ H →
    (J.stop i H ∧ Q (.ref D) H) ∨ (J.go i H ∧ ∃ N : St → Hp → Prop, (∀ σ' H', N σ' H' → ∃ m', m' < m ∧ W (i + 1) m' σ' H') ∧ ∀ x H', J.yld i H x H' → g x σ H' fun σ2 H2 => sApp D tc te { nx := N, rt := fun _ _ => False, ct := N, bk := fun _ H' => Q (.ref D) H' } σ2 H2)
section
variable {X : Cx} {pins : List (Addr × Obj)} {σ : St} {H2 : Hp} {s₂ : Shared} {N NY : List Str} {sc scope : Scope} {cl : List (Str × Addr)} {C : Addr} {fp : List Addr} {js : List Nat} {k : Nat}
theorem comp_ok (I2 : Inv X pins σ H2 s₂) (hf : ∀ b ∈ fp, FpOk X pins H2 b) (hfl : ∀ b ∈ fp, ∃ o, s₂.heap.get? b = some o) (hkind : scope.kind = .function) (hcell : ∀ y ∈ scope.names, y.2 ≠ NameKind.cell)
    (hcl1 : ∀ n c, cl.lookup n = some c → X.env.cells.lookup n = some c) (hcl2 : ∀ x ∈ scope.names, x.2 = NameKind.free → (cl.lookup x.1).isSome = true) (hC : s₂.heap.objs.size ≤ C) :
    (cxComp X NY scope cl C s₂ H2 fp).Ok where
  mod := I2.ok.mod
  kind := hkind
  glob := I2.ok.glob
  blt := I2.ok.blt
  above := hC
  inj := fun x y c h1 h2 => I2.ok.inj x y c (hcl1 x c h1) (hcl1 y c h2)
  has := fun x hx => by
    have e : scope.names.lookup x = some .free := rel_free (env := X.env) hcell hx
    exact Option.isSome_iff_exists.mp (hcl2 (x, .free) (PySem.mem_of_lookup e) rfl)
  cab := fun _ _ h _ => nomatch h
  hd := I2.ok.hd
  frames := I2.ok.frames
  stk := .inl rfl
  exf := fun b hb => by
    obtain ⟨o, ho⟩ := hfl b hb
    exact ⟨Nat.ne_of_lt (Nat.lt_of_lt_of_le (Heap.lt_size ho) hC), fun x c h => (hf b hb).2.2.2.2.1 x c (hcl1 x c h)⟩
  bs := I2.bs
  bsz := Nat.le_trans I2.ok.bsz I2.sz
  noex := fun b o e hb => by
    rcases (hf b hb).2.2.2.1 with z | z
    · exact I2.ok.noex b o e z
    · exact absurd (Nat.lt_of_lt_of_le (Heap.lt_size e) (Nat.le_trans I2.ok.bsz z)) (Nat.lt_irrefl _)
  exfs := fun b hb z => by
    rcases List.mem_cons.mp (I2.stkSub b z) with e | e
    · exact (hf b hb).2.1 e
    · exact (hf b hb).2.2.1 e
  funs := I2.stack
  frf := I2.stkFree
variable {elt iter target : Expr} {ifs : List Expr} {pos : Pos} {it : Addr} {tn : Nat → Heap → Prop} {J : It} {g : TG} {tc : TT} {te : TE} {Q : VK} {RR : Value → Addr → Result → Shared → Prop} {E : Value → Shared → Prop}
theorem comp_block (ok : CompOk sc N scope NY js) (hsc : X.env.scope = sc) (hN : X.N = N) (hk : NY.length = N.length + k) (hc : X.calm = true) (I2 : Inv X pins σ H2 s₂) (T : Turn X.prog X.w X.K target J fp it tn) (st2 : tn 0 s₂.heap) (f2 : ∀ b ∈ fp, FpOk X pins H2 b)
    (hcl1 : ∀ n c, cl.lookup n = some c → X.env.cells.lookup n = some c) (hcl2 : ∀ x ∈ scope.names, x.2 = NameKind.free → (cl.lookup x.1).isSome = true)
    (hg : ∀ cl C s₀ H₀ fp, PG (cxComp X NY scope cl C s₀ H₀ fp) target g) (hi : ∀ cl C s₀ H₀ fp, PIfs (cxComp X NY scope cl C s₀ H₀ fp) ifs tc) (he : ∀ cl C s₀ H₀ fp, PE (cxComp X NY scope cl C s₀ H₀ fp) elt te)
    (loop : ∀ D, H2 D = none →
      ∃ W : Nat → Nat → St → Hp → Prop, (∃ m, W 0 m (emS js k σ) (upd H2 D (.lst []))) ∧ ∀ i m σ H, W i m σ H →
        (J.stop i H ∧ Q (.ref D) H) ∨ (J.go i H ∧ ∃ N : St → Hp → Prop, (∀ σ' H', N σ' H' → ∃ m', m' < m ∧ W (i + 1) m' σ' H') ∧ ∀ x H', J.yld i H x H' → g x σ H' fun σ2 H2 => sApp D tc te { nx := N, rt := fun _ _ => False, ct := N, bk := fun _ H' => Q (.ref D) H' } σ2 H2))
    (hRR : ∀ D C H' s' m, s'.heap.Ns C m → Inv X pins σ H' s' → H' C = none → C ≠ X.env.locals → X.s₀.heap.objs.size ≤ C → (∀ x c, X.env.cells.lookup x = some c → c ≠ C) → (∀ p ∈ X.pn ++ pins, p.1 ≠ C) → D ≠ C → Q (.ref D) H' → RR (.ref D) C (.ok .next) s') :
    wpAny (model X.prog X.w) X.A (newList []) (fun acc s₃ => wpAny (model X.prog X.w) X.A (newFunctionEnv scope X.env.globals cl [] X.env.qual none .none (some X.env)) (fun cenv s₄ =>
      codeAny (model X.prog X.w) X.A (.compStart (.ListComp elt [⟨target, iter, ifs, 0⟩] scope pos) 0 (.ref it) acc { cenv with scope := relabel scope X.env }) (RR acc cenv.locals) s₄) E s₃) E s₂ := by
  refine wpAny_newObj_type (wpAny_newFunctionEnv ok.cell (by intro y hy; simp at hy) (fun h₁ hns₁ hsb₁ => ?_) ok.kind)
  dsimp only at hns₁ hsb₁ ⊢
  generalize hG : s₂.heap.push { cls := .type "list", dict := none, data := .seq ([] : List Value).toArray } = G at hns₁ hsb₁ ⊢
  have hC : G.objs.size = s₂.heap.objs.size + 1 := by rw [← hG, Heap.size_push]
  have hDC : s₂.heap.objs.size ≠ G.objs.size := by rw [hC]; exact Nat.ne_of_lt (Nat.lt_succ_self _)
  have hCle : s₂.heap.objs.size ≤ G.objs.size := by rw [hC]; exact Nat.le_succ _
  have below : ∀ b, b < s₂.heap.objs.size → b ≠ G.objs.size := fun b hb => by rw [hC]; exact Nat.ne_of_lt (Nat.lt_succ_of_lt hb)
  have old : ∀ b o, s₂.heap.get? b = some o → h₁.get? b = some o := fun b o e => hsb₁.extBut b o (below b (Heap.lt_size e)) (Heap.get?_push_of_some _ (hG ▸ Heap.get?_push_of_some _ e))
  have hacc : h₁.get? s₂.heap.objs.size = some { cls := .type "list", dict := none, data := .seq ([] : List Value).toArray } := hsb₁.extBut _ _ hDC (Heap.get?_push_of_some _ (hG ▸ Heap.get?_push_size _ rfl))
  have hfl : ∀ b ∈ fp, ∃ o, s₂.heap.get? b = some o := fun b hb => let ⟨o, ho, _⟩ := T.obj 0 _ st2 b hb; ⟨o, ho⟩
  have fD : H2 s₂.heap.objs.size = none := I2.hok.fresh (Nat.le_refl _)
  have fC : H2 G.objs.size = none := I2.hok.fresh hCle
  have I4 : Inv (cxComp X NY scope cl G.objs.size s₂ H2 fp) [] (emS js k σ) (upd H2 s₂.heap.objs.size (.lst [])) { s₂ with heap := h₁, toks := s₂.toks + ([] : List (Str × Value)).length } := by
    refine ⟨comp_ok I2 f2 hfl ok.kind ok.cell hcl1 hcl2 hCle, rfl, I2.bare, Un.laid old (Nat.le_refl _) fD, ⟨_, hns₁, fun i y v h1 h2 h3 => ?_⟩, fun x c h => ?_, ?_, fun x c h => ?_, fun p hp => absurd (show p ∈ ([] : List (Addr × Obj)) from hp) (by simp), I2.hok.laid old (Nat.le_refl _) ⟨Nat.zero_le _, [], 0, .nil, hacc⟩, ?_⟩
    · obtain ⟨e1, e2⟩ := emS_get h2
      have hi : i < N.length := by
        have := (List.getElem?_eq_some_iff.mp e1).1
        rw [I2.len, hN] at this; exact this
      have hy : N[i]? = some y := by
        rw [← ok.pre, List.getElem?_take_of_lt hi]; exact h1
      have hz : (y, i) ∈ N.zipIdx := by
        rw [List.mem_zipIdx_iff_getElem?]; exact hy
      have nn : scope.names.lookup y ≠ none := rel_any (env := X.env) (x := y) (by
        rcases h3 with z | z | z
        · intro q; rw [show (relabel scope X.env).names.lookup y = _ from z] at q; cases q
        · intro q; rw [show (relabel scope X.env).names.lookup y = _ from z] at q; cases q
        · intro q; rw [show (relabel scope X.env).names.lookup y = _ from z] at q; cases q)
      have hfr : scope.names.lookup y = some .free := by
        rcases ok.cap (y, i) hz with z | z | z
        · rw [e2] at z; cases z
        · exact absurd z nn
        · exact z
      have hX := ok.free (y, .free) (PySem.mem_of_lookup hfr) rfl
      rw [← hsc] at hX
      obtain ⟨m, hn, hl⟩ := I2.loc
      obtain ⟨u, ru, lk⟩ := hl i y v (by rw [hN]; exact hy) e1 (by
        rcases hX with z | z
        · exact .inr (.inl z)
        · exact .inr (.inr z))
      refine ⟨u, ru, ?_⟩
      rcases lk with ⟨lk, _⟩ | ⟨_, c, hc1, hc2⟩
      · have lk : X.env.scope.names.lookup y = some .local := lk
        rcases hX with z | z <;> · rw [z] at lk; cases lk
      · have hs := hcl2 (y, .free) (PySem.mem_of_lookup hfr) rfl
        obtain ⟨c', hc'⟩ := Option.isSome_iff_exists.mp hs
        have e3 := hcl1 y c' hc'
        rw [hc1] at e3; cases e3
        refine .inr ⟨?_, c, hc', hc2.keeps old⟩
        show (relabel scope X.env).names.lookup y = some .cell ∨ (relabel scope X.env).names.lookup y = some .free
        have e : (relabel scope X.env).names.lookup y = _ := lookup_relabel (env := X.env) (x := y) scope.names
        rw [e, hfr, Option.map_some]
        split
        · exact .inl rfl
        · exact .inr rfl
    · obtain ⟨v, q⟩ := I2.cell x c (hcl1 x c h)
      exact ⟨v, q.keeps old⟩
    · show upd H2 s₂.heap.objs.size (.lst []) G.objs.size = none
      rw [upd_ne (Ne.symm hDC)]; exact fC
    · have q := I2.freeC x c (hcl1 x c h)
      obtain ⟨v, o, ho, _⟩ := I2.cell x c (hcl1 x c h)
      show upd H2 s₂.heap.objs.size (.lst []) c = none
      rw [upd_ne (Nat.ne_of_lt (Heap.lt_size ho))]; exact q
    · show (emS js k σ).length = NY.length
      rw [emS_len, I2.len, hN, hk]
  have st4 : tn 0 h₁ := T.keep _ _ _ st2 fun b _ o e => old b o e
  obtain ⟨W, ⟨m0, w0⟩, turn⟩ := loop s₂.heap.objs.size fD
  have stat : ∀ {H' : Hp}, (∀ b ∈ fp, H' b = none) → ∀ b ∈ fp, FpOk (cxComp X NY scope cl G.objs.size s₂ H2 fp) [] H' b := fun hn b hb => by
    obtain ⟨o, ho⟩ := hfl b hb
    refine ⟨hn b hb, below b (Heap.lt_size ho), fun z => ?_, .inl hb, fun x c h => (f2 b hb).2.2.2.2.1 x c (hcl1 x c h), fun p hp => absurd (show p ∈ ([] : List (Addr × Obj)) from hp) (by simp)⟩
    rcases List.mem_cons.mp (I2.stkSub b z) with e | e
    · exact (f2 b hb).2.1 e
    · exact (f2 b hb).2.2.1 e
  have go : ∀ s₄ : Shared, s₄ = { s₂ with heap := h₁, toks := s₂.toks + ([] : List (Str × Value)).length } →
      codeAny (model X.prog X.w) X.A (.compLoop (.ListComp elt [⟨target, iter, ifs, 0⟩] scope pos) 0 (.ref it) (.ref s₂.heap.objs.size) (compEnvC scope cl G.objs.size X.env)) (RR (.ref s₂.heap.objs.size) G.objs.size) s₄ := by
    rintro s₄ rfl
    refine compLoop_own (fun n s' => ∃ i σ' H', Inv (cxComp X NY scope cl G.objs.size s₂ H2 fp) [] σ' H' s' ∧ tn i s'.heap ∧ (∀ b ∈ fp, H' b = none) ∧ W i n σ' H') ?_ m0
      ⟨0, _, _, I4, st4, fun b hb => by
        obtain ⟨o, ho⟩ := hfl b hb
        rw [upd_ne (Nat.ne_of_lt (Heap.lt_size ho))]; exact (f2 b hb).1, w0⟩
    rintro n s3 ⟨i, σ3, H3, I3, st3, fr3, w3⟩
    rcases turn i n σ3 H3 w3 with ⟨stop, qn⟩ | ⟨go, Nx, hNx, step⟩
    · refine thn (T.done (cxComp X NY scope cl G.objs.size s₂ H2 fp) rfl rfl rfl hc i [] s3 σ3 H3 _ I3 (stat fr3) st3 stop) fun r s5 ⟨hr, I5⟩ => ?_
      subst hr
      have IX : Inv X pins σ H3 s5 := I2.call' (ch := fp) I5.os I5.base I5.hok I5.bare fun b hb => ⟨(f2 b hb).2.2.2.1, (f2 b hb).2.1, (f2 b hb).2.2.2.2.1, (f2 b hb).2.2.2.2.2⟩
      obtain ⟨m, hm, _⟩ := I5.loc
      refine hRR _ _ H3 s5 m hm IX I5.free (fun z => ?_) (Nat.le_trans I2.sz hCle) (fun x c h z => ?_) (fun p hp z => ?_) hDC qn
      · have := I2.lt; rw [← z] at this; exact Nat.lt_irrefl _ (Nat.lt_of_lt_of_le this hCle)
      · obtain ⟨v, o, ho, _⟩ := I2.cell x c h
        have := Heap.lt_size ho; rw [z] at this; exact Nat.lt_irrefl _ (Nat.lt_of_lt_of_le this hCle)
      · have := Heap.lt_size (I2.pin p hp).1; rw [z] at this; exact Nat.lt_irrefl _ (Nat.lt_of_lt_of_le this hCle)
    · refine thn (T.item (cxComp X NY scope cl G.objs.size s₂ H2 fp) rfl rfl rfl hc i [] s3 σ3 H3 _ I3 (stat fr3) st3 go) fun r s5 ⟨u, hr, h5⟩ => ?_
      subst hr
      refine thn h5 fun _ s6 ⟨x, H6, I6, r6, y6, st6, fr6⟩ => ?_
      have I6' := I6.pinned (stat fr6) (T.obj _ _ st6)
      have again : ∀ {σ7 : St} {H7 : Hp} {s7 : Shared}, Inv (cxComp X NY scope cl G.objs.size s₂ H2 fp) ([] ++ pinsAt fp s6.heap) σ7 H7 s7 → Nx σ7 H7 → ∃ m, m < n ∧ ∃ i σ' H', Inv (cxComp X NY scope cl G.objs.size s₂ H2 fp) [] σ' H' s7 ∧ tn i s7.heap ∧ (∀ b ∈ fp, H' b = none) ∧ W i m σ' H' := fun {σ7 H7 s7} I7 n7 => by
        obtain ⟨m', hm, w7⟩ := hNx σ7 H7 n7
        refine ⟨m', hm, i + 1, σ7, H7, I7.unpinned, T.keep _ _ _ st6 fun b hb o e => (I7.pin (b, o) (List.mem_append_right _ (List.mem_append_right _ (mem_pinsAt hb e)))).1, fun b hb => ?_, w7⟩
        obtain ⟨o, e, d⟩ := T.obj _ _ st6 b hb
        exact (I7.pin (b, o) (List.mem_append_right _ (List.mem_append_right _ (mem_pinsAt hb e)))).2.1
      refine thn (hg cl G.objs.size s₂ H2 fp _ s6 σ3 H6 x u _ I6' r6 (step x H6 y6)) fun _ s7 ⟨σ7, H7, I7, q7⟩ => ?_
      refine thn (hi cl G.objs.size s₂ H2 fp _ s7 σ7 H7 _ I7 q7) fun ok s8 ⟨H8, I8, q8⟩ => ?_
      cases ok with
      | false =>
        rw [if_neg Bool.false_ne_true] at q8 ⊢
        exact again I8 q8
      | true =>
        rw [if_pos rfl] at q8 ⊢
        refine thn (he cl G.objs.size s₂ H2 fp _ s8 σ7 H8 _ I8 q8) fun y s9 ⟨z, H9, I9, r9, ys, hD, hz, n9⟩ => ?_
        refine thn (mt_append (X := cxComp X NY scope cl G.objs.size s₂ H2 fp) _ s9 σ7 H9 (.ref s₂.heap.objs.size) [z] (.ref s₂.heap.objs.size) [y] (fun _ H' => H' = upd H9 s₂.heap.objs.size (.lst (ys ++ [z]))) I9 rfl (.cons r9 .nil) ⟨_, ys, z, rfl, rfl, hD, hz, rfl⟩) fun _ s10 ⟨_, H10, I10, _, q10⟩ => ?_
        subst q10
        exact again I10 n9
  exact codeAny_compStart_list (go _ rfl) (T.self _ 0 _ _ _ st4 (go _ rfl))
theorem pe_comp {wi : TI} (ok : CompOk sc N scope NY js) (hsc : X.env.scope = sc) (hN : X.N = N) (hk : NY.length = N.length + k) (hc : X.calm = true) (hit : PI X target iter wi)
    (hg : ∀ cl C s₀ H₀ fp, PG (cxComp X NY scope cl C s₀ H₀ fp) target g) (hi : ∀ cl C s₀ H₀ fp, PIfs (cxComp X NY scope cl C s₀ H₀ fp) ifs tc) (he : ∀ cl C s₀ H₀ fp, PE (cxComp X NY scope cl C s₀ H₀ fp) elt te)
    (hs : ∀ x, foldedSetIterable iter X.env x = pure x := by intro _; rfl) : PE X (.ListComp elt [⟨target, iter, ifs, 0⟩] scope pos) (tComp js k wi g tc te) := by
  intro pins s σ H Q I h
  obtain ⟨cl, hclos, hcl1, hcl2⟩ := closure_of (scope := scope) (env := X.env) fun x hx hf => I.ok.has x.1 (by
    have := ok.free x hx hf
    rw [← hsc] at this
    exact this)
  rw [eval_ListComp]
  refine wpAny_comprehension_free (use := none) rfl hs hclos ok.kind ok.names (thn (hit pins s σ H _ I h) fun xv s₁ h₁ => thn h₁ fun itv s₂ h₂ => ?_)
  obtain ⟨it, fp, tn, J, H2, rfl, I2, T, st2, f2, loop⟩ := h₂
  refine comp_block (RR := fun acc C => compPost (model X.prog X.w) X.A X.xe none (EP X pins σ Q) acc C) (Q := Q) ok hsc hN hk hc I2 T st2 f2 hcl1 hcl2 hg hi he loop ?_
  intro D C H' s' m hm IX fC c1 c2 c3 c4 _ q
  exact ⟨m, hm, fun h' hs' => ⟨.ref D, H', IX.turned (t' := s'.toks) (fun b o hb e => (hs'.2 b hb).trans e) fC c1 (.inr c2) c3 c4, rfl, q⟩⟩
theorem ps_comp {wi : TI} {i : Nat} {y : Str} {py spos : Pos} (ok : CompOk sc N scope NY js) (hsc : X.env.scope = sc) (hN : X.N = N) (hk : NY.length = N.length + k) (hc : X.calm = true) (hit : PI X target iter wi)
    (hg : ∀ cl C s₀ H₀ fp, PG (cxComp X NY scope cl C s₀ H₀ fp) target g) (hi : ∀ cl C s₀ H₀ fp, PIfs (cxComp X NY scope cl C s₀ H₀ fp) ifs tc) (he : ∀ cl C s₀ H₀ fp, PE (cxComp X NY scope cl C s₀ H₀ fp) elt te)
    (nd : X.N.Nodup) (hy : X.N[i]? = some y) (hl : Loc X.env.scope y) (hsw : swapsWith (.ListComp elt [⟨target, iter, ifs, 0⟩] scope pos) (some (.Name y py)) spos.line X.env = pure true)
    (hs : ∀ x, foldedSetIterable iter X.env x = pure x := by intro _; rfl) (hf : X.fn y = true ∨ X.env.scope.names.lookup y = some .local := by first | exact .inl rfl | exact .inr rfl | assumption) :
    PS X (.Assign [.Name y py] (.ListComp elt [⟨target, iter, ifs, 0⟩] scope pos) spos) (tAsg (tComp js k wi g tc te) (gName i)) := by
  intro pins s σ H D I h
  obtain ⟨cl, hclos, hcl1, hcl2⟩ := closure_of (scope := scope) (env := X.env) fun x hx hf => I.ok.has x.1 (by
    have := ok.free x hx hf
    rw [← hsc] at this
    exact this)
  rw [exec_Assign_Name_used _ _ _ _ hsw]
  refine wpAny_bind (wpAny_standAt (wpAny_bind ?_))
  show wpAny _ X.A (do let _ ← comprehension (.ListComp elt [⟨target, iter, ifs, 0⟩] scope pos) scope X.env _ (newList []) false (eval iter X.env) (some (assign (.Name y py) X.env))) _ _ s
  refine wpAny_bind (wpAny_mono (wpAny_comprehension_free (use := some (assign (.Name y py) X.env)) (Q := fun _ s' => SP X pins D .next s') rfl hs hclos ok.kind ok.names
    (thn (hit pins s σ H _ I h) fun xv s₁ h₁ => thn h₁ fun itv s₂ h₂ => ?_)) (fun _ s' hq => wpAny_pure (wpAny_pure hq)) fun _ _ e => e)
  obtain ⟨it, fp, tn, J, H2, rfl, I2, T, st2, f2, loop⟩ := h₂
  refine comp_block (RR := fun acc C => compPost (model X.prog X.w) X.A X.xe (some (assign (.Name y py) X.env)) (fun _ s' => SP X pins D .next s') acc C) (Q := fun x H1 => gName i x σ H1 D.nx) ok hsc hN hk hc I2 T st2 f2 hcl1 hcl2 hg hi he loop ?_
  intro Da C H' s' m hm IX fC c1 c2 c3 c4 _ q
  show wpAny _ X.A (assign (.Name y py) X.env (.ref Da)) _ _ _
  refine wpAny_assign_Name (store_ok2 IX nd hy hl (v := .ref Da) rfl (fun s2 IY ⟨a, sb, ha⟩ => ?_) hf)
  have hne : C ≠ a := by
    rcases ha with rfl | ha
    · exact c1
    · exact fun z => c3 y a ha z.symm
  exact ⟨m, hm.sameBut sb hne, fun h' hs' => ⟨_, H', IY.turned (t' := s2.toks) (fun b o hb e => (hs'.2 b hb).trans e) fC c1 (.inr c2) c3 c4, q⟩⟩
end
end L2
end
section
set_option Elab.async false
set_option linter.all false
set_option maxRecDepth 100000
set_option maxHeartbeats 4000000
namespace L2
open PySem PySem.Spec PyProof.Rows
section
variable {X : Cx} {pins : List (Addr × Obj)} {σ : St} {H : Hp} {s : Shared} {h' : Heap}
end
section
variable {X : Cx} {elts : List Expr} {k : Nat} {tpos : Pos}
end
section
variable {X : Cx} {elts : List Expr} {k : Nat} {tpos : Pos}
end
end L2
namespace PySem
open Sem (wp)
open Builtin MeetsSeq MeetsSeq2 MeetsSeq3
theorem noFill_tuple_mul : fillsNumberSlot (.type "tuple") "mul" = pure false :=
  fillsNumberSlot_seq (id := "tuple.__mul__") (r := some (.builtin "tuple.__rmul__")) F.slot_tuple_mul.lookup (by decide +kernel) F.slot_tuple_rmul.lookup (by decide +kernel)
theorem repeat_tuple : seqRepeat? (.type "tuple") = pure (some (.builtin "tuple.__mul__")) := by
  unfold seqRepeat?
  rw [seqSlot_of (T := "tuple") (name := "__mul__") (id := "tuple.__mul__") F.slot_tuple_mul.lookup (by decide +kernel), seqSlot_of (T := "tuple") (name := "__rmul__") (id := "tuple.__rmul__") F.slot_tuple_rmul.lookup (by decide +kernel)]
  rfl
theorem int_rmul_tuple (a : Int) (t : Tok) (l : Addr) (items : Array Value) (n : Nat) (dd : Option Addr) (sl : Array (Option Value)) :
    Meets (Builtin.«int.__rmul__» ⟨[.int a t, .ref l], []⟩) (fun _ R s => s.heap.get? l = some { cls := .type "tuple", dict := dd, data := .seq items n, slots := sl } ∧ R (.ok (.ret Value.notImplemented)) s) :=
  .of_wp fun prog w A R s h => by obtain ⟨hp, g, d, tk, os⟩ := s; obtain ⟨hl, h⟩ := h; wp_walk; exact ⟨_, rfl, h⟩
theorem tuple_mul_many (l : Addr) (items : Array Value) (n : Nat) (dd : Option Addr) (sl : Array (Option Value)) (x : Int) (u : Tok) (hlo : -(2 ^ 63) ≤ x) (hhi : x < 2 ^ 63) (he : items.isEmpty = false) (h1 : ¬ x = 1) (hp : 0 < x) (hsz : items.size * x.toNat ≤ sizeLine) :
    Meets (Builtin.«tuple.__mul__» ⟨[.ref l, .int x u], []⟩) (fun _ R s => s.heap.get? l = some { cls := .type "tuple", dict := dd, data := .seq items n, slots := sl } ∧
      R (.ok (.ret (Value.ref s.heap.objs.size))) { s with heap := s.heap.push { cls := Value.type "tuple", data := Data.seq (List.foldl (fun x1 x2 => x1 ++ x2) #[] (List.replicate x.toNat items)) }, toks := s.toks }) :=
  .of_wp fun prog w A R s h => by
    obtain ⟨hp, g, d, tk, os⟩ := s; obtain ⟨hl, h⟩ := h
    have z1 : (decide (x < -(2 ^ 63)) || decide (x ≥ 2 ^ 63)) = false := by simp; omega
    have z2 : (items.isEmpty || x == 1) = false := by simp [he, h1]
    have z3 : (decide (x ≤ 0) || items.isEmpty) = false := by simp [he]; omega
    have ex : (items.size : Int) * x = ((items.size * x.toNat : Nat) : Int) := by
      rw [Int.natCast_mul]; congr 1; omega
    have z4 : ¬ ((items.size : Int) * x > (2 ^ 63 - 1) / 8) := by
      rw [ex]
      have : (sizeLine : Nat) ≤ (2 ^ 63 - 1) / 8 := by decide
      omega
    have z5 : Tuple.tupleTooMany ((items.size : Int) * x) = false := by
      unfold Tuple.tupleTooMany
      rw [ex]
      exact decide_eq_false (by omega)
    have z6 : (List.foldl (fun (x1 x2 : Array Value) => x1 ++ x2) #[] (List.replicate x.toNat items)).size ≤ sizeLine := by
      have e := AutoListH.size_joined items x.toNat #[]
      rw [e, Nat.mul_comm]
      simpa using hsz
    wp_walk
    refine wpAny_ite_false (by rw [z1]; rfl) ?_
    wp_walk using AutoSeq1.wpAny_loadPart' hl
    refine wpAny_ite_false (decide_eq_false z4) ?_
    wp_walk
    refine wpAny_ite_false (by rw [z5]; rfl) ?_
    wp_walk
    exact ⟨_, rfl, h⟩
theorem tuple_mul_one (l : Addr) (items : Array Value) (n : Nat) (dd : Option Addr) (sl : Array (Option Value)) (u : Tok) :
    Meets (Builtin.«tuple.__mul__» ⟨[.ref l, .int 1 u], []⟩) (fun _ R s => s.heap.get? l = some { cls := .type "tuple", dict := dd, data := .seq items n, slots := sl } ∧ R (.ok (.ret (Value.ref l))) s) :=
  .of_wp fun prog w A R s h => by
    obtain ⟨hp, g, d, tk, os⟩ := s; obtain ⟨hl, h⟩ := h
    have z2 : (items.isEmpty || (1 : Int) == 1) = true := by simp
    wp_walk using AutoSeq1.wpAny_loadPart' hl
    first | exact ⟨_, rfl, h⟩ | trace_state
theorem tuple_mul_none (l : Addr) (items : Array Value) (n : Nat) (dd : Option Addr) (sl : Array (Option Value)) (u : Tok) (he : items.isEmpty = false) :
    Meets (Builtin.«tuple.__mul__» ⟨[.ref l, .int 0 u], []⟩) (fun _ R s => s.heap.get? l = some { cls := .type "tuple", dict := dd, data := .seq items n, slots := sl } ∧
      R (.ok (.ret (Value.ref s.heap.objs.size))) { s with heap := s.heap.push { cls := Value.type "tuple", data := Data.seq #[] }, toks := s.toks }) :=
  .of_wp fun prog w A R s h => by
    obtain ⟨hp, g, d, tk, os⟩ := s; obtain ⟨hl, h⟩ := h
    have z2 : (items.isEmpty || (0 : Int) == 1) = false := by simp [he]
    have z3 : (decide ((0 : Int) ≤ 0) || items.isEmpty) = true := by simp
    wp_walk using AutoSeq1.wpAny_loadPart' hl
    first | exact ⟨_, rfl, h⟩ | trace_state
end PySem
namespace L2
open PySem PySem.Spec PyProof.Rows
section
variable {X : Cx}
def rRepT (K : PySem.W.Frag) : R2 := fun x y H Q => ∃ (l : Addr) (k : Nat) (xs : List V), x = .ref l ∧ y = .int (k : Nat) ∧ SqT K H l xs ∧ xs ≠ [] ∧ xs.length * k ≤ sizeLine ∧ (k = 1 → Q (.ref l) H) ∧
  (k ≠ 1 → ∀ p, H p = none → Q (.ref p) (upd H p (.tup (List.replicate k xs).flatten)))
theorem op_repT : OpR X (binaryOp .Mult) (rRepT X.K) := by
  intro pins s σ H x y v u Q I rx ry h
  obtain ⟨l, k, xs, rfl, rfl, hq, hne, hz, q1, q2⟩ := h
  cases rx
  obtain ⟨t, rfl⟩ := ry
  obtain ⟨its, r, ⟨⟨cls, dd, data, sl⟩, e, hc, n, hd⟩, hl⟩ := I.tuple hq
  simp only at hc hd
  subst hc hd
  have hlen := r.length
  have he : its.toArray.isEmpty = false := by
    cases its with
    | nil => simp at hlen; exact absurd hlen hne
    | cons a r' => rfl
  have hs : its.toArray.size * k ≤ sizeLine := by rw [List.size_toArray, ← hlen]; exact hz
  have road : wpAny (model X.prog X.w) X.A (call (.builtin "tuple.__mul__") [.ref l, .int (k : Nat) t]) (EP X pins σ Q) X.xe s → wpAny (model X.prog X.w) X.A (binaryOp .Mult (.ref l) (.int (k : Nat) t)) (EP X pins σ Q) X.xe s := fun hcall =>
    wpAny_binaryOp_repeat_ref (T := "tuple") (U := "int") (by decide) ⟨_, e, rfl⟩ (fun s' => typeIs_int s' k t) noFill_tuple_mul F.fills_int_mul F.slot_int_rmul repeat_tuple F.slot_int_index.lookup
      (call_meets F.slot_int_rmul (typeIs_int s k t) F.entry_int_rmul (F.args_int_rmul_2 _ _) (int_rmul_tuple k t l its.toArray n dd sl) ⟨e, rfl, ⟨_, e, rfl⟩, hcall⟩)
  refine road ?_
  by_cases h1 : k = 1
  · subst h1
    exact call_meets F.slot_tuple_mul ⟨_, e, rfl⟩ F.entry_tuple_mul (F.args_tuple_mul_2 _ _) (tuple_mul_one l its.toArray n dd sl t) ⟨e, ⟨.ref l, H, I, rfl, q1 rfl⟩⟩
  · have hn : H s.heap.objs.size = none := I.hok.fresh (Nat.le_refl _)
    by_cases h0 : k = 0
    · subst h0
      refine call_meets F.slot_tuple_mul ⟨_, e, rfl⟩ F.entry_tuple_mul (F.args_tuple_mul_2 _ _) (tuple_mul_none l its.toArray n dd sl t he) ⟨e, ⟨.ref s.heap.objs.size, _, ?_, rfl, q2 h1 _ hn⟩⟩
      exact I.laid (t' := s.toks) (fun b o e => Heap.get?_push_of_some _ e) (Nat.le_refl _) ⟨Nat.zero_le _, [], .nil, ⟨_, Heap.get?_push_size _ rfl, rfl, _, rfl⟩⟩
    · have hk64 : (k : Int) < 2 ^ 63 := by
        have h3 : 1 ≤ its.toArray.size := by
          cases its with
          | nil => simp at he
          | cons a r' => simp
        have h4 : k ≤ its.toArray.size * k := Nat.le_mul_of_pos_left k h3
        have h5 : (sizeLine : Nat) < 2 ^ 63 := by decide
        omega
      refine call_meets F.slot_tuple_mul ⟨_, e, rfl⟩ F.entry_tuple_mul (F.args_tuple_mul_2 _ _) (tuple_mul_many l its.toArray n dd sl k t (by omega) hk64 he (by omega) (by omega) (by simpa using hs)) ⟨e, ?_⟩
      have f0 := foldl_rep its k []
      rw [List.nil_append] at f0
      have ek : ((k : Nat) : Int).toNat = k := by simp
      rw [ek, f0]
      refine ⟨.ref s.heap.objs.size, _, ?_, rfl, q2 h1 _ hn⟩
      refine I.laid (t' := s.toks) (fun b o e => Heap.get?_push_of_some _ e) (Nat.le_refl _) ⟨?_, (List.replicate k its).flatten, r.rep k, ⟨_, Heap.get?_push_size _ rfl, rfl, _, rfl⟩⟩
      rw [len_rep, Nat.mul_comm]; exact hz
theorem call_divmodW : CallR X (.builtin "divmod") (fun xs H Q => ∃ i j, xs = [.int i, .int j] ∧ (0 < j ∧ j < 2 ^ 64) ∧ ∀ p, H p = none → Q (.ref p) (upd H p (.tup [.int (i / j), .int (i % j)]))) := by
  intro pins s σ H xs us Q I r h
  obtain ⟨i, j, rfl, ⟨h1, h2⟩, q⟩ := h
  obtain ⟨u, w', rfl, ⟨t, rfl⟩, ⟨t', rfl⟩⟩ := vals2 r
  have hb : j.natAbs.log2 < 9000 := by
    have h3 : j.natAbs.log2 < 64 := (Nat.log2_lt (by omega)).mpr (by omega)
    omega
  refine divmod_int (by omega) ?_ (.inl (PyProof.noPylong_of_log2 hb))
  rw [Int.fdiv_eq_ediv_of_nonneg i (by omega), Int.fmod_eq_emod_of_nonneg i (by omega)]
  have hn : H s.heap.objs.size = none := I.hok.fresh (Nat.le_refl _)
  refine ⟨.ref s.heap.objs.size, _, ?_, rfl, q _ hn⟩
  refine I.laid (fun b o e => Heap.get?_push_of_some _ e) (Nat.le_refl _) ⟨by simp only [List.length_cons, List.length_nil]; rw [sizeLine_eq]; decide, [.int (i / j) s.toks, .int (i % j) (s.toks + 1)], .cons ⟨_, rfl⟩ (.cons ⟨_, rfl⟩ .nil), ?_⟩
  exact ⟨_, Heap.get?_push_size s.heap rfl, rfl, 0, rfl⟩
inductive IsiV (K : PySem.W.Frag) (H : Hp) : V → String → Bool → Prop where
  | int_int (i : Int) : IsiV K H (.int i) "int" true
  | int_bool (i : Int) : IsiV K H (.int i) "bool" false
  | int_tuple (i : Int) : IsiV K H (.int i) "tuple" false
  | str_tuple (x : Str) : IsiV K H (.str x) "tuple" false
  | tup_tuple {a : Addr} {xs : List V} (h : SqT K H a xs) : IsiV K H (.ref a) "tuple" true
  | lst_list {a : Addr} {xs : List V} (h : SqL K H a xs) : IsiV K H (.ref a) "list" true
  | str_str (x : Str) : IsiV K H (.str x) "str" true
  | bl_bool (b : Bool) : IsiV K H (.bl b) "bool" true
theorem call_isi : CallR X (.builtin "isinstance") (fun xs H Q => ∃ x T b, xs = [x, .ty T] ∧ IsiV X.K H x T b ∧ Q (.bl b) H) := by
  intro pins s σ H xs us Q I r h
  obtain ⟨x, T, b, rfl, hi, q⟩ := h
  obtain ⟨u, w', rfl, r1, r2⟩ := vals2 r
  cases r2
  cases hi with
  | int_int i => obtain ⟨t, rfl⟩ := r1; exact IsiPair.int_int ⟨.bl true, H, I, rfl, q⟩
  | int_bool i => obtain ⟨t, rfl⟩ := r1; exact IsiPair.int_bool ⟨.bl false, H, I.tok _, rfl, q⟩
  | int_tuple i => obtain ⟨t, rfl⟩ := r1; exact IsiPair.int_tuple ⟨.bl false, H, I.tok _, rfl, q⟩
  | str_tuple z => obtain ⟨t, rfl⟩ := r1; exact IsiPair.str_tuple ⟨.bl false, H, I.tok _, rfl, q⟩
  | tup_tuple hs =>
    cases r1
    obtain ⟨its, rv, ⟨o, e, hc, _⟩, hz⟩ := I.tuple hs
    exact IsiPair.tuple_tuple e hc ⟨.bl true, H, I, rfl, q⟩
  | lst_list hs =>
    cases r1
    obtain ⟨its, rv, pl, hz⟩ := I.list hs
    obtain ⟨o, e, hc, _⟩ := pl.isList
    exact IsiPair.list_list e hc ⟨.bl true, H, I, rfl, q⟩
  | str_str z => obtain ⟨t, rfl⟩ := r1; exact IsiPair.str_str ⟨.bl true, H, I, rfl, q⟩
  | bl_bool z => cases r1; exact IsiPair.bool_bool ⟨.bl true, H, I, rfl, q⟩
theorem all_ix (bs : List Bool) : (List.range bs.length).all (fun i => (bs[i]?).getD false) = bs.all id := by
  rw [Bool.eq_iff_iff, List.all_eq_true, List.all_eq_true]
  constructor
  · intro h b hb
    obtain ⟨i, hi, e⟩ := List.mem_iff_getElem.mp hb
    have := h i (List.mem_range.mpr hi)
    rw [List.getElem?_eq_getElem hi, Option.getD_some, e] at this
    exact this
  · intro h i hi
    have hi := List.mem_range.mp hi
    rw [List.getElem?_eq_getElem hi, Option.getD_some]
    exact h _ (List.getElem_mem hi)
theorem call_all_bl (hc : X.calm = true) : CallR X (.builtin "all") (fun xs H Q => ∃ (p : Addr) (bs : List Bool), xs = [.ref p] ∧ SqL X.K H p (bs.map V.bl) ∧ Q (.bl (bs.all id)) H) := by
  intro pins s σ H xs us Q I r h
  obtain ⟨p, bs, rfl, hq, q⟩ := h
  obtain ⟨u, rfl, rx⟩ := vals1 r
  cases rx
  obtain ⟨its, rv, pl, hz⟩ := I.list hq
  have hlen := rv.length
  rw [List.length_map] at hlen
  have hlt : p < s.heap.objs.size := by obtain ⟨o, e, _⟩ := pl.isList; exact Heap.lt_size e
  refine call_all_walk (wpAny_pyIter_list pl.isList ?_)
  refine ⟨_, _, _, _, _, _, fun i => (bs[i]?).getD false, rfl, Walks.list (A := X.A.in1) (show X.A.in1.handled = none from I.ok.hd hc) s.heap.objs.size p (Nat.ne_of_lt hlt) its.toArray, ⟨⟨_, Heap.get?_push_size _ rfl, rfl, rfl⟩, pl.isList.push _⟩, ?_, fun h' tk hk => ?_⟩
  · intro i v s' Q' E' hP hQ
    have hP' : its[i]? = some v := by
      have : its.toArray[i]? = some v := hP
      simpa using this
    have hi : i < bs.length := by rw [hlen]; exact (List.getElem?_eq_some_iff.mp hP').1
    obtain ⟨u, hu, ru⟩ := rv.get (i := i) (x := V.bl bs[i]) (by rw [List.getElem?_map, List.getElem?_eq_getElem hi]; rfl)
    rw [hP'] at hu
    cases hu
    cases ru
    have hQ' : Q' ((bs[i]?).getD false) s' := hQ
    rw [List.getElem?_eq_getElem hi, Option.getD_some] at hQ'
    exact wpAny_truthy_bool hQ'
  · have e : its.toArray.size = bs.length := by rw [List.size_toArray, hlen]
    rw [e, all_ix]
    refine ⟨.bl _, H, ?_, rfl, q⟩
    refine I.kept (t' := tk) fun b o eb => ?_
    refine hk b o (fun z => ?_) (Heap.get?_push_of_some _ eb)
    have e2 : b = s.heap.objs.size := by simpa using z
    have h2 := Heap.lt_size eb
    rw [e2] at h2
    exact Nat.lt_irrefl _ h2
end
section
variable {X : Cx}
end
section
variable {X : Cx}
def eqVs (xs ys : List V) : Bool := (List.range (min xs.length ys.length)).all (fun j => eqV ((xs[j]?).getD .non) ((ys[j]?).getD .non)) && xs.length == ys.length
def rEqT (K : PySem.W.Frag) (neg : Bool) : R2 := fun x y H Q => ∃ p q xs ys, x = .ref p ∧ y = .ref q ∧ SqT K H p xs ∧ SqT K H q ys ∧ xs.all flatV = true ∧ ys.all flatV = true ∧ Q (.bl (if neg then !eqVs xs ys else eqVs xs ys)) H
theorem at_eq {A : Around} {s : Shared} {xs ys : List V} {us vs : List Value} (r1 : Vals xs us) (r2 : Vals ys vs) (f1 : xs.all flatV = true) (f2 : ys.all flatV = true) :
    ∀ j (h1 : j < us.toArray.size) (h2 : j < vs.toArray.size), SeqAt.EqAt A s us.toArray[j] vs.toArray[j] (eqV ((xs[j]?).getD .non) ((ys[j]?).getD .non)) := by
  intro j h1 h2
  have l1 := r1.length
  have l2 := r2.length
  rw [List.size_toArray] at h1 h2
  have j1 : j < xs.length := by omega
  have j2 : j < ys.length := by omega
  obtain ⟨u, hu, ru⟩ := r1.get (List.getElem?_eq_getElem j1)
  obtain ⟨v, hv, rv⟩ := r2.get (List.getElem?_eq_getElem j2)
  have eu : us.toArray[j] = u := by
    have := List.getElem?_eq_getElem h1
    rw [hu] at this
    simpa using (Option.some.inj this).symm
  have ev : vs.toArray[j] = v := by
    have := List.getElem?_eq_getElem h2
    rw [hv] at this
    simpa using (Option.some.inj this).symm
  rw [eu, ev, List.getElem?_eq_getElem j1, List.getElem?_eq_getElem j2, Option.getD_some, Option.getD_some]
  exact eqAt_V ru rv (List.all_eq_true.mp f1 _ (List.getElem_mem j1)) (List.all_eq_true.mp f2 _ (List.getElem_mem j2))
theorem op_eqT (hu : X.A.units < cLine) : OpR X (compareOp .Eq) (rEqT X.K false) := by
  intro pins s σ H x y v u Q I rx ry h
  obtain ⟨p, q, xs, ys, rfl, rfl, h1, h2, f1, f2, qq⟩ := h
  cases rx
  cases ry
  obtain ⟨us, r1, t1, _⟩ := I.tuple h1
  obtain ⟨vs, r2, t2, _⟩ := I.tuple h2
  refine SeqAt.eq_tupleAt (show s.heap.IsTuple p us.toArray from t1) (show s.heap.IsTuple q vs.toArray from t2) hu (at_eq r1 r2 f1 f2) ⟨.bl (eqVs xs ys), H, I, ?_, qq⟩
  show Value.bool _ = Value.bool _
  unfold eqVs
  rw [List.size_toArray, List.size_toArray, r1.length, r2.length]
def rEqTS (K : PySem.W.Frag) : R2 := fun x y H Q => ∃ p xs z, x = .ref p ∧ y = .str z ∧ SqT K H p xs ∧ Q (.bl false) H
theorem op_eqTS (hu : X.A.units < cLine) : OpR X (compareOp .Eq) (rEqTS X.K) := by
  intro pins s σ H x y v u Q I rx ry h
  obtain ⟨p, xs, z, rfl, rfl, h1, qq⟩ := h
  cases rx
  obtain ⟨t, rfl⟩ := ry
  obtain ⟨us, r1, t1, _⟩ := I.tuple h1
  exact SeqAt.RcAt.tuple_str z t (show s.heap.IsTuple p us.toArray from t1) hu X.prog X.w X.xe _ ⟨.bl false, H, I, rfl, qq⟩
theorem op_neT (hu : X.A.units < cLine) : OpR X (compareOp .NotEq) (rEqT X.K true) := by
  intro pins s σ H x y v u Q I rx ry h
  obtain ⟨p, q, xs, ys, rfl, rfl, h1, h2, f1, f2, qq⟩ := h
  cases rx
  cases ry
  obtain ⟨us, r1, t1, _⟩ := I.tuple h1
  obtain ⟨vs, r2, t2, _⟩ := I.tuple h2
  refine SeqAt.RcNeAt.tuples (show s.heap.IsTuple p us.toArray from t1) (show s.heap.IsTuple q vs.toArray from t2) hu (at_eq r1 r2 f1 f2) X.prog X.w X.xe _ ⟨.bl (!eqVs xs ys), H, I, ?_, qq⟩
  show Value.bool _ = Value.bool _
  unfold eqVs
  rw [List.size_toArray, List.size_toArray, r1.length, r2.length]
end
section
variable {X : Cx}
def rEqL (K : PySem.W.Frag) (neg : Bool) : R2 := fun x y H Q => ∃ p q xs ys, x = .ref p ∧ y = .ref q ∧ SqL K H p xs ∧ SqL K H q ys ∧ xs.all flatV = true ∧ ys.all flatV = true ∧ Q (.bl (if neg then !eqVs xs ys else eqVs xs ys)) H
theorem eqVs_len {xs ys : List V} (h : xs.length = ys.length) : eqVs xs ys = (List.range xs.length).all (fun j => eqV ((xs[j]?).getD .non) ((ys[j]?).getD .non)) := by
  unfold eqVs; rw [← h, Nat.min_self]; simp
theorem eqVs_ne {xs ys : List V} (h : ¬ xs.length = ys.length) : eqVs xs ys = false := by
  unfold eqVs; rw [Bool.and_eq_false_iff]; right; simpa using h
theorem op_eqL (hu : X.A.units < cLine) : OpR X (compareOp .Eq) (rEqL X.K false) := by
  intro pins s σ H x y v u Q I rx ry h
  obtain ⟨p, q, xs, ys, rfl, rfl, h1, h2, f1, f2, qq⟩ := h
  cases rx
  cases ry
  obtain ⟨us, r1, t1, _⟩ := I.list h1
  obtain ⟨vs, r2, t2, _⟩ := I.list h2
  have l1 := r1.length
  have l2 := r2.length
  by_cases c : xs.length = ys.length
  · refine SeqAt.eq_listAt t1.isList t2.isList (by rw [List.size_toArray, List.size_toArray]; omega) hu (at_eq r1 r2 f1 f2) ⟨.bl (eqVs xs ys), H, I, ?_, qq⟩
    show Value.bool _ = Value.bool _
    rw [eqVs_len c, List.size_toArray, l1]
  · refine SeqAt.eq_list_lengthsAt t1.isList t2.isList (by rw [List.size_toArray, List.size_toArray]; simp; omega) hu ⟨.bl (eqVs xs ys), H, I, ?_, qq⟩
    show Value.bool _ = Value.bool _
    rw [eqVs_ne c]
theorem op_neL (hu : X.A.units < cLine) : OpR X (compareOp .NotEq) (rEqL X.K true) := by
  intro pins s σ H x y v u Q I rx ry h
  obtain ⟨p, q, xs, ys, rfl, rfl, h1, h2, f1, f2, qq⟩ := h
  cases rx
  cases ry
  obtain ⟨us, r1, t1, _⟩ := I.list h1
  obtain ⟨vs, r2, t2, _⟩ := I.list h2
  have l1 := r1.length
  have l2 := r2.length
  by_cases c : xs.length = ys.length
  · refine SeqAt.RcNeAt.lists t1.isList t2.isList (by rw [List.size_toArray, List.size_toArray]; omega) hu (at_eq r1 r2 f1 f2) X.prog X.w X.xe _ ⟨.bl (!eqVs xs ys), H, I, ?_, qq⟩
    show Value.bool _ = Value.bool _
    rw [eqVs_len c, List.size_toArray, l1]
  · refine SeqAt.RcNeAt.lists_lengths t1.isList t2.isList (by rw [List.size_toArray, List.size_toArray]; simp; omega) hu X.prog X.w X.xe _ ⟨.bl (!eqVs xs ys), H, I, ?_, qq⟩
    show Value.bool _ = Value.bool _
    rw [eqVs_ne c]; rfl
end
section
variable {prog : Program} {w : World} {A : Around} {E : Value → Shared → Prop}
theorem draw_listU {it t : Addr} {items : Array Value} (hne : t ≠ it) : ∀ (n i : Nat) (s : Shared) (Q : List Value → Shared → Prop), s.heap.IsListIter it t i → s.heap.IsList t items → i + n ≤ items.size →
    (∀ h' : Heap, h'.IsListIter it t (i + n) → Heap.SameBut it s.heap h' → Q ((items.toList.drop i).take n) { s with heap := h' }) → wpAny (model prog w) A (draw (.ref it) n) Q E s
  | 0, i, s, Q, hit, _, _, hQ => by
    show wpAny _ _ (pure []) Q E s
    exact wpAny_pure (by simpa using hQ s.heap hit (Heap.SameBut.refl ..))
  | n + 1, i, s, Q, hit, ht, hle, hQ => by
    have hlt : i < items.size := by omega
    show wpAny _ _ (pyNext (.ref it) >>= _) Q E s
    refine wpAny_bind (wpAny_pyNext_list_item hit ht (x := items[i]) (by simp [hlt]) fun h₁ hit₁ hs₁ => ?_)
    refine wpAny_bind (wpAny_holding (draw_listU hne n (i + 1) _ _ hit₁ (ht.extBut hs₁.extBut hne) (by omega) fun h₂ hit₂ hs₂ => wpAny_pure ?_))
    have hd : items.toList.drop i = items[i] :: items.toList.drop (i + 1) := by simp [List.drop_eq_getElem_cons, hlt]
    have := hQ h₂ (by rw [show i + (n + 1) = i + 1 + n by omega]; exact hit₂) (hs₁.trans hs₂)
    rw [hd, List.take_succ_cons] at this
    exact this
theorem unpackItems_listU {s : Shared} {t : Addr} {items : Array Value} {Q : List Value → Shared → Prop} (hh : A.handled = none) (ht : s.heap.IsList t items)
    (hQ : ∀ h' : Heap, Heap.ExtBut s.heap.objs.size s.heap h' → Q items.toList { s with heap := h' }) : wpAny (model prog w) A (unpackItems (.ref t) items.size none) Q E s := by
  have hlt : t ≠ s.heap.objs.size := by obtain ⟨o, ho, _⟩ := ht; exact Nat.ne_of_lt (Heap.lt_size ho)
  unfold unpackItems
  refine wpAny_bind ?_
  · unfold notIterableAtAll
    refine wpAny_bind (wpAny_specialOf ht.typeIs slot_list_iter.lookup ?_)
    refine wpAny_pure ?_
    simp only [Bool.false_eq_true, if_false]
    refine wpAny_bind (wpAny_holding (wpAny_pyIter_list ht ?_))
    refine wpAny_bind (wpAny_holding (draw_listU hlt items.size 0 _ _ ⟨_, Heap.get?_push_size _ rfl, rfl, rfl⟩ (ht.push _) (by omega) fun h₁ hit₁ hs₁ => ?_))
    have hall : List.take items.size (List.drop 0 items.toList) = items.toList := by
      rw [List.drop_zero]; exact List.take_of_length_le (by simp)
    rw [hall]
    rw [if_neg (by simp)]
    have ht₁ : h₁.IsList t items := (ht.push _).extBut hs₁.extBut hlt
    refine wpAny_bind (wpAny_holding (wpAny_pyNext_list_end hh hit₁ ht₁ (by simp) fun h₂ he₂ => ?_))
    simp only [Option.isSome_none, Bool.false_eq_true, if_false]
    refine wpAny_pure (hQ h₂ fun b o hb e => he₂ b o hb (hs₁.extBut b o hb (Heap.get?_push_of_some _ e)))
end
section
variable {X : Cx} {pos : Pos}
def gTupL (K : PySem.W.Frag) (n : Nat) (t : TGs) : TG := fun v σ H Q => ∃ a xs, v = .ref a ∧ SqL K H a xs ∧ xs.length = n ∧ t xs σ H Q
theorem pg_tupL {es : List Expr} {k : Nat} {t : TGs} {n : Nat} (hc : X.calm = true) (h : PGs X es t)
    (hn : (assignEach es X.env).length = n := by rfl) (hst : (assignEach es X.env).findIdx? (·.1) = none := by rfl) : PG X (.Tuple es k pos) (gTupL X.K n t) := by
  intro pins s σ H v u Q I r hw
  obtain ⟨a, xs, e1, hq, hl, hw⟩ := hw
  subst e1
  cases r
  obtain ⟨its, rv, ht, hz⟩ := I.list hq
  rw [assign_Tuple]
  refine wpAny_bind (wpAny_standAt ?_)
  unfold unpack
  have e : (assignEach es X.env).length = its.toArray.size := by simp [hn, ← hl, rv.length]
  rw [e, hst]
  refine wpAny_bind (wpAny_holding (unpackItems_listU (I.ok.hd hc) ht.isList fun h' hx => ?_))
  have I1 : Inv X pins σ H { s with heap := h' } := I.kept (t' := s.toks) fun b o e => hx b o (Nat.ne_of_lt (Heap.lt_size e)) e
  exact h pins _ σ H xs _ Q I1 (by simpa using rv) hw
end
end L2
end
section
set_option Elab.async false
set_option linter.all false
set_option maxRecDepth 100000
set_option maxHeartbeats 4000000
namespace L2
open PySem PySem.Spec PyProof.Rows
def rStr2 : R2 := fun x y H Q => ∃ i j, x = .str i ∧ y = .str j ∧ i.length + j.length ≤ sizeLine ∧ Q (.str (i ++ j)) H
def rPlus (K : PySem.W.Frag) : R2 := fun x y H Q => rI0 (fun i j => .int (i + j)) x y H Q ∨ (rStr2 x y H Q ∨ (rCat x y H Q ∨ rCatT K x y H Q))
def rSub2 : R2 := rI0 fun i j => .int (i - j)
def rTimes (K : PySem.W.Frag) : R2 := fun x y H Q => rI CMul (fun i j => .int (i * j)) x y H Q ∨ rRepT K x y H Q
def rMod2 : R2 := rI (fun _ j => 0 < j) fun i j => .int (i % j)
def rFdiv2 : R2 := rI CDiv fun i j => .int (i / j)
def rPow2 : R2 := rI CPow fun i j => .int (i ^ j.toNat)
def rEqG (K : PySem.W.Frag) : R2 := fun x y H Q => rEq x y H Q ∨ (rEqT K false x y H Q ∨ (rEqTS K x y H Q ∨ rEqL K false x y H Q))
def rNeG (K : PySem.W.Frag) : R2 := fun x y H Q => rNe x y H Q ∨ (rEqT K true x y H Q ∨ rEqL K true x y H Q)
def rLt2 : R2 := rI0 fun i j => .bl (decide (i < j))
def rLe2 : R2 := rI0 fun i j => .bl (decide (i ≤ j))
def rGt2 : R2 := rI0 fun i j => .bl (decide (j < i))
def rGe2 : R2 := rI0 fun i j => .bl (decide (j ≤ i))
def rNotN : R2 := fun x y H Q => y = .non ∧ Q (.bl (!decide (x = .non))) H
def rNeg : V → Hp → VK → Prop := rU fun i => .int (-i)
def rSl (K : PySem.W.Frag) : V → Option Int → Option Int → Hp → VK → Prop := fun x lo hi H Q => rSlL K x lo hi H Q ∨ rSlT K x lo hi H Q
def rLen (K : PySem.W.Frag) : List V → Hp → VK → Prop := fun xs H Q => ∃ x n, xs = [x] ∧ LenV K x H n ∧ Q (.int n) H
def rDivmod : List V → Hp → VK → Prop := fun xs H Q => ∃ i j, xs = [.int i, .int j] ∧ (0 < j ∧ j < 2 ^ 64) ∧ ∀ p, H p = none → Q (.ref p) (upd H p (.tup [.int (i / j), .int (i % j)]))
def rAll (K : PySem.W.Frag) : List V → Hp → VK → Prop := fun xs H Q => ∃ (p : Addr) (bs : List Bool), xs = [.ref p] ∧ SqL K H p (bs.map V.bl) ∧ Q (.bl (bs.all id)) H
def rIsi (K : PySem.W.Frag) : List V → Hp → VK → Prop := fun xs H Q => ∃ x T b, xs = [x, .ty T] ∧ IsiV K H x T b ∧ Q (.bl b) H
def rInt1 : List V → Hp → VK → Prop := fun xs H Q => (∃ i, xs = [.int i] ∧ Q (.int i) H) ∨ ∃ k, xs = [.bl k] ∧ Q (.int (if k then 1 else 0)) H
def rListOf (K : PySem.W.Frag) : List V → Hp → VK → Prop := fun xs H Q => ∃ p ys, xs = [.ref p] ∧ (SqL K H p ys ∨ SqT K H p ys) ∧ ∀ l, H l = none → Q (.ref l) (upd H l (.lst ys))
def rTupleOf (K : PySem.W.Frag) : List V → Hp → VK → Prop := fun xs H Q => ∃ p ys, xs = [.ref p] ∧ ((SqL K H p ys ∧ ∀ l, H l = none → Q (.ref l) (upd H l (.tup ys))) ∨ (SqT K H p ys ∧ Q (.ref p) H))
def iSeq (K : PySem.W.Frag) (tl : TE) : TI := fun σ H R => iList K tl σ H R ∨ iTup K tl σ H R
section
variable {X : Cx}
theorem op_plus : OpR X (binaryOp .Add) (rPlus X.K) := op_add.or (op_add_str.or (op_cat.or op_catT))
theorem op_times : OpR X (binaryOp .Mult) (rTimes X.K) := op_mul.or op_repT
theorem op_eqG (hu : X.A.units < cLine) : OpR X (compareOp .Eq) (rEqG X.K) := op_eq.or ((op_eqT hu).or ((op_eqTS hu).or (op_eqL hu)))
theorem op_neG (hu : X.A.units < cLine) : OpR X (compareOp .NotEq) (rNeG X.K) := op_ne.or ((op_neT hu).or (op_neL hu))
theorem sl_seq : SlR X (rSl X.K) := sl_list.or sl_tup
theorem pi_seq {tg l : Expr} {tl : TE} (hl : PE X l tl) : PI X tg l (iSeq X.K tl) := by
  intro pins s σ H R I h
  rcases h with h | h
  · exact pi_list hl pins s σ H R I h
  · exact pi_tup hl pins s σ H R I h
end
structure Callee (P : Program) (w : World) (K : PySem.W.Frag) (mg : Str → Option Value) (base : Heap) (x : Str) (ps : List Str) (k : Nat) (sp : Sp) : Prop where
  ex : ∃ (f : Addr) (fd : FuncData), mg x = some (.ref f) ∧ PySem.W.keepIn K (.ref f) = true ∧ Binds K fd ps [] ∧ FnOk P w K mg base CX0 k f fd ps sp
theorem pe_fn {X : Cx} {x : Str} {ps : List Str} {k : Nat} {sp : Sp} {e : Expr} {es : List Expr} {t : TA} {p pos : Pos} (c : Callee X.prog X.w X.K X.mg X.base x ps k sp) (hr : Room k X.A) (hg : Gl X x) (ha : PA X (e :: es) t)
    (hdb : (x == ("__debug__" : Str)) = false := by decide) (he : starEach (e :: es) X.env = (false, eval e X.env) :: starEach es X.env := by rfl) (hpl : (backTo pos (starEach es X.env)).any (·.1) = false := by rfl) :
    PE X (.Call (.Name x p) (e :: es) [] pos) (tCall sp [] E0 t) := by
  obtain ⟨f, fd, hm, hk, hb, F⟩ := c.ex
  exact pe_call F hr hg hm hk hb .nil pass0 ha hdb he hpl
structure Blt (mg : Str → Option Value) : Prop where
  len_ : mg "len" = none
  range_ : mg "range" = none
  divmod_ : mg "divmod" = none
  max_ : mg "max" = none
  min_ : mg "min" = none
  sum_ : mg "sum" = none
  all_ : mg "all" = none
  isinstance_ : mg "isinstance" = none
  int_ : mg "int" = none
  bool_ : mg "bool" = none
  list_ : mg "list" = none
  tuple_ : mg "tuple" = none
  enumerate_ : mg "enumerate" = none
  zip_ : mg "zip" = none
  sorted_ : mg "sorted" = none
  set_ : mg "set" = none
  dict_ : mg "dict" = none
  str_ : mg "str" = none
  any_ : mg "any" = none
  reversed_ : mg "reversed" = none
  abs_ : mg "abs" = none
def But (a : Addr) (H H' : Hp) : Prop := ∀ b o, b ≠ a → H b = some o → H' b = some o
theorem But.refl (a : Addr) (H : Hp) : But a H H := fun _ _ _ h => h
theorem But.trans {a : Addr} {H H1 H2 : Hp} (x : But a H H1) (y : But a H1 H2) : But a H H2 := fun c o n h => y c o n (x c o n h)
theorem Same.but {a : Addr} {H H' : Hp} (x : Same H H') : But a H H' := fun b o _ h => x b o h
theorem But.upd_at {a : Addr} {H : Hp} {o : HO} : But a H (upd H a o) := fun b u n h => by rw [upd_ne n]; exact h
theorem But.new {a p : Addr} {H H1 : Hp} {o : HO} (x : But a H H1) (hp : H1 p = none) : But a H (upd H1 p o) := fun b u n h => by
  rw [upd_ne (ne_of_none (x b u n h) hp)]; exact x b u n h
theorem Same.new {p : Addr} {H H1 : Hp} {o : HO} (x : Same H H1) (hp : H1 p = none) : Same H (upd H1 p o) := fun b u h => by
  rw [upd_ne (ne_of_none (x b u h) hp)]; exact x b u h
theorem But.free {a p : Addr} {H H' : Hp} (x : But a H H') (n : p ≠ a) (h : H' p = none) : H p = none := by
  cases q : H p with
  | none => rfl
  | some o => rw [x p o n q] at h; cases h
theorem comp_range {js : List Nat} {k : Nat} {lo : Int} {n : Nat} {g : TG} {tc : TT} {te : TE} {R : Hp → Prop} {σ : St} {H : Hp} {D : Addr} (Pv : Nat → St → Hp → Prop) (h0 : Pv 0 (emS js k σ) (upd H D (.lst [])))
    (hs : ∀ i σ H, i < n → Pv i σ H → g (.int (lo + i)) σ H fun σ2 H2 => sApp D tc te { nx := Pv (i + 1), rt := fun _ _ => False, ct := Pv (i + 1), bk := fun _ H' => R H' } σ2 H2) (hd : ∀ σ H, Pv n σ H → R H) :
    ∃ W : Nat → Nat → St → Hp → Prop, (∃ m, W 0 m (emS js k σ) (upd H D (.lst []))) ∧ ∀ i m σ H, W i m σ H →
      ((Itr lo n).stop i H ∧ R H) ∨ ((Itr lo n).go i H ∧ ∃ N : St → Hp → Prop, (∀ σ' H', N σ' H' → ∃ m', m' < m ∧ W (i + 1) m' σ' H') ∧ ∀ x H', (Itr lo n).yld i H x H' → g x σ H' fun σ2 H2 => sApp D tc te { nx := N, rt := fun _ _ => False, ct := N, bk := fun _ H' => R H' } σ2 H2) :=
  for_range (D := { nx := fun _ H' => R H', rt := fun _ _ => False }) Pv h0 hs hd
theorem comp_list {js : List Nat} {k : Nat} {K : PySem.W.Frag} {a : Addr} {xs : List V} {g : TG} {tc : TT} {te : TE} {R : Hp → Prop} {σ : St} {H : Hp} {D : Addr} (Pv : Nat → St → Hp → Prop) (h0 : Pv 0 (emS js k σ) (upd H D (.lst []))) (hl : ∀ i σ H, i ≤ xs.length → Pv i σ H → SqL K H a xs)
    (hs : ∀ i x σ H, xs[i]? = some x → Pv i σ H → g x σ H fun σ2 H2 => sApp D tc te { nx := Pv (i + 1), rt := fun _ _ => False, ct := Pv (i + 1), bk := fun _ H' => R H' } σ2 H2) (hd : ∀ σ H, Pv xs.length σ H → R H) :
    ∃ W : Nat → Nat → St → Hp → Prop, (∃ m, W 0 m (emS js k σ) (upd H D (.lst []))) ∧ ∀ i m σ H, W i m σ H →
      ((Itl K a).stop i H ∧ R H) ∨ ((Itl K a).go i H ∧ ∃ N : St → Hp → Prop, (∀ σ' H', N σ' H' → ∃ m', m' < m ∧ W (i + 1) m' σ' H') ∧ ∀ x H', (Itl K a).yld i H x H' → g x σ H' fun σ2 H2 => sApp D tc te { nx := N, rt := fun _ _ => False, ct := N, bk := fun _ H' => R H' } σ2 H2) :=
  for_list (D := { nx := fun _ H' => R H', rt := fun _ _ => False }) Pv h0 hl hs hd
theorem comp_tup {js : List Nat} {k : Nat} {K : PySem.W.Frag} {a : Addr} {xs : List V} {g : TG} {tc : TT} {te : TE} {R : Hp → Prop} {σ : St} {H : Hp} {D : Addr} (Pv : Nat → St → Hp → Prop) (h0 : Pv 0 (emS js k σ) (upd H D (.lst []))) (hl : ∀ i σ H, i ≤ xs.length → Pv i σ H → SqT K H a xs)
    (hs : ∀ i x σ H, xs[i]? = some x → Pv i σ H → g x σ H fun σ2 H2 => sApp D tc te { nx := Pv (i + 1), rt := fun _ _ => False, ct := Pv (i + 1), bk := fun _ H' => R H' } σ2 H2) (hd : ∀ σ H, Pv xs.length σ H → R H) :
    ∃ W : Nat → Nat → St → Hp → Prop, (∃ m, W 0 m (emS js k σ) (upd H D (.lst []))) ∧ ∀ i m σ H, W i m σ H →
      ((Itt K a).stop i H ∧ R H) ∨ ((Itt K a).go i H ∧ ∃ N : St → Hp → Prop, (∀ σ' H', N σ' H' → ∃ m', m' < m ∧ W (i + 1) m' σ' H') ∧ ∀ x H', (Itt K a).yld i H x H' → g x σ H' fun σ2 H2 => sApp D tc te { nx := N, rt := fun _ _ => False, ct := N, bk := fun _ H' => R H' } σ2 H2) :=
  for_tup (D := { nx := fun _ H' => R H', rt := fun _ _ => False }) Pv h0 hl hs hd
end L2
end
section
set_option Elab.async false
set_option linter.all false
set_option maxRecDepth 100000
set_option maxHeartbeats 4000000
namespace Bg
open PySem L2
def Tp (H H' : Hp) : Prop := ∀ p xs, H p = some (.tup xs) → H' p = some (.tup xs)
theorem Tp.refl (H : Hp) : Tp H H := fun _ _ h => h
theorem Tp.trans {H H1 H2 : Hp} (x : Tp H H1) (y : Tp H1 H2) : Tp H H2 := fun p xs h => y p xs (x p xs h)
theorem Tp.of_same {H H' : Hp} (x : Same H H') : Tp H H' := fun p xs h => x p _ h
theorem Tp.of_but {a : Addr} {ys : List V} {H H' : Hp} (x : But a H H') (ha : H a = some (.lst ys)) : Tp H H' := fun p xs h => x p _ (by rintro rfl; rw [h] at ha; cases ha) h
theorem Tp.new {p : Addr} {H H1 : Hp} {o : HO} (x : Tp H H1) (hp : H1 p = none) : Tp H (upd H1 p o) := fun b xs h => by
  rw [upd_ne (ne_of_none (x b xs h) hp)]; exact x b xs h
theorem Tp.lst {p : Addr} {H H1 : Hp} {ys : List V} {o : HO} (x : Tp H H1) (hp : H1 p = some (.lst ys)) : Tp H (upd H1 p o) := fun b xs h => by
  have h1 := x b xs h
  rw [upd_ne (by rintro rfl; rw [h1] at hp; cases hp)]; exact h1
structure AllAt {α : Type} (R : V → α → Prop) (vs : List V) (rs : List α) : Prop where
  len : vs.length = rs.length
  at_ : ∀ (i : Nat) v r, vs[i]? = some v → rs[i]? = some r → R v r
theorem AllAt.nil {α : Type} {R : V → α → Prop} : AllAt R [] [] := ⟨rfl, fun i v r h => by simp at h⟩
theorem AllAt.imp {α : Type} {R R' : V → α → Prop} {vs : List V} {rs : List α} (h : AllAt R vs rs) (f : ∀ v r, R v r → R' v r) : AllAt R' vs rs := ⟨h.len, fun i v r a b => f v r (h.at_ i v r a b)⟩
theorem AllAt.snoc {α : Type} {R : V → α → Prop} {vs : List V} {rs : List α} {v : V} {r : α} (h : AllAt R vs rs) (q : R v r) : AllAt R (vs ++ [v]) (rs ++ [r]) := by
  refine ⟨by simp [h.len], fun i w t a b => ?_⟩
  by_cases hi : i < vs.length
  · rw [List.getElem?_append_left hi] at a
    rw [List.getElem?_append_left (by rw [← h.len]; exact hi)] at b
    exact h.at_ i w t a b
  · rw [List.getElem?_append_right (by omega)] at a
    rw [List.getElem?_append_right (by rw [← h.len]; omega)] at b
    have e : i - vs.length = 0 := by
      have := (List.getElem?_eq_some_iff.mp a).1
      simp at this; omega
    rw [e] at a
    rw [← h.len, e] at b
    simp at a b
    rw [← a, ← b]; exact q
theorem AllAt.set {α : Type} {R : V → α → Prop} {vs : List V} {rs : List α} {j : Nat} {v : V} {r : α} (h : AllAt R vs rs) (q : R v r) : AllAt R (vs.set j v) (rs.set j r) := by
  refine ⟨by simp [h.len], fun i w t a b => ?_⟩
  by_cases e : j = i
  · subst e
    have hj : j < vs.length := by have := (List.getElem?_eq_some_iff.mp a).1; rw [List.length_set] at this; exact this
    rw [List.getElem?_set_self hj] at a
    rw [List.getElem?_set_self (by rw [← h.len]; exact hj)] at b
    cases a; cases b; exact q
  · rw [List.getElem?_set_ne e] at a b
    exact h.at_ i w t a b
theorem AllAt.get {α : Type} {R : V → α → Prop} {vs : List V} {rs : List α} (h : AllAt R vs rs) {i : Nat} (hi : i < rs.length) : ∃ v r, vs[i]? = some v ∧ rs[i]? = some r ∧ R v r := by
  have h1 : i < vs.length := by rw [h.len]; exact hi
  exact ⟨vs[i], rs[i], List.getElem?_eq_getElem h1, List.getElem?_eq_getElem hi, h.at_ i _ _ (List.getElem?_eq_getElem h1) (List.getElem?_eq_getElem hi)⟩
theorem AllAt.of_v {α : Type} {R : V → α → Prop} {vs : List V} {rs : List α} (h : AllAt R vs rs) {i : Nat} {v : V} (e : vs[i]? = some v) : ∃ r, rs[i]? = some r ∧ R v r := by
  have h1 := (List.getElem?_eq_some_iff.mp e).1
  obtain ⟨v', r, e1, e2, q⟩ := h.get (i := i) (by rw [← h.len]; exact h1)
  rw [e] at e1; cases e1
  exact ⟨r, e2, q⟩
def ScrAt (K : PySem.W.Frag) (H : Hp) (a : Addr) (ns : List Int) : Prop :=
  (∃ o, H a = some (.frz o (.lst (ns.map V.int)))) ∨ ∃ (o : Obj) (its : Array Value) (n : Nat), K.lookup a = some o ∧ o.cls = .type "list" ∧ o.dict = none ∧ o.data = .seq its n ∧ its.size ≤ sizeLine ∧ Vals (ns.map V.int) its.toList
theorem ScrAt.sq {K : PySem.W.Frag} {H : Hp} {a : Addr} {ns : List Int} (h : ScrAt K H a ns) : SqL K H a (ns.map V.int) := by
  rcases h with ⟨o, h⟩ | h
  · exact .inl (.inr ⟨o, h⟩)
  · exact .inr h
def Fz (H H' : Hp) : Prop := ∀ p o u, H p = some (.frz o u) → H' p = some (.frz o u)
theorem Fz.of_but {a : Addr} {ys : List V} {H H' : Hp} (x : But a H H') (ha : H a = some (.lst ys)) : Fz H H' := fun p o u h => x p _ (by rintro rfl; rw [h] at ha; cases ha) h
theorem Fz.of_same {H H' : Hp} (x : Same H H') : Fz H H' := fun p o u h => x p _ h
theorem ScrAt.mono {K : PySem.W.Frag} {H H' : Hp} {a : Addr} {ns : List Int} (h : ScrAt K H a ns) (f : Fz H H') : ScrAt K H' a ns := by
  rcases h with ⟨o, h⟩ | h
  · exact .inl ⟨o, f _ _ _ h⟩
  · exact .inr h
def Stt (K : PySem.W.Frag) (H : Hp) (st : Addr) (k : Nat) : Prop := ∃ scr ns c, H st = some (.lst [.ref scr, .int (k : Nat), .int c]) ∧ ScrAt K H scr ns ∧ ns.length ≤ 63
theorem Stt.lst {K : PySem.W.Frag} {H : Hp} {st : Addr} {k : Nat} (h : Stt K H st k) : ∃ ys, H st = some (.lst ys) := by
  obtain ⟨scr, ns, c, e, _⟩ := h; exact ⟨_, e⟩
theorem Stt.mono {K : PySem.W.Frag} {H H' : Hp} {a st : Addr} {k : Nat} {ys : List V} (h : Stt K H st k) (x : But a H H') (ha : H a = some (.lst ys)) (n : st ≠ a) : Stt K H' st k := by
  obtain ⟨scr, ns, c, e, q, l⟩ := h
  exact ⟨scr, ns, c, x _ _ n e, q.mono (.of_but x ha), l⟩
theorem Stt.same {K : PySem.W.Frag} {H H' : Hp} {st : Addr} {k : Nat} (h : Stt K H st k) (x : Same H H') : Stt K H' st k := by
  obtain ⟨scr, ns, c, e, q, l⟩ := h
  exact ⟨scr, ns, c, x _ _ e, q.mono (.of_same x), l⟩
theorem Stt.new {K : PySem.W.Frag} {H : Hp} {st p : Addr} {o : HO} {k : Nat} (h : Stt K H st k) (hp : H p = none) : Stt K (upd H p o) st k := h.same ((Same.refl H).new hp)
def sp_draw (K : PySem.W.Frag) : Sp := fun vs H Q _ => ∃ (st : Addr) (m : Int) (k : Nat), vs = [.ref st, .int m] ∧ Stt K H st k ∧ k ≤ 1000000 ∧ 0 < m ∧ m < 2 ^ 64 ∧
  ∀ (d : Int) (H' : Hp), 0 ≤ d → d < m → Stt K H' st (k + 1) → But st H H' → Q (.int d) H'
def sp_worth (K : PySem.W.Frag) : Sp := fun vs H Q _ => ∃ (st : Addr) (k : Nat), vs = [.ref st] ∧ Stt K H st k ∧ k ≤ 900000 ∧
  ∀ (z : Int) (k' : Nat) (H' : Hp), 0 ≤ z → z < 2 ^ 64 → Stt K H' st k' → k' ≤ k + 4 → But st H H' → Q (.int z) H'
def signs : List Str := ["+", "-", "*", "<", "="]
def intsV (ns : List Nat) : List V := ns.map fun n => V.int (n : Nat)
def sp_law (K : PySem.W.Frag) : Sp := fun vs H Q _ => ∃ (scr : Addr) (ns : List Int), vs = [.ref scr] ∧ ScrAt K H scr ns ∧ ns.length ≤ 63 ∧ ∀ H', Q (.bl true) H'
abbrev k_draw : Nat := 0
abbrev K_draw : Nat := 1
abbrev k_worth : Nat := 1
abbrev K_worth : Nat := 2
end Bg
end
section
set_option Elab.async false
set_option linter.all false
set_option maxRecDepth 100000
set_option maxHeartbeats 4000000
namespace Bg
open PySem L2
theorem if_dec {c : Prop} [Decidable c] {A B : Prop} (h1 : c → A) (h2 : ¬ c → B) : if decide c = true then A else B := by
  by_cases h : c
  · rw [decide_eq_true h]; exact iteT (h1 h)
  · rw [decide_eq_false h]; exact iteF (h2 h)
theorem if_not {c : Prop} [Decidable c] {A B : Prop} (h1 : ¬ c → A) (h2 : c → B) : if (!decide c) = true then A else B := by
  by_cases h : c
  · rw [decide_eq_true h]; exact iteF (h2 h)
  · rw [decide_eq_false h]; exact iteT (h1 h)
theorem if_bl {b : Bool} {A B : Prop} (h1 : b = true → A) (h2 : b = false → B) : if b = true then A else B := by
  cases b with
  | true => exact iteT (h1 rfl)
  | false => exact iteF (h2 rfl)
theorem atI_of {α : Type} {xs : List α} {i : Int} {v : α} (h0 : 0 ≤ i) (e : xs[i.toNat]? = some v) : atI xs i = some v := by
  have h1 := (List.getElem?_eq_some_iff.mp e).1
  unfold atI ixN
  rw [if_pos h0, if_pos (by omega)]
  exact e
theorem ixL {K : PySem.W.Frag} {p : Addr} {xs : List V} {i : Int} {v : V} {H : Hp} {Q : VK} (h : SqL K H p xs) (h0 : 0 ≤ i) (e : xs[i.toNat]? = some v) (q : Q v H) : rIx K (.ref p) (.int i) H Q :=
  .inl ⟨p, xs, i, v, rfl, rfl, h, atI_of h0 e, q⟩
theorem ixT {K : PySem.W.Frag} {p : Addr} {xs : List V} {i : Int} {v : V} {H : Hp} {Q : VK} (h : H p = some (.tup xs)) (h0 : 0 ≤ i) (e : xs[i.toNat]? = some v) (q : Q v H) : rIx K (.ref p) (.int i) H Q :=
  .inr (.inl ⟨p, xs, i, v, rfl, rfl, SqT.of h, atI_of h0 e, q⟩)
theorem ixS {K : PySem.W.Frag} {z : Str} {i : Int} {c : Nat} {H : Hp} {Q : VK} (hz : z.length ≤ sizeLine) (h0 : 0 ≤ i) (e : z.cps.toList[i.toNat]? = some c) (q : Q (.str ⟨#[c]⟩) H) : rIx K (.str z) (.int i) H Q :=
  .inr (.inr ⟨z, i, c, rfl, rfl, hz, atI_of h0 e, q⟩)
theorem setL {p : Addr} {xs : List V} {i : Int} {v : V} {H : Hp} {Q : Hp → Prop} (h : H p = some (.lst xs)) (h0 : 0 ≤ i) (h1 : i.toNat < xs.length) (q : Q (upd H p (.lst (xs.set i.toNat v)))) : rSetL (.ref p) (.int i) v H Q := by
  refine ⟨p, xs, i, i.toNat, rfl, rfl, h, ?_, q⟩
  unfold ixN
  rw [if_pos h0, if_pos (by omega)]
theorem smallL {n : Nat} (h : n ≤ 100000) : n < sizeLine := Nat.lt_of_le_of_lt h (by decide)
theorem intsV_get {ns : List Nat} {i : Nat} {n : Nat} (h : ns[i]? = some n) : (intsV ns)[i]? = some (.int (n : Nat)) := by
  unfold intsV; rw [List.getElem?_map, h]; rfl
theorem intsV_len (ns : List Nat) : (intsV ns).length = ns.length := by unfold intsV; rw [List.length_map]
theorem app_yes {D : Addr} {te : TE} {E : Ends} {σ : St} {H : Hp} (h : te σ H fun y H2 => ∃ ys, H2 D = some (.lst ys) ∧ ys.length < sizeLine ∧ E.nx σ (upd H2 D (.lst (ys ++ [y])))) : sApp D tYes te E σ H := by
  unfold sApp tYes
  dsimp only
  rw [if_pos rfl]
  exact h
theorem no {x y : V} {A B : Prop} (h : ¬ x = y) (q : B) : if decide (x = y) = true then A else B := if_dec (fun z => absurd z h) fun _ => q
theorem yes {x : V} {A B : Prop} (q : A) : if decide (x = x) = true then A else B := if_dec (fun _ => q) fun z => absurd rfl z
theorem if_t {b : Bool} {A B : Prop} (e : b = true) (q : A) : if b = true then A else B := by rw [e]; exact iteT q
theorem if_f {b : Bool} {A B : Prop} (e : b = false) (q : B) : if b = true then A else B := by rw [e]; exact iteF q
theorem cut_take (xs : List V) (c : Nat) : cutV xs none (some (c : Int)) = xs.take c := by
  unfold cutV
  rw [HT.sIx_none, HT.sIx_nat, List.drop_zero, Nat.sub_zero, ← List.take_eq_take_min]
theorem cut_drop (xs : List V) (c : Nat) : cutV xs (some (c : Int)) none = xs.drop c := by
  unfold cutV
  rw [HT.sIx_none, HT.sIx_nat]
  by_cases h : c ≤ xs.length
  · rw [Nat.min_eq_left h]; exact List.take_of_length_le (by rw [List.length_drop]; omega)
  · rw [Nat.min_eq_right (by omega), List.drop_length, List.drop_of_length_le (by omega), List.take_nil]
theorem But.past {a l : Addr} {H H1 H2 : Hp} (x : But a H H1) (hl : H l = none) (y : But l H1 H2) : But a H H2 := fun c u n h => y c u (ne_of_none h hl) (x c u n h)
end Bg
end
section
set_option Elab.async false
set_option linter.all false
set_option maxRecDepth 100000
set_option maxHeartbeats 4000000
namespace Bg
open PySem L2
section
variable (f : Nat → Nat) (p : Nat → Bool)
def itr : Nat → Nat → Nat
  | 0, n => n
  | k + 1, n => itr k (f n)
theorem itr_add : ∀ a b n, itr f (a + b) n = itr f b (itr f a n)
  | 0, b, n => by rw [Nat.zero_add]; rfl
  | a + 1, b, n => by rw [Nat.succ_add]; exact itr_add a b (f n)
theorem itr_succ (k n : Nat) : itr f (k + 1) n = f (itr f k n) := by rw [itr_add f k 1 n]; rfl
theorem itr_fix {n : Nat} (h : f n = n) : ∀ k, itr f k n = n
  | 0 => rfl
  | k + 1 => by show itr f k (f n) = n; rw [h]; exact itr_fix h k
variable {f p}
theorem itr_stop (hf : ∀ n, p n = false → f n = n) {k n : Nat} (h : p (itr f k n) = false) (m : Nat) : itr f (k + m) n = itr f k n := by
  rw [itr_add, itr_fix f (hf _ h)]
theorem itr_sil (hf : ∀ n, p n = false → f n = n) {m n : Nat} (h : p (itr f m n) = true) {k : Nat} (hk : k ≤ m) : p (itr f k n) = true := by
  cases q : p (itr f k n) with
  | true => rfl
  | false =>
    have e := itr_stop hf q (m - k)
    rw [Nat.add_sub_cancel' hk] at e
    rw [e, q] at h; cases h
theorem itr_round (hf : ∀ n, p n = false → f n = n) {i j n : Nat} (hij : i < j) (e : itr f i n = itr f j n) (h : ∀ k, k < j → p (itr f k n) = true) : ∀ k, p (itr f k n) = true := by
  intro k
  induction k using Nat.strongRecOn with
  | ind k ih =>
    by_cases hk : k < j
    · exact h k hk
    · have e2 : itr f k n = itr f (i + (k - j)) n := by
        rw [itr_add f i, e, ← itr_add f j, Nat.add_sub_cancel' (Nat.le_of_not_lt hk)]
      rw [e2]
      exact ih _ (by omega)
theorem pigeon : ∀ (L : Nat) (g : Nat → Nat), (∀ k, k ≤ L → g k < L) → ∃ i j, i < j ∧ j ≤ L ∧ g i = g j
  | 0, g, h => absurd (h 0 (Nat.le_refl _)) (by omega)
  | L + 1, g, h => by
    by_cases hx : ∃ i, i < L + 1 ∧ g i = g (L + 1)
    · obtain ⟨i, hi, e⟩ := hx
      exact ⟨i, L + 1, hi, Nat.le_refl _, e⟩
    · have hne : ∀ i, i < L + 1 → g i ≠ g (L + 1) := fun i hi e => hx ⟨i, hi, e⟩
      have hb := h (L + 1) (Nat.le_refl _)
      have key : ∀ k, k ≤ L → (if g k = L then g (L + 1) else g k) < L := fun k hk => by
        have h1 := h k (by omega)
        have h2 := hne k (by omega)
        by_cases e : g k = L
        · rw [if_pos e]
          have h3 : g (L + 1) ≠ L := fun z => h2 (by rw [e, z])
          omega
        · rw [if_neg e]; omega
      obtain ⟨i, j, hij, hj, e⟩ := pigeon L (fun k => if g k = L then g (L + 1) else g k) key
      refine ⟨i, j, hij, by omega, ?_⟩
      by_cases e1 : g i = L
      · by_cases e2 : g j = L
        · rw [e1, e2]
        · simp only [if_pos e1, if_neg e2] at e
          exact absurd e.symm (hne j (by omega))
      · by_cases e2 : g j = L
        · simp only [if_neg e1, if_pos e2] at e
          exact absurd e (hne i (by omega))
        · simp only [if_neg e1, if_neg e2] at e
          exact e
theorem itr_ever (hf : ∀ n, p n = false → f n = n) {L n : Nat} (cl : ∀ n, n < L → p n = true → f n < L) (hn : n < L) (h : p (itr f L n) = true) : ∀ k, p (itr f k n) = true := by
  have inn : ∀ k, k ≤ L → itr f k n < L := by
    intro k
    induction k with
    | zero => intro _; exact hn
    | succ k ih =>
      intro hk
      rw [itr_succ]
      exact cl _ (ih (by omega)) (itr_sil hf h (by omega))
  obtain ⟨i, j, hij, hj, e⟩ := pigeon L (fun k => itr f k n) inn
  exact itr_round hf hij e fun k hk => itr_sil hf h (by omega)
end
inductive CRow where
  | num (z : Int)
  | op (s : Str) (i j : Int)
  | keep (i : Int)
  | say (i : Int)
  | jump (to : Int)
  | test (i to : Int)
  | call (k : Int) (as : List Int)
  | give (i : Int)
def cword : CRow → Str
  | .num _ => "num" | .op _ _ _ => "op" | .keep _ => "keep" | .say _ => "say" | .jump _ => "jump" | .test _ _ => "test" | .call _ _ => "call" | .give _ => "give"
def CRowAt (H : Hp) (v : V) : CRow → Prop
  | .num z => ∃ p, v = .ref p ∧ H p = some (.tup [.str "num", .int z])
  | .op s i j => ∃ p, v = .ref p ∧ H p = some (.tup [.str "op", .str s, .int i, .int j])
  | .keep i => ∃ p, v = .ref p ∧ H p = some (.tup [.str "keep", .int i])
  | .say i => ∃ p, v = .ref p ∧ H p = some (.tup [.str "say", .int i])
  | .jump to => ∃ p, v = .ref p ∧ H p = some (.tup [.str "jump", .int to])
  | .test i to => ∃ p, v = .ref p ∧ H p = some (.tup [.str "test", .int i, .int to])
  | .call k as => ∃ p q, v = .ref p ∧ H p = some (.tup [.str "call", .int k, .ref q]) ∧ H q = some (.tup (as.map V.int))
  | .give i => ∃ p, v = .ref p ∧ H p = some (.tup [.str "give", .int i])
theorem CRowAt.mono {H H' : Hp} {v : V} {r : CRow} (h : CRowAt H v r) (t : Tp H H') : CRowAt H' v r := by
  cases r with
  | num z => obtain ⟨p, e, h⟩ := h; exact ⟨p, e, t _ _ h⟩
  | op s i j => obtain ⟨p, e, h⟩ := h; exact ⟨p, e, t _ _ h⟩
  | keep i => obtain ⟨p, e, h⟩ := h; exact ⟨p, e, t _ _ h⟩
  | say i => obtain ⟨p, e, h⟩ := h; exact ⟨p, e, t _ _ h⟩
  | jump to => obtain ⟨p, e, h⟩ := h; exact ⟨p, e, t _ _ h⟩
  | test i to => obtain ⟨p, e, h⟩ := h; exact ⟨p, e, t _ _ h⟩
  | call k as => obtain ⟨p, q, e, h, h'⟩ := h; exact ⟨p, q, e, t _ _ h, t _ _ h'⟩
  | give i => obtain ⟨p, e, h⟩ := h; exact ⟨p, e, t _ _ h⟩
theorem CRowAt.ref {H : Hp} {v : V} {r : CRow} (h : CRowAt H v r) : ∃ p xs, v = .ref p ∧ H p = some (.tup (.str (cword r) :: xs)) := by
  cases r with
  | num z => obtain ⟨p, e, h⟩ := h; exact ⟨p, _, e, h⟩
  | op s i j => obtain ⟨p, e, h⟩ := h; exact ⟨p, _, e, h⟩
  | keep i => obtain ⟨p, e, h⟩ := h; exact ⟨p, _, e, h⟩
  | say i => obtain ⟨p, e, h⟩ := h; exact ⟨p, _, e, h⟩
  | jump to => obtain ⟨p, e, h⟩ := h; exact ⟨p, _, e, h⟩
  | test i to => obtain ⟨p, e, h⟩ := h; exact ⟨p, _, e, h⟩
  | call k as => obtain ⟨p, q, e, h, h'⟩ := h; exact ⟨p, _, e, h⟩
  | give i => obtain ⟨p, e, h⟩ := h; exact ⟨p, _, e, h⟩
abbrev CPart := Int × List CRow
def CPartAt (H : Hp) (v : V) (b : CPart) : Prop := ∃ p r rvs, v = .ref p ∧ H p = some (.tup [.int b.1, .ref r]) ∧ H r = some (.tup rvs) ∧ AllAt (CRowAt H) rvs b.2
theorem CPartAt.mono {H H' : Hp} {v : V} {b : CPart} (h : CPartAt H v b) (t : Tp H H') : CPartAt H' v b := by
  obtain ⟨p, r, rvs, e, h1, h2, h3⟩ := h
  exact ⟨p, r, rvs, e, t _ _ h1, t _ _ h2, h3.imp fun _ _ z => z.mono t⟩
abbrev Code := Int × List CPart
def CodeAt (H : Hp) (v : V) (c : Code) : Prop := ∃ p q pvs, v = .ref p ∧ H p = some (.tup [.int c.1, .ref q]) ∧ H q = some (.tup pvs) ∧ AllAt (CPartAt H) pvs c.2
theorem CodeAt.mono {H H' : Hp} {v : V} {c : Code} (h : CodeAt H v c) (t : Tp H H') : CodeAt H' v c := by
  obtain ⟨p, q, pvs, e, h1, h2, h3⟩ := h
  exact ⟨p, q, pvs, e, t _ _ h1, t _ _ h2, h3.imp fun _ _ z => z.mono t⟩
def placesOf : CRow → List Int
  | .op _ i j => [i, j]
  | .call _ as => as
  | .keep i => [i]
  | .say i => [i]
  | .test i _ => [i]
  | .give i => [i]
  | _ => []
def cgoal : CRow → Option Int
  | .jump to => some to
  | .test _ to => some to
  | _ => none
def cgoalV (r : CRow) : V := match cgoal r with
  | some to => .int to
  | none => .non
def cleads (n : Int) : CRow → List Int
  | .jump to => [to]
  | .test _ to => [n + 1, to]
  | .give _ => []
  | _ => [n + 1]
def cEnd : CRow → Bool
  | .jump _ => true
  | .give _ => true
  | _ => false
def silR : CRow → Bool
  | .keep _ => true
  | .jump _ => true
  | _ => false
def silC (rs : List CRow) (n : Nat) : Bool := match rs[n]? with
  | some r => silR r
  | none => false
def stpC (rs : List CRow) (n : Nat) : Nat := match rs[n]? with
  | some (.keep _) => n + 1
  | some (.jump to) => to.toNat
  | _ => n
theorem stp_fix (rs : List CRow) (n : Nat) (h : silC rs n = false) : stpC rs n = n := by
  unfold silC at h
  unfold stpC
  cases e : rs[n]? with
  | none => rfl
  | some r => rw [e] at h; cases r <;> first | rfl | cases h
def NoRingC (rs : List CRow) : Prop := ∀ n, n < rs.length → silC rs (itr (stpC rs) rs.length n) = false
def Within (rs : List CRow) : Prop := ∀ n, n < rs.length → silC rs n = true → stpC rs n < rs.length
def Closed (rs : List CRow) : Prop := rs.getLast?.map cEnd = some true ∧ ∀ r ∈ rs, ∀ to, cgoal r = some to → 0 ≤ to ∧ to < rs.length
def CallFits (ps : List CPart) (k : Int) (as : List Int) : Prop := 0 ≤ k ∧ k < ps.length ∧ ∀ b, ps[k.toNat]? = some b → (as.length : Int) = b.1
def RowFits (places : Int) (ps : List CPart) (n : Nat) (r : CRow) : Prop :=
  (∀ i ∈ placesOf r, 0 ≤ i ∧ i < places) ∧ (∀ to, cgoal r = some to → 0 ≤ to ∧ to < n) ∧ ∀ k as, r = .call k as → CallFits ps k as
def PartFits (places : Int) (ps : List CPart) (b : CPart) : Prop :=
  (0 ≤ b.1 ∧ b.1 ≤ 4) ∧ b.2 ≠ [] ∧ b.2.getLast?.map cEnd = some true ∧ (∀ r ∈ b.2, RowFits places ps b.2.length r) ∧ NoRingC b.2
def Fits (c : Code) : Prop := (1 ≤ c.1 ∧ c.1 ≤ 16) ∧ ∀ b ∈ c.2, PartFits c.1 c.2 b
theorem within_of {rs : List CRow} (hl : rs.getLast?.map cEnd = some true) (hg : ∀ r ∈ rs, ∀ to, cgoal r = some to → 0 ≤ to ∧ to < rs.length) : Within rs := by
  intro n hn hs
  unfold silC at hs
  unfold stpC
  rw [List.getElem?_eq_getElem hn] at hs ⊢
  have hm := List.getElem_mem hn
  cases e : rs[n] with
  | keep i =>
    show n + 1 < rs.length
    rcases Nat.lt_or_ge (n + 1) rs.length with z | z
    · exact z
    · have e1 : rs.getLast? = some rs[n] := by
        rw [List.getLast?_eq_getElem?]
        have : rs.length - 1 = n := by omega
        rw [this]; exact List.getElem?_eq_getElem hn
      rw [e1, e] at hl
      cases hl
  | jump to =>
    have := hg _ hm to (by rw [e]; rfl)
    show to.toNat < rs.length
    omega
  | num z => rw [e] at hs; cases hs
  | op s i j => rw [e] at hs; cases hs
  | say i => rw [e] at hs; cases hs
  | test i to => rw [e] at hs; cases hs
  | call k as => rw [e] at hs; cases hs
  | give i => rw [e] at hs; cases hs
theorem Closed.within {rs : List CRow} (h : Closed rs) : Within rs := within_of h.1 h.2
end Bg
end
section
set_option Elab.async false
set_option linter.all false
set_option maxRecDepth 100000
set_option maxHeartbeats 4000000
namespace Bg
open PySem L2
def sp_c_goal (_ : PySem.W.Frag) : Sp := fun vs H Q _ => ∃ v r, vs = [v] ∧ CRowAt H v r ∧ Q (cgoalV r) H
def sp_c_leads (_ : PySem.W.Frag) : Sp := fun vs H Q _ => ∃ (rt : Addr) (n : Nat) (rvs : List V) (v : V) (r : CRow), vs = [.ref rt, .int (n : Nat)] ∧ H rt = some (.tup rvs) ∧ rvs[n]? = some v ∧ CRowAt H v r ∧
  ∀ (p : Addr) (H' : Hp), H' p = some (.tup ((cleads (n : Nat) r).map V.int)) → Same H H' → Q (.ref p) H'
def sp_p_is_number_of (_ : PySem.W.Frag) : Sp := fun vs H Q _ => ∃ a b : Int, vs = [.int a, .int b] ∧ ∀ c : Bool, (c = true ↔ 0 ≤ a ∧ a < b) → Q (.bl c) H
def sp_p_places_read (_ : PySem.W.Frag) : Sp := fun vs H Q _ => ∃ v r, vs = [v] ∧ CRowAt H v r ∧ ∀ (p : Addr) (H' : Hp), H' p = some (.tup ((placesOf r).map V.int)) → Same H H' → Q (.ref p) H'
def sp_p_call_fits (_ : PySem.W.Frag) : Sp := fun vs H Q _ => ∃ (q : Addr) (v : V) (pvs : List V) (ps : List CPart) (k : Int) (as : List Int), vs = [.ref q, v] ∧ H q = some (.tup pvs) ∧ AllAt (CPartAt H) pvs ps ∧ CRowAt H v (.call k as) ∧
  ∀ c : Bool, (c = true ↔ CallFits ps k as) → Q (.bl c) H
def sp_p_row_fits (_ : PySem.W.Frag) : Sp := fun vs H Q _ => ∃ (pl : Int) (q rt : Addr) (v : V) (pvs rvs : List V) (ps : List CPart) (r : CRow), vs = [.int pl, .ref q, .ref rt, v] ∧ H q = some (.tup pvs) ∧ AllAt (CPartAt H) pvs ps ∧ H rt = some (.tup rvs) ∧ CRowAt H v r ∧ (placesOf r).length ≤ 1000 ∧
  ∀ (c : Bool) (H' : Hp), (c = true ↔ RowFits pl ps rvs.length r) → Same H H' → Q (.bl c) H'
def sp_p_has_ring (_ : PySem.W.Frag) : Sp := fun vs H Q _ => ∃ (rt : Addr) (rvs : List V) (rs : List CRow), vs = [.ref rt] ∧ H rt = some (.tup rvs) ∧ AllAt (CRowAt H) rvs rs ∧ rs.length ≤ 1000 ∧ Closed rs ∧
  ∀ (c : Bool) (H' : Hp), (c = true ↔ ¬ NoRingC rs) → Same H H' → Q (.bl c) H'
structure FewC (c : Code) : Prop where
  parts : c.2.length ≤ 1000
  rows : ∀ b ∈ c.2, b.2.length ≤ 1000
  ats : ∀ b ∈ c.2, ∀ r ∈ b.2, (placesOf r).length ≤ 1000
def sp_p_part_fits (_ : PySem.W.Frag) : Sp := fun vs H Q _ => ∃ (pl : Int) (q : Addr) (v : V) (pvs : List V) (ps : List CPart) (b : CPart), vs = [.int pl, .ref q, v] ∧ H q = some (.tup pvs) ∧ AllAt (CPartAt H) pvs ps ∧ CPartAt H v b ∧ b.2.length ≤ 1000 ∧ (∀ r ∈ b.2, (placesOf r).length ≤ 1000) ∧
  ∀ (c : Bool) (H' : Hp), (c = true ↔ PartFits pl ps b) → Same H H' → Q (.bl c) H'
def sp_p_fits (_ : PySem.W.Frag) : Sp := fun vs H Q _ => ∃ (v : V) (c : Code), vs = [v] ∧ CodeAt H v c ∧ FewC c ∧ ∀ (b : Bool) (H' : Hp), (b = true ↔ Fits c) → Same H H' → Q (.bl b) H'
abbrev k_c_goal : Nat := 0
abbrev K_c_goal : Nat := 1
abbrev k_c_leads : Nat := 1
abbrev K_c_leads : Nat := 2
abbrev k_p_is_number_of : Nat := 0
abbrev K_p_is_number_of : Nat := 1
abbrev k_p_places_read : Nat := 0
abbrev K_p_places_read : Nat := 1
abbrev k_p_call_fits : Nat := 1
abbrev K_p_call_fits : Nat := 2
abbrev k_p_row_fits : Nat := 2
abbrev K_p_row_fits : Nat := 3
abbrev k_p_has_ring : Nat := 2
abbrev K_p_has_ring : Nat := 3
abbrev k_p_part_fits : Nat := 3
abbrev K_p_part_fits : Nat := 4
abbrev k_p_fits : Nat := 4
abbrev K_p_fits : Nat := 5
def MadeRow (pl n : Nat) (cs : List Nat) : CRow → Prop
  | .num z => 0 ≤ z ∧ z < 2 ^ 64
  | .op s i j => s ∈ signs ∧ (0 ≤ i ∧ i < pl) ∧ 0 ≤ j ∧ j < pl
  | .keep i => 0 ≤ i ∧ i < pl
  | .say i => 0 ≤ i ∧ i < pl
  | .jump to => 0 ≤ to ∧ to < n
  | .test i to => (0 ≤ i ∧ i < pl) ∧ 0 ≤ to ∧ to < n
  | .call k as => (0 ≤ k ∧ k < cs.length) ∧ (∀ c, cs[k.toNat]? = some c → as.length = c) ∧ ∀ i ∈ as, 0 ≤ i ∧ i < pl
  | .give i => 0 ≤ i ∧ i < pl
def sp_code_row (K : PySem.W.Frag) : Sp := fun vs H Q _ => ∃ (st cn : Addr) (pl n k : Nat) (cs : List Nat), vs = [.ref st, .int (pl : Nat), .int (n : Nat), .ref cn] ∧ Stt K H st k ∧ k ≤ 800000 ∧ 1 ≤ pl ∧ pl ≤ 16 ∧ 1 ≤ n ∧ n ≤ 1000 ∧ H cn = some (.lst (intsV cs)) ∧ cs ≠ [] ∧ cs.length ≤ 10 ∧ (∀ c ∈ cs, c ≤ 4) ∧ cn ≠ st ∧
  ∀ (v : V) (r : CRow) (k' : Nat) (H' : Hp), CRowAt H' v r → MadeRow pl n cs r → Stt K H' st k' → k' ≤ k + 10 → But st H H' → Q v H'
def SeqC (H : Hp) (a : Addr) (xs : List V) : Prop := H a = some (.lst xs) ∨ H a = some (.tup xs)
def sp_silent (_ : PySem.W.Frag) : Sp := fun vs H Q _ => ∃ (l : Addr) (n : Nat) (rvs : List V) (rs : List CRow), vs = [.ref l, .int (n : Nat)] ∧ SeqC H l rvs ∧ AllAt (CRowAt H) rvs rs ∧ n < rs.length ∧ Closed rs ∧
  ∀ (H' : Hp), Same H H' → Q (.bl (silC rs (itr (stpC rs) rs.length n))) H'
def sp_code_part (K : PySem.W.Frag) : Sp := fun vs H Q _ => ∃ (st cn : Addr) (pl m k : Nat) (cs : List Nat), vs = [.ref st, .int (pl : Nat), .ref cn, .int (m : Nat)] ∧ Stt K H st k ∧ k ≤ 700000 ∧ 1 ≤ pl ∧ pl ≤ 16 ∧ 1 ≤ m ∧ m ≤ 100 ∧ H cn = some (.lst (intsV cs)) ∧ cs ≠ [] ∧ cs.length ≤ 10 ∧ (∀ c ∈ cs, c ≤ 4) ∧ cn ≠ st ∧
  ∀ (p : Addr) (rvs : List V) (rs : List CRow) (k' : Nat) (H' : Hp), H' p = some (.tup rvs) → AllAt (CRowAt H') rvs rs → 1 ≤ rs.length → rs.length ≤ m → (∀ r ∈ rs, MadeRow pl rs.length cs r) → rs.getLast?.map cEnd = some true → NoRingC rs → Stt K H' st k' → k' ≤ k + 2000 → But st H H' → Q (.ref p) H'
structure MadeOk (m n : Nat) (c : Code) : Prop where
  fits : Fits c
  len : c.2.length = n
  rows : ∀ b ∈ c.2, 1 ≤ b.2.length ∧ b.2.length ≤ m
  ats : ∀ b ∈ c.2, ∀ r ∈ b.2, (placesOf r).length ≤ 4
def sp_code (K : PySem.W.Frag) : Sp := fun vs H Q _ => ∃ (st : Addr) (m n k : Nat), vs = [.ref st, .int (m : Nat), .int (n : Nat)] ∧ Stt K H st k ∧ k ≤ 600000 ∧ 1 ≤ m ∧ m ≤ 100 ∧ 1 ≤ n ∧ n ≤ 10 ∧
  ∀ (v : V) (c : Code) (k' : Nat) (H' : Hp), CodeAt H' v c → MadeOk m n c → Stt K H' st k' → k' ≤ k + 30000 → But st H H' → Q v H'
def sp_row_fits (_ : PySem.W.Frag) : Sp := fun vs H Q _ => ∃ (v w : V) (c : Code) (r : CRow) (n : Nat), vs = [v, w, .int (n : Nat)] ∧ CodeAt H v c ∧ CRowAt H w r ∧ (placesOf r).length ≤ 1000 ∧
  ∀ (b : Bool) (H' : Hp), (b = true ↔ RowFits c.1 c.2 n r) → Same H H' → Q (.bl b) H'
def sp_fits (_ : PySem.W.Frag) : Sp := fun vs H Q _ => ∃ (v : V) (c : Code), vs = [v] ∧ CodeAt H v c ∧ FewC c ∧ ∀ (b : Bool) (H' : Hp), (b = true ↔ Fits c) → Same H H' → Q (.bl b) H'
def sp_other (K : PySem.W.Frag) : Sp := fun vs H Q _ => ∃ (st : Addr) (a b : Int) (k : Nat), vs = [.ref st, .int a, .int b] ∧ Stt K H st k ∧ k ≤ 900000 ∧ ∀ (z : Int) (k' : Nat) (H' : Hp), Stt K H' st k' → k' ≤ k + 2 → But st H H' → Q (.int z) H'
def sp_row_changed (K : PySem.W.Frag) : Sp := fun vs H Q _ => ∃ (st : Addr) (v w : V) (c : Code) (r : CRow) (n k : Nat), vs = [.ref st, v, w, .int (n : Nat)] ∧ Stt K H st k ∧ k ≤ 800000 ∧ CodeAt H v c ∧ CRowAt H w r ∧ (placesOf r).length ≤ 4 ∧ 1 ≤ n ∧ n ≤ 1000 ∧
  ∀ (u : V) (r' : CRow) (k' : Nat) (H' : Hp), CRowAt H' u r' → (placesOf r').length ≤ 5 → Stt K H' st k' → k' ≤ k + 10 → But st H H' → Q u H'
def sp_rows_changed (K : PySem.W.Frag) : Sp := fun vs H Q _ => ∃ (st rt : Addr) (v : V) (c : Code) (rvs : List V) (rs : List CRow) (k : Nat), vs = [.ref st, v, .ref rt] ∧ Stt K H st k ∧ k ≤ 700000 ∧ CodeAt H v c ∧ H rt = some (.tup rvs) ∧ AllAt (CRowAt H) rvs rs ∧ 1 ≤ rs.length ∧ rs.length ≤ 100 ∧ (∀ r ∈ rs, (placesOf r).length ≤ 4) ∧
  ∀ (p : Addr) (rvs' : List V) (rs' : List CRow) (k' : Nat) (H' : Hp), H' p = some (.tup rvs') → AllAt (CRowAt H') rvs' rs' → rs'.length ≤ 100 → (∀ r ∈ rs', (placesOf r).length ≤ 5) → Stt K H' st k' → k' ≤ k + 20 → But st H H' → Q (.ref p) H'
def sp_changed (K : PySem.W.Frag) : Sp := fun vs H Q _ => ∃ (st : Addr) (v : V) (c : Code) (m n k : Nat), vs = [.ref st, v] ∧ Stt K H st k ∧ k ≤ 600000 ∧ CodeAt H v c ∧ MadeOk m n c ∧ m ≤ 100 ∧ 1 ≤ n ∧ n ≤ 10 ∧
  ∀ (u : V) (c' : Code) (k' : Nat) (H' : Hp), CodeAt H' u c' → FewC c' → Stt K H' st k' → k' ≤ k + 40 → But st H H' → Q u H'
def sp_chain_right (_ : PySem.W.Frag) : Sp := fun vs H Q _ => ∃ n to : Nat, vs = [.int (n : Nat), .int (to : Nat)] ∧ n ≤ 200 ∧ to ≤ n + 1 ∧ ∀ (H' : Hp), Same H H' → Q (.bl true) H'
abbrev k_code_row : Nat := 2
abbrev K_code_row : Nat := 3
abbrev k_silent : Nat := 0
abbrev K_silent : Nat := 1
abbrev k_code_part : Nat := 3
abbrev K_code_part : Nat := 4
abbrev k_code : Nat := 4
abbrev K_code : Nat := 5
abbrev k_row_fits : Nat := 0
abbrev K_row_fits : Nat := 1
abbrev k_fits : Nat := 1
abbrev K_fits : Nat := 2
abbrev k_other : Nat := 1
abbrev K_other : Nat := 2
abbrev k_row_changed : Nat := 2
abbrev K_row_changed : Nat := 3
abbrev k_rows_changed : Nat := 3
abbrev K_rows_changed : Nat := 4
abbrev k_changed : Nat := 4
abbrev K_changed : Nat := 5
abbrev k_chain_right : Nat := 5
abbrev K_chain_right : Nat := 6
abbrev k_law : Nat := 6
abbrev K_law : Nat := 7
end Bg
end
section
set_option Elab.async false
set_option linter.all false
set_option maxRecDepth 100000
set_option maxHeartbeats 4000000
namespace Bg
open PySem PySem.Spec PyProof.Rows L2
abbrev PS_draw : List Str := ["_law_state", "_law_many"]
abbrev N_draw : List Str := ["_law_state", "_law_many", "_law_script", "_law_k", "_law_digit", "_law_cell"]
def t_draw_1 (K : PySem.W.Frag) : TS := (tRet (tOp (rMod2) (tOp (rMod2) (tOp (rTimes K) (tVar 5) (tVar 5)) (tC (.int 1999999973))) (tVar 1)))
def t_draw_2 (K : PySem.W.Frag) : TS := (tSeq (tAsg (tOp (rMod2) (tOp (rTimes K) (tVar 5) (tVar 5)) (tC (.int 2147483587))) (gName 5)) (t_draw_1 K))
def t_draw_3 (K : PySem.W.Frag) : TS := (tSeq (tAsg (tOp (rMod2) (tOp (rTimes K) (tOp (rMod2) (tVar 5) (tC (.int 2147483629))) (tOp (rPlus K) (tVar 3) (tC (.int 3)))) (tC (.int 2147483629))) (gName 5)) (t_draw_2 K))
def t_draw_4 (K : PySem.W.Frag) : TS := (tSeq (tIfS (tTest (tOp (rGt2) (tCB (rLen K) (tCons (tVar 2) tNil)) (tC (.int 0)))) (tAsg (tOp (rPlus K) (tVar 5) (tOp (rTimes K) (tOp (rIx K) (tVar 2) (tOp (rMod2) (tOp (rTimes K) (tVar 3) (tC (.int 7))) (tCB (rLen K) (tCons (tVar 2) tNil)))) (tOp (rPlus K) (tC (.int 48271)) (tVar 3)))) (gName 5)) tNext) (t_draw_3 K))
def t_draw_5 (K : PySem.W.Frag) : TS := (tSeq (tAsg (tOp (rPlus K) (tOp (rTimes K) (tVar 3) (tC (.int 7919))) (tC (.int 5))) (gName 5)) (t_draw_4 K))
def t_draw_6 (K : PySem.W.Frag) : TS := (tRet (tVar 4))
def t_draw_7 (K : PySem.W.Frag) : TS := (tIfS (tTest (tOp ((rIn K true)) (tOp (rIx K) (tVar 0) (tC (.int 2))) (tTup (tCons (tC (.int 0)) (tCons (tUn rNeg (tC (.int 1))) tNil))))) (tSeq (tAsg (tCB (rDivmod) (tCons (tOp (rIx K) (tVar 0) (tC (.int 2))) (tCons (tVar 1) tNil))) (gTup K 2 (gCons (gSub (tVar 0) (tC (.int 2)) rSetL) (gCons (gName 4) gNil)))) (t_draw_6 K)) tNext)
def t_draw_8 (K : PySem.W.Frag) : TS := (tSeq (tIfS (tAnd (tTest (tOp (rLt2) (tOp (rPlus K) (tOp (rFdiv2) (tVar 3) (tC (.int 12))) (tC (.int 1))) (tCB (rLen K) (tCons (tVar 2) tNil)))) (tTest (tOp (rEqG K) (tOp (rMod2) (tOp (rIx K) (tVar 2) (tC (.int 0))) (tC (.int 2))) (tC (.int 1))))) (tSeq (tIfS (tTest (tOp (rEqG K) (tOp (rMod2) (tVar 3) (tC (.int 12))) (tC (.int 0)))) (tAsg (tOp (rIx K) (tVar 2) (tOp (rPlus K) (tOp (rFdiv2) (tVar 3) (tC (.int 12))) (tC (.int 1)))) (gSub (tVar 0) (tC (.int 2)) rSetL)) tNext) (t_draw_7 K)) (tIfS (tTest (tOp (rLt2) (tVar 3) (tCB (rLen K) (tCons (tVar 2) tNil)))) (tRet (tOp (rMod2) (tOp (rIx K) (tVar 2) (tVar 3)) (tVar 1))) tNext)) (t_draw_5 K))
def t_draw_9 (K : PySem.W.Frag) : TS := (tSeq (tAsg (tOp (rPlus K) (tVar 3) (tC (.int 1))) (gSub (tVar 0) (tC (.int 1)) rSetL)) (t_draw_8 K))
def t_draw (K : PySem.W.Frag) : TS := (tSeq (tAsg (tSl (rSl K) (tVar 0) tNoPart (tPart (tC (.int 2)))) (gTupL K 2 (gCons (gName 2) (gCons (gName 3) gNil)))) (t_draw_9 K))
abbrev PS_worth : List Str := ["_law_state"]
abbrev N_worth : List Str := ["_law_state"]
def t_worth_1 (K : PySem.W.Frag) : TS := (tRet (tOp (rIx K) (tLst (tCons (tC (.int 0)) (tCons (tC (.int 1)) (tCons (tOp (rSub2) (tOp (rSub2) (tOp (rPow2) (tC (.int 2)) (tC (.int 64))) (tC (.int 1))) (tCall (sp_draw K) [] E0 (tCons (tVar 0) (tCons (tC (.int 3)) tNil)))) (tCons (tCall (sp_draw K) [] E0 (tCons (tVar 0) (tCons (tC (.int 12)) tNil))) tNil))))) (tCall (sp_draw K) [] E0 (tCons (tVar 0) (tCons (tC (.int 4)) tNil)))))
def t_worth (K : PySem.W.Frag) : TS := (tSeq (tIfS (tTest (tOp (rEqG K) (tCall (sp_draw K) [] E0 (tCons (tVar 0) (tCons (tC (.int 2)) tNil))) (tC (.int 0)))) (tRet (tOp (rPlus K) (tOp (rTimes K) (tCall (sp_draw K) [] E0 (tCons (tVar 0) (tCons (tOp (rPow2) (tC (.int 2)) (tC (.int 31))) tNil))) (tOp (rPow2) (tC (.int 2)) (tC (.int 33)))) (tCall (sp_draw K) [] E0 (tCons (tVar 0) (tCons (tOp (rPow2) (tC (.int 2)) (tC (.int 31))) tNil))))) tNext) (t_worth_1 K))
end Bg
end
section
set_option Elab.async false
set_option linter.all false
set_option maxRecDepth 100000
set_option maxHeartbeats 4000000
set_option autoImplicit true
set_option relaxedAutoImplicit true
namespace L2
open PySem PySem.Spec PyProof.Rows
structure QE (X : Cx) (e : Expr) (t : TE) : Prop where
  up : PE X e t
structure QT (X : Cx) (e : Expr) (t : TT) : Prop where
  up : PT X e t
structure QW (X : Cx) (e : Expr) (t : TT) : Prop where
  up : PW X e t
structure QA (X : Cx) (e : List Expr) (t : TA) : Prop where
  up : PA X e t
structure QS (X : Cx) (e : Stmt) (t : TS) : Prop where
  up : PS X e t
structure QSs (X : Cx) (e : List Stmt) (t : TS) : Prop where
  up : PSs X e t
structure QG (X : Cx) (e : Expr) (t : TG) : Prop where
  up : PG X e t
structure QGs (X : Cx) (e : List Expr) (t : TGs) : Prop where
  up : PGs X e t
structure QI (X : Cx) (a b : Expr) (t : TI) : Prop where
  up : PI X a b t
structure QO (X : Cx) (e : Option Expr) (t : TO) : Prop where
  up : PO X e t
structure QIfs (X : Cx) (e : List Expr) (t : TT) : Prop where
  up : PIfs X e t
theorem qv (i : Nat) {x : Str} {pos : Pos} (hN : X.N[i]? = some x := by rfl) (hv : Vis X.env.scope x := by first | exact Or.inl rfl | exact Or.inr (Or.inl rfl) | exact Or.inr (Or.inr rfl)) (hd : (x == ("__debug__" : Str)) = false := by decide) (hcd : (x == ("__classdict__" : Str)) = false := by decide) : QE X (.Name x pos) (tVar i) :=
  ⟨pv i hN hv hd hcd⟩
theorem qe_int {i j pos} : QE X (.Constant (.int i) j pos) (tC (.int i)) :=
  ⟨pe_int ⟩
theorem qe_bl {b j pos} : QE X (.Constant (.bool b) j pos) (tC (.bl b)) :=
  ⟨pe_bl ⟩
theorem qe_non {j pos} : QE X (.Constant .none j pos) (tC .non) :=
  ⟨pe_non ⟩
theorem qe_str {x j pos} : QE X (.Constant (.str x) j pos) (tC (.str x)) :=
  ⟨pe_str ⟩
theorem qe_op {op : Operator} {r : R2} (ho : OpR X (binaryOp op) r) (ha : QE X a ta) (hb : QE X b tb) : QE X (.BinOp a op b pos) (tOp r ta tb) :=
  ⟨pe_op ho ha.up hb.up⟩
theorem qe_un {op : UnaryOp} {r : V → Hp → VK → Prop} (ho : UnR X (unaryOp op) r) (ha : QE X a ta) : QE X (.UnaryOp op a pos) (tUn r ta) :=
  ⟨pe_un ho ha.up⟩
theorem qe_not (ha : QE X a ta) : QE X (.UnaryOp .Not a pos) (tNotV ta) :=
  ⟨pe_not ha.up⟩
theorem qe_cmpR {op : CmpOp} {r : R2} (ho : OpR X (compareOp op) r) (ha : QE X a ta) (hb : QE X b tb) (hm : behindInMarks op b = false) : QE X (.Compare a [op] [b] pos) (tOp r ta tb) :=
  ⟨pe_cmpR ho ha.up hb.up hm⟩
theorem qt_chain {op op' : CmpOp} {r r' : R2} (ho : OpR X (compareOp op) r) (ho' : OpR X (compareOp op') r') (ha : QE X a ta) (hb : QE X b tb) (hc : QE X c tc) (hm : lastMarks [op, op'] [b, c] = false := by with_unfolding_all rfl) : QT X (.Compare a [op, op'] [b, c] pos) (tTest (tChain r r' ta tb tc)) :=
  ⟨pt_chain ho ho' ha.up hb.up hc.up hm⟩
theorem qe_and {rest : List Expr} (ha : QE X a ta) (hb : QE X (.BoolOp .And (b :: rest) pos) tb) : QE X (.BoolOp .And (a :: b :: rest) pos) (tAndV ta tb) :=
  ⟨pe_and ha.up hb.up⟩
theorem qe_or {rest : List Expr} (ha : QE X a ta) (hb : QE X (.BoolOp .Or (b :: rest) pos) tb) : QE X (.BoolOp .Or (a :: b :: rest) pos) (tOrV ta tb) :=
  ⟨pe_or ha.up hb.up⟩
theorem qe_one {op} {t : TE} (h : QE X a t) : QE X (.BoolOp op [a] pos) t :=
  ⟨pe_one h.up⟩
theorem qe_slice {lo hi : Option Expr} {r : V → Option Int → Option Int → Hp → VK → Prop} (hr : SlR X r) (he : QE X e te) (hl : QO X lo tl) (hu : QO X hi th) : QE X (.Subscript e (.Slice lo hi none p2) pos) (tSl r te tl th) :=
  ⟨pe_slice hr he.up hl.up hu.up⟩
theorem qe_ix {r : R2} (hr : IxR X r) (ha : QE X a ta) (hb : QE X b tb) (hs : PlainIx b) : QE X (.Subscript a b pos) (tOp r ta tb) :=
  ⟨pe_ix hr ha.up hb.up hs⟩
theorem qe_tup {x1} (h : QA X es t) : QE X (.Tuple es x1 pos) (tTup t) :=
  ⟨pe_tup h.up⟩
theorem qe_lst (h : QA X es t) : QE X (.List es pos) (tLst t) :=
  ⟨pe_lst h.up⟩
theorem qe_callB {id : String} (hc : CallR X (.builtin id) r) (hg : Gl X x) (hm : X.mg x = none) (hv : bootBuiltins x = some (.builtin id)) (ha : QA X (e :: es) t) (hn : x ≠ "__name__" := by decide) (hdb : (x == ("__debug__" : Str)) = false := by decide) (he : starEach (e :: es) X.env = (false, eval e X.env) :: starEach es X.env := by rfl) (hpl : (backTo pos (starEach es X.env)).any (·.1) = false := by rfl) : QE X (.Call (.Name x p) (e :: es) [] pos) (tCB r t) :=
  ⟨pe_callB hc hg hm hv ha.up hn hdb he hpl⟩
theorem qe_callTy (hc : CallR X (.type T) r) (hg : Gl X x) (hm : X.mg x = none) (hv : bootBuiltins x = some (.type T)) (ha : QA X (e :: es) t) (hn : x ≠ "__name__" := by decide) (hdb : (x == ("__debug__" : Str)) = false := by decide) (he : starEach (e :: es) X.env = (false, eval e X.env) :: starEach es X.env := by rfl) (hpl : (backTo pos (starEach es X.env)).any (·.1) = false := by rfl) : QE X (.Call (.Name x p) (e :: es) [] pos) (tCB r t) :=
  ⟨pe_callTy hc hg hm hv ha.up hn hdb he hpl⟩
theorem qe_fn {X : Cx} {x : Str} {ps : List Str} {k : Nat} {sp : Sp} {e : Expr} {es : List Expr} {t : TA} {p pos : Pos} (c : Callee X.prog X.w X.K X.mg X.base x ps k sp) (hr : Room k X.A) (hg : Gl X x) (ha : QA X (e :: es) t) (hdb : (x == ("__debug__" : Str)) = false := by decide) (he : starEach (e :: es) X.env = (false, eval e X.env) :: starEach es X.env := by rfl) (hpl : (backTo pos (starEach es X.env)).any (·.1) = false := by rfl) : QE X (.Call (.Name x p) (e :: es) [] pos) (tCall sp [] E0 t) :=
  ⟨pe_fn c hr hg ha.up hdb he hpl⟩
theorem qe_comp {wi : TI} (ok : CompOk sc N scope NY js) (hsc : X.env.scope = sc) (hN : X.N = N) (hk : NY.length = N.length + k) (hc : X.calm = true) (hit : QI X target iter wi) (hg : ∀ cl C s₀ H₀ fp, QG (cxComp X NY scope cl C s₀ H₀ fp) target g) (hi : ∀ cl C s₀ H₀ fp, QIfs (cxComp X NY scope cl C s₀ H₀ fp) ifs tc) (he : ∀ cl C s₀ H₀ fp, QE (cxComp X NY scope cl C s₀ H₀ fp) elt te) (hs : ∀ x, foldedSetIterable iter X.env x = pure x := by intro _; rfl) : QE X (.ListComp elt [⟨target, iter, ifs, 0⟩] scope pos) (tComp js k wi g tc te) :=
  ⟨pe_comp ok hsc hN hk hc hit.up (fun cl C s₀ H₀ fp => (hg cl C s₀ H₀ fp).up) (fun cl C s₀ H₀ fp => (hi cl C s₀ H₀ fp).up) (fun cl C s₀ H₀ fp => (he cl C s₀ H₀ fp).up) hs⟩
theorem qs_comp {wi : TI} {i : Nat} {y : Str} {py spos : Pos} (ok : CompOk sc N scope NY js) (hsc : X.env.scope = sc) (hN : X.N = N) (hk : NY.length = N.length + k) (hc : X.calm = true) (hit : QI X target iter wi) (hg : ∀ cl C s₀ H₀ fp, QG (cxComp X NY scope cl C s₀ H₀ fp) target g) (hi : ∀ cl C s₀ H₀ fp, QIfs (cxComp X NY scope cl C s₀ H₀ fp) ifs tc) (he : ∀ cl C s₀ H₀ fp, QE (cxComp X NY scope cl C s₀ H₀ fp) elt te) (nd : X.N.Nodup) (hy : X.N[i]? = some y) (hl : Loc X.env.scope y) (hsw : swapsWith (.ListComp elt [⟨target, iter, ifs, 0⟩] scope pos) (some (.Name y py)) spos.line X.env = pure true) (hs : ∀ x, foldedSetIterable iter X.env x = pure x := by intro _; rfl) (hf : X.fn y = true ∨ X.env.scope.names.lookup y = some .local := by first | exact .inl rfl | exact .inr rfl | assumption) : QS X (.Assign [.Name y py] (.ListComp elt [⟨target, iter, ifs, 0⟩] scope pos) spos) (tAsg (tComp js k wi g tc te) (gName i)) :=
  ⟨ps_comp ok hsc hN hk hc hit.up (fun cl C s₀ H₀ fp => (hg cl C s₀ H₀ fp).up) (fun cl C s₀ H₀ fp => (hi cl C s₀ H₀ fp).up) (fun cl C s₀ H₀ fp => (he cl C s₀ H₀ fp).up) nd hy hl hsw hs hf⟩
theorem qo_none  : QO X none tNoPart :=
  ⟨po_none ⟩
theorem qo_some (h : QE X e te) : QO X (some e) (tPart te) :=
  ⟨po_some h.up⟩
theorem qa_nil  : QA X [] tNil :=
  ⟨pa_nil ⟩
theorem qa_cons (ha : QE X e te) (hr : QA X es t) (hs : starEach (e :: es) X.env = (false, eval e X.env) :: starEach es X.env := by rfl) : QA X (e :: es) (tCons te t) :=
  ⟨pa_cons ha.up hr.up hs⟩
theorem qt_cmpR {op : CmpOp} {r : R2} (ho : OpR X (compareOp op) r) (ha : QE X a ta) (hb : QE X b tb) (hm : behindInMarks op b = false) : QT X (.Compare a [op] [b] pos) (tTest (tOp r ta tb)) :=
  ⟨pt_cmpR ho ha.up hb.up hm⟩
theorem qt_not (ha : QT X a tA) : QT X (.UnaryOp .Not a pos) (tNot tA) :=
  ⟨pt_not ha.up⟩
theorem qw_and {rest : List Expr} (ha : QT X a tA) (hb : QW X (.BoolOp .And (b :: rest) pos) tB') : QW X (.BoolOp .And (a :: b :: rest) pos) (tAnd tA tB') :=
  ⟨pw_and ha.up hb.up⟩
theorem qw_and1 (ha : QT X a tA) : QW X (.BoolOp .And [a] pos) tA :=
  ⟨pw_and1 ha.up⟩
theorem qw_or {rest : List Expr} (ha : QT X a tA) (hb : QW X (.BoolOp .Or (b :: rest) pos) tB') : QW X (.BoolOp .Or (a :: b :: rest) pos) (tOr tA tB') :=
  ⟨pw_or ha.up hb.up⟩
theorem qw_or1 (ha : QT X a tA) : QW X (.BoolOp .Or [a] pos) tA :=
  ⟨pw_or1 ha.up⟩
theorem QW.pt {X : Cx} {e : Expr} {t : TT} (h : QW X e t) : QT X e t :=
  ⟨PW.pt h.up⟩
theorem qt_val {e : Expr} {t : TE} (h : QE X e t) (he : ∀ whole, isTrue e X.env whole = (do let v ← whole; standAt e.pos; holding [v] (truthy v)) := by intro _; rfl) : QT X e (tB t) :=
  ⟨pt_val h.up he⟩
theorem qi_range1 {a : Expr} {ta : TA} {p pos : Pos} (hg : Gl X "range") (hm : X.mg "range" = none) (ha : QA X [a] ta) (hs : starEach [a] X.env = [(false, eval a X.env)] := by rfl) : QI X tg (.Call (.Name "range" p) [a] [] pos) (iRng1 ta) :=
  ⟨pi_range1 hg hm ha.up hs⟩
theorem qi_seq {tg l : Expr} {tl : TE} (hl : QE X l tl) : QI X tg l (iSeq X.K tl) :=
  ⟨pi_seq hl.up⟩
theorem qg_name {i : Nat} {x : Str} (hN : X.N.Nodup) (hi : X.N[i]? = some x) (hx : Loc X.env.scope x) (hf : X.fn x = true ∨ X.env.scope.names.lookup x = some .local := by first | exact .inl rfl | exact .inr rfl | assumption) : QG X (.Name x pos) (gName i) :=
  ⟨pg_name hN hi hx hf⟩
theorem qg_tup {es : List Expr} {k : Nat} {t : TGs} {n : Nat} (hc : X.calm = true) (h : QGs X es t) (hn : (assignEach es X.env).length = n := by rfl) (hst : (assignEach es X.env).findIdx? (·.1) = none := by rfl) : QG X (.Tuple es k pos) (gTup X.K n t) :=
  ⟨pg_tup hc h.up hn hst⟩
theorem qg_tupL {es : List Expr} {k : Nat} {t : TGs} {n : Nat} (hc : X.calm = true) (h : QGs X es t) (hn : (assignEach es X.env).length = n := by rfl) (hst : (assignEach es X.env).findIdx? (·.1) = none := by rfl) : QG X (.Tuple es k pos) (gTupL X.K n t) :=
  ⟨pg_tupL hc h.up hn hst⟩
theorem qgs_nil  : QGs X [] gNil :=
  ⟨pgs_nil ⟩
theorem qgs_cons {e : Expr} {es : List Expr} {t : TG} {u : TGs} (h1 : QG X e t) (h2 : QGs X es u) (hs : (assignEach (e :: es) X.env).map (·.2) = assign e X.env :: (assignEach es X.env).map (·.2) := by rfl) : QGs X (e :: es) (gCons t u) :=
  ⟨pgs_cons h1.up h2.up hs⟩
theorem qg_sub {o i : Expr} {to ti : TE} {t : TSet} (ho : QE X o to) (hi : QE X i ti) (hs : PSet X t) (ha : ∀ v, assign (.Subscript o i pos) X.env v = (do
      let ov ← holding [v] (eval o X.env)
      let iv ← holding [v, ov] (eval i X.env)
      standAt pos
      holding [v, ov, iv] (setItem ov iv v)
      release [v, ov, iv] []) := by intro _; rfl) : QG X (.Subscript o i pos) (gSub to ti t) :=
  ⟨pg_sub ho.up hi.up hs ha⟩
theorem qs_set {i : Nat} {x : Str} {e : Expr} {te : TE} {pos' : Pos} (hN : X.N.Nodup) (hi : X.N[i]? = some x) (hx : Loc X.env.scope x) (he : QE X e te) (hs : swapsWith e (some (.Name x pos')) pos.line X.env = pure false := by rfl) (hf : X.fn x = true ∨ X.env.scope.names.lookup x = some .local := by first | exact .inl rfl | exact .inr rfl | assumption) : QS X (.Assign [.Name x pos'] e pos) (tAsg te (gName i)) :=
  ⟨ps_set hN hi hx he.up hs hf⟩
theorem qs_asg {tg e : Expr} {te : TE} {g : TG} (he : QE X e te) (hg : QG X tg g) (hs : swapsWithSole [tg] e pos.line X.env = pure false := by rfl) (hw : swappedStores [tg] e X.env = pure none := by rfl) (h1 : (assignEach [tg] X.env).map (·.2) = [assign tg X.env] := by rfl) : QS X (.Assign [tg] e pos) (tAsg te g) :=
  ⟨ps_asg he.up hg.up hs hw h1⟩
theorem qs_expr (he : QE X e te) (hs : swapsWith e none pos.line X.env = pure false := by rfl) : QS X (.Expr e pos) (tDrop te) :=
  ⟨ps_expr he.up hs⟩
theorem qs_ret (he : QE X e te) : QS X (.Return (some e) pos) (tRet te) :=
  ⟨ps_ret he.up⟩
theorem qs_if {c : Expr} {a b : List Stmt} {tc : TT} (hc : QT X c tc) (ha : QSs X a t) (hb : QSs X b u) : QS X (.If c a b pos) (tIfS tc t u) :=
  ⟨ps_if hc.up ha.up hb.up⟩
theorem qs_while {c : Expr} {body : List Stmt} {tc : TT} {tb : TS} (hp : PassesOwn (model X.prog X.w) X.A X.env X.xe) (hc : QT X c tc) (hb : QSs X body tb) : QS X (.While c body [] pos) (tWhile tc tb) :=
  ⟨ps_while hp hc.up hb.up⟩
theorem qs_for {iter : Expr} {body : List Stmt} {wi : TI} {g : TG} {tb : TS} {pos : Pos} (hp : PassesOwn (model X.prog X.w) X.A X.env X.xe) (hc : X.calm = true) (hi : QI X tg iter wi) (hg : QG X tg g) (hb : QSs X body tb) (hs : ∀ x, foldedSetIterable iter X.env x = pure x := by intro _; rfl) : QS X (.For tg iter body [] pos) (tFor wi g tb) :=
  ⟨ps_for hp hc hi.up hg.up hb.up hs⟩
theorem qss_cons {st : Stmt} {rest : List Stmt} (h1 : QS X st t) (h2 : QSs X rest u) : QSs X (st :: rest) (tSeq t u) :=
  ⟨pss_cons h1.up h2.up⟩
theorem qss_one {st : Stmt} (h1 : QS X st t) : QSs X [st] t :=
  ⟨pss_one h1.up⟩
theorem qss_nil  : QSs X [] tNext :=
  ⟨pss_nil ⟩
theorem qe_bltn {x : Str} {v : V} {u : Value} {pos : Pos} (hg : Gl X x) (hm : X.mg x = none) (hv : bootBuiltins x = some u) (r : RelV v u) (hn : x ≠ "__name__" := by decide) (hd : (x == ("__debug__" : Str)) = false := by decide) : QE X (.Name x pos) (tC v) :=
  ⟨pe_bltn hg hm hv r hn hd⟩
theorem qif_nil {X : Cx} : QIfs X [] tYes :=
  ⟨pif_nil ⟩
theorem qif_one {X : Cx} {c : Expr} {t : TT} (h : QT X c t) : QIfs X [c] t :=
  ⟨pif_one h.up⟩
end L2
end
section
set_option Elab.async false
set_option linter.all false
set_option maxRecDepth 100000
namespace L2
open PySem PySem.Spec PyProof.Rows
section
variable {κ : Type} [DecidableEq κ]
def valV (kvs : List (κ × V)) (k : κ) : Option V := (kvs.find? fun kv => decide (kv.1 = k)).map (·.2)
def putK (kvs : List (κ × V)) (k : κ) (v : V) : List (κ × V) :=
  if (kvs.any fun kv => decide (kv.1 = k)) = true then kvs.map (fun kv => if kv.1 = k then (kv.1, v) else kv) else kvs ++ [(k, v)]
theorem valV_pos {p : κ × V} {r : List (κ × V)} {k : κ} (e : p.1 = k) : valV (p :: r) k = some p.2 := by simp [valV, List.find?_cons, e]
theorem valV_neg {p : κ × V} {r : List (κ × V)} {k : κ} (e : ¬ p.1 = k) : valV (p :: r) k = valV r k := by simp [valV, List.find?_cons, e]
theorem valV_any (k : κ) : ∀ kvs : List (κ × V), (kvs.any fun kv => decide (kv.1 = k)) = (valV kvs k).isSome
  | [] => rfl
  | p :: r => by
    rw [List.any_cons]
    by_cases e : p.1 = k
    · simp only [valV_pos e, decide_eq_true e, Bool.true_or, Option.isSome_some]
    · rw [valV_neg e, decide_eq_false e, Bool.false_or]; exact valV_any k r
theorem length_putK (kvs : List (κ × V)) (k : κ) (v : V) : (putK kvs k v).length ≤ kvs.length + 1 := by
  unfold putK
  split
  · rw [List.length_map]; omega
  · rw [List.length_append, List.length_cons, List.length_nil]; omega
theorem putK_new {kvs : List (κ × V)} {k : κ} (v : V) (h : valV kvs k = none) : putK kvs k v = kvs ++ [(k, v)] := by
  unfold putK
  rw [valV_any, h]
  exact if_neg (by decide)
theorem RelO.isSome_eq {o : Option V} {u : Option Value} (r : RelO o u) : o.isSome = u.isSome := by
  cases o with
  | none => cases u with
    | none => rfl
    | some _ => exact (show False from r).elim
  | some _ => cases u with
    | none => exact (show False from r).elim
    | some _ => rfl
theorem KV.val {kvs : List (κ × V)} {vs : List (κ × Value)} (r : KV kvs vs) (k : κ) : RelO (valV kvs k) (valueAt vs k) := by
  unfold KV at r
  induction r with
  | nil => exact True.intro
  | @cons p q ps qs h t ih =>
    obtain ⟨h1, h2⟩ := h
    by_cases e : p.1 = k
    · have e' : q.1 = k := h1.symm.trans e
      have b : valueAt (q :: qs) k = some q.2 := by simp [valueAt, List.find?_cons, e']
      rw [valV_pos e, b]; exact h2
    · have e' : ¬ q.1 = k := fun z => e (h1.trans z)
      have b : valueAt (q :: qs) k = valueAt qs k := by simp [valueAt, List.find?_cons, e']
      rw [valV_neg e, b]; exact ih
theorem KV.any {kvs : List (κ × V)} {vs : List (κ × Value)} (r : KV kvs vs) (k : κ) : (kvs.any fun kv => decide (kv.1 = k)) = vs.any fun kv => decide (kv.1 = k) := by
  unfold KV at r
  induction r with
  | nil => rfl
  | cons h t ih => rw [List.any_cons, List.any_cons, ih, h.1]
theorem KV.repl {kvs : List (κ × V)} {vs : List (κ × Value)} (r : KV kvs vs) (k : κ) {y : V} {u : Value} (ry : RelV y u) :
    KV (kvs.map fun kv => if kv.1 = k then (kv.1, y) else kv) (vs.map fun kv => if kv.1 = k then (kv.1, u) else kv) := by
  unfold KV at r ⊢
  induction r with
  | nil => exact .nil
  | @cons p q ps qs h t ih =>
    rw [List.map_cons, List.map_cons]
    refine .cons ?_ ih
    obtain ⟨h1, h2⟩ := h
    by_cases e : p.1 = k
    · rw [if_pos e, if_pos (h1.symm.trans e)]; exact ⟨h1, ry⟩
    · rw [if_neg e, if_neg (fun z => e (h1.trans z))]; exact ⟨h1, h2⟩
theorem KV.put {kvs : List (κ × V)} {vs : List (κ × Value)} (r : KV kvs vs) (k : κ) {y : V} {u : Value} (ry : RelV y u) : KV (putK kvs k y) (stored vs k u) := by
  unfold putK stored
  rw [r.any k]
  by_cases e : (vs.any fun kv => decide (kv.1 = k)) = true
  · rw [if_pos e, if_pos e]; exact r.repl k ry
  · rw [if_neg e, if_neg e]; exact Paired.snoc r ⟨rfl, ry⟩
theorem KV.length {kvs : List (κ × V)} {vs : List (κ × Value)} (r : KV kvs vs) : kvs.length = vs.length := Paired.length r
end
theorem kV_is {P : Program} {w : World} {k : Key} {u : Value} (r : RelV (kV k) u) : (mixKind P w).is k u = true := by
  cases k with
  | inl i => obtain ⟨t, e⟩ := (show ∃ t, u = Value.int i t from r); subst e; exact mixKind_int P w i t
  | inr x => obtain ⟨t, e⟩ := (show ∃ t, u = Value.str x t from r); subst e; exact mixKind_str P w x t
theorem items_are {P : Program} {w : World} : ∀ {ks : List Key} {us : List Value}, Vals (ks.map kV) us → ItemsAre (mixKind P w) ks us
  | [], _, r => by rw [List.map_nil] at r; cases r; exact .nil
  | k :: ks, _, r => by
    rw [List.map_cons] at r
    cases r with
    | cons h t => exact .cons (kV_is h) (items_are t)
abbrev KT (H : Hp) : List (List Key × V) → List (List Key × Addr × Value) → Prop := Paired fun p q => p.1 = q.1 ∧ H q.2.1 = some (.tup (p.1.map kV)) ∧ RelV p.2 q.2.2
theorem KT.val {H : Hp} {kvs : List (List Key × V)} {xs : List (List Key × Addr × Value)} (r : KT H kvs xs) (k : List Key) : RelO (valV kvs k) ((atKey xs k).map (·.2)) := by
  induction r with
  | nil => exact True.intro
  | @cons p q ps qs h t ih =>
    obtain ⟨h1, _, h2⟩ := h
    by_cases e : p.1 = k
    · have e' : q.1 = k := h1.symm.trans e
      have b : atKey (q :: qs) k = some q.2 := by simp [atKey, List.find?_cons, e']
      rw [valV_pos e, b]; exact h2
    · have e' : ¬ q.1 = k := fun z => e (h1.trans z)
      have b : atKey (q :: qs) k = atKey qs k := by simp [atKey, List.find?_cons, e']
      rw [valV_neg e, b]; exact ih
theorem KT.repl {H : Hp} {kvs : List (List Key × V)} {xs : List (List Key × Addr × Value)} (r : KT H kvs xs) (k : List Key) {y : V} {u : Value} (ry : RelV y u) :
    KT H (kvs.map fun kv => if kv.1 = k then (kv.1, y) else kv) (xs.map (putAt k u)) := by
  induction r with
  | nil => exact .nil
  | @cons p q ps qs h t ih =>
    rw [List.map_cons, List.map_cons]
    refine .cons ?_ ih
    obtain ⟨h1, h2, h3⟩ := h
    unfold putAt
    by_cases e : p.1 = k
    · rw [if_pos e, if_pos (h1.symm.trans e)]; exact ⟨h1, h2, ry⟩
    · rw [if_neg e, if_neg (fun z => e (h1.trans z))]; exact ⟨h1, h2, h3⟩
theorem KT.put {H : Hp} {kvs : List (List Key × V)} {xs : List (List Key × Addr × Value)} (r : KT H kvs xs) (k : List Key) {b : Addr} {y : V} {u : Value} (hb : H b = some (.tup (k.map kV))) (ry : RelV y u) :
    KT H (putK kvs k y) (storedH xs k b u) := by
  have e : (kvs.any fun kv => decide (kv.1 = k)) = (atKey xs k).isSome := by
    rw [valV_any, (r.val k).isSome_eq, Option.isSome_map]
  unfold putK storedH
  rw [e]
  by_cases q : (atKey xs k).isSome = true
  · rw [if_pos q, if_pos q]; exact r.repl k ry
  · rw [if_neg q, if_neg q]; exact Paired.snoc r ⟨rfl, hb, ry⟩
theorem KT.keeps {H H' : Hp} {kvs : List (List Key × V)} {xs : List (List Key × Addr × Value)} (r : KT H kvs xs) (ht : ∀ b ys, H b = some (.tup ys) → H' b = some (.tup ys)) : KT H' kvs xs :=
  Paired.mapP r fun _ _ z => ⟨z.1, ht _ _ z.2.1, z.2.2⟩
section
variable {P : Program} {w : World} {H : Hp} {h : Heap} {a : Addr}
theorem rd_of {u : HO} (ok : HOk P w H h) (e : Rd H a u) : ObjOk P w H h a u := e.ok ok
theorem dk_rd {kvs : List (Key × V)} (ok : HOk P w H h) (e : Rd H a (.dK kvs)) : kvs.length ≤ sizeLine ∧ (a == sysModules) = false ∧ ∃ vs, KV kvs vs ∧ h.DictOf (mixKind P w) a vs :=
  show ObjOk P w H h a (.dK kvs) from rd_of ok e
theorem dk_of {kvs : List (Key × V)} (ok : HOk P w H h) (e : H a = some (.dK kvs)) : kvs.length ≤ sizeLine ∧ (a == sysModules) = false ∧ ∃ vs, KV kvs vs ∧ h.DictOf (mixKind P w) a vs := dk_rd ok (.inl e)
theorem key_of {ks : List Key} (ok : HOk P w H h) (e : H a = some (.tup (ks.map kV))) : (tupleKind (mixKind P w)).is h ks a := by
  obtain ⟨_, its, r, o, h1, h2, n, h3⟩ := (show ObjOk P w H h a (.tup (ks.map kV)) from ok a _ e)
  exact ⟨o, its.toArray, n, h1, h2, h3, by simpa using items_are r⟩
theorem dt_rd {kvs : List (List Key × V)} (ok : HOk P w H h) (e : Rd H a (.dT kvs)) : kvs.length ≤ sizeLine ∧ (a == sysModules) = false ∧
    ∃ xs, KT H kvs xs ∧ h.DictOfH (tupleKind (mixKind P w)) a xs := by
  obtain ⟨z, y, xs, r, o, es, ep, h1, h2, h3, h4, h5⟩ := (show ObjOk P w H h a (.dT kvs) from rd_of ok e)
  refine ⟨z, y, xs, r, o, es, ep, h1, h2, h3, h4, fun x hx => ?_, h5⟩
  have all : ∀ {l : List (List Key × V)} {m : List (List Key × Addr × Value)}, KT H l m → ∀ x ∈ m, (tupleKind (mixKind P w)).is h x.1 x.2.1 := by
    intro l m q
    induction q with
    | nil => intro x hx; exact nomatch hx
    | @cons p q ps qs hq t ih =>
      intro x hx
      rcases List.mem_cons.mp hx with e | hx
      · subst e
        exact key_of ok (by rw [← hq.1]; exact hq.2.1)
      · exact ih x hx
  exact all r x hx
theorem dt_of {kvs : List (List Key × V)} (ok : HOk P w H h) (e : H a = some (.dT kvs)) : kvs.length ≤ sizeLine ∧ (a == sysModules) = false ∧
    ∃ xs, KT H kvs xs ∧ h.DictOfH (tupleKind (mixKind P w)) a xs := dt_rd ok (.inl e)
end
def DGet (H : Hp) (a : Addr) (y : V) (r : Option V) : Prop :=
  (∃ kvs k, Rd H a (.dK kvs) ∧ y = kV k ∧ r = valV kvs k) ∨ ∃ kvs k b, Rd H a (.dT kvs) ∧ y = .ref b ∧ H b = some (.tup (k.map kV)) ∧ r = valV kvs k
def DPut (H : Hp) (a : Addr) (y v : V) (H' : Hp) : Prop :=
  (∃ kvs k, H a = some (.dK kvs) ∧ y = kV k ∧ kvs.length < sizeLine ∧ H' = upd H a (.dK (putK kvs k v))) ∨
  ∃ kvs k b, H a = some (.dT kvs) ∧ y = .ref b ∧ H b = some (.tup (k.map kV)) ∧ kvs.length < sizeLine ∧ H' = upd H a (.dT (putK kvs k v))
theorem DGet.k {H : Hp} {a : Addr} {kvs : List (Key × V)} {k : Key} (e : H a = some (.dK kvs)) : DGet H a (kV k) (valV kvs k) := .inl ⟨kvs, k, .inl e, rfl, rfl⟩
theorem DPut.k {H : Hp} {a : Addr} {kvs : List (Key × V)} {k : Key} {v : V} (e : H a = some (.dK kvs)) (hl : kvs.length < sizeLine) : DPut H a (kV k) v (upd H a (.dK (putK kvs k v))) := .inl ⟨kvs, k, e, rfl, hl, rfl⟩
section
variable {X : Cx} {pins : List (Addr × Obj)} {σ : St} {H : Hp} {s : Shared} {a : Addr} {y v : V} {u r : Value} {o : Option V} {A : Around} {E : Value → Shared → Prop}
theorem Inv.big (I : Inv X pins σ H s) : sysModules < s.heap.objs.size := by
  have h : mainGlobals < s.heap.objs.size := (I.mod.glob.keeps I.bk).lt
  exact Nat.lt_trans (by decide) h
theorem d_in {Q : Value → Shared → Prop} (hu : A.units + 1 < cLine) (I : Inv X pins σ H s) (g : DGet H a y o) (ry : RelV y u) (h : ∀ s', Inv X pins σ H s' → Q (.bool o.isSome) s') :
    wpAny (model X.prog X.w) A (compareOp .In u (.ref a)) Q E s := by
  rcases g with ⟨kvs, k, e, ey, l⟩ | ⟨kvs, k, b, e, ey, eb, l⟩
  · subst ey
    obtain ⟨z, hd, vs, rel, dd⟩ := dk_rd I.hok e
    refine wpAny_in_of (kV_is ry) hd dd.mapOf ?_
    rw [← (rel.val k).isSome_eq, ← l]
    exact h _ (I.tok _)
  · subst ey
    cases (show u = Value.ref b from ry)
    obtain ⟨z, hd, xs, rel, dd⟩ := dt_rd I.hok e
    refine wpAny_in_heap (tupleKind_room_in1 hu) (key_of I.hok eb) hd dd ?_
    have q := (rel.val k).isSome_eq
    rw [Option.isSome_map] at q
    rw [← q, ← l]
    exact h _ (I.tok _)
theorem d_notIn {Q : Value → Shared → Prop} (hu : A.units + 1 < cLine) (I : Inv X pins σ H s) (g : DGet H a y o) (ry : RelV y u) (h : ∀ s', Inv X pins σ H s' → Q (.bool (!o.isSome)) s') :
    wpAny (model X.prog X.w) A (compareOp .NotIn u (.ref a)) Q E s := by
  rcases g with ⟨kvs, k, e, ey, l⟩ | ⟨kvs, k, b, e, ey, eb, l⟩
  · subst ey
    obtain ⟨z, hd, vs, rel, dd⟩ := dk_rd I.hok e
    refine wpAny_notIn_of (kV_is ry) hd dd.mapOf ?_
    rw [← (rel.val k).isSome_eq, ← l]
    exact h _ (I.tok _)
  · subst ey
    cases (show u = Value.ref b from ry)
    obtain ⟨z, hd, xs, rel, dd⟩ := dt_rd I.hok e
    refine wpAny_notIn_heap (tupleKind_room_in1 hu) (key_of I.hok eb) hd dd ?_
    have q := (rel.val k).isSome_eq
    rw [Option.isSome_map] at q
    rw [← q, ← l]
    exact h _ (I.tok _)
theorem d_write {h' : Heap} {t' : Nat} {ob : HO} (I : Inv X pins σ H s) (mu : Mut (H a)) (hs : Heap.SameBut a s.heap h') (he : ∃ q, h'.get? a = some q) (new : ObjOk X.prog X.w (upd H a ob) h' a ob) :
    Inv X pins σ (upd H a ob) { s with heap := h', toks := t' } :=
  I.write (x := a) (e := a) mu (.inl rfl) (fun b q hb z => (hs.2 b hb).trans z) he new
theorem dk_new {P : Program} {w : World} {H' : Hp} {h' : Heap} {kvs : List (Key × V)} {vs : List (Key × Value)} (z : kvs.length ≤ sizeLine) (hd : (a == sysModules) = false) (rel : KV kvs vs) (dd : h'.DictOf (mixKind P w) a vs) :
    ObjOk P w H' h' a (.dK kvs) := ⟨z, hd, vs, rel, dd⟩
theorem d_setItem {H' : Hp} {Q : Unit → Shared → Prop} (hu : A.units + 1 < cLine) (I : Inv X pins σ H s) (g : DPut H a y v H') (ry : RelV y u) (rv : RelV v r) (h : ∀ s', Inv X pins σ H' s' → Q () s') :
    wpAny (model X.prog X.w) A (setItem (.ref a) u r) Q E s := by
  rcases g with ⟨kvs, k, e, ey, l, eH⟩ | ⟨kvs, k, b, e, ey, eb, l, eH⟩
  · subst ey eH
    obtain ⟨z, hd, vs, rel, dd⟩ := dk_of I.hok e
    have hz : vs.length ≤ sizeLine := by rw [← rel.length]; exact z
    have hl : (putK kvs k v).length ≤ sizeLine := by have := length_putK kvs k v; omega
    refine wpAny_setItem_pairs (hsz := hz) (kV_is ry) dd fun h' dd' hs => h _ ?_
    have he : ∃ q, h'.get? a = some q := let ⟨q, _, _, hq, _⟩ := dd'; ⟨q, hq⟩
    exact d_write I (by rw [e]; exact True.intro) hs he (dk_new hl hd (rel.put k rv) dd')
  · subst ey eH
    cases (show u = Value.ref b from ry)
    obtain ⟨z, hd, xs, rel, dd⟩ := dt_of I.hok e
    have hz : xs.length ≤ sizeLine := by rw [← Paired.length rel]; exact z
    have hl : (putK kvs k v).length ≤ sizeLine := by have := length_putK kvs k v; omega
    refine wpAny_setItem_heap (hsz := hz) (tupleKind_room_in1 hu) (key_of I.hok eb) dd fun h' dd' hs => h _ ?_
    obtain ⟨q, es, ep, hq, h2, h3, h4, _, h5⟩ := dd'
    refine d_write I (by rw [e]; exact True.intro) hs ⟨q, hq⟩ ⟨hl, hd, _, (rel.put k eb rv).keeps fun c ys ec => ?_, q, es, ep, hq, h2, h3, h4, h5⟩
    rw [upd_ne (ne_of ec e (fun z => nomatch z))]
    exact ec
end
section
variable {X : Cx} {pins : List (Addr × Obj)} {σ : St} {H : Hp} {s : Shared} {a : Addr} {kvs : List (Key × V)} {k : Key} {u : Value} {A : Around} {E : Value → Shared → Prop}
end
section
variable {X : Cx} {o i e value : Expr} {pos pos' tpos : Pos} {td ty tv : TE}
end
theorem dk_empty {P : Program} {w : World} {H : Hp} (h : Heap) (hb : sysModules < h.objs.size) : ObjOk P w H (h.push { cls := .type "dict", data := .dict #[] }) h.objs.size (.dK []) :=
  ⟨Nat.zero_le _, beq_eq_false_iff_ne.mpr (Ne.symm (Nat.ne_of_lt hb)), [], .nil, Heap.DictOf.new h⟩
def tDNewK : TE := fun _ H Q => ∀ p, H p = none → Q (.ref p) (upd H p (.dK []))
section
variable {X : Cx} {pos : Pos}
theorem pe_dnewK : PE X (.Dict [] [] pos) tDNewK := fun pins s σ H Q I h =>
  wpAny_Dict_empty ⟨.ref s.heap.objs.size, _, I.laid (a := s.heap.objs.size) (o := .dK []) (t' := s.toks) (fun _ _ q => Heap.get?_push_of_some _ q) (Nat.le_refl _) (dk_empty s.heap I.big), rfl, h _ (I.hok.fresh (Nat.le_refl _))⟩
end
def mergeK (kvs more : List (Key × V)) : List (Key × V) := more.foldl (fun acc kv => putK acc kv.1 kv.2) kvs
theorem KV.merge : ∀ {more : List (Key × V)} {rs : List (Key × Value)} {kvs : List (Key × V)} {vs : List (Key × Value)}, KV more rs → KV kvs vs → KV (mergeK kvs more) (merged vs rs) := by
  intro more rs kvs vs r
  unfold KV at r
  induction r generalizing kvs vs with
  | nil => intro q; exact q
  | @cons p q ps qs h t ih =>
    intro r0
    have e : KV (putK kvs p.1 p.2) (stored vs q.1 q.2) := by
      have := r0.put p.1 h.2
      rw [← h.1]; exact this
    exact ih e
theorem length_mergeK : ∀ (more kvs : List (Key × V)), (mergeK kvs more).length ≤ kvs.length + more.length
  | [], kvs => by show kvs.length ≤ kvs.length + 0; omega
  | p :: r, kvs => by
    have h1 := length_mergeK r (putK kvs p.1 p.2)
    have h2 := length_putK kvs p.1 p.2
    show (mergeK (putK kvs p.1 p.2) r).length ≤ _
    rw [List.length_cons]; omega
structure M1 (X : Cx) (o : Expr) (m : Str) (apos : Pos) (e : Expr) (cpos : Pos) : Prop where
  base : attributeBase o m X.env (eval o X.env) = eval o X.env
  few : ((backTo cpos (starEach [e] X.env)).all (fun x => !x.1) && (backToKw cpos (keywordEach [] X.env)).all (fun x => x.1.isSome)
    && decide (([e] : List Expr).length + ([] : List Keyword).length + (if ([] : List Keyword).isEmpty then 0 else 1) < 30)) = true
  line : (apos.endLine == cpos.line) = true
  trees : backTo cpos (starEach [e] X.env) = [(false, eval e X.env)]
def IsD (H : Hp) (a : Addr) : Prop := (∃ kvs, Rd H a (.dK kvs)) ∨ ∃ kvs, Rd H a (.dT kvs)
theorem isD_at {X : Cx} {pins : List (Addr × Obj)} {σ : St} {H : Hp} {s : Shared} {a : Addr} (I : Inv X pins σ H s) (d : IsD H a) :
    s.TypeIs (.ref a) "dict" ∧ (∀ b, Value.ref a = .ref b → ∃ ob, s.heap.get? b = some ob ∧ ob.dict = none) ∧ (a == sysModules) = false := by
  rcases d with ⟨kvs, e⟩ | ⟨kvs, e⟩
  · obtain ⟨_, hd, vs, _, dd⟩ := dk_rd I.hok e
    refine ⟨dd.typeIs, fun b q => ?_, hd⟩
    cases q
    obtain ⟨ob, _, _, h1, h2, _⟩ := dd
    exact ⟨ob, h1, h2.2.1⟩
  · obtain ⟨_, hd, xs, _, dd⟩ := dt_rd I.hok e
    refine ⟨dd.typeIs, fun b q => ?_, hd⟩
    cases q
    obtain ⟨ob, _, _, h1, h2, _⟩ := dd
    exact ⟨ob, h1, h2.2.1⟩
section
variable {X : Cx} {pins : List (Addr × Obj)} {σ : St} {H : Hp} {s : Shared} {a : Addr} {y d : V} {u r : Value} {o : Option V} {A : Around} {E : Value → Shared → Prop}
end
section
variable {X : Cx} {o e f : Expr} {apos cpos : Pos} {td ty tx : TE}
end
section
variable {X : Cx} {pins : List (Addr × Obj)} {σ : St} {H : Hp} {s : Shared} {a : Addr} {kvs : List (Key × V)} {A : Around} {E : Value → Shared → Prop}
end
section
variable {X : Cx} {pins : List (Addr × Obj)} {σ : St} {H : Hp} {s : Shared} {a : Addr} {y : V} {u : Value} {A : Around} {E : Value → Shared → Prop}
end
end L2
namespace L2
open PySem PySem.Spec PyProof.Rows
section
variable {X : Cx}
end
section
variable {κ : Type} [DecidableEq κ]
theorem nd_snoc : ∀ {l : List κ} {k : κ}, l.Nodup → ¬ k ∈ l → (l ++ [k]).Nodup
  | [], k, _, _ => by simp
  | a :: r, k, h, hk => by
    obtain ⟨h1, h2⟩ := List.nodup_cons.mp h
    show (a :: (r ++ [k])).Nodup
    refine List.nodup_cons.mpr ⟨fun m => ?_, nd_snoc h2 fun m => hk (List.mem_cons.mpr (Or.inr m))⟩
    rcases List.mem_append.mp m with q | q
    · exact h1 q
    · exact hk (List.mem_cons.mpr (Or.inl (List.mem_singleton.mp q).symm))
end
end L2
end
section
set_option Elab.async false
set_option linter.all false
set_option maxRecDepth 100000
set_option maxHeartbeats 4000000
namespace L2
open PySem PySem.Spec PyProof.Rows
def rInD (neg : Bool) : R2 := fun x y H Q => ∃ a o, y = .ref a ∧ DGet H a x o ∧ Q (.bl (if neg then !o.isSome else o.isSome)) H
def rSetD : V → V → V → Hp → (Hp → Prop) → Prop := fun o i v H Q => ∃ a H', o = .ref a ∧ DPut H a i v H' ∧ Q H'
section
variable {X : Cx}
theorem op_inD (hu : X.A.units + 1 < cLine) : OpR X (compareOp .In) (rInD false) := by
  intro pins s σ H x y v u Q I rx ry h
  obtain ⟨a, o, rfl, g, q⟩ := h
  cases ry
  exact d_in hu I g rx fun s' I' => ⟨.bl o.isSome, H, I', rfl, q⟩
theorem op_notInD (hu : X.A.units + 1 < cLine) : OpR X (compareOp .NotIn) (rInD true) := by
  intro pins s σ H x y v u Q I rx ry h
  obtain ⟨a, o, rfl, g, q⟩ := h
  cases ry
  exact d_notIn hu I g rx fun s' I' => ⟨.bl (!o.isSome), H, I', rfl, q⟩
theorem set_dict (hu : X.A.units + 1 < cLine) : PSet X rSetD := by
  intro pins s σ H o i v ov iv u Q I ro ri rv h
  obtain ⟨a, H', rfl, g, q⟩ := h
  cases ro
  exact d_setItem hu I g ri rv fun s' I' => ⟨H', I', q⟩
end
section
variable {P : Program} {w : World} {K : PySem.W.Frag} {mg : Str → Option Value} {base : Heap}
end
end L2
end
section
set_option Elab.async false
set_option linter.all false
set_option maxRecDepth 100000
set_option maxHeartbeats 4000000
namespace L2
open PySem PySem.Spec PyProof.Rows
theorem qe_dnewK {X : Cx} {pos : Pos} : QE X (.Dict [] [] pos) tDNewK := ⟨pe_dnewK⟩
end L2
end
section
set_option Elab.async false
set_option linter.all false
set_option maxRecDepth 100000
set_option maxHeartbeats 4000000
namespace PySem.W
open PySem PySem.Calls PyProof.Rows PyProof.V PySem.Spec
section
variable {prog : Program} {w : World} {A : Around} {E : Value → Shared → Prop} {s : Shared} {r l : Addr}
end
end PySem.W
namespace L2
open PySem PySem.Spec PyProof.Rows
section
variable {X : Cx}
end
end L2
end
section
set_option Elab.async false
set_option linter.all false
set_option maxRecDepth 100000
set_option maxHeartbeats 4000000
namespace HT
open PySem PyProof.Rows
section
variable {prog : Program} {w : World} {A : Around} {E : Value → Shared → Prop} {s : Shared}
theorem cat_tup0 {t b : Addr} {vs ws : List Value} {Q : Value → Shared → Prop} (ht : IsTup s.heap t vs.toArray) (hb : IsTup s.heap b ws.toArray) (hv : vs = []) (h : Q (.ref b) s) : wpAny (model prog w) A (binaryOp .Add (.ref t) (.ref b)) Q E s := by
  obtain ⟨⟨cls, dd, data, sl⟩, ho, hc, n, hd⟩ := id ht
  obtain ⟨⟨cls2, dd2, data2, sl2⟩, ho2, hc2, n2, hd2⟩ := id hb
  simp only at hc hd hc2 hd2
  subst hc hd hc2 hd2
  exact concat_meets ⟨_, ho, rfl⟩ ⟨_, ho2, rfl⟩ noFill_tuple_add seq_tuple_add PySem.F.slot_tuple_add PySem.F.entry_tuple_add (PySem.F.args_tuple_add_2 _ _)
      (tuple_addW0 t b vs.toArray ws.toArray n n2 dd dd2 sl sl2 (by simp [hv])) ⟨ho, ho2, h⟩
theorem getItem_tuple_all {t sl : Addr} {items : Array Value} {vl vu : Value} {lo hi : Option Int} {Q : Value → Shared → Prop} (ht : IsTup s.heap t items) (hs : s.heap.IsSliceOf sl vl vu .none) (pl : IsPart vl lo) (pu : IsPart vu hi)
    (hw : sIx items.size 0 lo = 0 ∧ sIx items.size items.size hi = items.size) (h : Q (.ref t) s) : wpAny (model prog w) A (getItem (.ref t) (.ref sl)) Q E s := by
  obtain ⟨os, hos, hcs, hds⟩ := id hs
  have hTs : s.TypeIs (.ref sl) "slice" := ⟨os, hos, hcs⟩
  unfold getItem
  try with_reducible refine wpAny_holding ?_
  first | refine wpAny_bind (wpAny_pure ?_) | skip
  refine wpAny_bind (wpAny_sequenceKey ht.typeIs (by decide) ?_)
  refine wpAny_bind (wpAny_callSpecial?_slot (name := Str.ofString "__getitem__") ht.typeIs PyProof.Rows.slot_tuple_getitem
    (wpAny_call_entry PyProof.Rows.slot_tuple_getitem ht.typeIs entry_tuple_getitem ?_ (args_tuple_getitem _ _)))
  show wpAny _ _ (Builtin.Tuple.tupleItemsOf (.ref t) >>= _) _ _ s
  refine wpAny_bind (tupleItemsOf_ ht ?_)
  refine wpAny_bind (wpAny_typeOf hTs ?_)
  rw [if_pos (by decide)]
  refine wpAny_bind (sliceApplied_gen hs pl pu ?_)
  have hyes : (((sIx items.size 0 lo : Nat) : Int) == 0 && (1 : Int) == 1 && (sIx items.size items.size hi - sIx items.size 0 lo) == items.size) = true := by
    rw [hw.1, hw.2]; simp
  show wpAny _ _ (if (((sIx items.size 0 lo : Nat) : Int) == 0 && (1 : Int) == 1 && (sIx items.size items.size hi - sIx items.size 0 lo) == items.size) = true then _ else _) _ _ s
  rw [if_pos hyes]
  refine wpAny_bind (m := Builtin.Tuple.tupleIsExact (.ref t)) ?_
  unfold Builtin.Tuple.tupleIsExact
  refine wpAny_bind (wpAny_typeOf ht.typeIs (wpAny_pure ?_))
  rw [if_pos (by decide)]
  exact wpAny_bind (wpAny_rule (wpAny_pure ⟨_, rfl, wpAny_pure h⟩))
end
end HT
namespace L2
open PySem PySem.Spec PyProof.Rows
section
variable {X : Cx}
def rCatT0 (K : PySem.W.Frag) : R2 := fun x y H Q => ∃ a b ys, x = .ref a ∧ y = .ref b ∧ SqT K H a [] ∧ SqT K H b ys ∧ Q (.ref b) H
theorem op_catT0 : OpR X (binaryOp .Add) (rCatT0 X.K) := by
  intro pins s σ H x y v u Q I rx ry h
  obtain ⟨a, b, ys, rfl, rfl, ha, hb, q⟩ := h
  cases rx
  cases ry
  obtain ⟨its, r1, p1, _⟩ := I.tuple ha
  obtain ⟨its2, r2, p2, _⟩ := I.tuple hb
  exact HT.cat_tup0 p1 p2 (r1.nil_iff.mpr rfl) ⟨.ref b, H, I, rfl, q⟩
def rPlusW (K : PySem.W.Frag) : R2 := fun x y H Q => rCatT0 K x y H Q ∨ rPlus K x y H Q
theorem op_plusW : OpR X (binaryOp .Add) (rPlusW X.K) := op_catT0.or op_plus
def rSlTA (K : PySem.W.Frag) : V → Option Int → Option Int → Hp → VK → Prop := fun x lo hi H Q => ∃ a xs, x = .ref a ∧ SqT K H a xs ∧ (HT.sIx xs.length 0 lo = 0 ∧ HT.sIx xs.length xs.length hi = xs.length) ∧ Q (.ref a) H
theorem sl_tupA : SlR X (rSlTA X.K) := by
  intro pins s σ H x v vl vu lo hi sl Q I rx hs pl pu h
  obtain ⟨a, xs, rfl, hx, hw, q⟩ := h
  cases rx
  obtain ⟨its, r, ht, hz⟩ := I.tuple hx
  have hlen : its.toArray.size = xs.length := by rw [List.size_toArray]; exact r.length.symm
  refine ⟨"tuple", _, PyProof.Rows.slot_tuple_getitem.lookup, ht.typeIs, ?_⟩
  exact HT.getItem_tuple_all ht hs pl pu (by rw [hlen]; exact hw) ⟨.ref a, H, I, rfl, q⟩
def rSlW (K : PySem.W.Frag) : V → Option Int → Option Int → Hp → VK → Prop := fun x lo hi H Q => rSlTA K x lo hi H Q ∨ rSl K x lo hi H Q
theorem sl_seqW : SlR X (rSlW X.K) := sl_tupA.or sl_seq
def rEqT0 (K : PySem.W.Frag) : R2 := fun x y H Q => ∃ p q xs, x = .ref p ∧ y = .ref q ∧ SqT K H p xs ∧ SqT K H q [] ∧ Q (.bl (decide (xs = []))) H
theorem op_eqT0 (hu : X.A.units < cLine) : OpR X (compareOp .Eq) (rEqT0 X.K) := by
  intro pins s σ H x y v u Q I rx ry h
  obtain ⟨p, q, xs, rfl, rfl, h1, h2, qq⟩ := h
  cases rx
  cases ry
  obtain ⟨us, r1, t1, _⟩ := I.tuple h1
  obtain ⟨vs, r2, t2, _⟩ := I.tuple h2
  have ev : vs = [] := r2.nil_iff.mpr rfl
  subst ev
  refine SeqAt.eq_tupleAt (e := fun _ => true) (show s.heap.IsTuple p us.toArray from t1) (show s.heap.IsTuple q ([] : List Value).toArray from t2) hu (fun j h1 h2 => absurd h2 (by simp)) ⟨.bl (decide (xs = [])), H, I, ?_, qq⟩
  show Value.bool _ = Value.bool _
  congr 1
  rw [List.size_toArray, ← r1.length]
  cases xs <;> simp
def rEqW (K : PySem.W.Frag) : R2 := fun x y H Q => rEqT0 K x y H Q ∨ rEqG K x y H Q
theorem op_eqW (hu : X.A.units < cLine) : OpR X (compareOp .Eq) (rEqW X.K) := (op_eqT0 hu).or (op_eqG hu)
def rIsB : R2 := fun x y H Q => ∃ c d, x = .bl c ∧ y = .bl d ∧ Q (.bl (c == d)) H
def rNotB : R2 := fun x y H Q => ∃ c d, x = .bl c ∧ y = .bl d ∧ Q (.bl (c != d)) H
theorem op_isB : OpR X (compareOp .Is) rIsB := by
  intro pins s σ H x y v u Q I rx ry h
  obtain ⟨c, d, rfl, rfl, q⟩ := h
  cases rx
  cases ry
  exact is_bool ⟨.bl (c == d), H, I, rfl, q⟩
theorem op_notB : OpR X (compareOp .IsNot) rNotB := by
  intro pins s σ H x y v u Q I rx ry h
  obtain ⟨c, d, rfl, rfl, q⟩ := h
  cases rx
  cases ry
  exact isnot_bool ⟨.bl (c != d), H, I, rfl, q⟩
theorem any_ix (bs : List Bool) : (List.range bs.length).any (fun i => (bs[i]?).getD false) = bs.any id := by
  rw [Bool.eq_iff_iff, List.any_eq_true, List.any_eq_true]
  constructor
  · rintro ⟨i, hi, h⟩
    have hi := List.mem_range.mp hi
    rw [List.getElem?_eq_getElem hi, Option.getD_some] at h
    exact ⟨_, List.getElem_mem hi, h⟩
  · rintro ⟨b, hb, h⟩
    obtain ⟨i, hi, e⟩ := List.mem_iff_getElem.mp hb
    refine ⟨i, List.mem_range.mpr hi, ?_⟩
    rw [List.getElem?_eq_getElem hi, Option.getD_some, e]; exact h
def rAny (K : PySem.W.Frag) : List V → Hp → VK → Prop := fun xs H Q => ∃ (p : Addr) (bs : List Bool), xs = [.ref p] ∧ SqL K H p (bs.map V.bl) ∧ Q (.bl (bs.any id)) H
theorem call_any_bl (hc : X.calm = true) : CallR X (.builtin "any") (rAny X.K) := by
  intro pins s σ H xs us Q I r h
  obtain ⟨p, bs, rfl, hq, q⟩ := h
  obtain ⟨u, rfl, rx⟩ := vals1 r
  cases rx
  obtain ⟨its, rv, pl, hz⟩ := I.list hq
  have hlen := rv.length
  rw [List.length_map] at hlen
  have hlt : p < s.heap.objs.size := by obtain ⟨o, e, _⟩ := pl.isList; exact Heap.lt_size e
  refine call_any_walk (wpAny_pyIter_list pl.isList ?_)
  refine ⟨_, _, _, _, _, _, fun i => (bs[i]?).getD false, rfl, Walks.list (A := X.A.in1) (show X.A.in1.handled = none from I.ok.hd hc) s.heap.objs.size p (Nat.ne_of_lt hlt) its.toArray, ⟨⟨_, Heap.get?_push_size _ rfl, rfl, rfl⟩, pl.isList.push _⟩, ?_, fun h' tk hk => ?_⟩
  · intro i v s' Q' E' hP hQ
    have hP' : its[i]? = some v := by
      have : its.toArray[i]? = some v := hP
      simpa using this
    have hi : i < bs.length := by rw [hlen]; exact (List.getElem?_eq_some_iff.mp hP').1
    obtain ⟨u, hu, ru⟩ := rv.get (i := i) (x := V.bl bs[i]) (by rw [List.getElem?_map, List.getElem?_eq_getElem hi]; rfl)
    rw [hP'] at hu
    cases hu
    cases ru
    have hQ' : Q' ((bs[i]?).getD false) s' := hQ
    rw [List.getElem?_eq_getElem hi, Option.getD_some] at hQ'
    exact wpAny_truthy_bool hQ'
  · have e : its.toArray.size = bs.length := by rw [List.size_toArray, hlen]
    rw [e, any_ix]
    refine ⟨.bl _, H, ?_, rfl, q⟩
    refine I.kept (t' := tk) fun b o eb => ?_
    refine hk b o (fun z => ?_) (Heap.get?_push_of_some _ eb)
    have e2 : b = s.heap.objs.size := by simpa using z
    have h2 := Heap.lt_size eb
    rw [e2] at h2
    exact Nat.lt_irrefl _ h2
def tDUpd (td ty : TE) : TE := fun σ H Q => td σ H fun x H1 => ∃ a, x = .ref a ∧ IsD H1 a ∧ ty σ H1 fun y H2 => ∃ b kvs more, y = .ref b ∧ b ≠ a ∧ H2 a = some (.dK kvs) ∧ H2 b = some (.dK more) ∧ kvs.length + more.length ≤ sizeLine ∧ Q .non (upd H2 a (.dK (mergeK kvs more)))
theorem pe_dupd {o e : Expr} {apos cpos : Pos} {td ty : TE} (ho : PE X o td) (he : PE X e ty) (m : M1 X o "update" apos e cpos) : PE X (.Call (.Attribute o "update" apos) [e] [] cpos) (tDUpd td ty) := by
  intro pins s σ H Q I h
  refine wpAny_Call_method m.base m.few m.line PySem.F.plainAttrs_dict PySem.F.slot_dict_update PySem.F.type_dict_update (thn (ho pins s σ H _ I h) fun u s1 ⟨x, H1, I1, rx, a, ex, d, q1⟩ => ?_)
  subst ex
  obtain rfl : u = Value.ref a := rx
  obtain ⟨t1, t2, _⟩ := isD_at I1 d
  refine ⟨t1, t2, ?_⟩
  rw [m.trees]
  refine Calls.callWith_builtin rfl (Calls.evalArgs_plain (Calls.spliced_cons (thn (he pins s1 σ H1 _ I1 q1) fun iv s2 ⟨y, H2, I2, ry, b, kvs, more, ey, nab, ea, eb, hz, q2⟩ => Calls.spliced_nil ?_)))
  subst ey
  obtain rfl : iv = Value.ref b := ry
  obtain ⟨z1, l1, vs, rel1, dd1⟩ := dk_of I2.hok ea
  obtain ⟨z2, l2, rs, rel2, dd2⟩ := dk_of I2.hok eb
  refine call_meetsIn PySem.F.slot_dict_update dd1.typeIs PySem.F.entry_dict_update (PySem.F.args_dict_update_2 _ _) (meets_dict_update (mixKind X.prog X.w) a b (Ne.symm nab) l2) ⟨vs, rs, dd1, dd2, by rw [← rel1.length, ← rel2.length]; exact hz, fun h' d1 d2 hs => ?_⟩
  have hlen : (mergeK kvs more).length ≤ sizeLine := Nat.le_trans (length_mergeK more kvs) hz
  refine ⟨.non, _, d_write (t' := s2.toks) (ob := .dK (mergeK kvs more)) I2 (by rw [ea]; exact True.intro) hs (let ⟨ob, _, _, h1, _⟩ := d1; ⟨ob, h1⟩) (dk_new hlen l1 (rel2.merge rel1) d1), rfl, q2⟩
theorem qe_dupd {o e : Expr} {apos cpos : Pos} {td ty : TE} (ho : QE X o td) (he : QE X e ty) (m : M1 X o "update" apos e cpos) : QE X (.Call (.Attribute o "update" apos) [e] [] cpos) (tDUpd td ty) := ⟨pe_dupd ho.up he.up m⟩
end
end L2
end
section
set_option Elab.async false
set_option linter.all false
set_option maxRecDepth 100000
set_option maxHeartbeats 4000000
namespace Bg
open PySem PySem.Spec PyProof.Rows L2
def top (i : Nat) : Stmt := PySem.Challenge.pw_beltgarth_k42_code_that_fits.main.body.getD i (.Pass ⟨0, 0, 0, 0⟩)
abbrev s_c_goal : Stmt := top 1
abbrev PS_c_goal : List Str := ["row"]
abbrev N_c_goal : List Str := ["row"]
def t_c_goal_1 (K : PySem.W.Frag) : TS := (tRet (tC .non))
def t_c_goal_2 (K : PySem.W.Frag) : TS := (tSeq (tIfS (tTest (tOp (rEqG K) (tOp (rIx K) (tVar 0) (tC (.int 0))) (tC (.str "test")))) (tRet (tOp (rIx K) (tVar 0) (tC (.int 2)))) tNext) (t_c_goal_1 K))
def t_c_goal (K : PySem.W.Frag) : TS := (tSeq (tIfS (tTest (tOp (rEqG K) (tOp (rIx K) (tVar 0) (tC (.int 0))) (tC (.str "jump")))) (tRet (tOp (rIx K) (tVar 0) (tC (.int 1)))) tNext) (t_c_goal_2 K))
theorem sc_c_goal : FnScope N_c_goal PS_c_goal (defScope s_c_goal) := ⟨rfl, rfl, rfl, by decide +kernel, rfl, by decide +kernel, by decide +kernel⟩
abbrev s_c_leads : Stmt := top 2
abbrev PS_c_leads : List Str := ["rows", "n"]
abbrev N_c_leads : List Str := ["rows", "n", "word"]
def t_c_leads_1 (K : PySem.W.Frag) : TS := (tRet (tTup (tCons (tOp (rPlus K) (tVar 1) (tC (.int 1))) tNil)))
def t_c_leads_2 (K : PySem.W.Frag) : TS := (tSeq (tIfS (tTest (tOp (rEqG K) (tVar 2) (tC (.str "test")))) (tRet (tTup (tCons (tOp (rPlus K) (tVar 1) (tC (.int 1))) (tCons (tCall (sp_c_goal K) [] E0 (tCons (tOp (rIx K) (tVar 0) (tVar 1)) tNil)) tNil)))) tNext) (t_c_leads_1 K))
def t_c_leads_3 (K : PySem.W.Frag) : TS := (tSeq (tIfS (tTest (tOp (rEqG K) (tVar 2) (tC (.str "jump")))) (tRet (tTup (tCons (tCall (sp_c_goal K) [] E0 (tCons (tOp (rIx K) (tVar 0) (tVar 1)) tNil)) tNil))) tNext) (t_c_leads_2 K))
def t_c_leads_4 (K : PySem.W.Frag) : TS := (tSeq (tIfS (tTest (tOp (rEqG K) (tVar 2) (tC (.str "give")))) (tRet (tTup tNil)) tNext) (t_c_leads_3 K))
def t_c_leads (K : PySem.W.Frag) : TS := (tSeq (tAsg (tOp (rIx K) (tOp (rIx K) (tVar 0) (tVar 1)) (tC (.int 0))) (gName 2)) (t_c_leads_4 K))
theorem sc_c_leads : FnScope N_c_leads PS_c_leads (defScope s_c_leads) := ⟨rfl, rfl, rfl, by decide +kernel, rfl, by decide +kernel, by decide +kernel⟩
abbrev s_p_fits : Stmt := top 4
abbrev PS_p_fits : List Str := ["code"]
abbrev N_p_fits : List Str := ["code", "places", "parts"]
def t_p_fits_1 (K : PySem.W.Frag) : TS := (tRet (tCB (rAll K) (tCons (tComp [] 1 (iSeq K (tVar 2)) (gName 3) tYes (tCall (sp_p_part_fits K) [] E0 (tCons (tVar 1) (tCons (tVar 2) (tCons (tVar 3) tNil))))) tNil)))
def t_p_fits_2 (K : PySem.W.Frag) : TS := (tSeq (tIfS (tOr (tTest (tOp (rLt2) (tVar 1) (tC (.int 1)))) (tTest (tOp (rGt2) (tVar 1) (tC (.int 16))))) (tRet (tC (.bl false))) tNext) (t_p_fits_1 K))
def t_p_fits_3 (K : PySem.W.Frag) : TS := (tSeq (tAsg (tOp (rIx K) (tVar 0) (tC (.int 1))) (gName 2)) (t_p_fits_2 K))
def t_p_fits (K : PySem.W.Frag) : TS := (tSeq (tAsg (tOp (rIx K) (tVar 0) (tC (.int 0))) (gName 1)) (t_p_fits_3 K))
theorem sc_p_fits : FnScope N_p_fits PS_p_fits (defScope s_p_fits) := ⟨rfl, rfl, rfl, by decide +kernel, rfl, by decide +kernel, by decide +kernel⟩
abbrev s_p_part_fits : Stmt := top 5
abbrev PS_p_part_fits : List Str := ["places", "parts", "part"]
abbrev N_p_part_fits : List Str := ["places", "parts", "part", "many", "rows"]
def t_p_part_fits_1 (K : PySem.W.Frag) : TS := (tRet (tNotV (tCall (sp_p_has_ring K) [] E0 (tCons (tVar 4) tNil))))
def t_p_part_fits_2 (K : PySem.W.Frag) : TS := (tSeq (tIfS (tNot (tB (tCB (rAll K) (tCons (tComp [] 1 (iSeq K (tVar 4)) (gName 5) tYes (tCall (sp_p_row_fits K) [] E0 (tCons (tVar 0) (tCons (tVar 1) (tCons (tVar 4) (tCons (tVar 5) tNil)))))) tNil)))) (tRet (tC (.bl false))) tNext) (t_p_part_fits_1 K))
def t_p_part_fits_3 (K : PySem.W.Frag) : TS := (tSeq (tIfS (tTest (tOp ((rIn K true)) (tOp (rIx K) (tOp (rIx K) (tVar 4) (tUn rNeg (tC (.int 1)))) (tC (.int 0))) (tTup (tCons (tC (.str "jump")) (tCons (tC (.str "give")) tNil))))) (tRet (tC (.bl false))) tNext) (t_p_part_fits_2 K))
def t_p_part_fits_4 (K : PySem.W.Frag) : TS := (tSeq (tIfS (tOr (tTest (tOp (rLt2) (tVar 3) (tC (.int 0)))) (tOr (tTest (tOp (rGt2) (tVar 3) (tC (.int 4)))) (tTest (tOp (rEqG K) (tCB (rLen K) (tCons (tVar 4) tNil)) (tC (.int 0)))))) (tRet (tC (.bl false))) tNext) (t_p_part_fits_3 K))
def t_p_part_fits_5 (K : PySem.W.Frag) : TS := (tSeq (tAsg (tOp (rIx K) (tVar 2) (tC (.int 1))) (gName 4)) (t_p_part_fits_4 K))
def t_p_part_fits (K : PySem.W.Frag) : TS := (tSeq (tAsg (tOp (rIx K) (tVar 2) (tC (.int 0))) (gName 3)) (t_p_part_fits_5 K))
theorem sc_p_part_fits : FnScope N_p_part_fits PS_p_part_fits (defScope s_p_part_fits) := ⟨rfl, rfl, rfl, by decide +kernel, rfl, by decide +kernel, by decide +kernel⟩
abbrev s_p_row_fits : Stmt := top 6
abbrev PS_p_row_fits : List Str := ["places", "parts", "rows", "row"]
abbrev N_p_row_fits : List Str := ["places", "parts", "rows", "row", "to"]
def t_p_row_fits_1 (K : PySem.W.Frag) : TS := (tRet (tOrV (tOp (rNeG K) (tOp (rIx K) (tVar 3) (tC (.int 0))) (tC (.str "call"))) (tCall (sp_p_call_fits K) [] E0 (tCons (tVar 1) (tCons (tVar 3) tNil)))))
def t_p_row_fits_2 (K : PySem.W.Frag) : TS := (tSeq (tIfS (tAnd (tTest (tOp (rNotN) (tVar 4) (tC .non))) (tNot (tB (tCall (sp_p_is_number_of K) [] E0 (tCons (tVar 4) (tCons (tCB (rLen K) (tCons (tVar 2) tNil)) tNil)))))) (tRet (tC (.bl false))) tNext) (t_p_row_fits_1 K))
def t_p_row_fits_3 (K : PySem.W.Frag) : TS := (tSeq (tAsg (tCall (sp_c_goal K) [] E0 (tCons (tVar 3) tNil)) (gName 4)) (t_p_row_fits_2 K))
def t_p_row_fits (K : PySem.W.Frag) : TS := (tSeq (tIfS (tNot (tB (tCB (rAll K) (tCons (tComp [] 1 (iSeq K (tCall (sp_p_places_read K) [] E0 (tCons (tVar 3) tNil))) (gName 5) tYes (tCall (sp_p_is_number_of K) [] E0 (tCons (tVar 5) (tCons (tVar 0) tNil)))) tNil)))) (tRet (tC (.bl false))) tNext) (t_p_row_fits_3 K))
theorem sc_p_row_fits : FnScope N_p_row_fits PS_p_row_fits (defScope s_p_row_fits) := ⟨rfl, rfl, rfl, by decide +kernel, rfl, by decide +kernel, by decide +kernel⟩
abbrev s_p_call_fits : Stmt := top 7
abbrev PS_p_call_fits : List Str := ["parts", "row"]
abbrev N_p_call_fits : List Str := ["parts", "row", "k"]
def t_p_call_fits_1 (K : PySem.W.Frag) : TS := (tRet (tAndV (tCall (sp_p_is_number_of K) [] E0 (tCons (tVar 2) (tCons (tCB (rLen K) (tCons (tVar 0) tNil)) tNil))) (tOp (rEqG K) (tCB (rLen K) (tCons (tOp (rIx K) (tVar 1) (tC (.int 2))) tNil)) (tOp (rIx K) (tOp (rIx K) (tVar 0) (tVar 2)) (tC (.int 0))))))
def t_p_call_fits (K : PySem.W.Frag) : TS := (tSeq (tAsg (tOp (rIx K) (tVar 1) (tC (.int 1))) (gName 2)) (t_p_call_fits_1 K))
theorem sc_p_call_fits : FnScope N_p_call_fits PS_p_call_fits (defScope s_p_call_fits) := ⟨rfl, rfl, rfl, by decide +kernel, rfl, by decide +kernel, by decide +kernel⟩
abbrev s_p_is_number_of : Stmt := top 8
abbrev PS_p_is_number_of : List Str := ["number", "many"]
abbrev N_p_is_number_of : List Str := ["number", "many"]
def t_p_is_number_of (K : PySem.W.Frag) : TS := (tRet (tAndV (tOp (rGe2) (tVar 0) (tC (.int 0))) (tOp (rLt2) (tVar 0) (tVar 1))))
theorem sc_p_is_number_of : FnScope N_p_is_number_of PS_p_is_number_of (defScope s_p_is_number_of) := ⟨rfl, rfl, rfl, by decide +kernel, rfl, by decide +kernel, by decide +kernel⟩
abbrev s_p_places_read : Stmt := top 9
abbrev PS_p_places_read : List Str := ["row"]
abbrev N_p_places_read : List Str := ["row", "word"]
def t_p_places_read_1 (K : PySem.W.Frag) : TS := (tRet (tTup tNil))
def t_p_places_read_2 (K : PySem.W.Frag) : TS := (tSeq (tIfS (tTest (tOp ((rIn K false)) (tVar 1) (tTup (tCons (tC (.str "keep")) (tCons (tC (.str "say")) (tCons (tC (.str "test")) (tCons (tC (.str "give")) tNil))))))) (tRet (tTup (tCons (tOp (rIx K) (tVar 0) (tC (.int 1))) tNil))) tNext) (t_p_places_read_1 K))
def t_p_places_read_3 (K : PySem.W.Frag) : TS := (tSeq (tIfS (tTest (tOp (rEqG K) (tVar 1) (tC (.str "call")))) (tRet (tCB (rTupleOf K) (tCons (tOp (rIx K) (tVar 0) (tC (.int 2))) tNil))) tNext) (t_p_places_read_2 K))
def t_p_places_read_4 (K : PySem.W.Frag) : TS := (tSeq (tIfS (tTest (tOp (rEqG K) (tVar 1) (tC (.str "op")))) (tRet (tTup (tCons (tOp (rIx K) (tVar 0) (tC (.int 2))) (tCons (tOp (rIx K) (tVar 0) (tC (.int 3))) tNil)))) tNext) (t_p_places_read_3 K))
def t_p_places_read (K : PySem.W.Frag) : TS := (tSeq (tAsg (tOp (rIx K) (tVar 0) (tC (.int 0))) (gName 1)) (t_p_places_read_4 K))
theorem sc_p_places_read : FnScope N_p_places_read PS_p_places_read (defScope s_p_places_read) := ⟨rfl, rfl, rfl, by decide +kernel, rfl, by decide +kernel, by decide +kernel⟩
abbrev s_p_has_ring : Stmt := top 10
abbrev PS_p_has_ring : List Str := ["rows"]
abbrev N_p_has_ring : List Str := ["rows", "cleared", "n", "passed", "at"]
def t_p_has_ring_1 (K : PySem.W.Frag) : TS := (tRet (tC (.bl false)))
def t_p_has_ring_2 (K : PySem.W.Frag) : TS := (tDrop (tDUpd (tVar 1) (tVar 3)))
def t_p_has_ring_3 (K : PySem.W.Frag) : TS := (tAsg (tOp (rIx K) (tCall (sp_c_leads K) [] E0 (tCons (tVar 0) (tCons (tVar 4) tNil))) (tC (.int 0))) (gName 4))
def t_p_has_ring_4 (K : PySem.W.Frag) : TS := (tSeq (tAsg (tC (.bl true)) (gSub (tVar 3) (tVar 4) rSetD)) (t_p_has_ring_3 K))
def t_p_has_ring_5 (K : PySem.W.Frag) : TS := (tSeq (tIfS (tTest (tOp ((rInD false)) (tVar 4) (tVar 3))) (tRet (tC (.bl true))) tNext) (t_p_has_ring_4 K))
def t_p_has_ring_6 (K : PySem.W.Frag) : TS := (tSeq (tWhile (tAnd (tTest (tOp ((rIn K false)) (tOp (rIx K) (tOp (rIx K) (tVar 0) (tVar 4)) (tC (.int 0))) (tTup (tCons (tC (.str "keep")) (tCons (tC (.str "jump")) tNil))))) (tTest (tOp ((rInD true)) (tVar 4) (tVar 1)))) (t_p_has_ring_5 K)) (t_p_has_ring_2 K))
def t_p_has_ring_7 (K : PySem.W.Frag) : TS := (tSeq (tAsg (tVar 2) (gName 4)) (t_p_has_ring_6 K))
def t_p_has_ring_8 (K : PySem.W.Frag) : TS := (tSeq (tAsg tDNewK (gName 3)) (t_p_has_ring_7 K))
def t_p_has_ring_9 (K : PySem.W.Frag) : TS := (tSeq (tFor (iRng1 (tCons (tCB (rLen K) (tCons (tVar 0) tNil)) tNil)) (gName 2) (t_p_has_ring_8 K)) (t_p_has_ring_1 K))
def t_p_has_ring (K : PySem.W.Frag) : TS := (tSeq (tAsg tDNewK (gName 1)) (t_p_has_ring_9 K))
theorem sc_p_has_ring : FnScope N_p_has_ring PS_p_has_ring (defScope s_p_has_ring) := ⟨rfl, rfl, rfl, by decide +kernel, rfl, by decide +kernel, by decide +kernel⟩
abbrev s_draw : Stmt := top 12
theorem sc_draw : FnScope N_draw PS_draw (defScope s_draw) := ⟨rfl, rfl, rfl, by decide +kernel, rfl, by decide +kernel, by decide +kernel⟩
abbrev s_worth : Stmt := top 13
theorem sc_worth : FnScope N_worth PS_worth (defScope s_worth) := ⟨rfl, rfl, rfl, by decide +kernel, rfl, by decide +kernel, by decide +kernel⟩
abbrev s_code_row : Stmt := top 14
abbrev PS_code_row : List Str := ["_law_state", "_law_places", "_law_many", "_law_counts"]
abbrev N_code_row : List Str := ["_law_state", "_law_places", "_law_many", "_law_counts", "_law_sort", "_law_i", "_law_k"]
def t_code_row_1 (K : PySem.W.Frag) : TS := (tRet (tTup (tCons (tC (.str "give")) (tCons (tVar 5) tNil))))
def t_code_row_2 (K : PySem.W.Frag) : TS := (tRet (tTup (tCons (tC (.str "call")) (tCons (tVar 6) (tCons (tCB (rTupleOf K) (tCons (tComp [] 1 (iRng1 (tCons (tOp (rIx K) (tVar 3) (tVar 6)) tNil)) (gName 7) tYes (tCall (sp_draw K) [] E0 (tCons (tVar 0) (tCons (tVar 1) tNil)))) tNil)) tNil)))))
def t_code_row_3 (K : PySem.W.Frag) : TS := (tSeq (tIfS (tTest (tOp (rEqG K) (tVar 4) (tC (.int 12)))) (tSeq (tAsg (tCall (sp_draw K) [] E0 (tCons (tVar 0) (tCons (tCB (rLen K) (tCons (tVar 3) tNil)) tNil))) (gName 6)) (t_code_row_2 K)) tNext) (t_code_row_1 K))
def t_code_row_4 (K : PySem.W.Frag) : TS := (tSeq (tIfS (tTest (tOp (rEqG K) (tVar 4) (tC (.int 11)))) (tRet (tTup (tCons (tC (.str "jump")) (tCons (tCall (sp_draw K) [] E0 (tCons (tVar 0) (tCons (tVar 2) tNil))) tNil)))) tNext) (t_code_row_3 K))
def t_code_row_5 (K : PySem.W.Frag) : TS := (tSeq (tIfS (tTest (tOp (rLt2) (tVar 4) (tC (.int 11)))) (tRet (tTup (tCons (tC (.str "test")) (tCons (tVar 5) (tCons (tCall (sp_draw K) [] E0 (tCons (tVar 0) (tCons (tVar 2) tNil))) tNil))))) tNext) (t_code_row_4 K))
def t_code_row_6 (K : PySem.W.Frag) : TS := (tSeq (tIfS (tTest (tOp (rEqG K) (tVar 4) (tC (.int 8)))) (tRet (tTup (tCons (tC (.str "say")) (tCons (tVar 5) tNil)))) tNext) (t_code_row_5 K))
def t_code_row_7 (K : PySem.W.Frag) : TS := (tSeq (tIfS (tTest (tOp (rLt2) (tVar 4) (tC (.int 8)))) (tRet (tTup (tCons (tC (.str "keep")) (tCons (tVar 5) tNil)))) tNext) (t_code_row_6 K))
def t_code_row_8 (K : PySem.W.Frag) : TS := (tSeq (tIfS (tTest (tOp (rLt2) (tVar 4) (tC (.int 5)))) (tRet (tTup (tCons (tC (.str "op")) (tCons (tOp (rIx K) (tC (.str "+-*<=")) (tCall (sp_draw K) [] E0 (tCons (tVar 0) (tCons (tC (.int 5)) tNil)))) (tCons (tVar 5) (tCons (tCall (sp_draw K) [] E0 (tCons (tVar 0) (tCons (tVar 1) tNil))) tNil)))))) tNext) (t_code_row_7 K))
def t_code_row_9 (K : PySem.W.Frag) : TS := (tSeq (tIfS (tTest (tOp (rLt2) (tVar 4) (tC (.int 2)))) (tRet (tTup (tCons (tC (.str "num")) (tCons (tCall (sp_worth K) [] E0 (tCons (tVar 0) tNil)) tNil)))) tNext) (t_code_row_8 K))
def t_code_row_10 (K : PySem.W.Frag) : TS := (tSeq (tAsg (tCall (sp_draw K) [] E0 (tCons (tVar 0) (tCons (tVar 1) tNil))) (gName 5)) (t_code_row_9 K))
def t_code_row (K : PySem.W.Frag) : TS := (tSeq (tAsg (tCall (sp_draw K) [] E0 (tCons (tVar 0) (tCons (tC (.int 14)) tNil))) (gName 4)) (t_code_row_10 K))
theorem sc_code_row : FnScope N_code_row PS_code_row (defScope s_code_row) := ⟨rfl, rfl, rfl, by decide +kernel, rfl, by decide +kernel, by decide +kernel⟩
abbrev s_silent : Stmt := top 15
abbrev PS_silent : List Str := ["_law_rows", "_law_at"]
abbrev N_silent : List Str := ["_law_rows", "_law_at", "_law_turn"]
def t_silent_1 (K : PySem.W.Frag) : TS := (tRet (tOp ((rIn K false)) (tOp (rIx K) (tOp (rIx K) (tVar 0) (tVar 1)) (tC (.int 0))) (tTup (tCons (tC (.str "keep")) (tCons (tC (.str "jump")) tNil)))))
def t_silent_2 (K : PySem.W.Frag) : TS := (tIfS (tTest (tOp (rEqG K) (tOp (rIx K) (tOp (rIx K) (tVar 0) (tVar 1)) (tC (.int 0))) (tC (.str "jump")))) (tAsg (tOp (rIx K) (tOp (rIx K) (tVar 0) (tVar 1)) (tC (.int 1))) (gName 1)) (tIfS (tTest (tOp (rEqG K) (tOp (rIx K) (tOp (rIx K) (tVar 0) (tVar 1)) (tC (.int 0))) (tC (.str "keep")))) (tAsg (tOp (rPlus K) (tVar 1) (tC (.int 1))) (gName 1)) tNext))
def t_silent (K : PySem.W.Frag) : TS := (tSeq (tFor (iSeq K (tVar 0)) (gName 2) (t_silent_2 K)) (t_silent_1 K))
theorem sc_silent : FnScope N_silent PS_silent (defScope s_silent) := ⟨rfl, rfl, rfl, by decide +kernel, rfl, by decide +kernel, by decide +kernel⟩
abbrev s_code_part : Stmt := top 16
abbrev PS_code_part : List Str := ["_law_state", "_law_places", "_law_counts", "_law_most"]
abbrev N_code_part : List Str := ["_law_state", "_law_places", "_law_counts", "_law_most", "_law_many", "_law_rows", "_law_n"]
def t_code_part_1 (K : PySem.W.Frag) : TS := (tRet (tCB (rTupleOf K) (tCons (tVar 5) tNil)))
def t_code_part_2 (K : PySem.W.Frag) : TS := (tIfS (tB (tCall (sp_silent K) [] E0 (tCons (tVar 5) (tCons (tVar 6) tNil)))) (tAsg (tOp (rIx K) (tLst (tCons (tTup (tCons (tC (.str "say")) (tCons (tC (.int 0)) tNil))) (tCons (tTup (tCons (tC (.str "give")) (tCons (tC (.int 0)) tNil))) tNil))) (tCB (rInt1) (tCons (tOp (rEqG K) (tVar 6) (tOp (rSub2) (tVar 4) (tC (.int 1)))) tNil))) (gSub (tVar 5) (tVar 6) rSetL)) tNext)
def t_code_part_3 (K : PySem.W.Frag) : TS := (tSeq (tFor (iRng1 (tCons (tVar 4) tNil)) (gName 6) (t_code_part_2 K)) (t_code_part_1 K))
def t_code_part_4 (K : PySem.W.Frag) : TS := (tSeq (tIfS (tTest (tOp ((rIn K true)) (tOp (rIx K) (tOp (rIx K) (tVar 5) (tUn rNeg (tC (.int 1)))) (tC (.int 0))) (tTup (tCons (tC (.str "jump")) (tCons (tC (.str "give")) tNil))))) (tAsg (tTup (tCons (tC (.str "give")) (tCons (tCall (sp_draw K) [] E0 (tCons (tVar 0) (tCons (tVar 1) tNil))) tNil))) (gSub (tVar 5) (tUn rNeg (tC (.int 1))) rSetL)) tNext) (t_code_part_3 K))
def t_code_part_5 (K : PySem.W.Frag) : TS := (tSeq (tAsg (tComp [6] 0 (iRng1 (tCons (tVar 4) tNil)) (gName 6) tYes (tCall (sp_code_row K) [] E0 (tCons (tVar 0) (tCons (tVar 1) (tCons (tVar 4) (tCons (tVar 2) tNil)))))) (gName 5)) (t_code_part_4 K))
def t_code_part (K : PySem.W.Frag) : TS := (tSeq (tAsg (tOp (rPlus K) (tC (.int 1)) (tCall (sp_draw K) [] E0 (tCons (tVar 0) (tCons (tVar 3) tNil)))) (gName 4)) (t_code_part_5 K))
theorem sc_code_part : FnScope N_code_part PS_code_part (defScope s_code_part) := ⟨rfl, rfl, rfl, by decide +kernel, rfl, by decide +kernel, by decide +kernel⟩
abbrev s_code : Stmt := top 17
abbrev PS_code : List Str := ["_law_state", "_law_most", "_law_parts"]
abbrev N_code : List Str := ["_law_state", "_law_most", "_law_parts", "_law_places", "_law_counts"]
def t_code_1 (K : PySem.W.Frag) : TS := (tRet (tTup (tCons (tVar 3) (tCons (tCB (rTupleOf K) (tCons (tComp [] 1 (iSeq K (tVar 4)) (gName 5) tYes (tTup (tCons (tVar 5) (tCons (tCall (sp_code_part K) [] E0 (tCons (tVar 0) (tCons (tVar 3) (tCons (tVar 4) (tCons (tVar 1) tNil))))) tNil)))) tNil)) tNil))))
def t_code_2 (K : PySem.W.Frag) : TS := (tSeq (tAsg (tComp [] 1 (iRng1 (tCons (tVar 2) tNil)) (gName 5) tYes (tCall (sp_draw K) [] E0 (tCons (tVar 0) (tCons (tC (.int 5)) tNil)))) (gName 4)) (t_code_1 K))
def t_code (K : PySem.W.Frag) : TS := (tSeq (tAsg (tOp (rIx K) (tLst (tCons (tOp (rPlus K) (tC (.int 1)) (tCall (sp_draw K) [] E0 (tCons (tVar 0) (tCons (tC (.int 4)) tNil)))) (tCons (tOp (rPlus K) (tC (.int 1)) (tCall (sp_draw K) [] E0 (tCons (tVar 0) (tCons (tC (.int 16)) tNil)))) tNil))) (tCall (sp_draw K) [] E0 (tCons (tVar 0) (tCons (tC (.int 2)) tNil)))) (gName 3)) (t_code_2 K))
theorem sc_code : FnScope N_code PS_code (defScope s_code) := ⟨rfl, rfl, rfl, by decide +kernel, rfl, by decide +kernel, by decide +kernel⟩
abbrev s_row_fits : Stmt := top 18
abbrev PS_row_fits : List Str := ["_law_code_here", "_law_row", "_law_many"]
abbrev N_row_fits : List Str := ["_law_code_here", "_law_row", "_law_many", "_law_places", "_law_aims"]
def t_row_fits_1 (K : PySem.W.Frag) : TS := (tRet (tOp (rEqG K) (tComp [] 1 (iSeq K (tVar 4)) (gName 5) (tOr (tTest (tOp (rLt2) (tVar 5) (tC (.int 0)))) (tTest (tOp (rGe2) (tVar 5) (tVar 2)))) (tVar 5)) (tLst tNil)))
def t_row_fits_2 (K : PySem.W.Frag) : TS := (tSeq (tIfS (tTest (tOp (rNeG K) (tComp [] 1 (iSeq K (tVar 3)) (gName 5) (tOr (tTest (tOp (rLt2) (tVar 5) (tC (.int 0)))) (tTest (tOp (rGe2) (tVar 5) (tOp (rIx K) (tVar 0) (tC (.int 0)))))) (tVar 5)) (tLst tNil))) (tRet (tC (.bl false))) tNext) (t_row_fits_1 K))
def t_row_fits_3 (K : PySem.W.Frag) : TS := (tAsg (tCB (rListOf K) (tCons (tOp (rIx K) (tVar 1) (tC (.int 2))) tNil)) (gName 3))
def t_row_fits_4 (K : PySem.W.Frag) : TS := (tAsg (tLst (tCons (tOp (rIx K) (tVar 1) (tC (.int 2))) tNil)) (gName 4))
def t_row_fits_5 (K : PySem.W.Frag) : TS := (tSeq (tIfS (tTest (tOp (rEqG K) (tOp (rIx K) (tVar 1) (tC (.int 0))) (tC (.str "op")))) (tAsg (tLst (tCons (tOp (rIx K) (tVar 1) (tC (.int 2))) (tCons (tOp (rIx K) (tVar 1) (tC (.int 3))) tNil))) (gName 3)) (tIfS (tTest (tOp (rEqG K) (tOp (rIx K) (tVar 1) (tC (.int 0))) (tC (.str "call")))) (tSeq (tIfS (tOr (tNot (tTest (tChain (rLe2) (rLt2) (tC (.int 0)) (tOp (rIx K) (tVar 1) (tC (.int 1))) (tCB (rLen K) (tCons (tOp (rIx K) (tVar 0) (tC (.int 1))) tNil))))) (tTest (tOp (rNeG K) (tOp (rIx K) (tOp (rIx K) (tOp (rIx K) (tVar 0) (tC (.int 1))) (tOp (rIx K) (tVar 1) (tC (.int 1)))) (tC (.int 0))) (tCB (rLen K) (tCons (tOp (rIx K) (tVar 1) (tC (.int 2))) tNil))))) (tRet (tC (.bl false))) tNext) (t_row_fits_3 K)) (tIfS (tTest (tOp (rEqG K) (tOp (rIx K) (tVar 1) (tC (.int 0))) (tC (.str "jump")))) (tAsg (tLst (tCons (tOp (rIx K) (tVar 1) (tC (.int 1))) tNil)) (gName 4)) (tIfS (tTest (tOp (rEqG K) (tOp (rIx K) (tVar 1) (tC (.int 0))) (tC (.str "test")))) (tSeq (tAsg (tLst (tCons (tOp (rIx K) (tVar 1) (tC (.int 1))) tNil)) (gName 3)) (t_row_fits_4 K)) (tIfS (tTest (tOp (rNeG K) (tOp (rIx K) (tVar 1) (tC (.int 0))) (tC (.str "num")))) (tAsg (tLst (tCons (tOp (rIx K) (tVar 1) (tC (.int 1))) tNil)) (gName 3)) tNext))))) (t_row_fits_2 K))
def t_row_fits_6 (K : PySem.W.Frag) : TS := (tSeq (tAsg (tLst tNil) (gName 4)) (t_row_fits_5 K))
def t_row_fits (K : PySem.W.Frag) : TS := (tSeq (tAsg (tLst tNil) (gName 3)) (t_row_fits_6 K))
theorem sc_row_fits : FnScope N_row_fits PS_row_fits (defScope s_row_fits) := ⟨rfl, rfl, rfl, by decide +kernel, rfl, by decide +kernel, by decide +kernel⟩
abbrev s_fits : Stmt := top 19
abbrev PS_fits : List Str := ["_law_code_here"]
abbrev N_fits : List Str := ["_law_code_here", "_law_count", "_law_rows"]
def t_fits_1 (K : PySem.W.Frag) : TS := (tRet (tC (.bl true)))
def t_fits_2 (K : PySem.W.Frag) : TS := (tIfS (tB (tCB (rAny K) (tCons (tComp [] 1 (iRng1 (tCons (tCB (rLen K) (tCons (tVar 2) tNil)) tNil)) (gName 3) tYes (tCall (sp_silent K) [] E0 (tCons (tVar 2) (tCons (tVar 3) tNil)))) tNil))) (tRet (tC (.bl false))) tNext)
def t_fits_3 (K : PySem.W.Frag) : TS := (tSeq (tIfS (tNot (tB (tCB (rAll K) (tCons (tComp [] 1 (iSeq K (tVar 2)) (gName 3) tYes (tCall (sp_row_fits K) [] E0 (tCons (tVar 0) (tCons (tVar 3) (tCons (tCB (rLen K) (tCons (tVar 2) tNil)) tNil))))) tNil)))) (tRet (tC (.bl false))) tNext) (t_fits_2 K))
def t_fits_4 (K : PySem.W.Frag) : TS := (tSeq (tIfS (tOr (tTest (tOp (rLt2) (tVar 1) (tC (.int 0)))) (tOr (tTest (tOp (rGt2) (tVar 1) (tC (.int 4)))) (tOr (tTest (tOp (rEqW K) (tVar 2) (tTup tNil))) (tTest (tOp ((rIn K true)) (tOp (rIx K) (tOp (rIx K) (tVar 2) (tUn rNeg (tC (.int 1)))) (tC (.int 0))) (tTup (tCons (tC (.str "jump")) (tCons (tC (.str "give")) tNil)))))))) (tRet (tC (.bl false))) tNext) (t_fits_3 K))
def t_fits_5 (K : PySem.W.Frag) : TS := (tSeq (tFor (iSeq K (tOp (rIx K) (tVar 0) (tC (.int 1)))) (gTup K 2 (gCons (gName 1) (gCons (gName 2) gNil))) (t_fits_4 K)) (t_fits_1 K))
def t_fits (K : PySem.W.Frag) : TS := (tSeq (tIfS (tOr (tTest (tOp (rLt2) (tOp (rIx K) (tVar 0) (tC (.int 0))) (tC (.int 1)))) (tTest (tOp (rGt2) (tOp (rIx K) (tVar 0) (tC (.int 0))) (tC (.int 16))))) (tRet (tC (.bl false))) tNext) (t_fits_5 K))
theorem sc_fits : FnScope N_fits PS_fits (defScope s_fits) := ⟨rfl, rfl, rfl, by decide +kernel, rfl, by decide +kernel, by decide +kernel⟩
abbrev s_other : Stmt := top 20
abbrev PS_other : List Str := ["_law_state", "_law_old", "_law_most"]
abbrev N_other : List Str := ["_law_state", "_law_old", "_law_most"]
def t_other (K : PySem.W.Frag) : TS := (tRet (tOp (rIx K) (tLst (tCons (tOp (rPlus K) (tVar 1) (tC (.int 1))) (tCons (tOp (rSub2) (tVar 1) (tC (.int 1))) (tCons (tVar 2) (tCons (tOp (rSub2) (tVar 2) (tC (.int 1))) (tCons (tUn rNeg (tC (.int 1))) (tCons (tC (.int 0)) (tCons (tCall (sp_draw K) [] E0 (tCons (tVar 0) (tCons (tC (.int 70)) tNil))) (tCons (tOp (rPow2) (tC (.int 10)) (tC (.int 9))) tNil))))))))) (tCall (sp_draw K) [] E0 (tCons (tVar 0) (tCons (tC (.int 8)) tNil)))))
theorem sc_other : FnScope N_other PS_other (defScope s_other) := ⟨rfl, rfl, rfl, by decide +kernel, rfl, by decide +kernel, by decide +kernel⟩
abbrev s_row_changed : Stmt := top 21
abbrev PS_row_changed : List Str := ["_law_state", "_law_code_here", "_law_row", "_law_many"]
abbrev N_row_changed : List Str := ["_law_state", "_law_code_here", "_law_row", "_law_many", "_law_word", "_law_at", "_law_some", "_law_way"]
def t_row_changed_1 (K : PySem.W.Frag) : TS := (tRet (tOp (rPlusW K) (tTup (tCons (tVar 4) (tCons (tCall (sp_other K) [] E0 (tCons (tVar 0) (tCons (tOp (rIx K) (tVar 2) (tC (.int 1))) (tCons (tOp (rIx K) (tVar 1) (tC (.int 0))) tNil)))) tNil))) (tSl (rSlW K) (tVar 2) (tPart (tC (.int 2))) tNoPart)))
def t_row_changed_2 (K : PySem.W.Frag) : TS := (tSeq (tIfS (tTest (tOp (rEqW K) (tVar 4) (tC (.str "num")))) (tRet (tTup (tCons (tC (.str "jump")) (tCons (tCall (sp_draw K) [] E0 (tCons (tVar 0) (tCons (tVar 3) tNil))) tNil)))) tNext) (t_row_changed_1 K))
def t_row_changed_3 (K : PySem.W.Frag) : TS := (tRet (tTup (tCons (tVar 4) (tCons (tOp (rIx K) (tVar 2) (tC (.int 1))) (tCons (tOp (rIx K) (tVar 6) (tVar 7)) tNil)))))
def t_row_changed_4 (K : PySem.W.Frag) : TS := (tSeq (tIfS (tTest (tOp (rEqW K) (tVar 7) (tC (.int 4)))) (tRet (tTup (tCons (tVar 4) (tCons (tCall (sp_other K) [] E0 (tCons (tVar 0) (tCons (tOp (rIx K) (tVar 2) (tC (.int 1))) (tCons (tCB (rLen K) (tCons (tOp (rIx K) (tVar 1) (tC (.int 1))) tNil)) tNil)))) (tCons (tVar 5) tNil))))) tNext) (t_row_changed_3 K))
def t_row_changed_5 (K : PySem.W.Frag) : TS := (tSeq (tAsg (tCall (sp_draw K) [] E0 (tCons (tVar 0) (tCons (tC (.int 5)) tNil))) (gName 7)) (t_row_changed_4 K))
def t_row_changed_6 (K : PySem.W.Frag) : TS := (tSeq (tAsg (tLst (tCons (tOp (rPlusW K) (tVar 5) (tTup (tCons (tC (.int 0)) tNil))) (tCons (tSl (rSlW K) (tVar 5) (tPart (tC (.int 1))) tNoPart) (tCons (tOp (rPlusW K) (tTup (tCons (tOp (rIx K) (tVar 1) (tC (.int 0))) tNil)) (tSl (rSlW K) (tVar 5) (tPart (tC (.int 1))) tNoPart)) (tCons (tCB (rTupleOf K) (tCons (tComp [] 1 (iSeq K (tVar 5)) (gName 8) tYes (tOp (rSub2) (tVar 8) (tC (.int 1)))) tNil)) tNil))))) (gName 6)) (t_row_changed_5 K))
def t_row_changed_7 (K : PySem.W.Frag) : TS := (tSeq (tIfS (tTest (tOp (rEqW K) (tVar 4) (tC (.str "call")))) (tSeq (tAsg (tOp (rIx K) (tVar 2) (tC (.int 2))) (gName 5)) (t_row_changed_6 K)) tNext) (t_row_changed_2 K))
def t_row_changed_8 (K : PySem.W.Frag) : TS := (tSeq (tIfS (tTest (tOp (rEqW K) (tVar 4) (tC (.str "jump")))) (tRet (tTup (tCons (tVar 4) (tCons (tCall (sp_other K) [] E0 (tCons (tVar 0) (tCons (tOp (rIx K) (tVar 2) (tC (.int 1))) (tCons (tVar 3) tNil)))) tNil)))) tNext) (t_row_changed_7 K))
def t_row_changed_9 (K : PySem.W.Frag) : TS := (tSeq (tIfS (tAnd (tTest (tOp (rEqW K) (tVar 4) (tC (.str "test")))) (tTest (tOp (rEqW K) (tCall (sp_draw K) [] E0 (tCons (tVar 0) (tCons (tC (.int 2)) tNil))) (tC (.int 0))))) (tRet (tTup (tCons (tVar 4) (tCons (tOp (rIx K) (tVar 2) (tC (.int 1))) (tCons (tCall (sp_other K) [] E0 (tCons (tVar 0) (tCons (tOp (rIx K) (tVar 2) (tC (.int 2))) (tCons (tVar 3) tNil)))) tNil))))) tNext) (t_row_changed_8 K))
def t_row_changed_10 (K : PySem.W.Frag) : TS := (tSeq (tIfS (tTest (tOp (rEqW K) (tVar 4) (tC (.str "op")))) (tRet (tTup (tCons (tVar 4) (tCons (tOp (rIx K) (tVar 2) (tC (.int 1))) (tCons (tCall (sp_other K) [] E0 (tCons (tVar 0) (tCons (tOp (rIx K) (tVar 2) (tC (.int 2))) (tCons (tOp (rIx K) (tVar 1) (tC (.int 0))) tNil)))) (tCons (tOp (rIx K) (tVar 2) (tC (.int 3))) tNil)))))) tNext) (t_row_changed_9 K))
def t_row_changed (K : PySem.W.Frag) : TS := (tSeq (tAsg (tOp (rIx K) (tVar 2) (tC (.int 0))) (gName 4)) (t_row_changed_10 K))
theorem sc_row_changed : FnScope N_row_changed PS_row_changed (defScope s_row_changed) := ⟨rfl, rfl, rfl, by decide +kernel, rfl, by decide +kernel, by decide +kernel⟩
abbrev s_rows_changed : Stmt := top 22
abbrev PS_rows_changed : List Str := ["_law_state", "_law_code_here", "_law_rows"]
abbrev N_rows_changed : List Str := ["_law_state", "_law_code_here", "_law_rows", "_law_at", "_law_way", "_law_other_here"]
def t_rows_changed_1 (K : PySem.W.Frag) : TS := (tRet (tOp (rPlusW K) (tOp (rPlusW K) (tSl (rSlW K) (tVar 2) tNoPart (tPart (tVar 3))) (tTup (tCons (tVar 5) tNil))) (tSl (rSlW K) (tVar 2) (tPart (tOp (rPlusW K) (tVar 3) (tC (.int 1)))) tNoPart)))
def t_rows_changed_2 (K : PySem.W.Frag) : TS := (tSeq (tAsg (tCall (sp_row_changed K) [] E0 (tCons (tVar 0) (tCons (tVar 1) (tCons (tOp (rIx K) (tVar 2) (tVar 3)) (tCons (tCB (rLen K) (tCons (tVar 2) tNil)) tNil))))) (gName 5)) (t_rows_changed_1 K))
def t_rows_changed_3 (K : PySem.W.Frag) : TS := (tSeq (tIfS (tTest (tOp (rEqW K) (tVar 4) (tC (.int 4)))) (tRet (tOp (rPlusW K) (tOp (rPlusW K) (tSl (rSlW K) (tVar 2) tNoPart (tPart (tVar 3))) (tTup (tCons (tTup (tCons (tC (.str "keep")) (tCons (tC (.int 0)) tNil))) tNil))) (tSl (rSlW K) (tVar 2) (tPart (tOp (rPlusW K) (tVar 3) (tC (.int 1)))) tNoPart))) tNext) (t_rows_changed_2 K))
def t_rows_changed_4 (K : PySem.W.Frag) : TS := (tSeq (tIfS (tTest (tOp (rEqW K) (tVar 4) (tC (.int 3)))) (tRet (tOp (rPlusW K) (tOp (rPlusW K) (tSl (rSlW K) (tVar 2) tNoPart (tPart (tVar 3))) (tTup (tCons (tTup (tCons (tC (.str "jump")) (tCons (tCall (sp_draw K) [] E0 (tCons (tVar 0) (tCons (tCB (rLen K) (tCons (tVar 2) tNil)) tNil))) tNil))) tNil))) (tSl (rSlW K) (tVar 2) (tPart (tOp (rPlusW K) (tVar 3) (tC (.int 1)))) tNoPart))) tNext) (t_rows_changed_3 K))
def t_rows_changed_5 (K : PySem.W.Frag) : TS := (tSeq (tIfS (tTest (tOp (rEqW K) (tVar 4) (tC (.int 2)))) (tRet (tOp (rPlusW K) (tSl (rSlW K) (tVar 2) tNoPart (tPart (tUn rNeg (tC (.int 1))))) (tTup (tCons (tTup (tCons (tC (.str "test")) (tCons (tC (.int 0)) (tCons (tC (.int 0)) tNil)))) tNil)))) tNext) (t_rows_changed_4 K))
def t_rows_changed_6 (K : PySem.W.Frag) : TS := (tSeq (tIfS (tTest (tOp (rEqW K) (tVar 4) (tC (.int 1)))) (tRet (tOp (rPlusW K) (tSl (rSlW K) (tVar 2) tNoPart (tPart (tUn rNeg (tC (.int 1))))) (tTup (tCons (tTup (tCons (tC (.str "num")) (tCons (tC (.int 3)) tNil))) tNil)))) tNext) (t_rows_changed_5 K))
def t_rows_changed_7 (K : PySem.W.Frag) : TS := (tSeq (tIfS (tTest (tOp (rEqW K) (tVar 4) (tC (.int 0)))) (tRet (tTup tNil)) tNext) (t_rows_changed_6 K))
def t_rows_changed_8 (K : PySem.W.Frag) : TS := (tSeq (tAsg (tCall (sp_draw K) [] E0 (tCons (tVar 0) (tCons (tC (.int 12)) tNil))) (gName 4)) (t_rows_changed_7 K))
def t_rows_changed (K : PySem.W.Frag) : TS := (tSeq (tAsg (tCall (sp_draw K) [] E0 (tCons (tVar 0) (tCons (tCB (rLen K) (tCons (tVar 2) tNil)) tNil))) (gName 3)) (t_rows_changed_8 K))
theorem sc_rows_changed : FnScope N_rows_changed PS_rows_changed (defScope s_rows_changed) := ⟨rfl, rfl, rfl, by decide +kernel, rfl, by decide +kernel, by decide +kernel⟩
abbrev s_changed : Stmt := top 23
abbrev PS_changed : List Str := ["_law_state", "_law_code_here"]
abbrev N_changed : List Str := ["_law_state", "_law_code_here", "_law_places", "_law_parts", "_law_way", "_law_k", "_law_count", "_law_rows"]
def t_changed_1 (K : PySem.W.Frag) : TS := (tRet (tTup (tCons (tVar 2) (tCons (tOp (rPlusW K) (tOp (rPlusW K) (tSl (rSlW K) (tVar 3) tNoPart (tPart (tVar 5))) (tTup (tCons (tTup (tCons (tVar 6) (tCons (tVar 7) tNil))) tNil))) (tSl (rSlW K) (tVar 3) (tPart (tOp (rPlusW K) (tVar 5) (tC (.int 1)))) tNoPart)) tNil))))
def t_changed_2 (K : PySem.W.Frag) : TS := (tSeq (tIfS (tTest (tOp (rEqW K) (tVar 4) (tC (.int 1)))) (tAsg (tOp (rIx K) (tLst (tCons (tC (.int 5)) (tCons (tUn rNeg (tC (.int 1))) (tCons (tOp (rPlusW K) (tVar 6) (tC (.int 1))) (tCons (tOp (rSub2) (tVar 6) (tC (.int 1))) tNil))))) (tCall (sp_draw K) [] E0 (tCons (tVar 0) (tCons (tC (.int 4)) tNil)))) (gName 6)) (tAsg (tCall (sp_rows_changed K) [] E0 (tCons (tVar 0) (tCons (tVar 1) (tCons (tVar 7) tNil)))) (gName 7))) (t_changed_1 K))
def t_changed_3 (K : PySem.W.Frag) : TS := (tSeq (tAsg (tOp (rIx K) (tVar 3) (tVar 5)) (gTup K 2 (gCons (gName 6) (gCons (gName 7) gNil)))) (t_changed_2 K))
def t_changed_4 (K : PySem.W.Frag) : TS := (tSeq (tAsg (tCall (sp_draw K) [] E0 (tCons (tVar 0) (tCons (tCB (rLen K) (tCons (tVar 3) tNil)) tNil))) (gName 5)) (t_changed_3 K))
def t_changed_5 (K : PySem.W.Frag) : TS := (tSeq (tIfS (tTest (tOp (rEqW K) (tVar 4) (tC (.int 0)))) (tRet (tTup (tCons (tOp (rIx K) (tLst (tCons (tC (.int 0)) (tCons (tC (.int 17)) (tCons (tUn rNeg (tC (.int 1))) (tCons (tC (.int 16)) (tCons (tC (.int 1)) (tCons (tOp (rSub2) (tVar 2) (tC (.int 1))) tNil))))))) (tCall (sp_draw K) [] E0 (tCons (tVar 0) (tCons (tC (.int 6)) tNil)))) (tCons (tVar 3) tNil)))) tNext) (t_changed_4 K))
def t_changed_6 (K : PySem.W.Frag) : TS := (tSeq (tAsg (tCall (sp_draw K) [] E0 (tCons (tVar 0) (tCons (tC (.int 10)) tNil))) (gName 4)) (t_changed_5 K))
def t_changed (K : PySem.W.Frag) : TS := (tSeq (tAsg (tVar 1) (gTup K 2 (gCons (gName 2) (gCons (gName 3) gNil)))) (t_changed_6 K))
theorem sc_changed : FnScope N_changed PS_changed (defScope s_changed) := ⟨rfl, rfl, rfl, by decide +kernel, rfl, by decide +kernel, by decide +kernel⟩
abbrev s_chain_right : Stmt := top 24
abbrev PS_chain_right : List Str := ["_law_many", "_law_to"]
abbrev N_chain_right : List Str := ["_law_many", "_law_to", "_law_rows"]
def t_chain_right_1 (K : PySem.W.Frag) : TS := (tRet (tOp (rEqW K) (tCall (sp_p_fits K) [] E0 (tCons (tTup (tCons (tC (.int 1)) (tCons (tTup (tCons (tTup (tCons (tC (.int 0)) (tCons (tVar 2) tNil))) tNil)) tNil))) tNil)) (tOp (rGt2) (tVar 1) (tVar 0))))
def t_chain_right (K : PySem.W.Frag) : TS := (tSeq (tAsg (tOp (rPlusW K) (tOp (rTimes K) (tTup (tCons (tTup (tCons (tC (.str "keep")) (tCons (tC (.int 0)) tNil))) tNil)) (tVar 0)) (tTup (tCons (tTup (tCons (tC (.str "jump")) (tCons (tVar 1) tNil))) (tCons (tTup (tCons (tC (.str "give")) (tCons (tC (.int 0)) tNil))) tNil)))) (gName 2)) (t_chain_right_1 K))
theorem sc_chain_right : FnScope N_chain_right PS_chain_right (defScope s_chain_right) := ⟨rfl, rfl, rfl, by decide +kernel, rfl, by decide +kernel, by decide +kernel⟩
abbrev s_law : Stmt := top 25
abbrev PS_law : List Str := ["_law_script"]
abbrev N_law : List Str := ["_law_script", "_law_state", "_law_code_here", "_law_many", "_law_turn", "_law_other_here", "_law_found"]
def t_law_1 (K : PySem.W.Frag) : TS := (tRet (tOp (rIsB) (tCall (sp_p_fits K) [] E0 (tCons (tVar 2) tNil)) (tC (.bl true))))
def t_law_2 (K : PySem.W.Frag) : TS := (tIfS (tOr (tNot (tB (tCB (rIsi K) (tCons (tVar 6) (tCons (tC (.ty "bool")) tNil))))) (tTest (tOp (rNeG K) (tVar 6) (tCall (sp_fits K) [] E0 (tCons (tVar 5) tNil))))) (tRet (tC (.bl false))) tNext)
def t_law_3 (K : PySem.W.Frag) : TS := (tSeq (tAsg (tCall (sp_p_fits K) [] E0 (tCons (tVar 5) tNil)) (gName 6)) (t_law_2 K))
def t_law_4 (K : PySem.W.Frag) : TS := (tSeq (tAsg (tCall (sp_changed K) [] E0 (tCons (tVar 1) (tCons (tVar 2) tNil))) (gName 5)) (t_law_3 K))
def t_law_5 (K : PySem.W.Frag) : TS := (tSeq (tFor (iRng1 (tCons (tC (.int 6)) tNil)) (gName 4) (t_law_4 K)) (t_law_1 K))
def t_law_6 (K : PySem.W.Frag) : TS := (tSeq (tIfS (tNot (tB (tCall (sp_chain_right K) [] E0 (tCons (tVar 3) (tCons (tCall (sp_draw K) [] E0 (tCons (tVar 1) (tCons (tOp (rPlus K) (tVar 3) (tC (.int 2))) tNil))) tNil))))) (tRet (tC (.bl false))) tNext) (t_law_5 K))
def t_law_7 (K : PySem.W.Frag) : TS := (tSeq (tAsg (tCall (sp_draw K) [] E0 (tCons (tVar 1) (tCons (tC (.int 150)) tNil))) (gName 3)) (t_law_6 K))
def t_law_8 (K : PySem.W.Frag) : TS := (tSeq (tIfS (tOr (tTest (tOp (rNotB) (tCall (sp_p_fits K) [] E0 (tCons (tVar 2) tNil)) (tC (.bl true)))) (tNot (tB (tCall (sp_chain_right K) [] E0 (tCons (tCall (sp_draw K) [] E0 (tCons (tVar 1) (tCons (tC (.int 150)) tNil))) (tCons (tC (.int 0)) tNil)))))) (tRet (tC (.bl false))) tNext) (t_law_7 K))
def t_law_9 (K : PySem.W.Frag) : TS := (tSeq (tAsg (tCall (sp_code K) [] E0 (tCons (tVar 1) (tCons (tC (.int 24)) (tCons (tOp (rPlus K) (tC (.int 1)) (tCall (sp_draw K) [] E0 (tCons (tVar 1) (tCons (tC (.int 3)) tNil)))) tNil)))) (gName 2)) (t_law_8 K))
def t_law (K : PySem.W.Frag) : TS := (tSeq (tAsg (tLst (tCons (tVar 0) (tCons (tC (.int 0)) (tCons (tC (.int 0)) tNil)))) (gName 1)) (t_law_9 K))
theorem sc_law : FnScope N_law PS_law (defScope s_law) := ⟨rfl, rfl, rfl, by decide +kernel, rfl, by decide +kernel, by decide +kernel⟩
end Bg
end
section
set_option Elab.async false
set_option linter.all false
set_option maxRecDepth 100000
set_option maxHeartbeats 4000000
namespace Bg
open PySem PySem.Spec PyProof.Rows L2
theorem d_c_goal {P : Program} {w : World} {K : PySem.W.Frag} {mg : Str → Option Value} {base : Heap} {f : Addr} {cdv : Value} {A : Around} {outer : List Env} {s : Shared} {H : Hp} {E : XK} (B : Blt mg) 
    (hr : Room k_c_goal (A.deeper (envOfC "goal" (defScope s_c_goal) s.heap.objs.size f cdv))) : PSs (cxOf CX0 P w K mg base N_c_goal "goal" (defScope s_c_goal) f cdv A outer s H E).nox (defBody s_c_goal) (t_c_goal K) := by
  have nd := sc_c_goal.nd
  have hu := hr.units0
  have hu1 := hu_of hr
  exact (show QSs (cxOf CX0 P w K mg base N_c_goal "goal" (defScope s_c_goal) f cdv A outer s H E).nox (defBody s_c_goal) (t_c_goal K) from (qss_cons (qs_if (qt_cmpR (op_eqG hu) (qe_ix ix_seq (qv 0) qe_int (fun _ _ => rfl)) qe_str rfl) (qss_one (qs_ret (qe_ix ix_seq (qv 0) qe_int (fun _ _ => rfl)))) qss_nil) (qss_cons (qs_if (qt_cmpR (op_eqG hu) (qe_ix ix_seq (qv 0) qe_int (fun _ _ => rfl)) qe_str rfl) (qss_one (qs_ret (qe_ix ix_seq (qv 0) qe_int (fun _ _ => rfl)))) qss_nil) (qss_one (qs_ret qe_non))))).up
end Bg
end
section
set_option Elab.async false
set_option linter.all false
set_option maxRecDepth 100000
set_option maxHeartbeats 4000000
namespace Bg
open PySem PySem.Spec PyProof.Rows L2
theorem d_c_leads {P : Program} {w : World} {K : PySem.W.Frag} {mg : Str → Option Value} {base : Heap} {f : Addr} {cdv : Value} {A : Around} {outer : List Env} {s : Shared} {H : Hp} {E : XK} (B : Blt mg) (c_c_goal : Callee P w K mg base "goal" PS_c_goal K_c_goal (sp_c_goal K))
    (hr : Room k_c_leads (A.deeper (envOfC "leads" (defScope s_c_leads) s.heap.objs.size f cdv))) : PSs (cxOf CX0 P w K mg base N_c_leads "leads" (defScope s_c_leads) f cdv A outer s H E).nox (defBody s_c_leads) (t_c_leads K) := by
  have nd := sc_c_leads.nd
  have hu := hr.units0
  have hu1 := hu_of hr
  exact (show QSs (cxOf CX0 P w K mg base N_c_leads "leads" (defScope s_c_leads) f cdv A outer s H E).nox (defBody s_c_leads) (t_c_leads K) from (qss_cons (qs_set (i := 2) nd rfl (Or.inl rfl) (qe_ix ix_seq (qe_ix ix_seq (qv 0) (qv 1) (fun _ _ => rfl)) qe_int (fun _ _ => rfl))) (qss_cons (qs_if (qt_cmpR (op_eqG hu) (qv 2) qe_str rfl) (qss_one (qs_ret (qe_tup qa_nil))) qss_nil) (qss_cons (qs_if (qt_cmpR (op_eqG hu) (qv 2) qe_str rfl) (qss_one (qs_ret (qe_tup (qa_cons (qe_fn c_c_goal (hr.mono (by decide)) rfl (qa_cons (qe_ix ix_seq (qv 0) (qv 1) (fun _ _ => rfl)) qa_nil)) qa_nil)))) qss_nil) (qss_cons (qs_if (qt_cmpR (op_eqG hu) (qv 2) qe_str rfl) (qss_one (qs_ret (qe_tup (qa_cons (qe_op op_plus (qv 1) qe_int) (qa_cons (qe_fn c_c_goal (hr.mono (by decide)) rfl (qa_cons (qe_ix ix_seq (qv 0) (qv 1) (fun _ _ => rfl)) qa_nil)) qa_nil))))) qss_nil) (qss_one (qs_ret (qe_tup (qa_cons (qe_op op_plus (qv 1) qe_int) qa_nil))))))))).up
end Bg
end
section
set_option Elab.async false
set_option linter.all false
set_option maxRecDepth 100000
set_option maxHeartbeats 4000000
namespace Bg
open PySem PySem.Spec PyProof.Rows L2
theorem d_p_has_ring {P : Program} {w : World} {K : PySem.W.Frag} {mg : Str → Option Value} {base : Heap} {f : Addr} {cdv : Value} {A : Around} {outer : List Env} {s : Shared} {H : Hp} {E : XK} (B : Blt mg) (c_c_leads : Callee P w K mg base "leads" PS_c_leads K_c_leads (sp_c_leads K))
    (hr : Room k_p_has_ring (A.deeper (envOfC "has_ring" (defScope s_p_has_ring) s.heap.objs.size f cdv))) : PSs (cxOf CX0 P w K mg base N_p_has_ring "has_ring" (defScope s_p_has_ring) f cdv A outer s H E).nox (defBody s_p_has_ring) (t_p_has_ring K) := by
  have nd := sc_p_has_ring.nd
  have hu := hr.units0
  have hu1 := hu_of hr
  exact (show QSs (cxOf CX0 P w K mg base N_p_has_ring "has_ring" (defScope s_p_has_ring) f cdv A outer s H E).nox (defBody s_p_has_ring) (t_p_has_ring K) from (qss_cons (qs_set (i := 1) nd rfl (Or.inl rfl) qe_dnewK) (qss_cons (qs_for PassesOwn.never rfl (qi_range1 rfl B.range_ (qa_cons (qe_callB call_len rfl B.len_ boot_len (qa_cons (qv 0) qa_nil)) qa_nil)) (qg_name (i := 2) nd rfl (Or.inl rfl)) (qss_cons (qs_set (i := 3) nd rfl (Or.inl rfl) qe_dnewK) (qss_cons (qs_set (i := 4) nd rfl (Or.inl rfl) (qv 2)) (qss_cons (qs_while PassesOwn.never (QW.pt (qw_and (qt_cmpR op_in_seq (qe_ix ix_seq (qe_ix ix_seq (qv 0) (qv 4) (fun _ _ => rfl)) qe_int (fun _ _ => rfl)) (qe_tup (qa_cons qe_str (qa_cons qe_str qa_nil))) rfl) (qw_and1 (qt_cmpR (op_notInD hu1) (qv 4) (qv 1) rfl)))) (qss_cons (qs_if (qt_cmpR (op_inD hu1) (qv 4) (qv 3) rfl) (qss_one (qs_ret qe_bl)) qss_nil) (qss_cons (qs_asg qe_bl (qg_sub (qv 3) (qv 4) (set_dict hu1))) (qss_one (qs_set (i := 4) nd rfl (Or.inl rfl) (qe_ix ix_seq (qe_fn c_c_leads (hr.mono (by decide)) rfl (qa_cons (qv 0) (qa_cons (qv 4) qa_nil))) qe_int (fun _ _ => rfl))))))) (qss_one (qs_expr (qe_dupd (qv 1) (qv 3) ⟨rfl, rfl, rfl, rfl⟩))))))) (qss_one (qs_ret qe_bl))))).up
end Bg
end
section
set_option Elab.async false
set_option linter.all false
set_option maxRecDepth 100000
set_option maxHeartbeats 4000000
namespace Bg
open PySem PySem.Spec PyProof.Rows L2
theorem d_p_is_number_of {P : Program} {w : World} {K : PySem.W.Frag} {mg : Str → Option Value} {base : Heap} {f : Addr} {cdv : Value} {A : Around} {outer : List Env} {s : Shared} {H : Hp} {E : XK} (B : Blt mg) 
    (hr : Room k_p_is_number_of (A.deeper (envOfC "is_number_of" (defScope s_p_is_number_of) s.heap.objs.size f cdv))) : PSs (cxOf CX0 P w K mg base N_p_is_number_of "is_number_of" (defScope s_p_is_number_of) f cdv A outer s H E).nox (defBody s_p_is_number_of) (t_p_is_number_of K) := by
  have nd := sc_p_is_number_of.nd
  have hu := hr.units0
  have hu1 := hu_of hr
  exact (show QSs (cxOf CX0 P w K mg base N_p_is_number_of "is_number_of" (defScope s_p_is_number_of) f cdv A outer s H E).nox (defBody s_p_is_number_of) (t_p_is_number_of K) from (qss_one (qs_ret (qe_and (qe_cmpR op_ge (qv 0) qe_int rfl) (qe_one (qe_cmpR op_lt (qv 0) (qv 1) rfl)))))).up
end Bg
end
section
set_option Elab.async false
set_option linter.all false
set_option maxRecDepth 100000
set_option maxHeartbeats 4000000
namespace Bg
open PySem PySem.Spec PyProof.Rows L2
theorem d_p_call_fits {P : Program} {w : World} {K : PySem.W.Frag} {mg : Str → Option Value} {base : Heap} {f : Addr} {cdv : Value} {A : Around} {outer : List Env} {s : Shared} {H : Hp} {E : XK} (B : Blt mg) (c_p_is_number_of : Callee P w K mg base "is_number_of" PS_p_is_number_of K_p_is_number_of (sp_p_is_number_of K))
    (hr : Room k_p_call_fits (A.deeper (envOfC "call_fits" (defScope s_p_call_fits) s.heap.objs.size f cdv))) : PSs (cxOf CX0 P w K mg base N_p_call_fits "call_fits" (defScope s_p_call_fits) f cdv A outer s H E).nox (defBody s_p_call_fits) (t_p_call_fits K) := by
  have nd := sc_p_call_fits.nd
  have hu := hr.units0
  have hu1 := hu_of hr
  exact (show QSs (cxOf CX0 P w K mg base N_p_call_fits "call_fits" (defScope s_p_call_fits) f cdv A outer s H E).nox (defBody s_p_call_fits) (t_p_call_fits K) from (qss_cons (qs_set (i := 2) nd rfl (Or.inl rfl) (qe_ix ix_seq (qv 1) qe_int (fun _ _ => rfl))) (qss_one (qs_ret (qe_and (qe_fn c_p_is_number_of (hr.mono (by decide)) rfl (qa_cons (qv 2) (qa_cons (qe_callB call_len rfl B.len_ boot_len (qa_cons (qv 0) qa_nil)) qa_nil))) (qe_one (qe_cmpR (op_eqG hu) (qe_callB call_len rfl B.len_ boot_len (qa_cons (qe_ix ix_seq (qv 1) qe_int (fun _ _ => rfl)) qa_nil)) (qe_ix ix_seq (qe_ix ix_seq (qv 0) (qv 2) (fun _ _ => rfl)) qe_int (fun _ _ => rfl)) rfl))))))).up
end Bg
end
section
set_option Elab.async false
set_option linter.all false
set_option maxRecDepth 100000
set_option maxHeartbeats 4000000
namespace Bg
open PySem PySem.Spec PyProof.Rows L2
theorem d_p_places_read {P : Program} {w : World} {K : PySem.W.Frag} {mg : Str → Option Value} {base : Heap} {f : Addr} {cdv : Value} {A : Around} {outer : List Env} {s : Shared} {H : Hp} {E : XK} (B : Blt mg) 
    (hr : Room k_p_places_read (A.deeper (envOfC "places_read" (defScope s_p_places_read) s.heap.objs.size f cdv))) : PSs (cxOf CX0 P w K mg base N_p_places_read "places_read" (defScope s_p_places_read) f cdv A outer s H E).nox (defBody s_p_places_read) (t_p_places_read K) := by
  have nd := sc_p_places_read.nd
  have hu := hr.units0
  have hu1 := hu_of hr
  exact (show QSs (cxOf CX0 P w K mg base N_p_places_read "places_read" (defScope s_p_places_read) f cdv A outer s H E).nox (defBody s_p_places_read) (t_p_places_read K) from (qss_cons (qs_set (i := 1) nd rfl (Or.inl rfl) (qe_ix ix_seq (qv 0) qe_int (fun _ _ => rfl))) (qss_cons (qs_if (qt_cmpR (op_eqG hu) (qv 1) qe_str rfl) (qss_one (qs_ret (qe_tup (qa_cons (qe_ix ix_seq (qv 0) qe_int (fun _ _ => rfl)) (qa_cons (qe_ix ix_seq (qv 0) qe_int (fun _ _ => rfl)) qa_nil))))) qss_nil) (qss_cons (qs_if (qt_cmpR (op_eqG hu) (qv 1) qe_str rfl) (qss_one (qs_ret (qe_callTy call_tuple_of rfl B.tuple_ boot_tuple (qa_cons (qe_ix ix_seq (qv 0) qe_int (fun _ _ => rfl)) qa_nil)))) qss_nil) (qss_cons (qs_if (qt_cmpR op_in_seq (qv 1) (qe_tup (qa_cons qe_str (qa_cons qe_str (qa_cons qe_str (qa_cons qe_str qa_nil))))) rfl) (qss_one (qs_ret (qe_tup (qa_cons (qe_ix ix_seq (qv 0) qe_int (fun _ _ => rfl)) qa_nil)))) qss_nil) (qss_one (qs_ret (qe_tup qa_nil)))))))).up
end Bg
end
section
set_option Elab.async false
set_option linter.all false
set_option maxRecDepth 100000
set_option maxHeartbeats 4000000
namespace Bg
open PySem PySem.Spec PyProof.Rows L2
theorem d_p_row_fits {P : Program} {w : World} {K : PySem.W.Frag} {mg : Str → Option Value} {base : Heap} {f : Addr} {cdv : Value} {A : Around} {outer : List Env} {s : Shared} {H : Hp} {E : XK} (B : Blt mg) (c_p_call_fits : Callee P w K mg base "call_fits" PS_p_call_fits K_p_call_fits (sp_p_call_fits K)) (c_p_is_number_of : Callee P w K mg base "is_number_of" PS_p_is_number_of K_p_is_number_of (sp_p_is_number_of K)) (c_c_goal : Callee P w K mg base "goal" PS_c_goal K_c_goal (sp_c_goal K)) (c_p_places_read : Callee P w K mg base "places_read" PS_p_places_read K_p_places_read (sp_p_places_read K))
    (hr : Room k_p_row_fits (A.deeper (envOfC "row_fits" (defScope s_p_row_fits) s.heap.objs.size f cdv))) : PSs (cxOf CX0 P w K mg base N_p_row_fits "row_fits" (defScope s_p_row_fits) f cdv A outer s H E).nox (defBody s_p_row_fits) (t_p_row_fits K) := by
  have nd := sc_p_row_fits.nd
  have hu := hr.units0
  have hu1 := hu_of hr
  exact (show QSs (cxOf CX0 P w K mg base N_p_row_fits "row_fits" (defScope s_p_row_fits) f cdv A outer s H E).nox (defBody s_p_row_fits) (t_p_row_fits K) from (qss_cons (qs_if (qt_not (qt_val (qe_callB (call_all_bl rfl) rfl B.all_ boot_all (qa_cons (qe_comp (sc := defScope s_p_row_fits) (N := N_p_row_fits) (NY := ["places", "parts", "rows", "row", "to", "place"]) (js := []) (k := 1) ⟨rfl, by decide +kernel, by decide +kernel, by decide +kernel, rfl, by decide +kernel⟩ rfl rfl rfl rfl (qi_seq (qe_fn c_p_places_read (hr.mono (by decide)) rfl (qa_cons (qv 3) qa_nil))) (fun _ _ _ _ _ => (qg_name (i := 5) (show List.Nodup (["places", "parts", "rows", "row", "to", "place"] : List Str) by decide +kernel) rfl (Or.inl rfl))) (fun _ _ _ _ _ => qif_nil) (fun _ _ _ _ _ => (qe_fn c_p_is_number_of (hr.mono (by decide)) rfl (qa_cons (qv 5) (qa_cons (qv 0) qa_nil))))) qa_nil)))) (qss_one (qs_ret qe_bl)) qss_nil) (qss_cons (qs_set (i := 4) nd rfl (Or.inl rfl) (qe_fn c_c_goal (hr.mono (by decide)) rfl (qa_cons (qv 3) qa_nil))) (qss_cons (qs_if (QW.pt (qw_and (qt_cmpR op_notN (qv 4) qe_non rfl) (qw_and1 (qt_not (qt_val (qe_fn c_p_is_number_of (hr.mono (by decide)) rfl (qa_cons (qv 4) (qa_cons (qe_callB call_len rfl B.len_ boot_len (qa_cons (qv 2) qa_nil)) qa_nil)))))))) (qss_one (qs_ret qe_bl)) qss_nil) (qss_one (qs_ret (qe_or (qe_cmpR (op_neG hu) (qe_ix ix_seq (qv 3) qe_int (fun _ _ => rfl)) qe_str rfl) (qe_one (qe_fn c_p_call_fits (hr.mono (by decide)) rfl (qa_cons (qv 1) (qa_cons (qv 3) qa_nil))))))))))).up
end Bg
end
section
set_option Elab.async false
set_option linter.all false
set_option maxRecDepth 100000
set_option maxHeartbeats 4000000
namespace Bg
open PySem PySem.Spec PyProof.Rows L2
theorem d_p_part_fits {P : Program} {w : World} {K : PySem.W.Frag} {mg : Str → Option Value} {base : Heap} {f : Addr} {cdv : Value} {A : Around} {outer : List Env} {s : Shared} {H : Hp} {E : XK} (B : Blt mg) (c_p_has_ring : Callee P w K mg base "has_ring" PS_p_has_ring K_p_has_ring (sp_p_has_ring K)) (c_p_row_fits : Callee P w K mg base "row_fits" PS_p_row_fits K_p_row_fits (sp_p_row_fits K))
    (hr : Room k_p_part_fits (A.deeper (envOfC "part_fits" (defScope s_p_part_fits) s.heap.objs.size f cdv))) : PSs (cxOf CX0 P w K mg base N_p_part_fits "part_fits" (defScope s_p_part_fits) f cdv A outer s H E).nox (defBody s_p_part_fits) (t_p_part_fits K) := by
  have nd := sc_p_part_fits.nd
  have hu := hr.units0
  have hu1 := hu_of hr
  exact (show QSs (cxOf CX0 P w K mg base N_p_part_fits "part_fits" (defScope s_p_part_fits) f cdv A outer s H E).nox (defBody s_p_part_fits) (t_p_part_fits K) from (qss_cons (qs_set (i := 3) nd rfl (Or.inl rfl) (qe_ix ix_seq (qv 2) qe_int (fun _ _ => rfl))) (qss_cons (qs_set (i := 4) nd rfl (Or.inr rfl) (qe_ix ix_seq (qv 2) qe_int (fun _ _ => rfl))) (qss_cons (qs_if (QW.pt (qw_or (qt_cmpR op_lt (qv 3) qe_int rfl) (qw_or (qt_cmpR op_gt (qv 3) qe_int rfl) (qw_or1 (qt_cmpR (op_eqG hu) (qe_callB call_len rfl B.len_ boot_len (qa_cons (qv 4) qa_nil)) qe_int rfl))))) (qss_one (qs_ret qe_bl)) qss_nil) (qss_cons (qs_if (qt_cmpR op_notIn_seq (qe_ix ix_seq (qe_ix ix_seq (qv 4) (qe_un un_neg qe_int) (fun _ _ => rfl)) qe_int (fun _ _ => rfl)) (qe_tup (qa_cons qe_str (qa_cons qe_str qa_nil))) rfl) (qss_one (qs_ret qe_bl)) qss_nil) (qss_cons (qs_if (qt_not (qt_val (qe_callB (call_all_bl rfl) rfl B.all_ boot_all (qa_cons (qe_comp (sc := defScope s_p_part_fits) (N := N_p_part_fits) (NY := ["places", "parts", "part", "many", "rows", "row"]) (js := []) (k := 1) ⟨rfl, by decide +kernel, by decide +kernel, by decide +kernel, rfl, by decide +kernel⟩ rfl rfl rfl rfl (qi_seq (qv 4)) (fun _ _ _ _ _ => (qg_name (i := 5) (show List.Nodup (["places", "parts", "part", "many", "rows", "row"] : List Str) by decide +kernel) rfl (Or.inl rfl))) (fun _ _ _ _ _ => qif_nil) (fun _ _ _ _ _ => (qe_fn c_p_row_fits (hr.mono (by decide)) rfl (qa_cons (qv 0) (qa_cons (qv 1) (qa_cons (qv 4) (qa_cons (qv 5) qa_nil))))))) qa_nil)))) (qss_one (qs_ret qe_bl)) qss_nil) (qss_one (qs_ret (qe_not (qe_fn c_p_has_ring (hr.mono (by decide)) rfl (qa_cons (qv 4) qa_nil))))))))))).up
end Bg
end
section
set_option Elab.async false
set_option linter.all false
set_option maxRecDepth 100000
set_option maxHeartbeats 4000000
namespace Bg
open PySem PySem.Spec PyProof.Rows L2
theorem d_p_fits {P : Program} {w : World} {K : PySem.W.Frag} {mg : Str → Option Value} {base : Heap} {f : Addr} {cdv : Value} {A : Around} {outer : List Env} {s : Shared} {H : Hp} {E : XK} (B : Blt mg) (c_p_part_fits : Callee P w K mg base "part_fits" PS_p_part_fits K_p_part_fits (sp_p_part_fits K))
    (hr : Room k_p_fits (A.deeper (envOfC "fits" (defScope s_p_fits) s.heap.objs.size f cdv))) : PSs (cxOf CX0 P w K mg base N_p_fits "fits" (defScope s_p_fits) f cdv A outer s H E).nox (defBody s_p_fits) (t_p_fits K) := by
  have nd := sc_p_fits.nd
  have hu := hr.units0
  have hu1 := hu_of hr
  exact (show QSs (cxOf CX0 P w K mg base N_p_fits "fits" (defScope s_p_fits) f cdv A outer s H E).nox (defBody s_p_fits) (t_p_fits K) from (qss_cons (qs_set (i := 1) nd rfl (Or.inr rfl) (qe_ix ix_seq (qv 0) qe_int (fun _ _ => rfl))) (qss_cons (qs_set (i := 2) nd rfl (Or.inr rfl) (qe_ix ix_seq (qv 0) qe_int (fun _ _ => rfl))) (qss_cons (qs_if (QW.pt (qw_or (qt_cmpR op_lt (qv 1) qe_int rfl) (qw_or1 (qt_cmpR op_gt (qv 1) qe_int rfl)))) (qss_one (qs_ret qe_bl)) qss_nil) (qss_one (qs_ret (qe_callB (call_all_bl rfl) rfl B.all_ boot_all (qa_cons (qe_comp (sc := defScope s_p_fits) (N := N_p_fits) (NY := ["code", "places", "parts", "part"]) (js := []) (k := 1) ⟨rfl, by decide +kernel, by decide +kernel, by decide +kernel, rfl, by decide +kernel⟩ rfl rfl rfl rfl (qi_seq (qv 2)) (fun _ _ _ _ _ => (qg_name (i := 3) (show List.Nodup (["code", "places", "parts", "part"] : List Str) by decide +kernel) rfl (Or.inl rfl))) (fun _ _ _ _ _ => qif_nil) (fun _ _ _ _ _ => (qe_fn c_p_part_fits (hr.mono (by decide)) rfl (qa_cons (qv 1) (qa_cons (qv 2) (qa_cons (qv 3) qa_nil)))))) qa_nil)))))))).up
end Bg
end
section
set_option Elab.async false
set_option linter.all false
set_option maxRecDepth 100000
set_option maxHeartbeats 4000000
namespace Bg
open PySem PySem.Spec PyProof.Rows L2
theorem d_silent {P : Program} {w : World} {K : PySem.W.Frag} {mg : Str → Option Value} {base : Heap} {f : Addr} {cdv : Value} {A : Around} {outer : List Env} {s : Shared} {H : Hp} {E : XK} (B : Blt mg) 
    (hr : Room k_silent (A.deeper (envOfC "_law_silent" (defScope s_silent) s.heap.objs.size f cdv))) : PSs (cxOf CX0 P w K mg base N_silent "_law_silent" (defScope s_silent) f cdv A outer s H E).nox (defBody s_silent) (t_silent K) := by
  have nd := sc_silent.nd
  have hu := hr.units0
  have hu1 := hu_of hr
  exact (show QSs (cxOf CX0 P w K mg base N_silent "_law_silent" (defScope s_silent) f cdv A outer s H E).nox (defBody s_silent) (t_silent K) from (qss_cons (qs_for PassesOwn.never rfl (qi_seq (qv 0)) (qg_name (i := 2) nd rfl (Or.inl rfl)) (qss_one (qs_if (qt_cmpR (op_eqG hu) (qe_ix ix_seq (qe_ix ix_seq (qv 0) (qv 1) (fun _ _ => rfl)) qe_int (fun _ _ => rfl)) qe_str rfl) (qss_one (qs_set (i := 1) nd rfl (Or.inl rfl) (qe_ix ix_seq (qe_ix ix_seq (qv 0) (qv 1) (fun _ _ => rfl)) qe_int (fun _ _ => rfl)))) (qss_one (qs_if (qt_cmpR (op_eqG hu) (qe_ix ix_seq (qe_ix ix_seq (qv 0) (qv 1) (fun _ _ => rfl)) qe_int (fun _ _ => rfl)) qe_str rfl) (qss_one (qs_set (i := 1) nd rfl (Or.inl rfl) (qe_op op_plus (qv 1) qe_int))) qss_nil))))) (qss_one (qs_ret (qe_cmpR op_in_seq (qe_ix ix_seq (qe_ix ix_seq (qv 0) (qv 1) (fun _ _ => rfl)) qe_int (fun _ _ => rfl)) (qe_tup (qa_cons qe_str (qa_cons qe_str qa_nil))) rfl))))).up
end Bg
end
section
set_option Elab.async false
set_option linter.all false
set_option maxRecDepth 100000
set_option maxHeartbeats 4000000
namespace Bg
open PySem PySem.Spec PyProof.Rows L2
theorem d_row_fits {P : Program} {w : World} {K : PySem.W.Frag} {mg : Str → Option Value} {base : Heap} {f : Addr} {cdv : Value} {A : Around} {outer : List Env} {s : Shared} {H : Hp} {E : XK} (B : Blt mg) 
    (hr : Room k_row_fits (A.deeper (envOfC "_law_row_fits" (defScope s_row_fits) s.heap.objs.size f cdv))) : PSs (cxOf CX0 P w K mg base N_row_fits "_law_row_fits" (defScope s_row_fits) f cdv A outer s H E).nox (defBody s_row_fits) (t_row_fits K) := by
  have nd := sc_row_fits.nd
  have hu := hr.units0
  have hu1 := hu_of hr
  exact (show QSs (cxOf CX0 P w K mg base N_row_fits "_law_row_fits" (defScope s_row_fits) f cdv A outer s H E).nox (defBody s_row_fits) (t_row_fits K) from (qss_cons (qs_set (i := 3) nd rfl (Or.inl rfl) (qe_lst qa_nil)) (qss_cons (qs_set (i := 4) nd rfl (Or.inl rfl) (qe_lst qa_nil)) (qss_cons (qs_if (qt_cmpR (op_eqG hu) (qe_ix ix_seq (qv 1) qe_int (fun _ _ => rfl)) qe_str rfl) (qss_one (qs_set (i := 3) nd rfl (Or.inl rfl) (qe_lst (qa_cons (qe_ix ix_seq (qv 1) qe_int (fun _ _ => rfl)) (qa_cons (qe_ix ix_seq (qv 1) qe_int (fun _ _ => rfl)) qa_nil))))) (qss_one (qs_if (qt_cmpR (op_eqG hu) (qe_ix ix_seq (qv 1) qe_int (fun _ _ => rfl)) qe_str rfl) (qss_cons (qs_if (QW.pt (qw_or (qt_not (qt_chain op_le op_lt qe_int (qe_ix ix_seq (qv 1) qe_int (fun _ _ => rfl)) (qe_callB call_len rfl B.len_ boot_len (qa_cons (qe_ix ix_seq (qv 0) qe_int (fun _ _ => rfl)) qa_nil)))) (qw_or1 (qt_cmpR (op_neG hu) (qe_ix ix_seq (qe_ix ix_seq (qe_ix ix_seq (qv 0) qe_int (fun _ _ => rfl)) (qe_ix ix_seq (qv 1) qe_int (fun _ _ => rfl)) (fun _ _ => rfl)) qe_int (fun _ _ => rfl)) (qe_callB call_len rfl B.len_ boot_len (qa_cons (qe_ix ix_seq (qv 1) qe_int (fun _ _ => rfl)) qa_nil)) rfl)))) (qss_one (qs_ret qe_bl)) qss_nil) (qss_one (qs_set (i := 3) nd rfl (Or.inl rfl) (qe_callTy call_list_of rfl B.list_ boot_list (qa_cons (qe_ix ix_seq (qv 1) qe_int (fun _ _ => rfl)) qa_nil))))) (qss_one (qs_if (qt_cmpR (op_eqG hu) (qe_ix ix_seq (qv 1) qe_int (fun _ _ => rfl)) qe_str rfl) (qss_one (qs_set (i := 4) nd rfl (Or.inl rfl) (qe_lst (qa_cons (qe_ix ix_seq (qv 1) qe_int (fun _ _ => rfl)) qa_nil)))) (qss_one (qs_if (qt_cmpR (op_eqG hu) (qe_ix ix_seq (qv 1) qe_int (fun _ _ => rfl)) qe_str rfl) (qss_cons (qs_set (i := 3) nd rfl (Or.inl rfl) (qe_lst (qa_cons (qe_ix ix_seq (qv 1) qe_int (fun _ _ => rfl)) qa_nil))) (qss_one (qs_set (i := 4) nd rfl (Or.inl rfl) (qe_lst (qa_cons (qe_ix ix_seq (qv 1) qe_int (fun _ _ => rfl)) qa_nil))))) (qss_one (qs_if (qt_cmpR (op_neG hu) (qe_ix ix_seq (qv 1) qe_int (fun _ _ => rfl)) qe_str rfl) (qss_one (qs_set (i := 3) nd rfl (Or.inl rfl) (qe_lst (qa_cons (qe_ix ix_seq (qv 1) qe_int (fun _ _ => rfl)) qa_nil)))) qss_nil))))))))) (qss_cons (qs_if (qt_cmpR (op_neG hu) (qe_comp (sc := defScope s_row_fits) (N := N_row_fits) (NY := ["_law_code_here", "_law_row", "_law_many", "_law_places", "_law_aims", "_law_i"]) (js := []) (k := 1) ⟨rfl, by decide +kernel, by decide +kernel, by decide +kernel, rfl, by decide +kernel⟩ rfl rfl rfl rfl (qi_seq (qv 3)) (fun _ _ _ _ _ => (qg_name (i := 5) (show List.Nodup (["_law_code_here", "_law_row", "_law_many", "_law_places", "_law_aims", "_law_i"] : List Str) by decide +kernel) rfl (Or.inl rfl))) (fun _ _ _ _ _ => (qif_one (QW.pt (qw_or (qt_cmpR op_lt (qv 5) qe_int rfl) (qw_or1 (qt_cmpR op_ge (qv 5) (qe_ix ix_seq (qv 0) qe_int (fun _ _ => rfl)) rfl)))))) (fun _ _ _ _ _ => (qv 5))) (qe_lst qa_nil) rfl) (qss_one (qs_ret qe_bl)) qss_nil) (qss_one (qs_ret (qe_cmpR (op_eqG hu) (qe_comp (sc := defScope s_row_fits) (N := N_row_fits) (NY := ["_law_code_here", "_law_row", "_law_many", "_law_places", "_law_aims", "_law_to"]) (js := []) (k := 1) ⟨rfl, by decide +kernel, by decide +kernel, by decide +kernel, rfl, by decide +kernel⟩ rfl rfl rfl rfl (qi_seq (qv 4)) (fun _ _ _ _ _ => (qg_name (i := 5) (show List.Nodup (["_law_code_here", "_law_row", "_law_many", "_law_places", "_law_aims", "_law_to"] : List Str) by decide +kernel) rfl (Or.inl rfl))) (fun _ _ _ _ _ => (qif_one (QW.pt (qw_or (qt_cmpR op_lt (qv 5) qe_int rfl) (qw_or1 (qt_cmpR op_ge (qv 5) (qv 2) rfl)))))) (fun _ _ _ _ _ => (qv 5))) (qe_lst qa_nil) rfl)))))))).up
end Bg
end
section
set_option Elab.async false
set_option linter.all false
set_option maxRecDepth 100000
set_option maxHeartbeats 4000000
namespace Bg
open PySem PySem.Spec PyProof.Rows L2
theorem d_fits {P : Program} {w : World} {K : PySem.W.Frag} {mg : Str → Option Value} {base : Heap} {f : Addr} {cdv : Value} {A : Around} {outer : List Env} {s : Shared} {H : Hp} {E : XK} (B : Blt mg) (c_silent : Callee P w K mg base "_law_silent" PS_silent K_silent (sp_silent K)) (c_row_fits : Callee P w K mg base "_law_row_fits" PS_row_fits K_row_fits (sp_row_fits K))
    (hr : Room k_fits (A.deeper (envOfC "_law_fits" (defScope s_fits) s.heap.objs.size f cdv))) : PSs (cxOf CX0 P w K mg base N_fits "_law_fits" (defScope s_fits) f cdv A outer s H E).nox (defBody s_fits) (t_fits K) := by
  have nd := sc_fits.nd
  have hu := hr.units0
  have hu1 := hu_of hr
  exact (show QSs (cxOf CX0 P w K mg base N_fits "_law_fits" (defScope s_fits) f cdv A outer s H E).nox (defBody s_fits) (t_fits K) from (qss_cons (qs_if (QW.pt (qw_or (qt_cmpR op_lt (qe_ix ix_seq (qv 0) qe_int (fun _ _ => rfl)) qe_int rfl) (qw_or1 (qt_cmpR op_gt (qe_ix ix_seq (qv 0) qe_int (fun _ _ => rfl)) qe_int rfl)))) (qss_one (qs_ret qe_bl)) qss_nil) (qss_cons (qs_for PassesOwn.never rfl (qi_seq (qe_ix ix_seq (qv 0) qe_int (fun _ _ => rfl))) (qg_tup rfl (qgs_cons (qg_name (i := 1) nd rfl (Or.inl rfl)) (qgs_cons (qg_name (i := 2) nd rfl (Or.inr rfl)) qgs_nil))) (qss_cons (qs_if (QW.pt (qw_or (qt_cmpR op_lt (qv 1) qe_int rfl) (qw_or (qt_cmpR op_gt (qv 1) qe_int rfl) (qw_or (qt_cmpR (op_eqW hu) (qv 2) (qe_tup qa_nil) rfl) (qw_or1 (qt_cmpR op_notIn_seq (qe_ix ix_seq (qe_ix ix_seq (qv 2) (qe_un un_neg qe_int) (fun _ _ => rfl)) qe_int (fun _ _ => rfl)) (qe_tup (qa_cons qe_str (qa_cons qe_str qa_nil))) rfl)))))) (qss_one (qs_ret qe_bl)) qss_nil) (qss_cons (qs_if (qt_not (qt_val (qe_callB (call_all_bl rfl) rfl B.all_ boot_all (qa_cons (qe_comp (sc := defScope s_fits) (N := N_fits) (NY := ["_law_code_here", "_law_count", "_law_rows", "_law_row"]) (js := []) (k := 1) ⟨rfl, by decide +kernel, by decide +kernel, by decide +kernel, rfl, by decide +kernel⟩ rfl rfl rfl rfl (qi_seq (qv 2)) (fun _ _ _ _ _ => (qg_name (i := 3) (show List.Nodup (["_law_code_here", "_law_count", "_law_rows", "_law_row"] : List Str) by decide +kernel) rfl (Or.inl rfl))) (fun _ _ _ _ _ => qif_nil) (fun _ _ _ _ _ => (qe_fn c_row_fits (hr.mono (by decide)) rfl (qa_cons (qv 0) (qa_cons (qv 3) (qa_cons (qe_callB call_len rfl B.len_ boot_len (qa_cons (qv 2) qa_nil)) qa_nil)))))) qa_nil)))) (qss_one (qs_ret qe_bl)) qss_nil) (qss_one (qs_if (qt_val (qe_callB (call_any_bl rfl) rfl B.any_ boot_any (qa_cons (qe_comp (sc := defScope s_fits) (N := N_fits) (NY := ["_law_code_here", "_law_count", "_law_rows", "_law_at"]) (js := []) (k := 1) ⟨rfl, by decide +kernel, by decide +kernel, by decide +kernel, rfl, by decide +kernel⟩ rfl rfl rfl rfl (qi_range1 rfl B.range_ (qa_cons (qe_callB call_len rfl B.len_ boot_len (qa_cons (qv 2) qa_nil)) qa_nil)) (fun _ _ _ _ _ => (qg_name (i := 3) (show List.Nodup (["_law_code_here", "_law_count", "_law_rows", "_law_at"] : List Str) by decide +kernel) rfl (Or.inl rfl))) (fun _ _ _ _ _ => qif_nil) (fun _ _ _ _ _ => (qe_fn c_silent (hr.mono (by decide)) rfl (qa_cons (qv 2) (qa_cons (qv 3) qa_nil))))) qa_nil))) (qss_one (qs_ret qe_bl)) qss_nil))))) (qss_one (qs_ret qe_bl))))).up
end Bg
end
section
set_option Elab.async false
set_option linter.all false
set_option maxRecDepth 100000
set_option maxHeartbeats 4000000
namespace Bg
open PySem PySem.Spec PyProof.Rows L2
theorem d_draw {P : Program} {w : World} {K : PySem.W.Frag} {mg : Str → Option Value} {base : Heap} {f : Addr} {cdv : Value} {A : Around} {outer : List Env} {s : Shared} {H : Hp} {E : XK} (B : Blt mg) 
    (hr : Room k_draw (A.deeper (envOfC "_law_draw" (defScope s_draw) s.heap.objs.size f cdv))) : PSs (cxOf CX0 P w K mg base N_draw "_law_draw" (defScope s_draw) f cdv A outer s H E).nox (defBody s_draw) (t_draw K) := by
  have nd := sc_draw.nd
  have hu := hr.units0
  have hu1 := hu_of hr
  exact (show QSs (cxOf CX0 P w K mg base N_draw "_law_draw" (defScope s_draw) f cdv A outer s H E).nox (defBody s_draw) (t_draw K) from (qss_cons (qs_asg (qe_slice sl_seq (qv 0) qo_none (qo_some qe_int)) (qg_tupL rfl (qgs_cons (qg_name (i := 2) nd rfl (Or.inl rfl)) (qgs_cons (qg_name (i := 3) nd rfl (Or.inl rfl)) qgs_nil)))) (qss_cons (qs_asg (qe_op op_plus (qv 3) qe_int) (qg_sub (qv 0) qe_int set_list)) (qss_cons (qs_if (QW.pt (qw_and (qt_cmpR op_lt (qe_op op_plus (qe_op op_fdiv (qv 3) qe_int) qe_int) (qe_callB call_len rfl B.len_ boot_len (qa_cons (qv 2) qa_nil)) rfl) (qw_and1 (qt_cmpR (op_eqG hu) (qe_op op_mod (qe_ix ix_seq (qv 2) qe_int (fun _ _ => rfl)) qe_int) qe_int rfl)))) (qss_cons (qs_if (qt_cmpR (op_eqG hu) (qe_op op_mod (qv 3) qe_int) qe_int rfl) (qss_one (qs_asg (qe_ix ix_seq (qv 2) (qe_op op_plus (qe_op op_fdiv (qv 3) qe_int) qe_int) (fun _ _ => rfl)) (qg_sub (qv 0) qe_int set_list))) qss_nil) (qss_one (qs_if (qt_cmpR op_notIn_seq (qe_ix ix_seq (qv 0) qe_int (fun _ _ => rfl)) (qe_tup (qa_cons qe_int (qa_cons (qe_un un_neg qe_int) qa_nil))) rfl) (qss_cons (qs_asg (qe_callB call_divmodW rfl B.divmod_ boot_divmod (qa_cons (qe_ix ix_seq (qv 0) qe_int (fun _ _ => rfl)) (qa_cons (qv 1) qa_nil))) (qg_tup rfl (qgs_cons (qg_sub (qv 0) qe_int set_list) (qgs_cons (qg_name (i := 4) nd rfl (Or.inl rfl)) qgs_nil)))) (qss_one (qs_ret (qv 4)))) qss_nil))) (qss_one (qs_if (qt_cmpR op_lt (qv 3) (qe_callB call_len rfl B.len_ boot_len (qa_cons (qv 2) qa_nil)) rfl) (qss_one (qs_ret (qe_op op_mod (qe_ix ix_seq (qv 2) (qv 3) (fun _ _ => rfl)) (qv 1)))) qss_nil))) (qss_cons (qs_set (i := 5) nd rfl (Or.inl rfl) (qe_op op_plus (qe_op op_times (qv 3) qe_int) qe_int)) (qss_cons (qs_if (qt_cmpR op_gt (qe_callB call_len rfl B.len_ boot_len (qa_cons (qv 2) qa_nil)) qe_int rfl) (qss_one (qs_set (i := 5) nd rfl (Or.inl rfl) (qe_op op_plus (qv 5) (qe_op op_times (qe_ix ix_seq (qv 2) (qe_op op_mod (qe_op op_times (qv 3) qe_int) (qe_callB call_len rfl B.len_ boot_len (qa_cons (qv 2) qa_nil))) (fun _ _ => rfl)) (qe_op op_plus qe_int (qv 3)))))) qss_nil) (qss_cons (qs_set (i := 5) nd rfl (Or.inl rfl) (qe_op op_mod (qe_op op_times (qe_op op_mod (qv 5) qe_int) (qe_op op_plus (qv 3) qe_int)) qe_int)) (qss_cons (qs_set (i := 5) nd rfl (Or.inl rfl) (qe_op op_mod (qe_op op_times (qv 5) (qv 5)) qe_int)) (qss_one (qs_ret (qe_op op_mod (qe_op op_mod (qe_op op_times (qv 5) (qv 5)) qe_int) (qv 1)))))))))))).up
end Bg
end
section
set_option Elab.async false
set_option linter.all false
set_option maxRecDepth 100000
set_option maxHeartbeats 4000000
namespace Bg
open PySem PySem.Spec PyProof.Rows L2
theorem d_other {P : Program} {w : World} {K : PySem.W.Frag} {mg : Str → Option Value} {base : Heap} {f : Addr} {cdv : Value} {A : Around} {outer : List Env} {s : Shared} {H : Hp} {E : XK} (B : Blt mg) (c_draw : Callee P w K mg base "_law_draw" PS_draw K_draw (sp_draw K))
    (hr : Room k_other (A.deeper (envOfC "_law_other" (defScope s_other) s.heap.objs.size f cdv))) : PSs (cxOf CX0 P w K mg base N_other "_law_other" (defScope s_other) f cdv A outer s H E).nox (defBody s_other) (t_other K) := by
  have nd := sc_other.nd
  have hu := hr.units0
  have hu1 := hu_of hr
  exact (show QSs (cxOf CX0 P w K mg base N_other "_law_other" (defScope s_other) f cdv A outer s H E).nox (defBody s_other) (t_other K) from (qss_one (qs_ret (qe_ix ix_seq (qe_lst (qa_cons (qe_op op_plus (qv 1) qe_int) (qa_cons (qe_op op_sub (qv 1) qe_int) (qa_cons (qv 2) (qa_cons (qe_op op_sub (qv 2) qe_int) (qa_cons (qe_un un_neg qe_int) (qa_cons qe_int (qa_cons (qe_fn c_draw (hr.mono (by decide)) rfl (qa_cons (qv 0) (qa_cons qe_int qa_nil))) (qa_cons (qe_op op_pow qe_int qe_int) qa_nil))))))))) (qe_fn c_draw (hr.mono (by decide)) rfl (qa_cons (qv 0) (qa_cons qe_int qa_nil))) (fun _ _ => rfl))))).up
end Bg
end
section
set_option Elab.async false
set_option linter.all false
set_option maxRecDepth 100000
set_option maxHeartbeats 4000000
namespace Bg
open PySem PySem.Spec PyProof.Rows L2
theorem d_row_changed {P : Program} {w : World} {K : PySem.W.Frag} {mg : Str → Option Value} {base : Heap} {f : Addr} {cdv : Value} {A : Around} {outer : List Env} {s : Shared} {H : Hp} {E : XK} (B : Blt mg) (c_other : Callee P w K mg base "_law_other" PS_other K_other (sp_other K)) (c_draw : Callee P w K mg base "_law_draw" PS_draw K_draw (sp_draw K))
    (hr : Room k_row_changed (A.deeper (envOfC "_law_row_changed" (defScope s_row_changed) s.heap.objs.size f cdv))) : PSs (cxOf CX0 P w K mg base N_row_changed "_law_row_changed" (defScope s_row_changed) f cdv A outer s H E).nox (defBody s_row_changed) (t_row_changed K) := by
  have nd := sc_row_changed.nd
  have hu := hr.units0
  have hu1 := hu_of hr
  exact (show QSs (cxOf CX0 P w K mg base N_row_changed "_law_row_changed" (defScope s_row_changed) f cdv A outer s H E).nox (defBody s_row_changed) (t_row_changed K) from (qss_cons (qs_set (i := 4) nd rfl (Or.inl rfl) (qe_ix ix_seq (qv 2) qe_int (fun _ _ => rfl))) (qss_cons (qs_if (qt_cmpR (op_eqW hu) (qv 4) qe_str rfl) (qss_one (qs_ret (qe_tup (qa_cons (qv 4) (qa_cons (qe_ix ix_seq (qv 2) qe_int (fun _ _ => rfl)) (qa_cons (qe_fn c_other (hr.mono (by decide)) rfl (qa_cons (qv 0) (qa_cons (qe_ix ix_seq (qv 2) qe_int (fun _ _ => rfl)) (qa_cons (qe_ix ix_seq (qv 1) qe_int (fun _ _ => rfl)) qa_nil)))) (qa_cons (qe_ix ix_seq (qv 2) qe_int (fun _ _ => rfl)) qa_nil))))))) qss_nil) (qss_cons (qs_if (QW.pt (qw_and (qt_cmpR (op_eqW hu) (qv 4) qe_str rfl) (qw_and1 (qt_cmpR (op_eqW hu) (qe_fn c_draw (hr.mono (by decide)) rfl (qa_cons (qv 0) (qa_cons qe_int qa_nil))) qe_int rfl)))) (qss_one (qs_ret (qe_tup (qa_cons (qv 4) (qa_cons (qe_ix ix_seq (qv 2) qe_int (fun _ _ => rfl)) (qa_cons (qe_fn c_other (hr.mono (by decide)) rfl (qa_cons (qv 0) (qa_cons (qe_ix ix_seq (qv 2) qe_int (fun _ _ => rfl)) (qa_cons (qv 3) qa_nil)))) qa_nil)))))) qss_nil) (qss_cons (qs_if (qt_cmpR (op_eqW hu) (qv 4) qe_str rfl) (qss_one (qs_ret (qe_tup (qa_cons (qv 4) (qa_cons (qe_fn c_other (hr.mono (by decide)) rfl (qa_cons (qv 0) (qa_cons (qe_ix ix_seq (qv 2) qe_int (fun _ _ => rfl)) (qa_cons (qv 3) qa_nil)))) qa_nil))))) qss_nil) (qss_cons (qs_if (qt_cmpR (op_eqW hu) (qv 4) qe_str rfl) (qss_cons (qs_set (i := 5) nd rfl (Or.inl rfl) (qe_ix ix_seq (qv 2) qe_int (fun _ _ => rfl))) (qss_cons (qs_set (i := 6) nd rfl (Or.inl rfl) (qe_lst (qa_cons (qe_op op_plusW (qv 5) (qe_tup (qa_cons qe_int qa_nil))) (qa_cons (qe_slice sl_seqW (qv 5) (qo_some qe_int) qo_none) (qa_cons (qe_op op_plusW (qe_tup (qa_cons (qe_ix ix_seq (qv 1) qe_int (fun _ _ => rfl)) qa_nil)) (qe_slice sl_seqW (qv 5) (qo_some qe_int) qo_none)) (qa_cons (qe_callTy call_tuple_of rfl B.tuple_ boot_tuple (qa_cons (qe_comp (sc := defScope s_row_changed) (N := N_row_changed) (NY := ["_law_state", "_law_code_here", "_law_row", "_law_many", "_law_word", "_law_at", "_law_some", "_law_way", "_law_i"]) (js := []) (k := 1) ⟨rfl, by decide +kernel, by decide +kernel, by decide +kernel, rfl, by decide +kernel⟩ rfl rfl rfl rfl (qi_seq (qv 5)) (fun _ _ _ _ _ => (qg_name (i := 8) (show List.Nodup (["_law_state", "_law_code_here", "_law_row", "_law_many", "_law_word", "_law_at", "_law_some", "_law_way", "_law_i"] : List Str) by decide +kernel) rfl (Or.inl rfl))) (fun _ _ _ _ _ => qif_nil) (fun _ _ _ _ _ => (qe_op op_sub (qv 8) qe_int))) qa_nil)) qa_nil)))))) (qss_cons (qs_set (i := 7) nd rfl (Or.inl rfl) (qe_fn c_draw (hr.mono (by decide)) rfl (qa_cons (qv 0) (qa_cons qe_int qa_nil)))) (qss_cons (qs_if (qt_cmpR (op_eqW hu) (qv 7) qe_int rfl) (qss_one (qs_ret (qe_tup (qa_cons (qv 4) (qa_cons (qe_fn c_other (hr.mono (by decide)) rfl (qa_cons (qv 0) (qa_cons (qe_ix ix_seq (qv 2) qe_int (fun _ _ => rfl)) (qa_cons (qe_callB call_len rfl B.len_ boot_len (qa_cons (qe_ix ix_seq (qv 1) qe_int (fun _ _ => rfl)) qa_nil)) qa_nil)))) (qa_cons (qv 5) qa_nil)))))) qss_nil) (qss_one (qs_ret (qe_tup (qa_cons (qv 4) (qa_cons (qe_ix ix_seq (qv 2) qe_int (fun _ _ => rfl)) (qa_cons (qe_ix ix_seq (qv 6) (qv 7) (fun _ _ => rfl)) qa_nil)))))))))) qss_nil) (qss_cons (qs_if (qt_cmpR (op_eqW hu) (qv 4) qe_str rfl) (qss_one (qs_ret (qe_tup (qa_cons qe_str (qa_cons (qe_fn c_draw (hr.mono (by decide)) rfl (qa_cons (qv 0) (qa_cons (qv 3) qa_nil))) qa_nil))))) qss_nil) (qss_one (qs_ret (qe_op op_plusW (qe_tup (qa_cons (qv 4) (qa_cons (qe_fn c_other (hr.mono (by decide)) rfl (qa_cons (qv 0) (qa_cons (qe_ix ix_seq (qv 2) qe_int (fun _ _ => rfl)) (qa_cons (qe_ix ix_seq (qv 1) qe_int (fun _ _ => rfl)) qa_nil)))) qa_nil))) (qe_slice sl_seqW (qv 2) (qo_some qe_int) qo_none))))))))))).up
end Bg
end
section
set_option Elab.async false
set_option linter.all false
set_option maxRecDepth 100000
set_option maxHeartbeats 4000000
namespace Bg
open PySem PySem.Spec PyProof.Rows L2
theorem d_rows_changed {P : Program} {w : World} {K : PySem.W.Frag} {mg : Str → Option Value} {base : Heap} {f : Addr} {cdv : Value} {A : Around} {outer : List Env} {s : Shared} {H : Hp} {E : XK} (B : Blt mg) (c_row_changed : Callee P w K mg base "_law_row_changed" PS_row_changed K_row_changed (sp_row_changed K)) (c_draw : Callee P w K mg base "_law_draw" PS_draw K_draw (sp_draw K))
    (hr : Room k_rows_changed (A.deeper (envOfC "_law_rows_changed" (defScope s_rows_changed) s.heap.objs.size f cdv))) : PSs (cxOf CX0 P w K mg base N_rows_changed "_law_rows_changed" (defScope s_rows_changed) f cdv A outer s H E).nox (defBody s_rows_changed) (t_rows_changed K) := by
  have nd := sc_rows_changed.nd
  have hu := hr.units0
  have hu1 := hu_of hr
  exact (show QSs (cxOf CX0 P w K mg base N_rows_changed "_law_rows_changed" (defScope s_rows_changed) f cdv A outer s H E).nox (defBody s_rows_changed) (t_rows_changed K) from (qss_cons (qs_set (i := 3) nd rfl (Or.inl rfl) (qe_fn c_draw (hr.mono (by decide)) rfl (qa_cons (qv 0) (qa_cons (qe_callB call_len rfl B.len_ boot_len (qa_cons (qv 2) qa_nil)) qa_nil)))) (qss_cons (qs_set (i := 4) nd rfl (Or.inl rfl) (qe_fn c_draw (hr.mono (by decide)) rfl (qa_cons (qv 0) (qa_cons qe_int qa_nil)))) (qss_cons (qs_if (qt_cmpR (op_eqW hu) (qv 4) qe_int rfl) (qss_one (qs_ret (qe_tup qa_nil))) qss_nil) (qss_cons (qs_if (qt_cmpR (op_eqW hu) (qv 4) qe_int rfl) (qss_one (qs_ret (qe_op op_plusW (qe_slice sl_seqW (qv 2) qo_none (qo_some (qe_un un_neg qe_int))) (qe_tup (qa_cons (qe_tup (qa_cons qe_str (qa_cons qe_int qa_nil))) qa_nil))))) qss_nil) (qss_cons (qs_if (qt_cmpR (op_eqW hu) (qv 4) qe_int rfl) (qss_one (qs_ret (qe_op op_plusW (qe_slice sl_seqW (qv 2) qo_none (qo_some (qe_un un_neg qe_int))) (qe_tup (qa_cons (qe_tup (qa_cons qe_str (qa_cons qe_int (qa_cons qe_int qa_nil)))) qa_nil))))) qss_nil) (qss_cons (qs_if (qt_cmpR (op_eqW hu) (qv 4) qe_int rfl) (qss_one (qs_ret (qe_op op_plusW (qe_op op_plusW (qe_slice sl_seqW (qv 2) qo_none (qo_some (qv 3))) (qe_tup (qa_cons (qe_tup (qa_cons qe_str (qa_cons (qe_fn c_draw (hr.mono (by decide)) rfl (qa_cons (qv 0) (qa_cons (qe_callB call_len rfl B.len_ boot_len (qa_cons (qv 2) qa_nil)) qa_nil))) qa_nil))) qa_nil))) (qe_slice sl_seqW (qv 2) (qo_some (qe_op op_plusW (qv 3) qe_int)) qo_none)))) qss_nil) (qss_cons (qs_if (qt_cmpR (op_eqW hu) (qv 4) qe_int rfl) (qss_one (qs_ret (qe_op op_plusW (qe_op op_plusW (qe_slice sl_seqW (qv 2) qo_none (qo_some (qv 3))) (qe_tup (qa_cons (qe_tup (qa_cons qe_str (qa_cons qe_int qa_nil))) qa_nil))) (qe_slice sl_seqW (qv 2) (qo_some (qe_op op_plusW (qv 3) qe_int)) qo_none)))) qss_nil) (qss_cons (qs_set (i := 5) nd rfl (Or.inl rfl) (qe_fn c_row_changed (hr.mono (by decide)) rfl (qa_cons (qv 0) (qa_cons (qv 1) (qa_cons (qe_ix ix_seq (qv 2) (qv 3) (fun _ _ => rfl)) (qa_cons (qe_callB call_len rfl B.len_ boot_len (qa_cons (qv 2) qa_nil)) qa_nil)))))) (qss_one (qs_ret (qe_op op_plusW (qe_op op_plusW (qe_slice sl_seqW (qv 2) qo_none (qo_some (qv 3))) (qe_tup (qa_cons (qv 5) qa_nil))) (qe_slice sl_seqW (qv 2) (qo_some (qe_op op_plusW (qv 3) qe_int)) qo_none))))))))))))).up
end Bg
end
section
set_option Elab.async false
set_option linter.all false
set_option maxRecDepth 100000
set_option maxHeartbeats 4000000
namespace Bg
open PySem PySem.Spec PyProof.Rows L2
theorem d_changed {P : Program} {w : World} {K : PySem.W.Frag} {mg : Str → Option Value} {base : Heap} {f : Addr} {cdv : Value} {A : Around} {outer : List Env} {s : Shared} {H : Hp} {E : XK} (B : Blt mg) (c_draw : Callee P w K mg base "_law_draw" PS_draw K_draw (sp_draw K)) (c_rows_changed : Callee P w K mg base "_law_rows_changed" PS_rows_changed K_rows_changed (sp_rows_changed K))
    (hr : Room k_changed (A.deeper (envOfC "_law_changed" (defScope s_changed) s.heap.objs.size f cdv))) : PSs (cxOf CX0 P w K mg base N_changed "_law_changed" (defScope s_changed) f cdv A outer s H E).nox (defBody s_changed) (t_changed K) := by
  have nd := sc_changed.nd
  have hu := hr.units0
  have hu1 := hu_of hr
  exact (show QSs (cxOf CX0 P w K mg base N_changed "_law_changed" (defScope s_changed) f cdv A outer s H E).nox (defBody s_changed) (t_changed K) from (qss_cons (qs_asg (qv 1) (qg_tup rfl (qgs_cons (qg_name (i := 2) nd rfl (Or.inl rfl)) (qgs_cons (qg_name (i := 3) nd rfl (Or.inl rfl)) qgs_nil)))) (qss_cons (qs_set (i := 4) nd rfl (Or.inl rfl) (qe_fn c_draw (hr.mono (by decide)) rfl (qa_cons (qv 0) (qa_cons qe_int qa_nil)))) (qss_cons (qs_if (qt_cmpR (op_eqW hu) (qv 4) qe_int rfl) (qss_one (qs_ret (qe_tup (qa_cons (qe_ix ix_seq (qe_lst (qa_cons qe_int (qa_cons qe_int (qa_cons (qe_un un_neg qe_int) (qa_cons qe_int (qa_cons qe_int (qa_cons (qe_op op_sub (qv 2) qe_int) qa_nil))))))) (qe_fn c_draw (hr.mono (by decide)) rfl (qa_cons (qv 0) (qa_cons qe_int qa_nil))) (fun _ _ => rfl)) (qa_cons (qv 3) qa_nil))))) qss_nil) (qss_cons (qs_set (i := 5) nd rfl (Or.inl rfl) (qe_fn c_draw (hr.mono (by decide)) rfl (qa_cons (qv 0) (qa_cons (qe_callB call_len rfl B.len_ boot_len (qa_cons (qv 3) qa_nil)) qa_nil)))) (qss_cons (qs_asg (qe_ix ix_seq (qv 3) (qv 5) (fun _ _ => rfl)) (qg_tup rfl (qgs_cons (qg_name (i := 6) nd rfl (Or.inl rfl)) (qgs_cons (qg_name (i := 7) nd rfl (Or.inl rfl)) qgs_nil)))) (qss_cons (qs_if (qt_cmpR (op_eqW hu) (qv 4) qe_int rfl) (qss_one (qs_set (i := 6) nd rfl (Or.inl rfl) (qe_ix ix_seq (qe_lst (qa_cons qe_int (qa_cons (qe_un un_neg qe_int) (qa_cons (qe_op op_plusW (qv 6) qe_int) (qa_cons (qe_op op_sub (qv 6) qe_int) qa_nil))))) (qe_fn c_draw (hr.mono (by decide)) rfl (qa_cons (qv 0) (qa_cons qe_int qa_nil))) (fun _ _ => rfl)))) (qss_one (qs_set (i := 7) nd rfl (Or.inl rfl) (qe_fn c_rows_changed (hr.mono (by decide)) rfl (qa_cons (qv 0) (qa_cons (qv 1) (qa_cons (qv 7) qa_nil))))))) (qss_one (qs_ret (qe_tup (qa_cons (qv 2) (qa_cons (qe_op op_plusW (qe_op op_plusW (qe_slice sl_seqW (qv 3) qo_none (qo_some (qv 5))) (qe_tup (qa_cons (qe_tup (qa_cons (qv 6) (qa_cons (qv 7) qa_nil))) qa_nil))) (qe_slice sl_seqW (qv 3) (qo_some (qe_op op_plusW (qv 5) qe_int)) qo_none)) qa_nil)))))))))))).up
end Bg
end
section
set_option Elab.async false
set_option linter.all false
set_option maxRecDepth 100000
set_option maxHeartbeats 4000000
namespace Bg
open PySem PySem.Spec PyProof.Rows L2
theorem d_chain_right {P : Program} {w : World} {K : PySem.W.Frag} {mg : Str → Option Value} {base : Heap} {f : Addr} {cdv : Value} {A : Around} {outer : List Env} {s : Shared} {H : Hp} {E : XK} (B : Blt mg) (c_p_fits : Callee P w K mg base "fits" PS_p_fits K_p_fits (sp_p_fits K))
    (hr : Room k_chain_right (A.deeper (envOfC "_law_chain_right" (defScope s_chain_right) s.heap.objs.size f cdv))) : PSs (cxOf CX0 P w K mg base N_chain_right "_law_chain_right" (defScope s_chain_right) f cdv A outer s H E).nox (defBody s_chain_right) (t_chain_right K) := by
  have nd := sc_chain_right.nd
  have hu := hr.units0
  have hu1 := hu_of hr
  exact (show QSs (cxOf CX0 P w K mg base N_chain_right "_law_chain_right" (defScope s_chain_right) f cdv A outer s H E).nox (defBody s_chain_right) (t_chain_right K) from (qss_cons (qs_set (i := 2) nd rfl (Or.inl rfl) (qe_op op_plusW (qe_op op_times (qe_tup (qa_cons (qe_tup (qa_cons qe_str (qa_cons qe_int qa_nil))) qa_nil)) (qv 0)) (qe_tup (qa_cons (qe_tup (qa_cons qe_str (qa_cons (qv 1) qa_nil))) (qa_cons (qe_tup (qa_cons qe_str (qa_cons qe_int qa_nil))) qa_nil))))) (qss_one (qs_ret (qe_cmpR (op_eqW hu) (qe_fn c_p_fits (hr.mono (by decide)) rfl (qa_cons (qe_tup (qa_cons qe_int (qa_cons (qe_tup (qa_cons (qe_tup (qa_cons qe_int (qa_cons (qv 2) qa_nil))) qa_nil)) qa_nil))) qa_nil)) (qe_cmpR op_gt (qv 1) (qv 0) rfl) rfl))))).up
end Bg
end
section
set_option Elab.async false
set_option linter.all false
set_option maxRecDepth 100000
set_option maxHeartbeats 4000000
namespace Bg
open PySem PySem.Spec PyProof.Rows L2
theorem d_worth {P : Program} {w : World} {K : PySem.W.Frag} {mg : Str → Option Value} {base : Heap} {f : Addr} {cdv : Value} {A : Around} {outer : List Env} {s : Shared} {H : Hp} {E : XK} (B : Blt mg) (c_draw : Callee P w K mg base "_law_draw" PS_draw K_draw (sp_draw K))
    (hr : Room k_worth (A.deeper (envOfC "_law_worth" (defScope s_worth) s.heap.objs.size f cdv))) : PSs (cxOf CX0 P w K mg base N_worth "_law_worth" (defScope s_worth) f cdv A outer s H E).nox (defBody s_worth) (t_worth K) := by
  have nd := sc_worth.nd
  have hu := hr.units0
  have hu1 := hu_of hr
  exact (show QSs (cxOf CX0 P w K mg base N_worth "_law_worth" (defScope s_worth) f cdv A outer s H E).nox (defBody s_worth) (t_worth K) from (qss_cons (qs_if (qt_cmpR (op_eqG hu) (qe_fn c_draw (hr.mono (by decide)) rfl (qa_cons (qv 0) (qa_cons qe_int qa_nil))) qe_int rfl) (qss_one (qs_ret (qe_op op_plus (qe_op op_times (qe_fn c_draw (hr.mono (by decide)) rfl (qa_cons (qv 0) (qa_cons (qe_op op_pow qe_int qe_int) qa_nil))) (qe_op op_pow qe_int qe_int)) (qe_fn c_draw (hr.mono (by decide)) rfl (qa_cons (qv 0) (qa_cons (qe_op op_pow qe_int qe_int) qa_nil)))))) qss_nil) (qss_one (qs_ret (qe_ix ix_seq (qe_lst (qa_cons qe_int (qa_cons qe_int (qa_cons (qe_op op_sub (qe_op op_sub (qe_op op_pow qe_int qe_int) qe_int) (qe_fn c_draw (hr.mono (by decide)) rfl (qa_cons (qv 0) (qa_cons qe_int qa_nil)))) (qa_cons (qe_fn c_draw (hr.mono (by decide)) rfl (qa_cons (qv 0) (qa_cons qe_int qa_nil))) qa_nil))))) (qe_fn c_draw (hr.mono (by decide)) rfl (qa_cons (qv 0) (qa_cons qe_int qa_nil))) (fun _ _ => rfl)))))).up
end Bg
end
section
set_option Elab.async false
set_option linter.all false
set_option maxRecDepth 100000
set_option maxHeartbeats 4000000
namespace Bg
open PySem PySem.Spec PyProof.Rows L2
theorem d_code_row {P : Program} {w : World} {K : PySem.W.Frag} {mg : Str → Option Value} {base : Heap} {f : Addr} {cdv : Value} {A : Around} {outer : List Env} {s : Shared} {H : Hp} {E : XK} (B : Blt mg) (c_draw : Callee P w K mg base "_law_draw" PS_draw K_draw (sp_draw K)) (c_worth : Callee P w K mg base "_law_worth" PS_worth K_worth (sp_worth K))
    (hr : Room k_code_row (A.deeper (envOfC "_law_code_row" (defScope s_code_row) s.heap.objs.size f cdv))) : PSs (cxOf CX0 P w K mg base N_code_row "_law_code_row" (defScope s_code_row) f cdv A outer s H E).nox (defBody s_code_row) (t_code_row K) := by
  have nd := sc_code_row.nd
  have hu := hr.units0
  have hu1 := hu_of hr
  exact (show QSs (cxOf CX0 P w K mg base N_code_row "_law_code_row" (defScope s_code_row) f cdv A outer s H E).nox (defBody s_code_row) (t_code_row K) from (qss_cons (qs_set (i := 4) nd rfl (Or.inl rfl) (qe_fn c_draw (hr.mono (by decide)) rfl (qa_cons (qv 0) (qa_cons qe_int qa_nil)))) (qss_cons (qs_set (i := 5) nd rfl (Or.inl rfl) (qe_fn c_draw (hr.mono (by decide)) rfl (qa_cons (qv 0) (qa_cons (qv 1) qa_nil)))) (qss_cons (qs_if (qt_cmpR op_lt (qv 4) qe_int rfl) (qss_one (qs_ret (qe_tup (qa_cons qe_str (qa_cons (qe_fn c_worth (hr.mono (by decide)) rfl (qa_cons (qv 0) qa_nil)) qa_nil))))) qss_nil) (qss_cons (qs_if (qt_cmpR op_lt (qv 4) qe_int rfl) (qss_one (qs_ret (qe_tup (qa_cons qe_str (qa_cons (qe_ix ix_seq qe_str (qe_fn c_draw (hr.mono (by decide)) rfl (qa_cons (qv 0) (qa_cons qe_int qa_nil))) (fun _ _ => rfl)) (qa_cons (qv 5) (qa_cons (qe_fn c_draw (hr.mono (by decide)) rfl (qa_cons (qv 0) (qa_cons (qv 1) qa_nil))) qa_nil))))))) qss_nil) (qss_cons (qs_if (qt_cmpR op_lt (qv 4) qe_int rfl) (qss_one (qs_ret (qe_tup (qa_cons qe_str (qa_cons (qv 5) qa_nil))))) qss_nil) (qss_cons (qs_if (qt_cmpR (op_eqG hu) (qv 4) qe_int rfl) (qss_one (qs_ret (qe_tup (qa_cons qe_str (qa_cons (qv 5) qa_nil))))) qss_nil) (qss_cons (qs_if (qt_cmpR op_lt (qv 4) qe_int rfl) (qss_one (qs_ret (qe_tup (qa_cons qe_str (qa_cons (qv 5) (qa_cons (qe_fn c_draw (hr.mono (by decide)) rfl (qa_cons (qv 0) (qa_cons (qv 2) qa_nil))) qa_nil)))))) qss_nil) (qss_cons (qs_if (qt_cmpR (op_eqG hu) (qv 4) qe_int rfl) (qss_one (qs_ret (qe_tup (qa_cons qe_str (qa_cons (qe_fn c_draw (hr.mono (by decide)) rfl (qa_cons (qv 0) (qa_cons (qv 2) qa_nil))) qa_nil))))) qss_nil) (qss_cons (qs_if (qt_cmpR (op_eqG hu) (qv 4) qe_int rfl) (qss_cons (qs_set (i := 6) nd rfl (Or.inl rfl) (qe_fn c_draw (hr.mono (by decide)) rfl (qa_cons (qv 0) (qa_cons (qe_callB call_len rfl B.len_ boot_len (qa_cons (qv 3) qa_nil)) qa_nil)))) (qss_one (qs_ret (qe_tup (qa_cons qe_str (qa_cons (qv 6) (qa_cons (qe_callTy call_tuple_of rfl B.tuple_ boot_tuple (qa_cons (qe_comp (sc := defScope s_code_row) (N := N_code_row) (NY := ["_law_state", "_law_places", "_law_many", "_law_counts", "_law_sort", "_law_i", "_law_k", "_law_j"]) (js := []) (k := 1) ⟨rfl, by decide +kernel, by decide +kernel, by decide +kernel, rfl, by decide +kernel⟩ rfl rfl rfl rfl (qi_range1 rfl B.range_ (qa_cons (qe_ix ix_seq (qv 3) (qv 6) (fun _ _ => rfl)) qa_nil)) (fun _ _ _ _ _ => (qg_name (i := 7) (show List.Nodup (["_law_state", "_law_places", "_law_many", "_law_counts", "_law_sort", "_law_i", "_law_k", "_law_j"] : List Str) by decide +kernel) rfl (Or.inl rfl))) (fun _ _ _ _ _ => qif_nil) (fun _ _ _ _ _ => (qe_fn c_draw (hr.mono (by decide)) rfl (qa_cons (qv 0) (qa_cons (qv 1) qa_nil))))) qa_nil)) qa_nil))))))) qss_nil) (qss_one (qs_ret (qe_tup (qa_cons qe_str (qa_cons (qv 5) qa_nil))))))))))))))).up
end Bg
end
section
set_option Elab.async false
set_option linter.all false
set_option maxRecDepth 100000
set_option maxHeartbeats 4000000
namespace Bg
open PySem PySem.Spec PyProof.Rows L2
theorem d_code_part {P : Program} {w : World} {K : PySem.W.Frag} {mg : Str → Option Value} {base : Heap} {f : Addr} {cdv : Value} {A : Around} {outer : List Env} {s : Shared} {H : Hp} {E : XK} (B : Blt mg) (c_silent : Callee P w K mg base "_law_silent" PS_silent K_silent (sp_silent K)) (c_draw : Callee P w K mg base "_law_draw" PS_draw K_draw (sp_draw K)) (c_code_row : Callee P w K mg base "_law_code_row" PS_code_row K_code_row (sp_code_row K))
    (hr : Room k_code_part (A.deeper (envOfC "_law_code_part" (defScope s_code_part) s.heap.objs.size f cdv))) : PSs (cxOf CX0 P w K mg base N_code_part "_law_code_part" (defScope s_code_part) f cdv A outer s H E).nox (defBody s_code_part) (t_code_part K) := by
  have nd := sc_code_part.nd
  have hu := hr.units0
  have hu1 := hu_of hr
  exact (show QSs (cxOf CX0 P w K mg base N_code_part "_law_code_part" (defScope s_code_part) f cdv A outer s H E).nox (defBody s_code_part) (t_code_part K) from (qss_cons (qs_set (i := 4) nd rfl (Or.inr rfl) (qe_op op_plus qe_int (qe_fn c_draw (hr.mono (by decide)) rfl (qa_cons (qv 0) (qa_cons (qv 3) qa_nil))))) (qss_cons (qs_comp (i := 5) (sc := defScope s_code_part) (N := N_code_part) (NY := ["_law_state", "_law_places", "_law_counts", "_law_most", "_law_many", "_law_rows", "_law_n"]) (js := [6]) (k := 0) ⟨rfl, by decide +kernel, by decide +kernel, by decide +kernel, rfl, by decide +kernel⟩ rfl rfl rfl rfl (qi_range1 rfl B.range_ (qa_cons (qv 4) qa_nil)) (fun _ _ _ _ _ => (qg_name (i := 6) (show List.Nodup (["_law_state", "_law_places", "_law_counts", "_law_most", "_law_many", "_law_rows", "_law_n"] : List Str) by decide +kernel) rfl (Or.inl rfl))) (fun _ _ _ _ _ => qif_nil) (fun _ _ _ _ _ => (qe_fn c_code_row (hr.mono (by decide)) rfl (qa_cons (qv 0) (qa_cons (qv 1) (qa_cons (qv 4) (qa_cons (qv 2) qa_nil)))))) nd rfl (Or.inl rfl) rfl) (qss_cons (qs_if (qt_cmpR op_notIn_seq (qe_ix ix_seq (qe_ix ix_seq (qv 5) (qe_un un_neg qe_int) (fun _ _ => rfl)) qe_int (fun _ _ => rfl)) (qe_tup (qa_cons qe_str (qa_cons qe_str qa_nil))) rfl) (qss_one (qs_asg (qe_tup (qa_cons qe_str (qa_cons (qe_fn c_draw (hr.mono (by decide)) rfl (qa_cons (qv 0) (qa_cons (qv 1) qa_nil))) qa_nil))) (qg_sub (qv 5) (qe_un un_neg qe_int) set_list))) qss_nil) (qss_cons (qs_for PassesOwn.never rfl (qi_range1 rfl B.range_ (qa_cons (qv 4) qa_nil)) (qg_name (i := 6) nd rfl (Or.inl rfl)) (qss_one (qs_if (qt_val (qe_fn c_silent (hr.mono (by decide)) rfl (qa_cons (qv 5) (qa_cons (qv 6) qa_nil)))) (qss_one (qs_asg (qe_ix ix_seq (qe_lst (qa_cons (qe_tup (qa_cons qe_str (qa_cons qe_int qa_nil))) (qa_cons (qe_tup (qa_cons qe_str (qa_cons qe_int qa_nil))) qa_nil))) (qe_callTy call_int1 rfl B.int_ boot_int (qa_cons (qe_cmpR (op_eqG hu) (qv 6) (qe_op op_sub (qv 4) qe_int) rfl) qa_nil)) (fun _ _ => rfl)) (qg_sub (qv 5) (qv 6) set_list))) qss_nil))) (qss_one (qs_ret (qe_callTy call_tuple_of rfl B.tuple_ boot_tuple (qa_cons (qv 5) qa_nil))))))))).up
end Bg
end
section
set_option Elab.async false
set_option linter.all false
set_option maxRecDepth 100000
set_option maxHeartbeats 4000000
namespace Bg
open PySem PySem.Spec PyProof.Rows L2
theorem d_code {P : Program} {w : World} {K : PySem.W.Frag} {mg : Str → Option Value} {base : Heap} {f : Addr} {cdv : Value} {A : Around} {outer : List Env} {s : Shared} {H : Hp} {E : XK} (B : Blt mg) (c_code_part : Callee P w K mg base "_law_code_part" PS_code_part K_code_part (sp_code_part K)) (c_draw : Callee P w K mg base "_law_draw" PS_draw K_draw (sp_draw K))
    (hr : Room k_code (A.deeper (envOfC "_law_code" (defScope s_code) s.heap.objs.size f cdv))) : PSs (cxOf CX0 P w K mg base N_code "_law_code" (defScope s_code) f cdv A outer s H E).nox (defBody s_code) (t_code K) := by
  have nd := sc_code.nd
  have hu := hr.units0
  have hu1 := hu_of hr
  exact (show QSs (cxOf CX0 P w K mg base N_code "_law_code" (defScope s_code) f cdv A outer s H E).nox (defBody s_code) (t_code K) from (qss_cons (qs_set (i := 3) nd rfl (Or.inr rfl) (qe_ix ix_seq (qe_lst (qa_cons (qe_op op_plus qe_int (qe_fn c_draw (hr.mono (by decide)) rfl (qa_cons (qv 0) (qa_cons qe_int qa_nil)))) (qa_cons (qe_op op_plus qe_int (qe_fn c_draw (hr.mono (by decide)) rfl (qa_cons (qv 0) (qa_cons qe_int qa_nil)))) qa_nil))) (qe_fn c_draw (hr.mono (by decide)) rfl (qa_cons (qv 0) (qa_cons qe_int qa_nil))) (fun _ _ => rfl))) (qss_cons (qs_set (i := 4) nd rfl (Or.inr rfl) (qe_comp (sc := defScope s_code) (N := N_code) (NY := ["_law_state", "_law_most", "_law_parts", "_law_places", "_law_counts", "_law_k"]) (js := []) (k := 1) ⟨rfl, by decide +kernel, by decide +kernel, by decide +kernel, rfl, by decide +kernel⟩ rfl rfl rfl rfl (qi_range1 rfl B.range_ (qa_cons (qv 2) qa_nil)) (fun _ _ _ _ _ => (qg_name (i := 5) (show List.Nodup (["_law_state", "_law_most", "_law_parts", "_law_places", "_law_counts", "_law_k"] : List Str) by decide +kernel) rfl (Or.inl rfl))) (fun _ _ _ _ _ => qif_nil) (fun _ _ _ _ _ => (qe_fn c_draw (hr.mono (by decide)) rfl (qa_cons (qv 0) (qa_cons qe_int qa_nil)))))) (qss_one (qs_ret (qe_tup (qa_cons (qv 3) (qa_cons (qe_callTy call_tuple_of rfl B.tuple_ boot_tuple (qa_cons (qe_comp (sc := defScope s_code) (N := N_code) (NY := ["_law_state", "_law_most", "_law_parts", "_law_places", "_law_counts", "_law_count"]) (js := []) (k := 1) ⟨rfl, by decide +kernel, by decide +kernel, by decide +kernel, rfl, by decide +kernel⟩ rfl rfl rfl rfl (qi_seq (qv 4)) (fun _ _ _ _ _ => (qg_name (i := 5) (show List.Nodup (["_law_state", "_law_most", "_law_parts", "_law_places", "_law_counts", "_law_count"] : List Str) by decide +kernel) rfl (Or.inl rfl))) (fun _ _ _ _ _ => qif_nil) (fun _ _ _ _ _ => (qe_tup (qa_cons (qv 5) (qa_cons (qe_fn c_code_part (hr.mono (by decide)) rfl (qa_cons (qv 0) (qa_cons (qv 3) (qa_cons (qv 4) (qa_cons (qv 1) qa_nil))))) qa_nil))))) qa_nil)) qa_nil)))))))).up
end Bg
end
section
set_option Elab.async false
set_option linter.all false
set_option maxRecDepth 100000
set_option maxHeartbeats 4000000
namespace Bg
open PySem PySem.Spec PyProof.Rows L2
theorem d_law {P : Program} {w : World} {K : PySem.W.Frag} {mg : Str → Option Value} {base : Heap} {f : Addr} {cdv : Value} {A : Around} {outer : List Env} {s : Shared} {H : Hp} {E : XK} (B : Blt mg) (c_p_fits : Callee P w K mg base "fits" PS_p_fits K_p_fits (sp_p_fits K)) (c_fits : Callee P w K mg base "_law_fits" PS_fits K_fits (sp_fits K)) (c_changed : Callee P w K mg base "_law_changed" PS_changed K_changed (sp_changed K)) (c_draw : Callee P w K mg base "_law_draw" PS_draw K_draw (sp_draw K)) (c_chain_right : Callee P w K mg base "_law_chain_right" PS_chain_right K_chain_right (sp_chain_right K)) (c_code : Callee P w K mg base "_law_code" PS_code K_code (sp_code K))
    (hr : Room k_law (A.deeper (envOfC "law" (defScope s_law) s.heap.objs.size f cdv))) : PSs (cxOf CX0 P w K mg base N_law "law" (defScope s_law) f cdv A outer s H E).nox (defBody s_law) (t_law K) := by
  have nd := sc_law.nd
  have hu := hr.units0
  have hu1 := hu_of hr
  exact (show QSs (cxOf CX0 P w K mg base N_law "law" (defScope s_law) f cdv A outer s H E).nox (defBody s_law) (t_law K) from (qss_cons (qs_set (i := 1) nd rfl (Or.inl rfl) (qe_lst (qa_cons (qv 0) (qa_cons qe_int (qa_cons qe_int qa_nil))))) (qss_cons (qs_set (i := 2) nd rfl (Or.inl rfl) (qe_fn c_code (hr.mono (by decide)) rfl (qa_cons (qv 1) (qa_cons qe_int (qa_cons (qe_op op_plus qe_int (qe_fn c_draw (hr.mono (by decide)) rfl (qa_cons (qv 1) (qa_cons qe_int qa_nil)))) qa_nil))))) (qss_cons (qs_if (QW.pt (qw_or (qt_cmpR op_notB (qe_fn c_p_fits (hr.mono (by decide)) rfl (qa_cons (qv 2) qa_nil)) qe_bl rfl) (qw_or1 (qt_not (qt_val (qe_fn c_chain_right (hr.mono (by decide)) rfl (qa_cons (qe_fn c_draw (hr.mono (by decide)) rfl (qa_cons (qv 1) (qa_cons qe_int qa_nil))) (qa_cons qe_int qa_nil)))))))) (qss_one (qs_ret qe_bl)) qss_nil) (qss_cons (qs_set (i := 3) nd rfl (Or.inl rfl) (qe_fn c_draw (hr.mono (by decide)) rfl (qa_cons (qv 1) (qa_cons qe_int qa_nil)))) (qss_cons (qs_if (qt_not (qt_val (qe_fn c_chain_right (hr.mono (by decide)) rfl (qa_cons (qv 3) (qa_cons (qe_fn c_draw (hr.mono (by decide)) rfl (qa_cons (qv 1) (qa_cons (qe_op op_plus (qv 3) qe_int) qa_nil))) qa_nil))))) (qss_one (qs_ret qe_bl)) qss_nil) (qss_cons (qs_for PassesOwn.never rfl (qi_range1 rfl B.range_ (qa_cons qe_int qa_nil)) (qg_name (i := 4) nd rfl (Or.inl rfl)) (qss_cons (qs_set (i := 5) nd rfl (Or.inl rfl) (qe_fn c_changed (hr.mono (by decide)) rfl (qa_cons (qv 1) (qa_cons (qv 2) qa_nil)))) (qss_cons (qs_set (i := 6) nd rfl (Or.inl rfl) (qe_fn c_p_fits (hr.mono (by decide)) rfl (qa_cons (qv 5) qa_nil))) (qss_one (qs_if (QW.pt (qw_or (qt_not (qt_val (qe_callB call_isi rfl B.isinstance_ boot_isinstance (qa_cons (qv 6) (qa_cons (qe_bltn rfl B.bool_ boot_bool (v := .ty "bool") rfl) qa_nil))))) (qw_or1 (qt_cmpR (op_neG hu) (qv 6) (qe_fn c_fits (hr.mono (by decide)) rfl (qa_cons (qv 5) qa_nil)) rfl)))) (qss_one (qs_ret qe_bl)) qss_nil))))) (qss_one (qs_ret (qe_cmpR op_isB (qe_fn c_p_fits (hr.mono (by decide)) rfl (qa_cons (qv 2) qa_nil)) qe_bl rfl)))))))))).up
end Bg
end
section
set_option Elab.async false
set_option linter.all false
set_option maxRecDepth 100000
set_option maxHeartbeats 4000000
namespace Bg
open PySem L2
theorem r_draw_tail {K : PySem.W.Frag} {st scr : Addr} {m : Int} {k : Nat} {ns : List Int} {c : Int} {H H2 : Hp} {Q : VK} {o4 o5 : Option V} {nx : St → Hp → Prop} (hk : k ≤ 1000000) (m0 : 0 < m)
    (q : ∀ (d : Int) (H' : Hp), 0 ≤ d → d < m → Stt K H' st (k + 1) → But st H H' → Q (.int d) H') (hS : H2 st = some (.lst [.ref scr, .int ((k : Int) + 1), .int c])) (hscr : ScrAt K H2 scr ns) (hns : ns.length ≤ 63) (hB : But st H H2) :
    t_draw_5 K { nx := nx, rt := Q } [some (.ref st), some (.int m), some (.ref scr), some (.int (k : Nat)), o4, o5] H2 := by
  have e1 : (((k + 1 : Nat) : Nat) : Int) = (k : Int) + 1 := by omega
  have S2 : Stt K H2 st (k + 1) := ⟨scr, ns, c, by rw [e1]; exact hS, hscr, hns⟩
  refine ⟨_, rfl, .inl ⟨_, _, rfl, rfl, .inr ⟨by decide, by decide⟩, .inl ⟨_, _, rfl, rfl, ?_⟩⟩⟩
  have rest : ∀ z : Int, t_draw_3 K { nx := nx, rt := Q } [some (.ref st), some (.int m), some (.ref scr), some (.int (k : Nat)), o4, some (.int z)] H2 := fun z => by
    have b1 : 0 ≤ z % 2147483629 := Int.emod_nonneg _ (by decide)
    have b2 : z % 2147483629 < 2147483629 := Int.emod_lt_of_pos _ (by decide)
    refine ⟨_, rfl, _, _, rfl, rfl, (by show (0 : Int) < 2147483629; decide), _, rfl, .inl ⟨_, _, rfl, rfl, .inl ⟨_, _, rfl, rfl, .inl ⟨by omega, by omega⟩, _, _, rfl, rfl, (by show (0 : Int) < 2147483629; decide), ?_⟩⟩⟩
    generalize hy : z % 2147483629 * ((k : Int) + 3) % 2147483629 = y
    have c1 : 0 ≤ y := by rw [← hy]; exact Int.emod_nonneg _ (by decide)
    have c2 : y < 2147483629 := by rw [← hy]; exact Int.emod_lt_of_pos _ (by decide)
    refine ⟨_, rfl, _, rfl, .inl ⟨_, _, rfl, rfl, .inl ⟨by omega, by omega⟩, _, _, rfl, rfl, (by show (0 : Int) < 2147483587; decide), ?_⟩⟩
    generalize hx : y * y % 2147483587 = x
    have d1 : 0 ≤ x := by rw [← hx]; exact Int.emod_nonneg _ (by decide)
    have d2 : x < 2147483587 := by rw [← hx]; exact Int.emod_lt_of_pos _ (by decide)
    refine ⟨_, rfl, _, rfl, .inl ⟨_, _, rfl, rfl, .inl ⟨by omega, by omega⟩, _, _, rfl, rfl, (by show (0 : Int) < 1999999973; decide), _, rfl, _, _, rfl, rfl, m0, ?_⟩⟩
    exact q _ H2 (Int.emod_nonneg _ (by omega)) (Int.emod_lt_of_pos _ m0) S2 hB
  refine ⟨_, rfl, _, _, rfl, .inl ⟨_, hscr.sq, rfl⟩, _, _, rfl, rfl, _, rfl, if_dec (fun hl => ?_) (fun _ => rest _)⟩
  rw [List.length_map] at hl
  have hlp : 0 < ns.length := by omega
  refine ⟨_, rfl, _, rfl, _, rfl, .inl ⟨_, _, rfl, rfl, .inr ⟨by decide, by decide⟩, _, rfl, _, _, rfl, .inl ⟨_, hscr.sq, rfl⟩, _, _, rfl, rfl, (by rw [List.length_map]; omega), ?_⟩⟩
  have i1 : 0 ≤ (k : Int) * 7 % ((ns.map V.int).length : Nat) := Int.emod_nonneg _ (by rw [List.length_map]; omega)
  have i2 : (k : Int) * 7 % ((ns.map V.int).length : Nat) < ((ns.map V.int).length : Nat) := Int.emod_lt_of_pos _ (by rw [List.length_map]; omega)
  rw [List.length_map] at i1 i2
  have i3 : ((k : Int) * 7 % (ns.length : Nat)).toNat < ns.length := by omega
  refine ixL hscr.sq (by rw [List.length_map]; exact i1) (v := .int ns[((k : Int) * 7 % (ns.length : Nat)).toNat]) (by simp only [List.length_map]; rw [List.getElem?_map, List.getElem?_eq_getElem i3]; rfl) ?_
  exact ⟨_, rfl, .inl ⟨_, _, rfl, rfl, .inl ⟨_, _, rfl, rfl, .inr ⟨by omega, by omega⟩, .inl ⟨_, _, rfl, rfl, rest _⟩⟩⟩⟩
theorem r_draw {K : PySem.W.Frag} {vs : List V} {H : Hp} {Q : VK} {E : XK} (h : sp_draw K vs H Q E) : t_draw K { nx := fun _ H' => Q .non H', rt := Q } (start N_draw vs) H := by
  obtain ⟨st, m, k, rfl, S, hk, m0, m1, q⟩ := h
  obtain ⟨scr, ns, c, hst, hscr, hns⟩ := S
  refine ⟨_, rfl, _, rfl, .inl ⟨st, _, rfl, SqL.of hst, fun p hp => ?_⟩⟩
  refine ⟨p, _, rfl, SqL.of upd_same, rfl, _, _, rfl, _, _, rfl, rfl, ?_⟩
  have np : st ≠ p := ne_of_none hst hp
  have B1 : But st H (upd H p (.lst (cutV [V.ref scr, V.int (k : Nat), V.int c] none (some 2)))) := (But.refl st H).new hp
  have h1 : (upd H p (.lst (cutV [V.ref scr, V.int (k : Nat), V.int c] none (some 2)))) st = some (.lst [.ref scr, .int (k : Nat), .int c]) := by rw [upd_ne np]; exact hst
  have s1 : ScrAt K (upd H p (.lst (cutV [V.ref scr, V.int (k : Nat), V.int c] none (some 2)))) scr ns := hscr.mono (.of_but B1 hst)
  generalize upd H p (.lst (cutV [V.ref scr, V.int (k : Nat), V.int c] none (some 2))) = H1 at B1 h1 s1 ⊢
  refine ⟨_, rfl, .inl ⟨_, _, rfl, rfl, _, rfl, setL h1 (by decide) (by show 1 < 3; decide) ?_⟩⟩
  have B2 : But st H (upd H1 st (.lst [.ref scr, .int ((k : Int) + 1), .int c])) := B1.trans .upd_at
  have h2 : (upd H1 st (.lst [.ref scr, .int ((k : Int) + 1), .int c])) st = some (.lst [.ref scr, .int ((k : Int) + 1), .int c]) := upd_same
  have s2 : ScrAt K (upd H1 st (.lst [.ref scr, .int ((k : Int) + 1), .int c])) scr ns := s1.mono (.of_but .upd_at h1)
  show t_draw_8 K _ [some (.ref st), some (.int m), some (.ref scr), some (.int (k : Nat)), none, none] (upd H1 st (.lst [.ref scr, .int ((k : Int) + 1), .int c]))
  generalize upd H1 st (.lst [.ref scr, .int ((k : Int) + 1), .int c]) = H2 at B2 h2 s2 ⊢
  have tail := @r_draw_tail K st scr m k ns c H H2 Q none none (fun _ H' => Q .non H') hk m0 q h2 s2 hns B2
  have dig : ∀ (c' : Int) (H3 : Hp), H3 st = some (.lst [.ref scr, .int ((k : Int) + 1), .int c']) → ScrAt K H3 scr ns → But st H H3 →
      t_draw_7 K { nx := t_draw_5 K { nx := fun _ H' => Q .non H', rt := Q }, rt := Q } [some (.ref st), some (.int m), some (.ref scr), some (.int (k : Nat)), none, none] H3 := fun c' H3 h3 s3 B3 => by
    refine ⟨_, rfl, ixL (SqL.of h3) (by decide) rfl ?_⟩
    refine ⟨_, rfl, (by show 2 ≤ sizeLine; decide), fun t ht => ⟨t, _, rfl, .inr (SqT.of upd_same), rfl, rfl, _, rfl, ?_⟩⟩
    have n3 : st ≠ t := ne_of_none h3 ht
    have B4 : But st H (upd H3 t (.tup [.int 0, .int (-1)])) := B3.new ht
    have h4 : (upd H3 t (.tup [.int 0, .int (-1)])) st = some (.lst [.ref scr, .int ((k : Int) + 1), .int c']) := by rw [upd_ne n3]; exact h3
    have s4 : ScrAt K (upd H3 t (.tup [.int 0, .int (-1)])) scr ns := s3.mono (.of_same ((Same.refl H3).new ht))
    refine if_bl (fun _ => ?_) (fun _ => ?_)
    · -- _law_state[2], _law_digit = divmod(_law_state[2], _law_many)
      refine ⟨_, rfl, .inl ⟨st, _, _, _, rfl, rfl, SqL.of h4, atI_of (by decide) rfl, _, rfl, _, _, rfl, ⟨m0, m1⟩, fun p2 hp2 => ?_⟩⟩
      have n4 : st ≠ p2 := ne_of_none h4 hp2
      refine ⟨p2, _, rfl, SqT.of upd_same, rfl, _, _, rfl, _, rfl, setL (by rw [upd_ne n4]; exact h4) (by decide) (by show 2 < 3; decide) ?_⟩
      refine ⟨_, _, rfl, rfl, _, rfl, ?_⟩
      have B5 := (B4.new (o := .tup [.int (c' / m), .int (c' % m)]) hp2)
      have s5 : ScrAt K (upd (upd H3 t (.tup [.int 0, .int (-1)])) p2 (.tup [.int (c' / m), .int (c' % m)])) scr ns := s4.mono (.of_same ((Same.refl _).new hp2))
      have h5 : (upd (upd H3 t (.tup [.int 0, .int (-1)])) p2 (.tup [.int (c' / m), .int (c' % m)])) st = some (.lst [.ref scr, .int ((k : Int) + 1), .int c']) := by rw [upd_ne n4]; exact h4
      refine q _ _ (Int.emod_nonneg _ (by omega)) (Int.emod_lt_of_pos _ m0) ⟨scr, ns, c' / m, ?_, s5.mono (.of_but .upd_at h5), hns⟩ (B5.trans .upd_at)
      have e1 : (((k + 1 : Nat) : Nat) : Int) = (k : Int) + 1 := by omega
      rw [upd_same, e1]
      rfl
    · exact r_draw_tail hk m0 q h4 s4 hns B4
  have e1 : (((k + 1 : Nat) : Nat) : Int) = (k : Int) + 1 := by omega
  have elif : tIfS (tTest (tOp rLt2 (tVar 3) (tCB (rLen K) (tCons (tVar 2) tNil)))) (tRet (tOp rMod2 (tOp (rIx K) (tVar 2) (tVar 3)) (tVar 1))) tNext
      { nx := t_draw_5 K { nx := fun _ H' => Q V.non H', rt := Q }, rt := Q } [some (V.ref st), some (V.int m), some (V.ref scr), some (V.int (k : Nat)), none, none] H2 := by
    refine ⟨_, rfl, _, rfl, _, _, rfl, .inl ⟨_, s2.sq, rfl⟩, _, _, rfl, rfl, _, rfl, if_dec (fun hlt => ?_) (fun _ => tail)⟩
    rw [List.length_map] at hlt
    have j2 : ((k : Nat) : Int).toNat < ns.length := by omega
    refine ⟨_, rfl, _, rfl, ixL s2.sq (by omega) (v := .int ns[((k : Nat) : Int).toNat]) (by rw [List.getElem?_map, List.getElem?_eq_getElem j2]; rfl) ?_⟩
    refine ⟨_, rfl, _, _, rfl, rfl, m0, ?_⟩
    exact q _ H2 (Int.emod_nonneg _ (by omega)) (Int.emod_lt_of_pos _ m0) ⟨scr, ns, c, by rw [e1]; exact h2, s2, hns⟩ B2
  refine ⟨_, rfl, _, _, rfl, rfl, ⟨by decide, by decide⟩, .inl ⟨_, _, rfl, rfl, _, rfl, _, _, rfl, .inl ⟨_, s2.sq, rfl⟩, _, _, rfl, rfl, _, rfl, if_dec (fun hlt => ?_) (fun _ => ?_)⟩⟩
  · rw [List.length_map] at hlt
    have hlp : 0 < ns.length := by omega
    have i0 : (ns.map V.int)[(0 : Int).toNat]? = some (.int ns[0]) := by
      show (ns.map V.int)[0]? = _
      rw [List.getElem?_map, List.getElem?_eq_getElem hlp]; rfl
    refine ⟨_, rfl, ixL s2.sq (by decide) i0 ⟨_, _, rfl, rfl, (by show (0 : Int) < 2; decide), .inl ⟨rfl, _, rfl, if_dec (fun _ => ?_) (fun _ => ?_)⟩⟩⟩
    · -- if _law_k % 12 == 0
      refine ⟨_, rfl, _, _, rfl, rfl, (by show (0 : Int) < 12; decide), .inl ⟨rfl, _, rfl, if_dec (fun _ => ?_) (fun _ => dig c H2 h2 s2 B2)⟩⟩
      have j2 : ((k : Int) / 12 + 1).toNat < ns.length := by omega
      refine ⟨_, rfl, _, rfl, _, _, rfl, rfl, ⟨by decide, by decide⟩, .inl ⟨_, _, rfl, rfl, ixL s2.sq (by omega) (v := .int ns[((k : Int) / 12 + 1).toNat]) (by rw [List.getElem?_map, List.getElem?_eq_getElem j2]; rfl) ?_⟩⟩
      refine ⟨_, rfl, setL h2 (by decide) (by show 2 < 3; decide) ?_⟩
      exact dig _ _ upd_same (s2.mono (.of_but .upd_at h2)) (B2.trans .upd_at)
    · exact elif
  · exact iteF elif
end Bg
end
section
set_option Elab.async false
set_option linter.all false
set_option maxRecDepth 100000
set_option maxHeartbeats 4000000
namespace Bg
open PySem L2
theorem r_worth {K : PySem.W.Frag} {vs : List V} {H : Hp} {Q : VK} {E : XK} (h : sp_worth K vs H Q E) : t_worth K { nx := fun _ H' => Q .non H', rt := Q } (start N_worth vs) H := by
  obtain ⟨st, k, rfl, S, hk, q⟩ := h
  have e31 : (2 : Int) ^ Int.toNat 31 = 2147483648 := by decide
  have e33 : (2 : Int) ^ Int.toNat 33 = 8589934592 := by decide
  have e64 : (2 : Int) ^ Int.toNat 64 = 18446744073709551616 := by decide
  have f64 : (2 : Int) ^ 64 = 18446744073709551616 := by decide
  refine ⟨_, rfl, st, 2, k, rfl, S, by omega, by decide, by decide, fun d H1 d0 d1 S1 B1 => ?_⟩
  refine .inl ⟨rfl, _, rfl, if_dec (fun _ => ?_) (fun _ => ?_)⟩
  · refine ⟨_, rfl, _, _, rfl, rfl, ⟨by decide, by decide, by decide⟩, st, _, k + 1, rfl, S1, by omega, by rw [e31]; decide, by rw [e31]; decide, fun d2 H2 a0 a1 S2 B2 => ?_⟩
    rw [e31] at a1
    refine ⟨_, _, rfl, rfl, ⟨by decide, by decide, by decide⟩, .inl ⟨_, _, rfl, rfl, .inl ⟨by omega, by omega⟩, ?_⟩⟩
    refine ⟨_, rfl, _, _, rfl, rfl, ⟨by decide, by decide, by decide⟩, st, _, k + 2, rfl, S2, by omega, by rw [e31]; decide, by rw [e31]; decide, fun d3 H3 b0 b1 S3 B3 => ?_⟩
    rw [e31] at b1
    refine .inl ⟨_, _, rfl, rfl, q _ _ H3 ?_ ?_ S3 (by omega) ((B1.trans B2).trans B3)⟩
    · show 0 ≤ d2 * (2 : Int) ^ Int.toNat 33 + d3
      rw [e33]; omega
    · show d2 * (2 : Int) ^ Int.toNat 33 + d3 < 2 ^ 64
      rw [e33, f64]; omega
  · refine ⟨_, _, rfl, rfl, ⟨by decide, by decide, by decide⟩, _, _, rfl, rfl, _, rfl, st, 3, k + 1, rfl, S1, by omega, by decide, by decide, fun d2 H2 a0 a1 S2 B2 => ?_⟩
    refine ⟨_, _, rfl, rfl, _, rfl, st, 12, k + 2, rfl, S2, by omega, by decide, by decide, fun d3 H3 b0 b1 S3 B3 => ?_⟩
    refine ⟨(by show 4 ≤ sizeLine; decide), fun l hl => ?_⟩
    refine ⟨_, rfl, st, 4, k + 3, rfl, S3.new hl, by omega, by decide, by decide, fun d4 H4 c0 c1 S4 B4 => ?_⟩
    obtain ⟨ys, hys⟩ := S3.lst
    have nl : l ≠ st := fun z => by rw [z, hys] at hl; cases hl
    have h4 := B4 l _ nl upd_same
    have B5 : But st H H4 := (((B1.trans B2).trans B3).new hl).trans B4
    have fin : ∀ z : Int, 0 ≤ z → z < 2 ^ 64 → Q (.int z) H4 := fun z z0 z1 => q z _ H4 z0 z1 S4 (by omega) B5
    rcases (by omega : d4 = 0 ∨ d4 = 1 ∨ d4 = 2 ∨ d4 = 3) with rfl | rfl | rfl | rfl
    · exact ixL (SqL.of h4) (by decide) rfl (fin _ (by decide) (by decide))
    · exact ixL (SqL.of h4) (by decide) rfl (fin _ (by decide) (by decide))
    · refine ixL (SqL.of h4) (by decide) rfl (fin _ ?_ ?_)
      · show 0 ≤ (2 : Int) ^ Int.toNat 64 - 1 - d2
        rw [e64]; omega
      · show (2 : Int) ^ Int.toNat 64 - 1 - d2 < 2 ^ 64
        rw [e64, f64]; omega
    · exact ixL (SqL.of h4) (by decide) rfl (fin _ (by omega) (by omega))
end Bg
end
section
set_option Elab.async false
set_option linter.all false
set_option maxRecDepth 100000
set_option maxHeartbeats 4000000
namespace Bg
open PySem L2
theorem sign_at : ∀ i : Nat, i < 5 → ∃ c, ("+-*<=" : Str).cps.toList[i]? = some c ∧ (⟨#[c]⟩ : Str) ∈ signs
  | 0, _ => ⟨43, by decide +kernel, by decide +kernel⟩
  | 1, _ => ⟨45, by decide +kernel, by decide +kernel⟩
  | 2, _ => ⟨42, by decide +kernel, by decide +kernel⟩
  | 3, _ => ⟨60, by decide +kernel, by decide +kernel⟩
  | 4, _ => ⟨61, by decide +kernel, by decide +kernel⟩
  | n + 5, h => by omega
end Bg
end
section
set_option Elab.async false
set_option linter.all false
set_option maxRecDepth 100000
set_option maxHeartbeats 4000000
namespace Bg
open PySem L2
end Bg
end
section
set_option Elab.async false
set_option linter.all false
set_option maxRecDepth 100000
set_option maxHeartbeats 4000000
namespace Bg
open PySem L2
end Bg
end
section
set_option Elab.async false
set_option linter.all false
set_option maxRecDepth 100000
set_option maxHeartbeats 4000000
namespace Bg
open PySem L2
end Bg
end
section
set_option Elab.async false
set_option linter.all false
set_option maxRecDepth 100000
set_option maxHeartbeats 4000000
namespace Bg
open PySem L2
end Bg
end
section
set_option Elab.async false
set_option linter.all false
set_option maxRecDepth 100000
set_option maxHeartbeats 4000000
namespace Bg
open PySem L2
end Bg
end
section
set_option Elab.async false
set_option linter.all false
set_option maxRecDepth 100000
set_option maxHeartbeats 4000000
namespace Bg
open PySem L2
end Bg
end
section
set_option Elab.async false
set_option linter.all false
set_option maxRecDepth 100000
set_option maxHeartbeats 4000000
namespace Bg
open PySem L2
end Bg
end
section
set_option Elab.async false
set_option linter.all false
set_option maxRecDepth 100000
set_option maxHeartbeats 4000000
namespace Bg
open PySem L2
theorem nodup_lt : ∀ {n : Nat} {l : List Nat}, l.Nodup → (∀ x ∈ l, x < n) → l.length ≤ n
  | 0, l, _, h => by
    cases l with
    | nil => exact Nat.le_refl _
    | cons a r => exact absurd (h a List.mem_cons_self) (Nat.not_lt_zero _)
  | n + 1, l, nd, h => by
    by_cases c : n ∈ l
    · have h1 := nodup_lt (n := n) (l := l.erase n) (nd.erase n) fun x hx => by
        have := (nd.mem_erase_iff).mp hx
        have := h x this.2
        omega
      rw [List.length_erase_of_mem c] at h1
      omega
    · have h1 := nodup_lt (n := n) nd fun x hx => by
        have := h x hx
        have : x ≠ n := fun z => c (z ▸ hx)
        omega
      omega
end Bg
end
section
set_option Elab.async false
set_option linter.all false
set_option maxRecDepth 100000
set_option maxHeartbeats 4000000
namespace Bg
open PySem L2
end Bg
end
section
set_option Elab.async false
set_option linter.all false
set_option maxRecDepth 100000
set_option maxHeartbeats 4000000
namespace Bg
open PySem PySem.Spec PyProof.Rows L2
end Bg
end
section
set_option Elab.async false
set_option linter.all false
set_option maxRecDepth 100000
set_option maxHeartbeats 4000000
namespace Bg
open PySem PySem.Spec PyProof.Rows L2
end Bg
end
section
set_option Elab.async false
set_option linter.all false
set_option maxRecDepth 100000
set_option maxHeartbeats 4000000
namespace Bg
open PySem L2
end Bg
end
section
set_option Elab.async false
set_option linter.all false
set_option maxRecDepth 100000
set_option maxHeartbeats 4000000
namespace Bg
open PySem L2
end Bg
end
section
set_option Elab.async false
set_option linter.all false
set_option maxRecDepth 100000
set_option maxHeartbeats 4000000
namespace Bg
open PySem L2
end Bg
end
section
set_option Elab.async false
set_option linter.all false
set_option maxRecDepth 100000
set_option maxHeartbeats 4000000
namespace Bg
open PySem L2
def keyF (F : List Nat) : List (Key × V) := F.map fun (n : Nat) => (Sum.inl ((n : Nat) : Int), V.bl true)
theorem valF : ∀ (F : List Nat) (m : Nat), (valV (keyF F) (Sum.inl (m : Int))).isSome = decide (m ∈ F)
  | [], m => rfl
  | a :: r, m => by
    unfold valV keyF
    rw [List.map_cons, List.find?_cons]
    by_cases c : m = a
    · subst c
      rw [decide_eq_true (by rfl : ((Sum.inl (m : Int), V.bl true) : Key × V).1 = Sum.inl (m : Int))]
      rw [decide_eq_true List.mem_cons_self]
      rfl
    · have e : decide (((Sum.inl (a : Int), V.bl true) : Key × V).1 = Sum.inl (m : Int)) = false := decide_eq_false fun z => c (by injection z with z; omega)
      rw [e]
      have ih := valF r m
      unfold valV keyF at ih
      refine Eq.trans ih ?_
      rw [Bool.eq_iff_iff, decide_eq_true_eq, decide_eq_true_eq, List.mem_cons]
      exact ⟨.inr, fun z => z.resolve_left c⟩
theorem putF {F : List Nat} {m : Nat} (h : m ∉ F) : putK (keyF F) (Sum.inl (m : Int)) (V.bl true) = keyF (F ++ [m]) := by
  have e : valV (keyF F) (Sum.inl (m : Int)) = none := by
    have := valF F m
    rw [decide_eq_false h] at this
    cases q : valV (keyF F) (Sum.inl (m : Int)) with
    | none => rfl
    | some v => rw [q] at this; cases this
  rw [putK_new _ e]
  unfold keyF
  rw [List.map_append]
  rfl
theorem keyF_len (F : List Nat) : (keyF F).length = F.length := by unfold keyF; rw [List.length_map]
end Bg
end
section
set_option Elab.async false
set_option linter.all false
set_option maxRecDepth 100000
set_option maxHeartbeats 4000000
namespace Bg
open PySem L2
theorem r_c_goal {K : PySem.W.Frag} {vs : List V} {H : Hp} {Q : VK} {E : XK} (h : sp_c_goal K vs H Q E) : t_c_goal K { nx := fun _ H' => Q .non H', rt := Q } (start N_c_goal vs) H := by
  obtain ⟨v, r, rfl, hr, q⟩ := h
  cases r with
  | num z =>
    obtain ⟨p, rfl, h⟩ := hr
    refine ⟨_, rfl, ixT h (by decide) rfl (.inl ⟨rfl, _, rfl, no (by decide +kernel) ?_⟩)⟩
    refine ⟨_, rfl, ixT h (by decide) rfl (.inl ⟨rfl, _, rfl, no (by decide +kernel) ?_⟩)⟩
    exact q
  | op s i j =>
    obtain ⟨p, rfl, h⟩ := hr
    refine ⟨_, rfl, ixT h (by decide) rfl (.inl ⟨rfl, _, rfl, no (by decide +kernel) ?_⟩)⟩
    refine ⟨_, rfl, ixT h (by decide) rfl (.inl ⟨rfl, _, rfl, no (by decide +kernel) ?_⟩)⟩
    exact q
  | keep i =>
    obtain ⟨p, rfl, h⟩ := hr
    refine ⟨_, rfl, ixT h (by decide) rfl (.inl ⟨rfl, _, rfl, no (by decide +kernel) ?_⟩)⟩
    refine ⟨_, rfl, ixT h (by decide) rfl (.inl ⟨rfl, _, rfl, no (by decide +kernel) ?_⟩)⟩
    exact q
  | say i =>
    obtain ⟨p, rfl, h⟩ := hr
    refine ⟨_, rfl, ixT h (by decide) rfl (.inl ⟨rfl, _, rfl, no (by decide +kernel) ?_⟩)⟩
    refine ⟨_, rfl, ixT h (by decide) rfl (.inl ⟨rfl, _, rfl, no (by decide +kernel) ?_⟩)⟩
    exact q
  | jump to =>
    obtain ⟨p, rfl, h⟩ := hr
    refine ⟨_, rfl, ixT h (by decide) rfl (.inl ⟨rfl, _, rfl, yes ?_⟩)⟩
    exact ⟨_, rfl, ixT h (by decide) rfl q⟩
  | test i to =>
    obtain ⟨p, rfl, h⟩ := hr
    refine ⟨_, rfl, ixT h (by decide) rfl (.inl ⟨rfl, _, rfl, no (by decide +kernel) ?_⟩)⟩
    refine ⟨_, rfl, ixT h (by decide) rfl (.inl ⟨rfl, _, rfl, yes ?_⟩)⟩
    exact ⟨_, rfl, ixT h (by decide) rfl q⟩
  | call k as =>
    obtain ⟨p, q1, rfl, h, h1⟩ := hr
    refine ⟨_, rfl, ixT h (by decide) rfl (.inl ⟨rfl, _, rfl, no (by decide +kernel) ?_⟩)⟩
    refine ⟨_, rfl, ixT h (by decide) rfl (.inl ⟨rfl, _, rfl, no (by decide +kernel) ?_⟩)⟩
    exact q
  | give i =>
    obtain ⟨p, rfl, h⟩ := hr
    refine ⟨_, rfl, ixT h (by decide) rfl (.inl ⟨rfl, _, rfl, no (by decide +kernel) ?_⟩)⟩
    refine ⟨_, rfl, ixT h (by decide) rfl (.inl ⟨rfl, _, rfl, no (by decide +kernel) ?_⟩)⟩
    exact q
theorem r_c_leads {K : PySem.W.Frag} {vs : List V} {H : Hp} {Q : VK} {E : XK} (h : sp_c_leads K vs H Q E) : t_c_leads K { nx := fun _ H' => Q .non H', rt := Q } (start N_c_leads vs) H := by
  obtain ⟨rt, n, rvs, v, r, rfl, hrt, hv, hra, q⟩ := h
  have hr := hra
  cases r with
  | num z =>
    obtain ⟨p, rfl, h⟩ := hr
    have hv' : rvs[((n : Nat) : Int).toNat]? = some (.ref p) := by simpa using hv
    refine ⟨_, rfl, _, rfl, ixT hrt (by omega) hv' (ixT h (by decide) rfl ?_)⟩
    refine ⟨_, rfl, .inl ⟨rfl, _, rfl, no (by decide +kernel) ?_⟩⟩
    refine ⟨_, rfl, .inl ⟨rfl, _, rfl, no (by decide +kernel) ?_⟩⟩
    refine ⟨_, rfl, .inl ⟨rfl, _, rfl, no (by decide +kernel) ?_⟩⟩
    exact ⟨_, rfl, .inl ⟨_, _, rfl, rfl, (by show 1 ≤ sizeLine; decide), fun t ht => q t _ upd_same ((Same.refl H).new ht)⟩⟩
  | op s i j =>
    obtain ⟨p, rfl, h⟩ := hr
    have hv' : rvs[((n : Nat) : Int).toNat]? = some (.ref p) := by simpa using hv
    refine ⟨_, rfl, _, rfl, ixT hrt (by omega) hv' (ixT h (by decide) rfl ?_)⟩
    refine ⟨_, rfl, .inl ⟨rfl, _, rfl, no (by decide +kernel) ?_⟩⟩
    refine ⟨_, rfl, .inl ⟨rfl, _, rfl, no (by decide +kernel) ?_⟩⟩
    refine ⟨_, rfl, .inl ⟨rfl, _, rfl, no (by decide +kernel) ?_⟩⟩
    exact ⟨_, rfl, .inl ⟨_, _, rfl, rfl, (by show 1 ≤ sizeLine; decide), fun t ht => q t _ upd_same ((Same.refl H).new ht)⟩⟩
  | keep i =>
    obtain ⟨p, rfl, h⟩ := hr
    have hv' : rvs[((n : Nat) : Int).toNat]? = some (.ref p) := by simpa using hv
    refine ⟨_, rfl, _, rfl, ixT hrt (by omega) hv' (ixT h (by decide) rfl ?_)⟩
    refine ⟨_, rfl, .inl ⟨rfl, _, rfl, no (by decide +kernel) ?_⟩⟩
    refine ⟨_, rfl, .inl ⟨rfl, _, rfl, no (by decide +kernel) ?_⟩⟩
    refine ⟨_, rfl, .inl ⟨rfl, _, rfl, no (by decide +kernel) ?_⟩⟩
    exact ⟨_, rfl, .inl ⟨_, _, rfl, rfl, (by show 1 ≤ sizeLine; decide), fun t ht => q t _ upd_same ((Same.refl H).new ht)⟩⟩
  | say i =>
    obtain ⟨p, rfl, h⟩ := hr
    have hv' : rvs[((n : Nat) : Int).toNat]? = some (.ref p) := by simpa using hv
    refine ⟨_, rfl, _, rfl, ixT hrt (by omega) hv' (ixT h (by decide) rfl ?_)⟩
    refine ⟨_, rfl, .inl ⟨rfl, _, rfl, no (by decide +kernel) ?_⟩⟩
    refine ⟨_, rfl, .inl ⟨rfl, _, rfl, no (by decide +kernel) ?_⟩⟩
    refine ⟨_, rfl, .inl ⟨rfl, _, rfl, no (by decide +kernel) ?_⟩⟩
    exact ⟨_, rfl, .inl ⟨_, _, rfl, rfl, (by show 1 ≤ sizeLine; decide), fun t ht => q t _ upd_same ((Same.refl H).new ht)⟩⟩
  | jump to =>
    obtain ⟨p, rfl, h⟩ := hr
    have hv' : rvs[((n : Nat) : Int).toNat]? = some (.ref p) := by simpa using hv
    refine ⟨_, rfl, _, rfl, ixT hrt (by omega) hv' (ixT h (by decide) rfl ?_)⟩
    refine ⟨_, rfl, .inl ⟨rfl, _, rfl, no (by decide +kernel) ?_⟩⟩
    refine ⟨_, rfl, .inl ⟨rfl, _, rfl, yes ?_⟩⟩
    exact ⟨_, rfl, _, rfl, ixT hrt (by omega) hv' ⟨_, _, rfl, hra, (by show 1 ≤ sizeLine; decide), fun t ht => q t _ upd_same ((Same.refl H).new ht)⟩⟩
  | test i to =>
    obtain ⟨p, rfl, h⟩ := hr
    have hv' : rvs[((n : Nat) : Int).toNat]? = some (.ref p) := by simpa using hv
    refine ⟨_, rfl, _, rfl, ixT hrt (by omega) hv' (ixT h (by decide) rfl ?_)⟩
    refine ⟨_, rfl, .inl ⟨rfl, _, rfl, no (by decide +kernel) ?_⟩⟩
    refine ⟨_, rfl, .inl ⟨rfl, _, rfl, no (by decide +kernel) ?_⟩⟩
    refine ⟨_, rfl, .inl ⟨rfl, _, rfl, yes ?_⟩⟩
    exact ⟨_, rfl, .inl ⟨_, _, rfl, rfl, _, rfl, _, rfl, ixT hrt (by omega) hv' ⟨_, _, rfl, hra, (by show 2 ≤ sizeLine; decide), fun t ht => q t _ upd_same ((Same.refl H).new ht)⟩⟩⟩
  | call k as =>
    obtain ⟨p, q1, rfl, h, h1⟩ := hr
    have hv' : rvs[((n : Nat) : Int).toNat]? = some (.ref p) := by simpa using hv
    refine ⟨_, rfl, _, rfl, ixT hrt (by omega) hv' (ixT h (by decide) rfl ?_)⟩
    refine ⟨_, rfl, .inl ⟨rfl, _, rfl, no (by decide +kernel) ?_⟩⟩
    refine ⟨_, rfl, .inl ⟨rfl, _, rfl, no (by decide +kernel) ?_⟩⟩
    refine ⟨_, rfl, .inl ⟨rfl, _, rfl, no (by decide +kernel) ?_⟩⟩
    exact ⟨_, rfl, .inl ⟨_, _, rfl, rfl, (by show 1 ≤ sizeLine; decide), fun t ht => q t _ upd_same ((Same.refl H).new ht)⟩⟩
  | give i =>
    obtain ⟨p, rfl, h⟩ := hr
    have hv' : rvs[((n : Nat) : Int).toNat]? = some (.ref p) := by simpa using hv
    refine ⟨_, rfl, _, rfl, ixT hrt (by omega) hv' (ixT h (by decide) rfl ?_)⟩
    refine ⟨_, rfl, .inl ⟨rfl, _, rfl, yes ?_⟩⟩
    exact ⟨(by show 0 ≤ sizeLine; decide), fun t ht => q t _ upd_same ((Same.refl H).new ht)⟩
theorem r_p_places_read {K : PySem.W.Frag} {vs : List V} {H : Hp} {Q : VK} {E : XK} (h : sp_p_places_read K vs H Q E) : t_p_places_read K { nx := fun _ H' => Q .non H', rt := Q } (start N_p_places_read vs) H := by
  obtain ⟨v, r, rfl, hr, q⟩ := h
  cases r with
  | num z =>
    obtain ⟨p, rfl, h⟩ := hr
    refine ⟨_, rfl, ixT h (by decide) rfl ?_⟩
    refine ⟨_, rfl, .inl ⟨rfl, _, rfl, no (by decide +kernel) ?_⟩⟩
    refine ⟨_, rfl, .inl ⟨rfl, _, rfl, no (by decide +kernel) ?_⟩⟩
    refine ⟨_, rfl, (by show 4 ≤ sizeLine; decide), fun t ht => ⟨t, _, rfl, .inr (SqT.of upd_same), rfl, rfl, _, rfl, if_f (by decide +kernel) ?_⟩⟩
    have nt : p ≠ t := ne_of_none h ht
    exact ⟨(by show 0 ≤ sizeLine; decide), fun t2 ht2 => q t2 _ upd_same (((Same.refl H).new ht).new ht2)⟩
  | op s i j =>
    obtain ⟨p, rfl, h⟩ := hr
    refine ⟨_, rfl, ixT h (by decide) rfl ?_⟩
    refine ⟨_, rfl, .inl ⟨rfl, _, rfl, yes ?_⟩⟩
    exact ⟨_, rfl, ixT h (by decide) rfl ⟨_, rfl, ixT h (by decide) rfl ⟨(by show 2 ≤ sizeLine; decide), fun t ht => q t _ upd_same ((Same.refl H).new ht)⟩⟩⟩
  | keep i =>
    obtain ⟨p, rfl, h⟩ := hr
    refine ⟨_, rfl, ixT h (by decide) rfl ?_⟩
    refine ⟨_, rfl, .inl ⟨rfl, _, rfl, no (by decide +kernel) ?_⟩⟩
    refine ⟨_, rfl, .inl ⟨rfl, _, rfl, no (by decide +kernel) ?_⟩⟩
    refine ⟨_, rfl, (by show 4 ≤ sizeLine; decide), fun t ht => ⟨t, _, rfl, .inr (SqT.of upd_same), rfl, rfl, _, rfl, if_t (by decide +kernel) ?_⟩⟩
    have nt : p ≠ t := ne_of_none h ht
    exact ⟨_, rfl, ixT (by rw [upd_ne nt]; exact h) (by decide) rfl ⟨(by show 1 ≤ sizeLine; decide), fun t2 ht2 => q t2 _ upd_same (((Same.refl H).new ht).new ht2)⟩⟩
  | say i =>
    obtain ⟨p, rfl, h⟩ := hr
    refine ⟨_, rfl, ixT h (by decide) rfl ?_⟩
    refine ⟨_, rfl, .inl ⟨rfl, _, rfl, no (by decide +kernel) ?_⟩⟩
    refine ⟨_, rfl, .inl ⟨rfl, _, rfl, no (by decide +kernel) ?_⟩⟩
    refine ⟨_, rfl, (by show 4 ≤ sizeLine; decide), fun t ht => ⟨t, _, rfl, .inr (SqT.of upd_same), rfl, rfl, _, rfl, if_t (by decide +kernel) ?_⟩⟩
    have nt : p ≠ t := ne_of_none h ht
    exact ⟨_, rfl, ixT (by rw [upd_ne nt]; exact h) (by decide) rfl ⟨(by show 1 ≤ sizeLine; decide), fun t2 ht2 => q t2 _ upd_same (((Same.refl H).new ht).new ht2)⟩⟩
  | jump to =>
    obtain ⟨p, rfl, h⟩ := hr
    refine ⟨_, rfl, ixT h (by decide) rfl ?_⟩
    refine ⟨_, rfl, .inl ⟨rfl, _, rfl, no (by decide +kernel) ?_⟩⟩
    refine ⟨_, rfl, .inl ⟨rfl, _, rfl, no (by decide +kernel) ?_⟩⟩
    refine ⟨_, rfl, (by show 4 ≤ sizeLine; decide), fun t ht => ⟨t, _, rfl, .inr (SqT.of upd_same), rfl, rfl, _, rfl, if_f (by decide +kernel) ?_⟩⟩
    have nt : p ≠ t := ne_of_none h ht
    exact ⟨(by show 0 ≤ sizeLine; decide), fun t2 ht2 => q t2 _ upd_same (((Same.refl H).new ht).new ht2)⟩
  | test i to =>
    obtain ⟨p, rfl, h⟩ := hr
    refine ⟨_, rfl, ixT h (by decide) rfl ?_⟩
    refine ⟨_, rfl, .inl ⟨rfl, _, rfl, no (by decide +kernel) ?_⟩⟩
    refine ⟨_, rfl, .inl ⟨rfl, _, rfl, no (by decide +kernel) ?_⟩⟩
    refine ⟨_, rfl, (by show 4 ≤ sizeLine; decide), fun t ht => ⟨t, _, rfl, .inr (SqT.of upd_same), rfl, rfl, _, rfl, if_t (by decide +kernel) ?_⟩⟩
    have nt : p ≠ t := ne_of_none h ht
    exact ⟨_, rfl, ixT (by rw [upd_ne nt]; exact h) (by decide) rfl ⟨(by show 1 ≤ sizeLine; decide), fun t2 ht2 => q t2 _ upd_same (((Same.refl H).new ht).new ht2)⟩⟩
  | call k as =>
    obtain ⟨p, q1, rfl, h, h1⟩ := hr
    refine ⟨_, rfl, ixT h (by decide) rfl ?_⟩
    refine ⟨_, rfl, .inl ⟨rfl, _, rfl, no (by decide +kernel) ?_⟩⟩
    refine ⟨_, rfl, .inl ⟨rfl, _, rfl, yes ?_⟩⟩
    exact ⟨_, rfl, ixT h (by decide) rfl ⟨_, _, rfl, .inr ⟨SqT.of h1, q _ _ h1 (Same.refl H)⟩⟩⟩
  | give i =>
    obtain ⟨p, rfl, h⟩ := hr
    refine ⟨_, rfl, ixT h (by decide) rfl ?_⟩
    refine ⟨_, rfl, .inl ⟨rfl, _, rfl, no (by decide +kernel) ?_⟩⟩
    refine ⟨_, rfl, .inl ⟨rfl, _, rfl, no (by decide +kernel) ?_⟩⟩
    refine ⟨_, rfl, (by show 4 ≤ sizeLine; decide), fun t ht => ⟨t, _, rfl, .inr (SqT.of upd_same), rfl, rfl, _, rfl, if_t (by decide +kernel) ?_⟩⟩
    have nt : p ≠ t := ne_of_none h ht
    exact ⟨_, rfl, ixT (by rw [upd_ne nt]; exact h) (by decide) rfl ⟨(by show 1 ≤ sizeLine; decide), fun t2 ht2 => q t2 _ upd_same (((Same.refl H).new ht).new ht2)⟩⟩
theorem r_p_is_number_of {K : PySem.W.Frag} {vs : List V} {H : Hp} {Q : VK} {E : XK} (h : sp_p_is_number_of K vs H Q E) : t_p_is_number_of K { nx := fun _ H' => Q .non H', rt := Q } (start N_p_is_number_of vs) H := by
  obtain ⟨a, b, rfl, q⟩ := h
  refine ⟨_, rfl, _, _, rfl, rfl, _, rfl, if_dec (fun h => ?_) (fun h => ?_)⟩
  · exact ⟨_, rfl, _, rfl, _, _, rfl, rfl, q _ (by rw [decide_eq_true_eq]; exact ⟨fun z => ⟨h, z⟩, fun z => z.2⟩)⟩
  · exact q _ ⟨fun z => by (cases z), fun z => absurd z.1 h⟩
theorem r_p_call_fits {K : PySem.W.Frag} {vs : List V} {H : Hp} {Q : VK} {E : XK} (h : sp_p_call_fits K vs H Q E) : t_p_call_fits K { nx := fun _ H' => Q .non H', rt := Q } (start N_p_call_fits vs) H := by
  obtain ⟨q0, v, pvs, ps, k, as, rfl, hq, hA, hr, q⟩ := h
  obtain ⟨p, q1, rfl, h, h1⟩ := hr
  refine ⟨_, rfl, ixT h (by decide) rfl ?_⟩
  refine ⟨_, rfl, _, rfl, _, _, rfl, .inr ⟨_, SqT.of hq, rfl⟩, _, _, rfl, fun c hc => ⟨_, rfl, ?_⟩⟩
  rw [hA.len] at hc
  refine if_bl (fun e => ?_) (fun e => ?_)
  · obtain ⟨k0, k1⟩ := hc.mp e
    obtain ⟨w, b, e1, e2, pt, r, rvs, rfl, hp, hrv, hR⟩ := hA.get (i := k.toNat) (by omega)
    refine ⟨_, rfl, ixT h (by decide) rfl ⟨_, _, rfl, .inr ⟨_, SqT.of h1, rfl⟩, _, rfl, _, rfl, ixT hq k0 e1 (ixT hp (by decide) rfl (.inl ⟨rfl, q _ ?_⟩))⟩⟩
    rw [decide_eq_true_eq]
    constructor
    · intro z
      refine ⟨k0, k1, fun b' hb' => ?_⟩
      rw [e2] at hb'; cases hb'
      have z' := V.int.inj z
      rw [List.length_map] at z'
      exact z'
    · intro z
      have z' := z.2.2 b e2
      rw [List.length_map, z']
  · refine q _ ⟨fun z => by (cases z), fun z => ?_⟩
    have := hc.mpr ⟨z.1, z.2.1⟩
    rw [e] at this; cases this
theorem ints_get {ns : List Int} {i : Nat} {x : V} (h : (ns.map V.int)[i]? = some x) : ∃ n, ns[i]? = some n ∧ x = .int n := by
  rw [List.getElem?_map] at h
  cases e : ns[i]? with
  | none => rw [e] at h; cases h
  | some n => rw [e] at h; exact ⟨n, rfl, (Option.some.inj h).symm⟩
theorem all_take {α : Type} {P : α → Prop} {xs : List α} {bs : List Bool} (hl : bs.length = xs.length) (h : ∀ (i : Nat) x b, xs[i]? = some x → bs[i]? = some b → (b = true ↔ P x)) : bs.all id = true ↔ ∀ x ∈ xs, P x := by
  rw [List.all_eq_true]
  constructor
  · intro z x hx
    obtain ⟨i, hi, e⟩ := List.mem_iff_getElem.mp hx
    have hb : i < bs.length := by omega
    exact (h i x bs[i] (by rw [List.getElem?_eq_getElem hi, e]) (List.getElem?_eq_getElem hb)).mp (z _ (List.getElem_mem hb))
  · intro z b hb
    obtain ⟨i, hi, e⟩ := List.mem_iff_getElem.mp hb
    have hx : i < xs.length := by omega
    exact (h i xs[i] b (List.getElem?_eq_getElem hx) (by rw [List.getElem?_eq_getElem hi, e])).mpr (z _ (List.getElem_mem hx))
theorem snoc_get {α : Type} {xs : List α} {y : α} {i : Nat} {z : α} (h : (xs ++ [y])[i]? = some z) : (i < xs.length ∧ xs[i]? = some z) ∨ (i = xs.length ∧ z = y) := by
  by_cases c : i < xs.length
  · rw [List.getElem?_append_left c] at h; exact .inl ⟨c, h⟩
  · rw [List.getElem?_append_right (by omega)] at h
    have : i - xs.length = 0 := by have := (List.getElem?_eq_some_iff.mp h).1; simp at this; omega
    rw [this] at h
    exact .inr ⟨by omega, (Option.some.inj h).symm⟩
theorem r_p_row_fits {K : PySem.W.Frag} {vs : List V} {H : Hp} {Q : VK} {E : XK} (h : sp_p_row_fits K vs H Q E) : t_p_row_fits K { nx := fun _ H' => Q .non H', rt := Q } (start N_p_row_fits vs) H := by
  obtain ⟨pl, q0, rt, v, pvs, rvs, ps, r, rfl, hq, hA, hrt, hr, few, q⟩ := h
  refine .inr ⟨_, rfl, v, r, rfl, hr, fun t H1 ht s1 => ⟨t, rfl, ⟨_, SqT.of ht⟩, fun L hL => ?_⟩⟩
  refine comp_tup (xs := (placesOf r).map V.int) (fun j σ' H' => ∃ (bs : List Bool) (o : Option V), σ' = [some (.int pl), some (.ref q0), some (.ref rt), some v, none, o] ∧ H' L = some (.lst (bs.map V.bl)) ∧ bs.length = j ∧ (∀ (i : Nat) x b, (placesOf r)[i]? = some x → bs[i]? = some b → (b = true ↔ 0 ≤ x ∧ x < pl)) ∧ Same H1 H') ?_ ?_ ?_ ?_
  · exact ⟨[], none, rfl, upd_same, rfl, fun i x b _ hb => by simp at hb, (Same.refl H1).new hL⟩
  · rintro j σ' H' _ ⟨bs, o, _, _, _, _, s'⟩
    exact SqT.of (s' _ _ ht)
  · rintro j x σ' H' hx ⟨bs, o, rfl, hl, bl, hb, s'⟩
    obtain ⟨z, hz, rfl⟩ := ints_get hx
    have jl : j < (placesOf r).length := (List.getElem?_eq_some_iff.mp hz).1
    refine app_yes ⟨_, rfl, _, rfl, _, _, rfl, fun c hc => ⟨_, hl, smallL (by rw [List.length_map]; omega), bs ++ [c], _, rfl, ?_, by simp [bl], fun i y b hy hb' => ?_, ?_⟩⟩
    · rw [upd_same, List.map_append]; rfl
    · rcases snoc_get hb' with ⟨_, w⟩ | ⟨e, rfl⟩
      · exact hb i y b hy w
      · rw [e, bl, hz] at hy; cases hy; exact hc
    · intro b u hb2
      have nb : b ≠ L := ne_of_none hb2 hL
      rw [upd_ne nb]; exact s' b u hb2
  · rintro σ' H2 ⟨bs, o, _, hl, bl, hb, s2⟩
    rw [List.length_map] at bl
    have S2 := s1.trans s2
    refine ⟨L, bs, rfl, SqL.of hl, _, rfl, ?_⟩
    have allIff := all_take bl hb
    refine if_bl (fun e => ?_) (fun e => ?_)
    · have e' : bs.all id = false := by simpa using e
      refine q _ _ ⟨fun z => by (cases z), fun z => ?_⟩ S2
      have := allIff.mpr z.1
      rw [e'] at this; cases this
    · have e' : bs.all id = true := by simpa using e
      have pok := allIff.mp e'
      refine ⟨_, rfl, v, r, rfl, hr.mono (.of_same S2), ?_⟩
      show t_p_row_fits_2 K _ [some (.int pl), some (.ref q0), some (.ref rt), some v, some (cgoalV r)] H2
      have last : (∀ to, cgoal r = some to → 0 ≤ to ∧ to < rvs.length) → t_p_row_fits_1 K { nx := fun _ H' => Q .non H', rt := Q } [some (.int pl), some (.ref q0), some (.ref rt), some v, some (cgoalV r)] H2 := fun gok => by
        have hr2 := hr.mono (.of_same S2)
        obtain ⟨p, xs, rfl, hp⟩ := hr2.ref
        refine ⟨_, rfl, ixT hp (by decide) rfl (.inl ⟨rfl, _, rfl, ?_⟩)⟩
        by_cases hc : ∃ k as, r = .call k as
        · obtain ⟨k, as, rfl⟩ := hc
          refine if_not (fun z => absurd rfl z) (fun _ => ?_)
          refine ⟨_, rfl, _, rfl, q0, .ref p, pvs, ps, k, as, rfl, S2 _ _ hq, hA.imp fun _ _ z => z.mono (.of_same S2), hr2, fun c hc => q _ _ ?_ S2⟩
          rw [hc]
          exact ⟨fun z => ⟨pok, gok, fun k' as' e => by cases e; exact z⟩, fun z => z.2.2 k as rfl⟩
        · have hw : ¬ V.str (cword r) = V.str "call" := by
            cases r with
            | call k as => exact absurd ⟨k, as, rfl⟩ hc
            | num z => show ¬ V.str "num" = V.str "call"; decide +kernel
            | op s i j => show ¬ V.str "op" = V.str "call"; decide +kernel
            | keep i => show ¬ V.str "keep" = V.str "call"; decide +kernel
            | say i => show ¬ V.str "say" = V.str "call"; decide +kernel
            | jump to => show ¬ V.str "jump" = V.str "call"; decide +kernel
            | test i to => show ¬ V.str "test" = V.str "call"; decide +kernel
            | give i => show ¬ V.str "give" = V.str "call"; decide +kernel
          refine if_not (fun _ => ?_) (fun z => absurd z hw)
          exact q _ _ ⟨fun _ => ⟨pok, gok, fun k as e => absurd ⟨k, as, e⟩ hc⟩, fun _ => rfl⟩ S2
      cases hg : cgoal r with
      | none =>
        have e2 : cgoalV r = .non := by unfold cgoalV; rw [hg]
        have last' := last (fun to z => by rw [hg] at z; cases z)
        rw [e2] at last' ⊢
        refine ⟨_, rfl, rfl, _, rfl, ?_⟩
        exact iteF last'
      | some to =>
        have e2 : cgoalV r = .int to := by unfold cgoalV; rw [hg]
        have last' := last
        rw [e2] at last' ⊢
        refine ⟨_, rfl, rfl, _, rfl, iteT ?_⟩
        refine ⟨_, rfl, _, rfl, _, _, rfl, .inr ⟨_, SqT.of (S2 _ _ hrt), rfl⟩, to, _, rfl, fun c hc => ⟨_, rfl, ?_⟩⟩
        refine if_bl (fun e => ?_) (fun e => ?_)
        · have ec : c = false := by simpa using e
          refine q _ _ ⟨fun z => by (cases z), fun z => ?_⟩ S2
          have := hc.mpr (z.2.1 to hg)
          rw [ec] at this; cases this
        · have ec : c = true := by simpa using e
          exact last' fun to' z => by rw [hg] at z; cases z; exact hc.mp ec
end Bg
end
section
set_option Elab.async false
set_option linter.all false
set_option maxRecDepth 100000
set_option maxHeartbeats 4000000
namespace Bg
open PySem L2
theorem in_sil (r : CRow) : inV (.str (cword r)) [V.str "keep", V.str "jump"] = silR r := by
  cases r with
  | num z => show inV (.str "num") [V.str "keep", V.str "jump"] = false; decide +kernel
  | op s i j => show inV (.str "op") [V.str "keep", V.str "jump"] = false; decide +kernel
  | keep i => show inV (.str "keep") [V.str "keep", V.str "jump"] = true; decide +kernel
  | say i => show inV (.str "say") [V.str "keep", V.str "jump"] = false; decide +kernel
  | jump to => show inV (.str "jump") [V.str "keep", V.str "jump"] = true; decide +kernel
  | test i to => show inV (.str "test") [V.str "keep", V.str "jump"] = false; decide +kernel
  | call k as => show inV (.str "call") [V.str "keep", V.str "jump"] = false; decide +kernel
  | give i => show inV (.str "give") [V.str "keep", V.str "jump"] = false; decide +kernel
theorem mergeF : ∀ (P F : List Nat), P.Nodup → (∀ x ∈ P, x ∉ F) → mergeK (keyF F) (keyF P) = keyF (F ++ P)
  | [], F, _, _ => by rw [List.append_nil]; rfl
  | a :: r, F, nd, dj => by
    have e : mergeK (keyF F) (keyF (a :: r)) = mergeK (putK (keyF F) (Sum.inl (a : Int)) (V.bl true)) (keyF r) := rfl
    rw [e, putF (dj a List.mem_cons_self), mergeF r (F ++ [a]) (List.nodup_cons.mp nd).2 (fun x hx => ?_), List.append_assoc]
    · rfl
    · intro z
      rcases List.mem_append.mp z with z | z
      · exact dj x (List.mem_cons_of_mem _ hx) z
      · rw [List.mem_singleton.mp z] at hx
        exact (List.nodup_cons.mp nd).1 hx
def pth (rs : List CRow) (n j : Nat) : List Nat := (List.range j).map fun i => itr (stpC rs) i n
theorem pth_succ (rs : List CRow) (n j : Nat) : pth rs n (j + 1) = pth rs n j ++ [itr (stpC rs) j n] := by unfold pth; rw [List.range_succ, List.map_append]; rfl
theorem pth_mem {rs : List CRow} {n j x : Nat} (h : x ∈ pth rs n j) : ∃ i, i < j ∧ itr (stpC rs) i n = x := by
  unfold pth at h
  obtain ⟨i, hi, e⟩ := List.mem_map.mp h
  exact ⟨i, List.mem_range.mp hi, e⟩
def EndsC (rs : List CRow) (n : Nat) : Prop := ∃ k, silC rs (itr (stpC rs) k n) = false
theorem ends_back {rs : List CRow} {i j n : Nat} (hij : i ≤ j) (h : EndsC rs (itr (stpC rs) j n)) : EndsC rs (itr (stpC rs) i n) := by
  obtain ⟨k, hk⟩ := h
  refine ⟨j - i + k, ?_⟩
  rw [itr_add, ← itr_add (stpC rs) i, Nat.add_sub_cancel' hij]
  exact hk
theorem noRing_of {rs : List CRow} (cl : Closed rs) (h : ∀ n, n < rs.length → EndsC rs n) : NoRingC rs := by
  intro n hn
  cases q : silC rs (itr (stpC rs) rs.length n) with
  | false => rfl
  | true =>
    obtain ⟨k, hk⟩ := h n hn
    have := itr_ever (p := silC rs) (stp_fix rs) cl.within hn q k
    rw [hk] at this; cases this
theorem step_lead {rs : List CRow} (cl : Closed rs) {n : Nat} {r : CRow} (e : rs[n]? = some r) (hs : silR r = true) : ((cleads (n : Nat) r).map V.int)[(0 : Int).toNat]? = some (.int (stpC rs n : Nat)) := by
  unfold stpC
  rw [e]
  cases r with
  | keep i => show some (V.int ((n : Int) + 1)) = some (V.int ((n + 1 : Nat) : Int)); congr 2
  | jump to =>
    have h0 := (cl.2 _ (List.mem_of_getElem? e) to rfl).1
    show some (V.int to) = some (V.int (to.toNat : Int))
    congr 2
    omega
  | num z => cases hs
  | op s i j => cases hs
  | say i => cases hs
  | test i to => cases hs
  | call k as => cases hs
  | give i => cases hs
theorem r_p_has_ring {K : PySem.W.Frag} {vs : List V} {H : Hp} {Q : VK} {E : XK} (h : sp_p_has_ring K vs H Q E) : t_p_has_ring K { nx := fun _ H' => Q .non H', rt := Q } (start N_p_has_ring vs) H := by
  obtain ⟨rt, rvs, rs, rfl, hrt, hA, few, cl, q⟩ := h
  refine fun cd hcd => ?_
  have s1 : Same H (upd H cd (.dK [])) := (Same.refl H).new hcd
  have h1 : upd H cd (.dK []) cd = some (.dK (keyF [])) := upd_same
  show t_p_has_ring_9 K _ [some (.ref rt), some (.ref cd), none, none, none] (upd H cd (.dK []))
  generalize upd H cd (.dK []) = H1 at s1 h1 ⊢
  refine ⟨_, rfl, _, _, rfl, .inr ⟨_, SqT.of (s1 _ _ hrt), rfl⟩, _, rfl, by omega, by rw [hA.len]; omega, ?_⟩
  rw [hA.len]
  refine for_range (n := rs.length) (fun i σ' H' => ∃ Cl o2 o3 o4, σ' = [some (.ref rt), some (.ref cd), o2, o3, o4] ∧ H' cd = some (.dK (keyF Cl)) ∧ Cl.Nodup ∧ (∀ c ∈ Cl, c < rs.length ∧ EndsC rs c) ∧ (∀ m, m < i → EndsC rs m) ∧ Same H H')
    ⟨[], _, _, _, rfl, h1, List.nodup_nil, fun c hc => by (cases hc), fun m hm => by omega, s1⟩ ?_ ?_
  · rintro n σ' H2 hn ⟨Cl, o2, o3, o4, rfl, h2, cnd, cends, dn, s2⟩
    have hn : n < rs.length := hn
    refine fun pd hpd => ?_
    have npd : cd ≠ pd := ne_of_none h2 hpd
    have s3 : Same H (upd H2 pd (.dK [])) := s2.new hpd
    have h3 : upd H2 pd (.dK []) cd = some (.dK (keyF Cl)) := by rw [upd_ne npd]; exact h2
    have p3 : upd H2 pd (.dK []) pd = some (.dK (keyF [])) := upd_same
    have Hpd : H pd = none := by
      cases e : H pd with
      | none => rfl
      | some o => rw [s2 _ _ e] at hpd; cases hpd
    show t_p_has_ring_7 K _ [some (.ref rt), some (.ref cd), some (.int (0 + n)), some (.ref pd), o4] (upd H2 pd (.dK []))
    generalize upd H2 pd (.dK []) = H3 at s3 h3 p3 ⊢
    refine ⟨_, rfl, ?_⟩
    show t_p_has_ring_6 K _ [some (.ref rt), some (.ref cd), some (.int (0 + n)), some (.ref pd), some (.int (0 + n))] H3
    refine ⟨fun m σ' H' => ∃ j, m = rs.length - j ∧ j ≤ rs.length ∧ itr (stpC rs) j n < rs.length ∧ σ' = [some (.ref rt), some (.ref cd), some (.int (0 + n)), some (.ref pd), some (.int (itr (stpC rs) j n : Nat))] ∧ H' cd = some (.dK (keyF Cl)) ∧ H' pd = some (.dK (keyF (pth rs n j))) ∧
      (∀ i, i < j → silC rs (itr (stpC rs) i n) = true ∧ itr (stpC rs) i n ∉ Cl ∧ itr (stpC rs) i n < rs.length) ∧ (pth rs n j).Nodup ∧ Same H H', ⟨rs.length, 0, rfl, Nat.zero_le _, hn, ?_, h3, p3, fun i hi => by omega, List.nodup_nil, s3⟩, ?_⟩
    · have e0 : (0 : Int) + (n : Int) = ((itr (stpC rs) 0 n : Nat) : Int) := by show (0 : Int) + (n : Int) = (n : Int); omega
      rw [e0]
    rintro m σ' H4 ⟨j, rfl, jl, atl, rfl, h4, p4, hp, pnd, s4⟩
    generalize hat : itr (stpC rs) j n = at_ at atl ⊢
    obtain ⟨v, r, e1, e2, hra⟩ := hA.get atl
    have hra4 := hra.mono (Tp.of_same s4)
    obtain ⟨p, xs, rfl, hpp⟩ := hra4.ref
    have e1' : rvs[((at_ : Nat) : Int).toNat]? = some (.ref p) := by simpa using e1
    have silE : silC rs at_ = silR r := by unfold silC; rw [e2]
    have out : ∀ H5, Same H4 H5 → EndsC rs at_ → t_p_has_ring_2 K { nx := fun σ' H' => ∃ Cl o2 o3 o4, σ' = [some (.ref rt), some (.ref cd), o2, o3, o4] ∧ H' cd = some (.dK (keyF Cl)) ∧ Cl.Nodup ∧ (∀ c ∈ Cl, c < rs.length ∧ EndsC rs c) ∧ (∀ m, m < n + 1 → EndsC rs m) ∧ Same H H', rt := Q, ct := fun σ' H' => ∃ Cl o2 o3 o4, σ' = [some (.ref rt), some (.ref cd), o2, o3, o4] ∧ H' cd = some (.dK (keyF Cl)) ∧ Cl.Nodup ∧ (∀ c ∈ Cl, c < rs.length ∧ EndsC rs c) ∧ (∀ m, m < n + 1 → EndsC rs m) ∧ Same H H', bk := t_p_has_ring_1 K { nx := fun _ H' => Q .non H', rt := Q } }
        [some (.ref rt), some (.ref cd), some (.int (0 + n)), some (.ref pd), some (.int (at_ : Nat))] H5 := fun H5 s5 en => by
      have h5 := s5 _ _ h4
      have p5 := s5 _ _ p4
      have S5 := s4.trans s5
      have dj : ∀ x ∈ pth rs n j, x ∉ Cl := fun x hx => by
        obtain ⟨i, hi, rfl⟩ := pth_mem hx
        exact (hp i hi).2.1
      have nd2 : (Cl ++ pth rs n j).Nodup := List.nodup_append.mpr ⟨cnd, pnd, fun x hx y hy e => dj y hy (e ▸ hx)⟩
      have lt2 : ∀ c ∈ Cl ++ pth rs n j, c < rs.length := fun c hc => by
        rcases List.mem_append.mp hc with z | z
        · exact (cends c z).1
        · obtain ⟨i, hi, rfl⟩ := pth_mem z
          exact (hp i hi).2.2
      have len2 := nodup_lt nd2 lt2
      refine ⟨_, rfl, cd, rfl, .inl ⟨_, .inl h5⟩, _, rfl, pd, _, _, rfl, Ne.symm npd, h5, p5, ?_, ?_⟩
      · rw [keyF_len, keyF_len]
        rw [List.length_append] at len2
        exact Nat.le_of_lt (smallL (by omega))
      · rw [mergeF _ _ pnd dj]
        refine ⟨Cl ++ pth rs n j, _, _, _, rfl, upd_same, nd2, fun c hc => ⟨lt2 c hc, ?_⟩, fun m hm => ?_, fun b u hb => ?_⟩
        · rcases List.mem_append.mp hc with z | z
          · exact (cends c z).2
          · obtain ⟨i, hi, rfl⟩ := pth_mem z
            exact ends_back (Nat.le_of_lt hi) (by rw [hat]; exact en)
        · by_cases e : m = n
          · subst e
            have := ends_back (rs := rs) (i := 0) (j := j) (n := m) (Nat.zero_le _) (by rw [hat]; exact en)
            exact this
          · exact dn m (by omega)
        · have nb : b ≠ cd := fun z => by rw [z, hcd] at hb; cases hb
          rw [upd_ne nb]; exact S5 b u hb
    refine ⟨_, rfl, _, rfl, ixT (s4 _ _ hrt) (by omega) e1' (ixT hpp (by decide) rfl ⟨(by show 2 ≤ sizeLine; decide), fun t ht => ⟨t, _, rfl, .inr (SqT.of upd_same), rfl, rfl, _, rfl, ?_⟩⟩)⟩
    have s5 : Same H4 (upd H4 t (.tup [.str "keep", .str "jump"])) := (Same.refl H4).new ht
    generalize upd H4 t (.tup [.str "keep", .str "jump"]) = H5 at s5 ⊢
    refine if_bl (fun hb => ?_) (fun hb => ?_)
    · have hs : silR r = true := by rw [← in_sil]; exact hb
      have hs' : silC rs at_ = true := by rw [silE]; exact hs
      refine ⟨_, rfl, _, rfl, cd, _, rfl, DGet.k (k := Sum.inl ((at_ : Nat) : Int)) (s5 _ _ h4), _, rfl, ?_⟩
      rw [valF]
      refine if_bl (fun hc => ?_) (fun hc => ?_)
      · have notC : at_ ∉ Cl := by simpa using hc
        refine ⟨fun σ' H' => ∃ m', m' < rs.length - j ∧ ∃ j, m' = rs.length - j ∧ j ≤ rs.length ∧ itr (stpC rs) j n < rs.length ∧ σ' = [some (.ref rt), some (.ref cd), some (.int (0 + n)), some (.ref pd), some (.int (itr (stpC rs) j n : Nat))] ∧ H' cd = some (.dK (keyF Cl)) ∧ H' pd = some (.dK (keyF (pth rs n j))) ∧
          (∀ i, i < j → silC rs (itr (stpC rs) i n) = true ∧ itr (stpC rs) i n ∉ Cl ∧ itr (stpC rs) i n < rs.length) ∧ (pth rs n j).Nodup ∧ Same H H', fun σ' H' z => z, ?_⟩
        refine ⟨_, rfl, _, rfl, pd, _, rfl, DGet.k (k := Sum.inl ((at_ : Nat) : Int)) (s5 _ _ p4), _, rfl, ?_⟩
        rw [valF]
        refine if_dec (fun hin => ?_) (fun hin => ?_)
        · obtain ⟨i, hi, e⟩ := pth_mem hin
          refine q _ _ ⟨fun _ nr => ?_, fun _ => rfl⟩ (s4.trans s5)
          have ever := itr_round (p := silC rs) (stp_fix rs) hi (e.trans hat.symm) fun k hk => (hp k hk).1
          have := nr n hn
          rw [ever] at this; cases this
        · -- passed[at] = True
          have nd3 : (pth rs n (j + 1)).Nodup := by rw [pth_succ, hat]; exact nd_snoc pnd hin
          have lt3 : ∀ c ∈ pth rs n (j + 1), c < rs.length := fun c hc => by
            obtain ⟨i, hi, rfl⟩ := pth_mem hc
            by_cases e : i = j
            · subst e; rw [hat]; exact atl
            · exact (hp i (by omega)).2.2
          have len3 : j + 1 ≤ rs.length := by
            have := nodup_lt nd3 lt3
            unfold pth at this
            rw [List.length_map, List.length_range] at this
            exact this
          refine ⟨_, rfl, _, rfl, pd, _, rfl, DPut.k (k := Sum.inl ((at_ : Nat) : Int)) (s5 _ _ p4) (by rw [keyF_len]; unfold pth; rw [List.length_map, List.length_range]; exact smallL (by omega)), ?_⟩
          rw [putF hin]
          have s6 : Same H (upd H5 pd (.dK (keyF (pth rs n j ++ [at_])))) := fun b u hb => by
            have nb : b ≠ pd := fun z => by rw [z, Hpd] at hb; cases hb
            rw [upd_ne nb]; exact s5 _ _ (s4 b u hb)
          have h6 : upd H5 pd (.dK (keyF (pth rs n j ++ [at_]))) cd = some (.dK (keyF Cl)) := by rw [upd_ne npd]; exact s5 _ _ h4
          have p6 : upd H5 pd (.dK (keyF (pth rs n j ++ [at_]))) pd = some (.dK (keyF (pth rs n (j + 1)))) := by rw [upd_same, pth_succ, hat]
          show t_p_has_ring_3 K _ [some (.ref rt), some (.ref cd), some (.int (0 + n)), some (.ref pd), some (.int (at_ : Nat))] _
          generalize upd H5 pd (.dK (keyF (pth rs n j ++ [at_]))) = H6 at s6 h6 p6 ⊢
          refine ⟨_, rfl, _, rfl, rt, at_, rvs, .ref p, r, rfl, s6 _ _ hrt, e1, hra.mono (.of_same s6), fun p7 H7 h7 s7 => ixT h7 (by decide) (step_lead cl e2 hs) ?_⟩
          have en : itr (stpC rs) (j + 1) n = stpC rs at_ := by rw [itr_succ, hat]
          refine ⟨rs.length - (j + 1), by omega, j + 1, rfl, len3, by rw [en]; exact cl.within at_ atl hs', (by rw [en]; rfl), s7 _ _ h6, s7 _ _ p6, fun i hi => ?_, nd3, s6.trans s7⟩
          by_cases e : i = j
          · subst e; rw [hat]; exact ⟨hs', notC, atl⟩
          · exact hp i (by omega)
      · have inC : at_ ∈ Cl := by simpa using hc
        exact out H5 s5 (cends at_ inC).2
    · have hs : silR r = false := by rw [← in_sil]; exact hb
      exact out H5 s5 ⟨0, by show silC rs at_ = false; rw [silE]; exact hs⟩
  · rintro σ' H2 ⟨Cl, o2, o3, o4, rfl, h2, cnd, cends, dn, s2⟩
    exact q _ _ ⟨fun z => by (cases z), fun z => absurd (noRing_of cl dn) z⟩ s2
theorem in_endC (r : CRow) : inV (.str (cword r)) [V.str "jump", V.str "give"] = cEnd r := by
  cases r with
  | num z => show inV (.str "num") [V.str "jump", V.str "give"] = false; decide +kernel
  | op s i j => show inV (.str "op") [V.str "jump", V.str "give"] = false; decide +kernel
  | keep i => show inV (.str "keep") [V.str "jump", V.str "give"] = false; decide +kernel
  | say i => show inV (.str "say") [V.str "jump", V.str "give"] = false; decide +kernel
  | jump to => show inV (.str "jump") [V.str "jump", V.str "give"] = true; decide +kernel
  | test i to => show inV (.str "test") [V.str "jump", V.str "give"] = false; decide +kernel
  | call k as => show inV (.str "call") [V.str "jump", V.str "give"] = false; decide +kernel
  | give i => show inV (.str "give") [V.str "jump", V.str "give"] = true; decide +kernel
theorem last_at {H : Hp} {rvs : List V} {rs : List CRow} (hA : AllAt (CRowAt H) rvs rs) (h : rs ≠ []) : ∃ v r, atI rvs (-1) = some v ∧ rs.getLast? = some r ∧ CRowAt H v r := by
  have hp : 0 < rs.length := List.length_pos_iff.mpr h
  obtain ⟨v, r, e1, e2, hr⟩ := hA.get (i := rs.length - 1) (by omega)
  refine ⟨v, r, ?_, by rw [List.getLast?_eq_getElem?]; exact e2, hr⟩
  unfold atI ixN
  rw [if_neg (by decide), if_pos (by rw [hA.len]; omega)]
  have e : ((-1 : Int) + (rvs.length : Int)).toNat = rs.length - 1 := by rw [hA.len]; omega
  rw [e]
  exact e1
theorem ixT1 {K : PySem.W.Frag} {p : Addr} {xs : List V} {i : Int} {v : V} {H : Hp} {Q : VK} (h : H p = some (.tup xs)) (e : atI xs i = some v) (q : Q v H) : rIx K (.ref p) (.int i) H Q := .inr (.inl ⟨p, xs, i, v, rfl, rfl, SqT.of h, e, q⟩)
theorem r_p_part_fits {K : PySem.W.Frag} {vs : List V} {H : Hp} {Q : VK} {E : XK} (h : sp_p_part_fits K vs H Q E) : t_p_part_fits K { nx := fun _ H' => Q .non H', rt := Q } (start N_p_part_fits vs) H := by
  obtain ⟨pl, q0, v, pvs, ps, b, rfl, hq, hA, ⟨pt, rt, rvs, rfl, hpt, hrt, hR⟩, few, ats, q⟩ := h
  have bad : ∀ H', Same H H' → ¬ PartFits pl ps b → Q (.bl false) H' := fun H' s' nf => q _ _ ⟨fun z => by (cases z), fun z => absurd z nf⟩ s'
  refine ⟨_, rfl, ixT hpt (by decide) rfl ?_⟩
  refine ⟨_, rfl, ixT hpt (by decide) rfl ?_⟩
  show t_p_part_fits_4 K _ [some (.int pl), some (.ref q0), some (.ref pt), some (.int b.1), some (.ref rt)] H
  refine ⟨_, rfl, _, _, rfl, rfl, _, rfl, if_dec (fun h => bad H (Same.refl H) fun z => by have := z.1.1; omega) (fun h0 => ?_)⟩
  refine ⟨_, rfl, _, _, rfl, rfl, _, rfl, if_dec (fun h => bad H (Same.refl H) fun z => by have := z.1.2; omega) (fun h4 => ?_)⟩
  refine ⟨_, rfl, _, _, rfl, .inr ⟨_, SqT.of hrt, rfl⟩, .inl ⟨rfl, _, rfl, if_dec (fun h => bad H (Same.refl H) fun z => ?_) (fun hne => ?_)⟩⟩
  · have e := V.int.inj h
    rw [hR.len] at e
    exact z.2.1 (List.length_eq_zero_iff.mp (by omega))
  have ne : b.2 ≠ [] := fun z => hne (by rw [hR.len, z]; rfl)
  obtain ⟨lv, lr, l1, l2, l3⟩ := last_at hR ne
  obtain ⟨lp, lxs, rfl, hlp⟩ := l3.ref
  refine ⟨_, rfl, _, rfl, ixT1 hrt l1 (ixT hlp (by decide) rfl ⟨(by show 2 ≤ sizeLine; decide), fun t ht => ⟨t, _, rfl, .inr (SqT.of upd_same), rfl, rfl, _, rfl, ?_⟩⟩)⟩
  have s1 : Same H (upd H t (.tup [.str "jump", .str "give"])) := (Same.refl H).new ht
  generalize upd H t (.tup [.str "jump", .str "give"]) = H1 at s1 ⊢
  refine if_bl (fun hb => bad H1 s1 fun z => ?_) (fun hb => ?_)
  · have e : cEnd lr = false := by rw [← in_endC]; simpa using hb
    have z' := z.2.2.1
    rw [l2] at z'
    have z'' : cEnd lr = true := Option.some.inj z'
    rw [e] at z''; cases z''
  have eEnd : cEnd lr = true := by rw [← in_endC]; simpa using hb
  have hlast : b.2.getLast?.map cEnd = some true := by rw [l2]; exact congrArg some eEnd
  show t_p_part_fits_2 K _ [some (.int pl), some (.ref q0), some (.ref pt), some (.int b.1), some (.ref rt)] H1
  refine .inr ⟨_, rfl, rt, rfl, ⟨_, SqT.of (s1 _ _ hrt)⟩, fun L hL => ?_⟩
  refine comp_tup (xs := rvs) (fun j σ' H' => ∃ (bs : List Bool) (o : Option V), σ' = [some (.int pl), some (.ref q0), some (.ref pt), some (.int b.1), some (.ref rt), o] ∧ H' L = some (.lst (bs.map V.bl)) ∧ bs.length = j ∧ (∀ (i : Nat) x c, b.2[i]? = some x → bs[i]? = some c → (c = true ↔ RowFits pl ps b.2.length x)) ∧ Same H1 H') ?_ ?_ ?_ ?_
  · exact ⟨[], none, rfl, upd_same, rfl, fun i x b _ hb => by simp at hb, (Same.refl H1).new hL⟩
  · rintro j σ' H' _ ⟨bs, o, _, _, _, _, s'⟩
    exact SqT.of (s' _ _ (s1 _ _ hrt))
  · rintro j x σ' H' hx ⟨bs, o, rfl, hl, bl, hb, s'⟩
    obtain ⟨r, hr, hra⟩ := hR.of_v hx
    have jl : j < b.2.length := (List.getElem?_eq_some_iff.mp hr).1
    have S' := s1.trans s'
    refine app_yes ⟨_, rfl, _, rfl, _, rfl, _, rfl, pl, q0, rt, x, pvs, rvs, ps, r, rfl, S' _ _ hq, hA.imp fun _ _ z => z.mono (.of_same S'), S' _ _ hrt, hra.mono (.of_same S'), ats r (List.mem_of_getElem? hr), fun c H2 hc s2 => ?_⟩
    rw [hR.len] at hc
    refine ⟨_, s2 _ _ hl, smallL (by rw [List.length_map]; omega), bs ++ [c], _, rfl, ?_, by simp [bl], fun i y b' hy hb' => ?_, ?_⟩
    · rw [upd_same, List.map_append]; rfl
    · rcases snoc_get hb' with ⟨_, w⟩ | ⟨e, rfl⟩
      · exact hb i y b' hy w
      · rw [e, bl, hr] at hy; cases hy; exact hc
    · intro b' u hb2
      have nb : b' ≠ L := ne_of_none hb2 hL
      rw [upd_ne nb]; exact s2 _ _ (s' b' u hb2)
  · rintro σ' H2 ⟨bs, o, _, hl, bl, hb, s2⟩
    rw [hR.len] at bl
    have S2 := s1.trans s2
    refine ⟨L, bs, rfl, SqL.of hl, _, rfl, ?_⟩
    have allIff := all_take bl hb
    refine if_bl (fun e => bad H2 S2 fun z => ?_) (fun e => ?_)
    · have e' : bs.all id = false := by simpa using e
      have := allIff.mpr z.2.2.2.1
      rw [e'] at this; cases this
    · have e' : bs.all id = true := by simpa using e
      have rok := allIff.mp e'
      have cl : Closed b.2 := ⟨hlast, fun r hr to ht => (rok r hr).2.1 to ht⟩
      refine ⟨_, rfl, rt, rvs, b.2, rfl, S2 _ _ hrt, hR.imp fun _ _ z => z.mono (.of_same S2), few, cl, fun c H3 hc s3 => ⟨_, rfl, q _ _ ?_ (S2.trans s3)⟩⟩
      constructor
      · intro z
        have ec : c = false := by simpa using z
        refine ⟨⟨by omega, by omega⟩, ne, hlast, rok, ?_⟩
        exact Classical.byContradiction fun nr => by have := hc.mpr nr; rw [ec] at this; cases this
      · intro z
        cases c with
        | false => rfl
        | true => exact absurd z.2.2.2.2 (hc.mp rfl)
theorem r_p_fits {K : PySem.W.Frag} {vs : List V} {H : Hp} {Q : VK} {E : XK} (h : sp_p_fits K vs H Q E) : t_p_fits K { nx := fun _ H' => Q .non H', rt := Q } (start N_p_fits vs) H := by
  obtain ⟨v, c, rfl, ⟨p, q0, pvs, rfl, hp, hq, hA⟩, few, q⟩ := h
  have bad : ∀ H', Same H H' → ¬ Fits c → Q (.bl false) H' := fun H' s' nf => q _ _ ⟨fun z => by (cases z), fun z => absurd z nf⟩ s'
  refine ⟨_, rfl, ixT hp (by decide) rfl ?_⟩
  refine ⟨_, rfl, ixT hp (by decide) rfl ?_⟩
  show t_p_fits_2 K _ [some (.ref p), some (.int c.1), some (.ref q0)] H
  refine ⟨_, rfl, _, _, rfl, rfl, _, rfl, if_dec (fun h => bad H (Same.refl H) fun z => by have := z.1.1; omega) (fun h0 => ?_)⟩
  refine ⟨_, rfl, _, _, rfl, rfl, _, rfl, if_dec (fun h => bad H (Same.refl H) fun z => by have := z.1.2; omega) (fun h4 => ?_)⟩
  show t_p_fits_1 K _ [some (.ref p), some (.int c.1), some (.ref q0)] H
  refine .inr ⟨_, rfl, q0, rfl, ⟨_, SqT.of hq⟩, fun L hL => ?_⟩
  refine comp_tup (xs := pvs) (fun j σ' H' => ∃ (bs : List Bool) (o : Option V), σ' = [some (.ref p), some (.int c.1), some (.ref q0), o] ∧ H' L = some (.lst (bs.map V.bl)) ∧ bs.length = j ∧ (∀ (i : Nat) x b, c.2[i]? = some x → bs[i]? = some b → (b = true ↔ PartFits c.1 c.2 x)) ∧ Same H H') ?_ ?_ ?_ ?_
  · exact ⟨[], none, rfl, upd_same, rfl, fun i x b _ hb => by simp at hb, (Same.refl H).new hL⟩
  · rintro j σ' H' _ ⟨bs, o, _, _, _, _, s'⟩
    exact SqT.of (s' _ _ hq)
  · rintro j x σ' H' hx ⟨bs, o, rfl, hl, bl, hb, s'⟩
    obtain ⟨b, hb1, hpa⟩ := hA.of_v hx
    have jl : j < c.2.length := (List.getElem?_eq_some_iff.mp hb1).1
    have mem := List.mem_of_getElem? hb1
    have fp := few.parts
    refine app_yes ⟨_, rfl, _, rfl, _, rfl, c.1, q0, x, pvs, c.2, b, rfl, s' _ _ hq, hA.imp fun _ _ z => z.mono (.of_same s'), hpa.mono (.of_same s'), few.rows b mem, few.ats b mem, fun d H2 hd s2 => ?_⟩
    refine ⟨_, s2 _ _ hl, smallL (by rw [List.length_map]; omega), bs ++ [d], _, rfl, ?_, by simp [bl], fun i y b' hy hb' => ?_, ?_⟩
    · rw [upd_same, List.map_append]; rfl
    · rcases snoc_get hb' with ⟨_, w⟩ | ⟨e, rfl⟩
      · exact hb i y b' hy w
      · rw [e, bl, hb1] at hy; cases hy; exact hd
    · intro b' u hb2
      have nb : b' ≠ L := ne_of_none hb2 hL
      rw [upd_ne nb]; exact s2 _ _ (s' b' u hb2)
  · rintro σ' H2 ⟨bs, o, _, hl, bl, hb, s2⟩
    rw [hA.len] at bl
    refine ⟨L, bs, rfl, SqL.of hl, q _ _ ?_ s2⟩
    rw [all_take bl hb]
    exact ⟨fun z => ⟨⟨by omega, by omega⟩, z⟩, fun z => z.2⟩
end Bg
end
section
set_option Elab.async false
set_option linter.all false
set_option maxRecDepth 100000
set_option maxHeartbeats 4000000
namespace Bg
open PySem L2
theorem r_code_row {K : PySem.W.Frag} {vs : List V} {H : Hp} {Q : VK} {E : XK} (h : sp_code_row K vs H Q E) : t_code_row K { nx := fun _ H' => Q .non H', rt := Q } (start N_code_row vs) H := by
  obtain ⟨st, cn, pl, n, k, cs, rfl, S, hk, pl1, pl16, n1, nl, hcn, csne, csl, cs4, ncn, q⟩ := h
  refine ⟨_, rfl, st, 14, k, rfl, S, by omega, by decide, by decide, fun d H1 d0 d1 S1 B1 => ?_⟩
  refine ⟨_, rfl, _, rfl, st, (pl : Int), k + 1, rfl, S1, by omega, by omega, by omega, fun i H2 i0 i1 S2 B2 => ?_⟩
  have B := B1.trans B2
  have hcn2 := B cn _ ncn hcn
  show t_code_row_9 K _ [some (.ref st), some (.int (pl : Nat)), some (.int (n : Nat)), some (.ref cn), some (.int d), some (.int i), none] H2
  refine ⟨_, rfl, _, _, rfl, rfl, _, rfl, if_dec (fun _ => ?_) (fun _ => ?_)⟩
  · refine ⟨_, rfl, st, k + 2, rfl, S2, by omega, fun z k3 H3 z0 z1 S3 l3 B3 => ⟨(by show 2 ≤ sizeLine; decide), fun t ht => ?_⟩⟩
    exact q _ (.num z) k3 _ ⟨t, rfl, upd_same⟩ ⟨z0, z1⟩ (S3.new ht) (by omega) ((B.trans B3).new ht)
  refine ⟨_, rfl, _, _, rfl, rfl, _, rfl, if_dec (fun _ => ?_) (fun _ => ?_)⟩
  · refine ⟨_, rfl, st, 5, k + 2, rfl, S2, by omega, by decide, by decide, fun e H3 e0 e1 S3 B3 => ?_⟩
    obtain ⟨c, c1, c2⟩ := sign_at e.toNat (by omega)
    refine ixS (by decide +kernel) e0 c1 ⟨_, rfl, _, rfl, _, rfl, st, (pl : Int), k + 3, rfl, S3, by omega, by omega, by omega, fun j H4 j0 j1 S4 B4 => ⟨(by show 4 ≤ sizeLine; decide), fun t ht => ?_⟩⟩
    exact q _ (.op ⟨#[c]⟩ i j) _ _ ⟨t, rfl, upd_same⟩ ⟨c2, ⟨i0, i1⟩, j0, j1⟩ (S4.new ht) (by omega) (((B.trans B3).trans B4).new ht)
  refine ⟨_, rfl, _, _, rfl, rfl, _, rfl, if_dec (fun _ => ?_) (fun _ => ?_)⟩
  · exact ⟨_, rfl, (by show 2 ≤ sizeLine; decide), fun t ht => q _ (.keep i) _ _ ⟨t, rfl, upd_same⟩ ⟨i0, i1⟩ (S2.new ht) (by omega) (B.new ht)⟩
  refine ⟨_, rfl, .inl ⟨rfl, _, rfl, if_dec (fun _ => ?_) (fun _ => ?_)⟩⟩
  · exact ⟨_, rfl, (by show 2 ≤ sizeLine; decide), fun t ht => q _ (.say i) _ _ ⟨t, rfl, upd_same⟩ ⟨i0, i1⟩ (S2.new ht) (by omega) (B.new ht)⟩
  refine ⟨_, rfl, _, _, rfl, rfl, _, rfl, if_dec (fun _ => ?_) (fun _ => ?_)⟩
  · refine ⟨_, rfl, _, rfl, _, rfl, st, (n : Int), k + 2, rfl, S2, by omega, by omega, by omega, fun j H4 j0 j1 S4 B4 => ⟨(by show 3 ≤ sizeLine; decide), fun t ht => ?_⟩⟩
    exact q _ (.test i j) _ _ ⟨t, rfl, upd_same⟩ ⟨⟨i0, i1⟩, j0, j1⟩ (S4.new ht) (by omega) ((B.trans B4).new ht)
  refine ⟨_, rfl, .inl ⟨rfl, _, rfl, if_dec (fun _ => ?_) (fun _ => ?_)⟩⟩
  · refine ⟨_, rfl, _, rfl, st, (n : Int), k + 2, rfl, S2, by omega, by omega, by omega, fun j H4 j0 j1 S4 B4 => ⟨(by show 2 ≤ sizeLine; decide), fun t ht => ?_⟩⟩
    exact q _ (.jump j) _ _ ⟨t, rfl, upd_same⟩ ⟨j0, j1⟩ (S4.new ht) (by omega) ((B.trans B4).new ht)
  refine ⟨_, rfl, .inl ⟨rfl, _, rfl, if_dec (fun _ => ?_) (fun _ => ?_)⟩⟩
  · have csp : 0 < cs.length := List.length_pos_iff.mpr csne
    refine ⟨_, rfl, _, rfl, _, _, rfl, .inl ⟨_, SqL.of hcn2, rfl⟩, st, _, k + 2, rfl, S2, by omega, by rw [intsV_len]; omega, by rw [intsV_len]; omega, fun e H3 e0 e1 S3 B3 => ?_⟩
    rw [intsV_len] at e1
    obtain ⟨j, rfl⟩ : ∃ j : Nat, e = (j : Int) := ⟨e.toNat, by omega⟩
    have jl : j < cs.length := by omega
    have hcn3 := B3 cn _ ncn hcn2
    have cj : cs[j]? = some cs[j] := List.getElem?_eq_getElem jl
    have c4 : cs[j] ≤ 4 := cs4 _ (List.getElem_mem jl)
    have cj' : (intsV cs)[((j : Nat) : Int).toNat]? = some (.int (cs[j] : Nat)) := by
      have := intsV_get cj
      simpa using this
    show t_code_row_2 K _ [some (.ref st), some (.int (pl : Nat)), some (.int (n : Nat)), some (.ref cn), some (.int d), some (.int i), some (.int (j : Nat))] H3
    refine ⟨_, rfl, _, rfl, _, rfl, ixL (SqL.of hcn3) (by omega) cj' ⟨_, rfl, by omega, by omega, fun L hL => ?_⟩⟩
    obtain ⟨ys3, hs3⟩ := S3.lst
    have nL : L ≠ st := fun z => by rw [z, hs3] at hL; cases hL
    refine comp_range (fun m σ' H' => ∃ (as : List Int) (k' : Nat) (o : Option V), σ' = [some (.ref st), some (.int (pl : Nat)), some (.int (n : Nat)), some (.ref cn), some (.int d), some (.int i), some (.int (j : Nat)), o] ∧
      H' L = some (.lst (as.map V.int)) ∧ as.length = m ∧ (∀ x ∈ as, 0 ≤ x ∧ x < pl) ∧ Stt K H' st k' ∧ k' ≤ k + 3 + m ∧ But st H H') ?_ ?_ ?_
    · exact ⟨[], k + 3, none, rfl, upd_same, rfl, by simp, S3.new hL, by omega, (B.trans B3).new hL⟩
    · rintro m σ' H' hm ⟨as, k', o, rfl, hl, al, af, S', hk', B'⟩
      have hm : m < 4 := by
        have : m < ((cs[j] : Nat) : Int).toNat := hm
        omega
      refine app_yes ⟨_, rfl, _, rfl, st, (pl : Int), k', rfl, S', by omega, by omega, by omega, fun x H4 x0 x1 S4 B4 => ?_⟩
      have h4 := B4 L _ nL hl
      refine ⟨_, h4, smallL (by rw [List.length_map]; omega), as ++ [x], k' + 1, _, rfl, ?_, by simp [al], fun y hy => ?_, S4.mono .upd_at h4 (Ne.symm nL), by omega, ?_⟩
      · rw [upd_same, List.map_append]; rfl
      · rcases List.mem_append.mp hy with z | z
        · exact af y z
        · rw [List.mem_singleton.mp z]; exact ⟨x0, x1⟩
      · exact But.past (B'.trans B4) ((B.trans B3).free nL hL) .upd_at
    · rintro σ' H4 ⟨as, k', o, _, hl, al, af, S', hk', B'⟩
      have al : as.length = cs[j] := by rw [al]; simp
      have hk' : k' ≤ k + 3 + cs[j] := by simpa using hk'
      refine ⟨L, _, rfl, .inl ⟨SqL.of hl, fun t ht => ?_⟩⟩
      refine ⟨(by show 3 ≤ sizeLine; decide), fun t2 ht2 => ?_⟩
      refine q _ (.call (j : Int) as) k' _ ⟨t2, t, rfl, upd_same, (Same.refl _).new ht2 _ _ upd_same⟩ ⟨⟨by omega, by omega⟩, fun c hc => ?_, af⟩ ((S'.new ht).new ht2) (by omega) ((B'.new ht).new ht2)
      have hc' : cs[j]? = some c := by simpa using hc
      rw [cj] at hc'; cases hc'; exact al
  · exact ⟨_, rfl, (by show 2 ≤ sizeLine; decide), fun t ht => q _ (.give i) _ _ ⟨t, rfl, upd_same⟩ ⟨i0, i1⟩ (S2.new ht) (by omega) (B.new ht)⟩
theorem ixC {K : PySem.W.Frag} {p : Addr} {xs : List V} {i : Int} {v : V} {H : Hp} {Q : VK} (h : SeqC H p xs) (h0 : 0 ≤ i) (e : xs[i.toNat]? = some v) (q : Q v H) : rIx K (.ref p) (.int i) H Q := by
  rcases h with h | h
  · exact ixL (SqL.of h) h0 e q
  · exact ixT h h0 e q
theorem word_jumpC {r : CRow} (h : V.str (cword r) = V.str "jump") : ∃ to, r = .jump to := by
  cases r with
  | jump to => exact ⟨to, rfl⟩
  | num z => exact absurd h (by show ¬ V.str "num" = V.str "jump"; decide +kernel)
  | op s i j => exact absurd h (by show ¬ V.str "op" = V.str "jump"; decide +kernel)
  | keep i => exact absurd h (by show ¬ V.str "keep" = V.str "jump"; decide +kernel)
  | say i => exact absurd h (by show ¬ V.str "say" = V.str "jump"; decide +kernel)
  | test i to => exact absurd h (by show ¬ V.str "test" = V.str "jump"; decide +kernel)
  | call k as => exact absurd h (by show ¬ V.str "call" = V.str "jump"; decide +kernel)
  | give i => exact absurd h (by show ¬ V.str "give" = V.str "jump"; decide +kernel)
theorem word_keepC {r : CRow} (h : V.str (cword r) = V.str "keep") : ∃ i, r = .keep i := by
  cases r with
  | keep i => exact ⟨i, rfl⟩
  | num z => exact absurd h (by show ¬ V.str "num" = V.str "keep"; decide +kernel)
  | op s i j => exact absurd h (by show ¬ V.str "op" = V.str "keep"; decide +kernel)
  | jump i => exact absurd h (by show ¬ V.str "jump" = V.str "keep"; decide +kernel)
  | say i => exact absurd h (by show ¬ V.str "say" = V.str "keep"; decide +kernel)
  | test i to => exact absurd h (by show ¬ V.str "test" = V.str "keep"; decide +kernel)
  | call k as => exact absurd h (by show ¬ V.str "call" = V.str "keep"; decide +kernel)
  | give i => exact absurd h (by show ¬ V.str "give" = V.str "keep"; decide +kernel)
theorem itr_lt {rs : List CRow} (cl : Closed rs) {n : Nat} (hn : n < rs.length) : ∀ k, itr (stpC rs) k n < rs.length := by
  intro k
  induction k with
  | zero => exact hn
  | succ k ih =>
    rw [itr_succ]
    cases q : silC rs (itr (stpC rs) k n) with
    | true => exact cl.within _ ih q
    | false => rw [stp_fix rs _ q]; exact ih
theorem stp_jump {rs : List CRow} {n : Nat} {to : Int} (e : rs[n]? = some (.jump to)) : stpC rs n = to.toNat := by unfold stpC; rw [e]
theorem stp_keep {rs : List CRow} {n : Nat} {i : Int} (e : rs[n]? = some (.keep i)) : stpC rs n = n + 1 := by unfold stpC; rw [e]
theorem r_silent {K : PySem.W.Frag} {vs : List V} {H : Hp} {Q : VK} {E : XK} (h : sp_silent K vs H Q E) : t_silent K { nx := fun _ H' => Q .non H', rt := Q } (start N_silent vs) H := by
  obtain ⟨l, n, rvs, rs, rfl, hl, hA, hn, cl, q⟩ := h
  have turn : ∀ (i : Nat) (x : V) (σ' : St) (H' : Hp) (D : Ends), (∃ o, σ' = [some (.ref l), some (.int (itr (stpC rs) i n : Nat)), o] ∧ H' = H) → (∀ σ2 H2, (∃ o, σ2 = [some (.ref l), some (.int (itr (stpC rs) (i + 1) n : Nat)), o] ∧ H2 = H) → D.nx σ2 H2) →
      gName 2 x σ' H' fun σ2 H2 => t_silent_2 K D σ2 H2 := by
    rintro i x σ' H' D ⟨o, rfl, rfl⟩ hD
    have atl := itr_lt cl hn i
    obtain ⟨v, r, e1, e2, hra⟩ := hA.get atl
    obtain ⟨p, xs, rfl, hp⟩ := hra.ref
    have e1' : rvs[((itr (stpC rs) i n : Nat) : Int).toNat]? = some (.ref p) := by simpa using e1
    refine ⟨_, rfl, _, rfl, ixC hl (by omega) e1' (ixT hp (by decide) rfl (.inl ⟨rfl, _, rfl, if_dec (fun hw => ?_) (fun hw => ?_)⟩))⟩
    · obtain ⟨to, rfl⟩ := word_jumpC hw
      obtain ⟨p', e', hp'⟩ := hra
      cases e'
      refine ⟨_, rfl, _, rfl, ixC hl (by omega) e1' (ixT hp' (by decide) rfl ?_)⟩
      refine hD _ _ ⟨some x, ?_, rfl⟩
      have t0 := (cl.2 _ (List.mem_of_getElem? e2) to rfl).1
      have en : itr (stpC rs) (i + 1) n = to.toNat := by rw [itr_succ]; exact stp_jump e2
      have e3 : ((itr (stpC rs) (i + 1) n : Nat) : Int) = to := by rw [en]; omega
      rw [e3]
      rfl
    · refine ⟨_, rfl, _, rfl, ixC hl (by omega) e1' (ixT hp (by decide) rfl (.inl ⟨rfl, _, rfl, if_dec (fun hw2 => ?_) (fun hw2 => ?_)⟩))⟩
      · obtain ⟨to, rfl⟩ := word_keepC hw2
        refine ⟨_, rfl, .inl ⟨_, _, rfl, rfl, ?_⟩⟩
        refine hD _ _ ⟨some x, ?_, rfl⟩
        have en : itr (stpC rs) (i + 1) n = itr (stpC rs) i n + 1 := by rw [itr_succ]; exact stp_keep e2
        have e3 : ((itr (stpC rs) (i + 1) n : Nat) : Int) = ((itr (stpC rs) i n : Nat) : Int) + 1 := by rw [en]; omega
        rw [e3]
        rfl
      · refine hD _ _ ⟨some x, ?_, rfl⟩
        have ns : silC rs (itr (stpC rs) i n) = false := by
          unfold silC
          rw [e2]
          cases r with
          | jump to => exact absurd rfl hw
          | keep i => exact absurd rfl hw2
          | num z => rfl
          | op s i j => rfl
          | say i => rfl
          | test i to => rfl
          | call k as => rfl
          | give i => rfl
        rw [itr_succ, stp_fix rs _ ns]
        rfl
  have fin : ∀ (σ' : St) (H' : Hp), (∃ o, σ' = [some (.ref l), some (.int (itr (stpC rs) rvs.length n : Nat)), o] ∧ H' = H) → t_silent_1 K { nx := fun _ H' => Q .non H', rt := Q } σ' H' := by
    rintro σ' H' ⟨o, rfl, rfl⟩
    rw [hA.len]
    have atl := itr_lt cl hn rs.length
    obtain ⟨v, r, e1, e2, hra⟩ := hA.get atl
    obtain ⟨p, xs, rfl, hp⟩ := hra.ref
    have e1' : rvs[((itr (stpC rs) rs.length n : Nat) : Int).toNat]? = some (.ref p) := by simpa using e1
    refine ⟨_, rfl, _, rfl, ixC hl (by omega) e1' (ixT hp (by decide) rfl ⟨(by show 2 ≤ sizeLine; decide), fun t ht => ⟨t, _, rfl, .inr (SqT.of upd_same), rfl, rfl, ?_⟩⟩)⟩
    show Q (.bl (inV (.str (cword r)) [V.str "keep", V.str "jump"])) _
    rw [in_sil]
    have e3 : silC rs (itr (stpC rs) rs.length n) = silR r := by unfold silC; rw [e2]
    rw [← e3]
    exact q _ ((Same.refl _).new ht)
  rcases hl with hl' | hl'
  · refine .inl ⟨_, rfl, l, rfl, ⟨_, SqL.of hl'⟩, for_list (xs := rvs) (fun i σ' H' => ∃ o, σ' = [some (.ref l), some (.int (itr (stpC rs) i n : Nat)), o] ∧ H' = H) ⟨none, rfl, rfl⟩ ?_ ?_ fin⟩
    · rintro i σ' H' _ ⟨o, _, rfl⟩; exact SqL.of hl'
    · intro i x σ' H' _ hi
      exact turn i x σ' H' _ hi fun σ2 H2 z => z
  · refine .inr ⟨_, rfl, l, rfl, ⟨_, SqT.of hl'⟩, for_tup (xs := rvs) (fun i σ' H' => ∃ o, σ' = [some (.ref l), some (.int (itr (stpC rs) i n : Nat)), o] ∧ H' = H) ⟨none, rfl, rfl⟩ ?_ ?_ fin⟩
    · rintro i σ' H' _ ⟨o, _, rfl⟩; exact SqT.of hl'
    · intro i x σ' H' _ hi
      exact turn i x σ' H' _ hi fun σ2 H2 z => z
end Bg
end
section
set_option Elab.async false
set_option linter.all false
set_option maxRecDepth 100000
set_option maxHeartbeats 4000000
namespace Bg
open PySem L2
theorem ixN_last {n : Nat} (h : 0 < n) : ixN n (-1) = some (n - 1) := by
  unfold ixN
  rw [if_neg (by decide), if_pos (by omega)]
  congr 1
  omega
theorem setLast {p : Addr} {xs : List V} {v : V} {H : Hp} {Q : Hp → Prop} (h : H p = some (.lst xs)) (h1 : 0 < xs.length) (q : Q (upd H p (.lst (xs.set (xs.length - 1) v)))) : rSetL (.ref p) (.int (-1)) v H Q :=
  ⟨p, xs, -1, _, rfl, rfl, h, ixN_last h1, q⟩
theorem ixL1 {K : PySem.W.Frag} {p : Addr} {xs : List V} {i : Int} {v : V} {H : Hp} {Q : VK} (h : H p = some (.lst xs)) (e : atI xs i = some v) (q : Q v H) : rIx K (.ref p) (.int i) H Q := .inl ⟨p, xs, i, v, rfl, rfl, SqL.of h, e, q⟩
theorem ends_set {rs : List CRow} {n : Nat} {r0 : CRow} (hn : n < rs.length) (h0 : silR r0 = false) : ∀ k m, silC rs (itr (stpC rs) k m) = false → EndsC (rs.set n r0) m := by
  have atn : silC (rs.set n r0) n = false := by unfold silC; rw [List.getElem?_set_self hn]; exact h0
  intro k
  induction k with
  | zero =>
    intro m hm
    by_cases e : n = m
    · subst e; exact ⟨0, atn⟩
    · refine ⟨0, ?_⟩
      show silC (rs.set n r0) m = false
      unfold silC
      rw [List.getElem?_set_ne e]
      exact hm
  | succ k ih =>
    intro m hm
    by_cases e : n = m
    · subst e; exact ⟨0, atn⟩
    · obtain ⟨k', hk'⟩ := ih (stpC rs m) hm
      refine ⟨k' + 1, ?_⟩
      show silC (rs.set n r0) (itr (stpC (rs.set n r0)) k' (stpC (rs.set n r0) m)) = false
      have e2 : stpC (rs.set n r0) m = stpC rs m := by unfold stpC; rw [List.getElem?_set_ne e]
      rw [e2]; exact hk'
theorem last_set {rs : List CRow} {n : Nat} {r0 : CRow} (hl : rs.getLast?.map cEnd = some true) (h0 : n = rs.length - 1 → cEnd r0 = true) : (rs.set n r0).getLast?.map cEnd = some true := by
  rw [List.getLast?_eq_getElem?, List.length_set]
  rw [List.getLast?_eq_getElem?] at hl
  by_cases e : n = rs.length - 1
  · have hp : rs.length - 1 < rs.length := by
      cases rs with
      | nil => cases hl
      | cons a r => simp
    rw [← e] at hp ⊢
    rw [List.getElem?_set_self hp]
    exact congrArg some (h0 e)
  · rw [List.getElem?_set_ne e]; exact hl
theorem made_closed {pl : Nat} {cs : List Nat} {rs : List CRow} (h : ∀ r ∈ rs, MadeRow pl rs.length cs r) (hl : rs.getLast?.map cEnd = some true) : Closed rs := by
  refine ⟨hl, fun r hr to e => ?_⟩
  have m := h r hr
  cases r with
  | jump t => cases e; exact m
  | test i t => cases e; exact m.2
  | num z => cases e
  | op s i j => cases e
  | keep i => cases e
  | say i => cases e
  | call k as => cases e
  | give i => cases e
theorem mem_setC {rs : List CRow} {n : Nat} {r0 r : CRow} (h : r ∈ rs.set n r0) : r ∈ rs ∨ r = r0 := List.mem_or_eq_of_mem_set h
theorem r_code_part {K : PySem.W.Frag} {vs : List V} {H : Hp} {Q : VK} {E : XK} (h : sp_code_part K vs H Q E) : t_code_part K { nx := fun _ H' => Q .non H', rt := Q } (start N_code_part vs) H := by
  obtain ⟨st, cn, pl, m, k, cs, rfl, S, hk, pl1, pl16, m1, ml, hcn, csne, csl, cs4, ncn, q⟩ := h
  refine ⟨_, rfl, _, rfl, st, (m : Int), k, rfl, S, by omega, by omega, by omega, fun d H1 d0 d1 S1 B1 => .inl ⟨_, _, rfl, rfl, ?_⟩⟩
  obtain ⟨n, hn⟩ : ∃ n : Nat, (1 : Int) + d = (n : Int) := ⟨(1 + d).toNat, by omega⟩
  have n1 : 1 ≤ n := by omega
  have nm : n ≤ m := by omega
  show t_code_part_5 K _ [some (.ref st), some (.int (pl : Nat)), some (.ref cn), some (.int (m : Nat)), some (.int (1 + d)), none, none] H1
  rw [hn]
  have hcn1 := B1 cn _ ncn hcn
  refine ⟨_, rfl, _, rfl, by omega, by omega, fun L hL => ?_⟩
  obtain ⟨ys1, hs1⟩ := S1.lst
  have nL : L ≠ st := fun z => by rw [z, hs1] at hL; cases hL
  have HL : H L = none := B1.free nL hL
  refine comp_range (fun i σ' H' => ∃ (rvs : List V) (rs : List CRow) (k' : Nat) (o : Option V), σ' = [some (.ref st), some (.int (pl : Nat)), some (.ref cn), some (.int (m : Nat)), some (.int (n : Nat)), none, o] ∧
    H' L = some (.lst rvs) ∧ AllAt (CRowAt H') rvs rs ∧ rs.length = i ∧ (∀ r ∈ rs, MadeRow pl n cs r) ∧ Stt K H' st k' ∧ k' ≤ k + 1 + 10 * i ∧ But st H H') ?_ ?_ ?_
  · exact ⟨[], [], k + 1, none, rfl, upd_same, .nil, rfl, by simp, S1.new hL, by omega, B1.new hL⟩
  · rintro i σ' H' hi ⟨rvs, rs, k', o, rfl, hrl, hA, rlen, ro, S', hk', B'⟩
    have hi : i < n := by simpa using hi
    refine app_yes ⟨_, rfl, _, rfl, _, rfl, _, rfl, st, cn, pl, n, k', cs, rfl, S', by omega, pl1, pl16, n1, by omega, B' cn _ ncn hcn, csne, csl, cs4, ncn, fun v r k2 H2 hv hr S2 l2 B2 => ?_⟩
    have h2 := B2 L _ nL hrl
    have t2 : Tp H' H2 := by obtain ⟨_, e⟩ := S'.lst; exact .of_but B2 e
    have t3 : Tp H2 (upd H2 L (.lst (rvs ++ [v]))) := (Tp.refl H2).lst h2
    refine ⟨_, h2, smallL (by rw [hA.len]; omega), rvs ++ [v], rs ++ [r], k2, _, rfl, upd_same, (hA.imp fun _ _ z => (z.mono t2).mono t3).snoc (hv.mono t3), by simp [rlen], fun r' hr' => ?_, S2.mono .upd_at h2 (Ne.symm nL), by omega, ?_⟩
    · rcases List.mem_append.mp hr' with z | z
      · exact ro r' z
      · rw [List.mem_singleton.mp z]; exact hr
    · exact But.past (B'.trans B2) HL .upd_at
  · rintro σ' H2 ⟨rvs, rs, k2, o, _, hrl, hA, rlen, ro, S2, hk2, B2⟩
    have rlen : rs.length = n := by simpa using rlen
    have hk2 : k2 ≤ k + 1 + 10 * n := by simpa using hk2
    have rne : rs ≠ [] := fun z => by rw [z] at rlen; simp at rlen; omega
    show t_code_part_4 K _ [some (.ref st), some (.int (pl : Nat)), some (.ref cn), some (.int (m : Nat)), some (.int (n : Nat)), some (.ref L), none] H2
    have main : ∀ (rvs : List V) (rs : List CRow) (k3 : Nat) (H3 : Hp), H3 L = some (.lst rvs) → AllAt (CRowAt H3) rvs rs → rs.length = n → (∀ r ∈ rs, MadeRow pl n cs r) → rs.getLast?.map cEnd = some true → Stt K H3 st k3 → k3 ≤ k + 2 + 10 * n → But st H H3 →
        t_code_part_3 K { nx := fun _ H' => Q .non H', rt := Q } [some (.ref st), some (.int (pl : Nat)), some (.ref cn), some (.int (m : Nat)), some (.int (n : Nat)), some (.ref L), none] H3 := fun rvs rs k3 H3 hrl hA rlen ro hlast S3 hk3 B3 => by
      refine ⟨_, rfl, _, rfl, by omega, by omega, for_range (n := ((n : Nat) : Int).toNat) (fun i σ' H' => ∃ (rvs : List V) (rs : List CRow) (o : Option V), σ' = [some (.ref st), some (.int (pl : Nat)), some (.ref cn), some (.int (m : Nat)), some (.int (n : Nat)), some (.ref L), o] ∧
        H' L = some (.lst rvs) ∧ AllAt (CRowAt H') rvs rs ∧ rs.length = n ∧ (∀ r ∈ rs, MadeRow pl n cs r) ∧ rs.getLast?.map cEnd = some true ∧ (∀ x, x < i → EndsC rs x) ∧ Stt K H' st k3 ∧ But st H H')
        ⟨rvs, rs, none, rfl, hrl, hA, rlen, ro, hlast, fun x hx => by omega, S3, B3⟩ ?_ ?_⟩
      · rintro i σ' H4 hi ⟨rvs, rs, o, rfl, hrl, hA, rlen, ro, hlast, en, S4, B4⟩
        have hi : i < n := by simpa using hi
        have cl : Closed rs := made_closed (pl := pl) (cs := cs) (by rw [rlen]; exact ro) hlast
        have e0 : (0 : Int) + (i : Int) = ((i : Nat) : Int) := by omega
        rw [e0]
        refine ⟨_, rfl, _, rfl, L, i, rvs, rs, rfl, .inl hrl, hA, by omega, cl, fun H5 s5 => ⟨_, rfl, if_bl (fun hs => ?_) (fun hs => ?_)⟩⟩
        · -- rows[n] = [('say', 0), ('give', 0)][int(n == many - 1)]
          refine ⟨(by show 2 ≤ sizeLine; decide), fun t1 ht1 => ⟨(by show 2 ≤ sizeLine; decide), fun t2 ht2 => ⟨(by show 2 ≤ sizeLine; decide), fun T hT => ?_⟩⟩⟩
          have s6 : Same H5 (upd (upd (upd H5 t1 (.tup [.str "say", .int 0])) t2 (.tup [.str "give", .int 0])) T (.lst [.ref t1, .ref t2])) := (((Same.refl H5).new ht1).new ht2).new hT
          have g1 : upd (upd (upd H5 t1 (.tup [.str "say", .int 0])) t2 (.tup [.str "give", .int 0])) T (.lst [.ref t1, .ref t2]) t1 = some (.tup [.str "say", .int 0]) := ((Same.refl _).new ht2 |>.new hT) _ _ upd_same
          have g2 : upd (upd (upd H5 t1 (.tup [.str "say", .int 0])) t2 (.tup [.str "give", .int 0])) T (.lst [.ref t1, .ref t2]) t2 = some (.tup [.str "give", .int 0]) := ((Same.refl _).new hT) _ _ upd_same
          have gT : upd (upd (upd H5 t1 (.tup [.str "say", .int 0])) t2 (.tup [.str "give", .int 0])) T (.lst [.ref t1, .ref t2]) T = some (.lst [.ref t1, .ref t2]) := upd_same
          generalize upd (upd (upd H5 t1 (.tup [.str "say", .int 0])) t2 (.tup [.str "give", .int 0])) T (.lst [.ref t1, .ref t2]) = H6 at s6 g1 g2 gT ⊢
          have S6 := s5.trans s6
          have hrl6 := S6 _ _ hrl
          have hA6 := hA.imp fun _ _ z => z.mono (Tp.of_same S6)
          have put : ∀ (tt : Addr) (r0 : CRow), CRowAt H6 (.ref tt) r0 → silR r0 = false → MadeRow pl n cs r0 → (i = rs.length - 1 → cEnd r0 = true) →
              gSub (tVar 5) (tVar 6) rSetL (.ref tt) [some (.ref st), some (.int (pl : Nat)), some (.ref cn), some (.int (m : Nat)), some (.int (n : Nat)), some (.ref L), some (.int (i : Nat))] H6 fun σ2 H2 => ∃ (rvs : List V) (rs : List CRow) (o : Option V), σ2 = [some (.ref st), some (.int (pl : Nat)), some (.ref cn), some (.int (m : Nat)), some (.int (n : Nat)), some (.ref L), o] ∧
                H2 L = some (.lst rvs) ∧ AllAt (CRowAt H2) rvs rs ∧ rs.length = n ∧ (∀ r ∈ rs, MadeRow pl n cs r) ∧ rs.getLast?.map cEnd = some true ∧ (∀ x, x < i + 1 → EndsC rs x) ∧ Stt K H2 st k3 ∧ But st H H2 := fun tt r0 h0 z0 m0 l0 => by
            refine ⟨_, rfl, _, rfl, setL hrl6 (by omega) (by rw [hA.len]; simp; omega) ?_⟩
            have t7 : Tp H6 (upd H6 L (.lst (rvs.set ((i : Nat) : Int).toNat (.ref tt)))) := (Tp.refl H6).lst hrl6
            refine ⟨rvs.set ((i : Nat) : Int).toNat (.ref tt), rs.set i r0, _, rfl, upd_same, ?_, by rw [List.length_set]; exact rlen, fun r hr => ?_, last_set hlast l0, fun x hx => ?_, (S4.same S6).mono .upd_at hrl6 (Ne.symm nL), But.past (fun b u nb hb => S6 _ _ (B4 b u nb hb)) HL .upd_at⟩
            · have := (hA6.imp fun _ _ z => z.mono t7).set (j := i) (h0.mono t7)
              simpa using this
            · rcases mem_setC hr with z | z
              · exact ro r z
              · rw [z]; exact m0
            · by_cases e : x = i
              · subst e
                refine ⟨0, ?_⟩
                show silC (rs.set x r0) x = false
                unfold silC; rw [List.getElem?_set_self (by omega)]; exact z0
              · obtain ⟨kk, hkk⟩ := en x (by omega)
                exact ends_set (by omega) z0 kk x hkk
          refine ⟨_, rfl, _, rfl, _, _, rfl, rfl, .inl ⟨rfl, .inr ⟨_, rfl, ?_⟩⟩⟩
          by_cases e : i = n - 1
          · have e2 : V.int (i : Nat) = V.int (((n : Nat) : Int) - 1) := by congr 1; omega
            rw [decide_eq_true e2]
            exact ixL (SqL.of gT) (by decide) rfl (put t2 (.give 0) ⟨t2, rfl, g2⟩ rfl ⟨by decide, by omega⟩ fun _ => rfl)
          · have e2 : ¬ V.int (i : Nat) = V.int (((n : Nat) : Int) - 1) := fun z => e (by have := V.int.inj z; omega)
            rw [decide_eq_false e2]
            exact ixL (SqL.of gT) (by decide) rfl (put t1 (.say 0) ⟨t1, rfl, g1⟩ rfl ⟨by decide, by omega⟩ fun z => absurd z (by omega))
        · refine ⟨rvs, rs, _, rfl, s5 _ _ hrl, hA.imp fun _ _ z => z.mono (Tp.of_same s5), rlen, ro, hlast, fun x hx => ?_, S4.same s5, fun b u nb hb => s5 _ _ (B4 b u nb hb)⟩
          by_cases e : x = i
          · subst e; exact ⟨rs.length, hs⟩
          · exact en x (by omega)
      · rintro σ' H4 ⟨rvs, rs, o, rfl, hrl, hA, rlen, ro, hlast, en, S4, B4⟩
        have en : ∀ x, x < n → EndsC rs x := by simpa using en
        have cl : Closed rs := made_closed (pl := pl) (cs := cs) (by rw [rlen]; exact ro) hlast
        refine ⟨_, rfl, L, rvs, rfl, .inl ⟨SqL.of hrl, fun t ht => ?_⟩⟩
        have s5 : Same H4 (upd H4 t (.tup rvs)) := (Same.refl H4).new ht
        exact q t rvs rs k3 _ upd_same (hA.imp fun _ _ z => z.mono (Tp.of_same s5)) (by omega) (by omega) (by rw [rlen]; exact ro) hlast (noRing_of cl (by rw [rlen]; exact en)) (S4.new ht) (by omega) (B4.new ht)
    obtain ⟨lv, lr, l1, l2, l3⟩ := last_at hA rne
    obtain ⟨lp, lxs, rfl, hlp⟩ := l3.ref
    refine ⟨_, rfl, _, rfl, ixL1 hrl l1 (ixT hlp (by decide) rfl ⟨(by show 2 ≤ sizeLine; decide), fun t ht => ⟨t, _, rfl, .inr (SqT.of upd_same), rfl, rfl, _, rfl, ?_⟩⟩)⟩
    have s3 : Same H2 (upd H2 t (.tup [.str "jump", .str "give"])) := (Same.refl H2).new ht
    have B3 : But st H (upd H2 t (.tup [.str "jump", .str "give"])) := B2.new ht
    generalize upd H2 t (.tup [.str "jump", .str "give"]) = H3 at s3 B3 ⊢
    have S3 := S2.same s3
    have hrl3 := s3 _ _ hrl
    have hA3 := hA.imp fun _ _ z => z.mono (Tp.of_same s3)
    refine if_bl (fun hb => ?_) (fun hb => ?_)
    · refine ⟨_, rfl, _, rfl, st, (pl : Int), k2, rfl, S3, by omega, by omega, by omega, fun x H4 x0 x1 S4 B4 => ⟨(by show 2 ≤ sizeLine; decide), fun t2 ht2 => ?_⟩⟩
      have hrl4 := B4 L _ nL hrl3
      have t4 : Tp H3 H4 := by obtain ⟨_, e⟩ := S3.lst; exact .of_but B4 e
      have hrl5 : upd H4 t2 (.tup [.str "give", .int x]) L = some (.lst rvs) := by rw [upd_ne (ne_of_none hrl4 ht2)]; exact hrl4
      have t5 : Tp H3 (upd H4 t2 (.tup [.str "give", .int x])) := t4.new ht2
      refine ⟨_, rfl, _, rfl, setLast hrl5 (by rw [hA.len]; omega) ?_⟩
      have t6 : Tp (upd H4 t2 (.tup [.str "give", .int x])) (upd (upd H4 t2 (.tup [.str "give", .int x])) L (.lst (rvs.set (rvs.length - 1) (.ref t2)))) := (Tp.refl _).lst hrl5
      refine main (rvs.set (rvs.length - 1) (.ref t2)) (rs.set (rs.length - 1) (.give x)) (k2 + 1) _ upd_same ?_ (by rw [List.length_set]; exact rlen) (fun r hr => ?_) ?_ ((S4.new ht2).mono .upd_at hrl5 (Ne.symm nL)) (by omega) (But.past ((B3.trans B4).new ht2) HL .upd_at)
      · have hg : CRowAt (upd (upd H4 t2 (.tup [.str "give", .int x])) L (.lst (rvs.set (rvs.length - 1) (.ref t2)))) (.ref t2) (.give x) := ⟨t2, rfl, t6 _ _ upd_same⟩
        have this := ((hA3.imp fun _ _ z => z.mono t5).imp fun _ _ z => z.mono t6).set (j := rvs.length - 1) hg
        have e2 : rs.set (rvs.length - 1) (.give x) = rs.set (rs.length - 1) (.give x) := by rw [hA.len]
        rw [e2] at this
        exact this
      · rcases mem_setC hr with z | z
        · exact ro r z
        · rw [z]; exact ⟨x0, x1⟩
      · rw [List.getLast?_eq_getElem?, List.length_set, List.getElem?_set_self (by omega)]
        rfl
    · have eEnd : cEnd lr = true := by rw [← in_endC]; simpa using hb
      exact main rvs rs k2 H3 hrl3 hA3 rlen ro (by rw [l2]; exact congrArg some eEnd) S3 (by omega) B3
end Bg
end
section
set_option Elab.async false
set_option linter.all false
set_option maxRecDepth 100000
set_option maxHeartbeats 4000000
namespace Bg
open PySem L2
theorem made_fits {pl : Nat} {cs : List Nat} {ps : List CPart} {rs : List CRow} (hc : ps.map (·.1) = cs.map fun (c : Nat) => ((c : Nat) : Int)) (h : ∀ r ∈ rs, MadeRow pl rs.length cs r) : ∀ r ∈ rs, RowFits pl ps rs.length r := by
  intro r hr
  have m := h r hr
  cases r with
  | num z => exact ⟨fun i hi => by (cases hi), fun to e => by (cases e), fun k as e => by (cases e)⟩
  | op s i j =>
    refine ⟨fun x hx => ?_, fun to e => by (cases e), fun k as e => by (cases e)⟩
    rcases List.mem_cons.mp hx with z | z
    · rw [z]; exact m.2.1
    · rw [List.mem_singleton.mp z]; exact m.2.2
  | keep i => exact ⟨fun x hx => by rw [List.mem_singleton.mp hx]; exact m, fun to e => by (cases e), fun k as e => by (cases e)⟩
  | say i => exact ⟨fun x hx => by rw [List.mem_singleton.mp hx]; exact m, fun to e => by (cases e), fun k as e => by (cases e)⟩
  | jump t => exact ⟨fun i hi => by (cases hi), fun to e => by cases e; exact m, fun k as e => by (cases e)⟩
  | test i t => exact ⟨fun x hx => by rw [List.mem_singleton.mp hx]; exact m.1, fun to e => by cases e; exact m.2, fun k as e => by (cases e)⟩
  | call k as =>
    refine ⟨fun x hx => m.2.2 x hx, fun to e => by (cases e), fun k' as' e => ?_⟩
    cases e
    have hl : ps.length = cs.length := by have := congrArg List.length hc; simpa using this
    refine ⟨m.1.1, by rw [hl]; exact m.1.2, fun b hb => ?_⟩
    have e1 : (ps.map (·.1))[k.toNat]? = some b.1 := by rw [List.getElem?_map, hb]; rfl
    rw [hc, List.getElem?_map] at e1
    cases e2 : cs[k.toNat]? with
    | none => rw [e2] at e1; cases e1
    | some c =>
      rw [e2] at e1
      have e3 : ((c : Nat) : Int) = b.1 := Option.some.inj e1
      rw [← e3, m.2.1 c e2]
  | give i => exact ⟨fun x hx => by rw [List.mem_singleton.mp hx]; exact m, fun to e => by (cases e), fun k as e => by (cases e)⟩
theorem made_ats {pl n : Nat} {cs : List Nat} (c4 : ∀ c ∈ cs, c ≤ 4) {r : CRow} (m : MadeRow pl n cs r) : (placesOf r).length ≤ 4 := by
  cases r with
  | call k as =>
    show as.length ≤ 4
    have h1 := m.1
    have hk : k.toNat < cs.length := by omega
    have := m.2.1 cs[k.toNat] (List.getElem?_eq_getElem hk)
    rw [this]
    exact c4 _ (List.getElem_mem hk)
  | num z => show 0 ≤ 4; decide
  | op s i j => show 2 ≤ 4; decide
  | keep i => show 1 ≤ 4; decide
  | say i => show 1 ≤ 4; decide
  | jump t => show 0 ≤ 4; decide
  | test i t => show 1 ≤ 4; decide
  | give i => show 1 ≤ 4; decide
theorem intsV_of' {ns : List Nat} {i : Nat} {x : V} (h : (intsV ns)[i]? = some x) : ∃ n, ns[i]? = some n ∧ x = .int (n : Nat) := by
  unfold intsV at h
  rw [List.getElem?_map] at h
  cases e : ns[i]? with
  | none => rw [e] at h; cases h
  | some n => rw [e] at h; exact ⟨n, rfl, (Option.some.inj h).symm⟩
theorem r_code {K : PySem.W.Frag} {vs : List V} {H : Hp} {Q : VK} {E : XK} (h : sp_code K vs H Q E) : t_code K { nx := fun _ H' => Q .non H', rt := Q } (start N_code vs) H := by
  obtain ⟨st, m, n, k, rfl, S, hk, m1, ml, n1, nl, q⟩ := h
  refine ⟨_, rfl, st, 4, k, rfl, S, by omega, by decide, by decide, fun a H1 a0 a1 S1 B1 => .inl ⟨_, _, rfl, rfl, ?_⟩⟩
  refine ⟨_, rfl, st, 16, k + 1, rfl, S1, by omega, by decide, by decide, fun b H2 b0 b1 S2 B2 => .inl ⟨_, _, rfl, rfl, ?_⟩⟩
  refine ⟨(by show 2 ≤ sizeLine; decide), fun L1 n3 => ?_⟩
  obtain ⟨ys2, hs2⟩ := S2.lst
  have nL1 : L1 ≠ st := fun z => by rw [z, hs2] at n3; cases n3
  refine ⟨_, rfl, st, 2, k + 2, rfl, S2.new n3, by omega, by decide, by decide, fun c H3 c0 c1 S3 B3 => ?_⟩
  have h3 := B3 L1 _ nL1 upd_same
  have B : But st H H3 := ((B1.trans B2).new n3).trans B3
  have main : ∀ pl : Nat, 1 ≤ pl → pl ≤ 16 → t_code_2 K { nx := fun _ H' => Q .non H', rt := Q } [some (.ref st), some (.int (m : Nat)), some (.int (n : Nat)), some (.int (pl : Nat)), none] H3 := fun pl pl1 pl16 => by
    refine ⟨_, rfl, _, rfl, by omega, by omega, fun L hL => ?_⟩
    obtain ⟨ys3, hs3⟩ := S3.lst
    have nL : L ≠ st := fun z => by rw [z, hs3] at hL; cases hL
    have HL : H L = none := B.free nL hL
    refine comp_range (fun i σ' H' => ∃ (cs : List Nat) (o : Option V), σ' = [some (.ref st), some (.int (m : Nat)), some (.int (n : Nat)), some (.int (pl : Nat)), none, o] ∧ H' L = some (.lst (intsV cs)) ∧ cs.length = i ∧ (∀ c ∈ cs, c ≤ 4) ∧ Stt K H' st (k + 3 + i) ∧ But st H H') ?_ ?_ ?_
    · exact ⟨[], none, rfl, upd_same, rfl, by simp, S3.new hL, B.new hL⟩
    · rintro i σ' H' hi ⟨cs, o, rfl, hl, cl, c4, S', B'⟩
      have hi : i < n := by simpa using hi
      refine app_yes ⟨_, rfl, st, 5, k + 3 + i, rfl, S', by omega, by decide, by decide, fun x H4 x0 x1 S4 B4 => ?_⟩
      have h4 := B4 L _ nL hl
      obtain ⟨y, rfl⟩ : ∃ y : Nat, x = (y : Int) := ⟨x.toNat, by omega⟩
      refine ⟨_, h4, smallL (by rw [intsV_len]; omega), cs ++ [y], _, rfl, ?_, by simp [cl], fun z hz => ?_, S4.mono .upd_at h4 (Ne.symm nL), But.past (B'.trans B4) HL .upd_at⟩
      · rw [upd_same]; unfold intsV; rw [List.map_append]; rfl
      · rcases List.mem_append.mp hz with w | w
        · exact c4 z w
        · rw [List.mem_singleton.mp w]; omega
    · rintro σ' H4 ⟨cs, o, _, hl, cl, c4, S4, B4⟩
      have cl : cs.length = n := by simpa using cl
      have csne : cs ≠ [] := fun z => by rw [z] at cl; simp at cl; omega
      have S4 : Stt K H4 st (k + 3 + n) := by simpa using S4
      show t_code_1 K _ [some (.ref st), some (.int (m : Nat)), some (.int (n : Nat)), some (.int (pl : Nat)), some (.ref L)] H4
      refine ⟨_, rfl, .inl ⟨_, rfl, L, rfl, ⟨_, SqL.of hl⟩, fun D hD => ?_⟩⟩
      obtain ⟨ys4, hs4⟩ := S4.lst
      have nD : D ≠ st := fun z => by rw [z, hs4] at hD; cases hD
      have HD : H D = none := B4.free nD hD
      have nLD : L ≠ D := ne_of_none hl hD
      refine comp_list (xs := intsV cs) (fun i σ' H' => ∃ (pvs : List V) (ps : List CPart) (k' : Nat) (o : Option V), σ' = [some (.ref st), some (.int (m : Nat)), some (.int (n : Nat)), some (.int (pl : Nat)), some (.ref L), o] ∧ H' L = some (.lst (intsV cs)) ∧ H' D = some (.lst pvs) ∧ AllAt (CPartAt H') pvs ps ∧
        ps.map (·.1) = (cs.take i).map (fun (c : Nat) => ((c : Nat) : Int)) ∧ (∀ b ∈ ps, 1 ≤ b.2.length ∧ b.2.length ≤ m ∧ (∀ r ∈ b.2, MadeRow pl b.2.length cs r) ∧ b.2.getLast?.map cEnd = some true ∧ NoRingC b.2) ∧ Stt K H' st k' ∧ k' ≤ k + 3 + n + 2000 * i ∧ But st H H') ?_ ?_ ?_ ?_
      · exact ⟨[], [], _, none, rfl, by rw [upd_ne nLD]; exact hl, upd_same, .nil, by simp, by simp, S4.new hD, by omega, B4.new hD⟩
      · rintro i σ' H' _ ⟨pvs, ps, k', o, _, hl', _⟩
        exact SqL.of hl'
      · rintro i x σ' H' hx ⟨pvs, ps, k', o, rfl, hl', hD', hA', pm, pok, S', hk', B'⟩
        obtain ⟨ct, hct, rfl⟩ := intsV_of' hx
        have il : i < cs.length := (List.getElem?_eq_some_iff.mp hct).1
        refine app_yes ⟨_, rfl, _, rfl, _, rfl, _, rfl, _, rfl, st, L, pl, m, k', cs, rfl, S', by omega, pl1, pl16, m1, ml, hl', csne, by omega, c4, nL, fun p rvs rs k5 H5 hp hA hr1 hr2 hm hlast hring S5 l5 B5 => ⟨(by show 2 ≤ sizeLine; decide), fun t ht => ?_⟩⟩
        have t5 : Tp H' H5 := by obtain ⟨_, e⟩ := S'.lst; exact .of_but B5 e
        have hD5 := B5 D _ nD hD'
        have hD6 : upd H5 t (.tup [.int (ct : Nat), .ref p]) D = some (.lst pvs) := by rw [upd_ne (ne_of_none hD5 ht)]; exact hD5
        have hL6 : upd H5 t (.tup [.int (ct : Nat), .ref p]) L = some (.lst (intsV cs)) := by rw [upd_ne (ne_of_none (B5 L _ nL hl') ht)]; exact B5 L _ nL hl'
        have t6 : Tp H5 (upd H5 t (.tup [.int (ct : Nat), .ref p])) := (Tp.refl H5).new ht
        have t7 : Tp (upd H5 t (.tup [.int (ct : Nat), .ref p])) (upd (upd H5 t (.tup [.int (ct : Nat), .ref p])) D (.lst (pvs ++ [.ref t]))) := (Tp.refl _).lst hD6
        have pl' : ps.length = i := by
          have := congrArg List.length pm
          simpa [List.length_take, Nat.min_eq_left (Nat.le_of_lt il)] using this
        refine ⟨_, hD6, smallL (by rw [hA'.len]; omega), pvs ++ [.ref t], ps ++ [(((ct : Nat) : Int), rs)], k5, _, rfl, by rw [upd_ne nLD]; exact hL6, upd_same, ?_, ?_, fun b hb => ?_, (S5.new ht).mono .upd_at hD6 (Ne.symm nD), by omega, But.past ((B'.trans B5).new ht) HD .upd_at⟩
        · exact ((hA'.imp fun _ _ z => z.mono (t5.trans (t6.trans t7)))).snoc (r := (((ct : Nat) : Int), rs)) ⟨t, p, rvs, rfl, t7 _ _ upd_same, t7 _ _ (t6 _ _ hp), hA.imp fun _ _ z => z.mono (t6.trans t7)⟩
        · rw [List.map_append, pm, List.take_add_one, hct, List.map_append]; rfl
        · rcases List.mem_append.mp hb with z | z
          · exact pok b z
          · rw [List.mem_singleton.mp z]; exact ⟨hr1, hr2, hm, hlast, hring⟩
      · rintro σ' H5 ⟨pvs, ps, k', o, _, hl', hD', hA', pm, pok, S', hk', B'⟩
        rw [intsV_len] at hk' pm
        rw [List.take_length] at pm
        refine ⟨D, pvs, rfl, .inl ⟨SqL.of hD', fun t ht => ?_⟩⟩
        refine ⟨(by show 2 ≤ sizeLine; decide), fun t2 ht2 => ?_⟩
        have tt : Tp H5 (upd (upd H5 t (.tup pvs)) t2 (.tup [.int (pl : Nat), .ref t])) := ((Tp.refl H5).new ht).new ht2
        have plen : ps.length = n := by have := congrArg List.length pm; simp at this; omega
        refine q _ (((pl : Nat) : Int), ps) k' _ ⟨t2, t, pvs, rfl, upd_same, (Same.refl _).new ht2 _ _ upd_same, hA'.imp fun _ _ z => z.mono tt⟩ ⟨⟨⟨by show (1 : Int) ≤ (pl : Nat); omega, by show ((pl : Nat) : Int) ≤ 16; omega⟩, fun b hb => ?_⟩, plen, fun b hb => ⟨(pok b hb).1, (pok b hb).2.1⟩, fun b hb r hr => made_ats c4 ((pok b hb).2.2.1 r hr)⟩ ((S'.new ht).new ht2) ?_ ((B'.new ht).new ht2)
        · obtain ⟨p1, p2, p3, p4, p5⟩ := pok b hb
          refine ⟨?_, fun z => by rw [z] at p1; simp at p1, p4, made_fits pm p3, p5⟩
          have hb1 : b.1 ∈ ps.map (·.1) := List.mem_map.mpr ⟨b, hb, rfl⟩
          rw [pm] at hb1
          obtain ⟨c, hc, e⟩ := List.mem_map.mp hb1
          have := c4 c hc
          rw [← e]
          exact ⟨by omega, by omega⟩
        · have : 2000 * cs.length ≤ 2000 * 10 := Nat.mul_le_mul_left _ (by omega)
          omega
  rcases (by omega : c = 0 ∨ c = 1) with rfl | rfl
  · refine ixL (SqL.of h3) (by decide) rfl ?_
    have := main (1 + a.toNat) (by omega) (by omega)
    have e : ((1 + a.toNat : Nat) : Int) = 1 + a := by omega
    rw [e] at this
    exact this
  · refine ixL (SqL.of h3) (by decide) rfl ?_
    have := main (1 + b.toNat) (by omega) (by omega)
    have e : ((1 + b.toNat : Nat) : Int) = 1 + b := by omega
    rw [e] at this
    exact this
end Bg
end
section
set_option Elab.async false
set_option linter.all false
set_option maxRecDepth 100000
set_option maxHeartbeats 4000000
namespace Bg
open PySem L2
def badI (b i : Int) : Bool := decide (i < 0) || decide (b ≤ i)
theorem ftake {α : Type} (p : α → Bool) : ∀ (xs : List α) (j : Nat) (x : α), xs[j]? = some x → (xs.take (j + 1)).filter p = (xs.take j).filter p ++ (if p x = true then [x] else []) := fun xs j x h => by
  rw [List.take_add_one, h, List.filter_append]
  congr 1
  cases e : p x with
  | true => simp [e]
  | false => simp [e]
theorem comp_bad {K : PySem.W.Frag} {c r mv a3 a4 : Option V} {a D : Addr} {X : List Int} {b : Int} {tb : TE} {H : Hp} {R : Hp → Prop}
    (hX : H a = some (.lst (X.map V.int))) (few : X.length ≤ 1000) (hD : H D = none)
    (htb : ∀ (o : Option V) (H' : Hp) (Q' : VK), Same H H' → Q' (.int b) H' → tb [c, r, mv, a3, a4, o] H' Q')
    (q : ∀ (H' : Hp), H' D = some (.lst ((X.filter (badI b)).map V.int)) → Same H H' → R H') :
    ∃ W : Nat → Nat → St → Hp → Prop, (∃ m, W 0 m (emS [] 1 [c, r, mv, a3, a4]) (upd H D (.lst []))) ∧ ∀ i m σ H, W i m σ H →
      ((Itl K a).stop i H ∧ R H) ∨ ((Itl K a).go i H ∧ ∃ N : St → Hp → Prop, (∀ σ' H', N σ' H' → ∃ m', m' < m ∧ W (i + 1) m' σ' H') ∧ ∀ x H', (Itl K a).yld i H x H' → gName 5 x σ H' fun σ2 H2 => sApp D (tOr (tTest (tOp rLt2 (tVar 5) (tC (.int 0)))) (tTest (tOp rGe2 (tVar 5) tb))) (tVar 5) { nx := N, rt := fun _ _ => False, ct := N, bk := fun _ H' => R H' } σ2 H2) := by
  have na : a ≠ D := ne_of_none hX hD
  refine comp_list (xs := X.map V.int) (fun j σ' H' => ∃ o, σ' = [c, r, mv, a3, a4, o] ∧ H' D = some (.lst (((X.take j).filter (badI b)).map V.int)) ∧ Same H H') ?_ ?_ ?_ ?_
  · exact ⟨none, rfl, upd_same, (Same.refl H).new hD⟩
  · rintro j σ' H' _ ⟨o, _, _, s'⟩
    exact SqL.of (s' _ _ hX)
  · rintro j x σ' H' hx ⟨o, rfl, hl, s'⟩
    obtain ⟨z, hz, rfl⟩ := ints_get hx
    have jl : j < X.length := (List.getElem?_eq_some_iff.mp hz).1
    have ft := ftake (badI b) X j z hz
    have fl : ((X.take j).filter (badI b)).length ≤ 1000 := Nat.le_trans (List.length_filter_le _ _) (by rw [List.length_take]; omega)
    have yes : badI b z = true → (∃ ys, H' D = some (.lst ys) ∧ ys.length < sizeLine ∧ ∃ o, ([c, r, mv, a3, a4, some (.int z)] : St) = [c, r, mv, a3, a4, o] ∧ (upd H' D (.lst (ys ++ [.int z]))) D = some (.lst (((X.take (j + 1)).filter (badI b)).map V.int)) ∧ Same H (upd H' D (.lst (ys ++ [.int z])))) := fun hb => by
      refine ⟨_, hl, smallL (by rw [List.length_map]; omega), _, rfl, ?_, fun e u he => ?_⟩
      · rw [upd_same, ft, if_pos hb, List.map_append]; rfl
      · rw [upd_ne (ne_of_none he hD)]; exact s' e u he
    refine ⟨_, rfl, _, _, rfl, rfl, _, rfl, if_dec (fun h0 => ?_) (fun h0 => ?_)⟩
    · exact iteT ⟨_, rfl, yes (by unfold badI; rw [decide_eq_true h0]; rfl)⟩
    · refine ⟨_, rfl, htb _ _ _ s' ⟨_, _, rfl, rfl, _, rfl, if_dec (fun h1 => ?_) (fun h1 => ?_)⟩⟩
      · exact ⟨_, rfl, yes (by unfold badI; rw [decide_eq_true h1]; simp)⟩
      · refine ⟨_, rfl, ?_, s'⟩
        have hb : ¬ badI b z = true := by unfold badI; rw [decide_eq_false h0, decide_eq_false h1]; decide
        rw [ft, if_neg hb, List.append_nil]; exact hl
  · rintro σ' H2 ⟨o, _, hl, s2⟩
    rw [List.length_map, List.take_length] at hl
    exact q H2 hl s2
theorem eqVs_nil (xs : List V) : eqVs xs [] = xs.isEmpty := by
  unfold eqVs
  cases xs <;> simp
theorem flat_intL (ns : List Int) : (ns.map V.int).all flatV = true := by
  rw [List.all_eq_true]
  intro v hv
  obtain ⟨y, _, rfl⟩ := List.mem_map.mp hv
  rfl
theorem bad_none {X : List Int} {b : Int} : (X.filter (badI b)).isEmpty = true ↔ ∀ i ∈ X, 0 ≤ i ∧ i < b := by
  rw [List.isEmpty_iff, List.filter_eq_nil_iff]
  constructor
  · intro h i hi
    have := h i hi
    unfold badI at this
    rw [Bool.or_eq_true, decide_eq_true_eq, decide_eq_true_eq] at this
    omega
  · intro h i hi
    have := h i hi
    unfold badI
    rw [Bool.or_eq_true, decide_eq_true_eq, decide_eq_true_eq]
    omega
def goalsL (r : CRow) : List Int := match cgoal r with
  | some to => [to]
  | none => []
theorem goals_iff {r : CRow} {n : Nat} : (∀ i ∈ goalsL r, 0 ≤ i ∧ i < (n : Int)) ↔ ∀ to, cgoal r = some to → 0 ≤ to ∧ to < n := by
  unfold goalsL
  cases e : cgoal r with
  | none => exact ⟨fun _ to z => by (cases z), fun _ i hi => by (cases hi)⟩
  | some t => exact ⟨fun h to z => by cases z; exact h t List.mem_cons_self, fun h i hi => by rw [List.mem_singleton.mp hi]; exact h t rfl⟩
theorem r_row_fits {K : PySem.W.Frag} {vs : List V} {H : Hp} {Q : VK} {E : XK} (h : sp_row_fits K vs H Q E) : t_row_fits K { nx := fun _ H' => Q .non H', rt := Q } (start N_row_fits vs) H := by
  obtain ⟨v, w, c, r, n, rfl, hc, hr, few, q⟩ := h
  obtain ⟨cp, cq, pvs, rfl, hcp, hcq, hA⟩ := hc
  refine ⟨(by show 0 ≤ sizeLine; decide), fun A3 n3 => ?_⟩
  refine ⟨(by show 0 ≤ sizeLine; decide), fun A4 n4 => ?_⟩
  have s1 : Same H (upd (upd H A3 (.lst [])) A4 (.lst [])) := ((Same.refl H).new n3).new n4
  have h3 : upd (upd H A3 (.lst [])) A4 (.lst []) A3 = some (.lst (([] : List Int).map V.int)) := (Same.refl _).new n4 _ _ upd_same
  have h4 : upd (upd H A3 (.lst [])) A4 (.lst []) A4 = some (.lst (([] : List Int).map V.int)) := upd_same
  show t_row_fits_5 K _ [some (.ref cp), some w, some (.int (n : Nat)), some (.ref A3), some (.ref A4)] _
  generalize upd (upd H A3 (.lst [])) A4 (.lst []) = H1 at s1 h3 h4 ⊢
  have rest : ∀ (a3 a4 : Addr) (H2 : Hp), H2 a3 = some (.lst ((placesOf r).map V.int)) → H2 a4 = some (.lst ((goalsL r).map V.int)) → Same H H2 → (∀ k as, r = .call k as → CallFits c.2 k as) →
      t_row_fits_2 K { nx := fun _ H' => Q .non H', rt := Q } [some (.ref cp), some w, some (.int (n : Nat)), some (.ref a3), some (.ref a4)] H2 := fun a3 a4 H2 g3 g4 s2 hcall => by
    refine .inl ⟨_, rfl, a3, rfl, ⟨_, SqL.of g3⟩, fun D nD => comp_bad (b := c.1) g3 few nD (fun o H' Q' s' q' => ⟨_, rfl, ixT (s' _ _ (s2 _ _ hcp)) (by decide) rfl q'⟩) fun H3 hD s3 => ?_⟩
    refine ⟨(by show 0 ≤ sizeLine; decide), fun N nN => ?_⟩
    have s4 : Same H3 (upd H3 N (.lst [])) := (Same.refl H3).new nN
    refine .inr (.inr ⟨D, N, _, _, rfl, rfl, SqL.of (s4 _ _ hD), SqL.of upd_same, flat_intL _, rfl, _, rfl, ?_⟩)
    have S4 := (s2.trans s3).trans s4
    have ne : (if true = true then !eqVs ((List.filter (badI c.1) (placesOf r)).map V.int) [] else eqVs ((List.filter (badI c.1) (placesOf r)).map V.int) []) = !(List.filter (badI c.1) (placesOf r)).isEmpty := by
      rw [if_pos rfl, eqVs_nil]
      cases List.filter (badI c.1) (placesOf r) <;> rfl
    rw [ne]
    refine if_bl (fun e => ?_) (fun e => ?_)
    · refine q _ _ ⟨fun z => by (cases z), fun z => ?_⟩ S4
      have := bad_none.mpr z.1
      rw [this] at e; cases e
    · have pok := bad_none.mp (by simpa using e : (List.filter (badI c.1) (placesOf r)).isEmpty = true)
      have g4' := s4 _ _ (s3 _ _ g4)
      generalize upd H3 N (.lst []) = H4 at s4 S4 g4' ⊢
      refine .inl ⟨_, rfl, a4, rfl, ⟨_, SqL.of g4'⟩, fun D2 nD2 => comp_bad (b := (n : Int)) g4' (by unfold goalsL; cases cgoal r <;> simp) nD2 (fun o H' Q' s' q' => ⟨_, rfl, q'⟩) fun H5 hD2 s5 => ?_⟩
      refine ⟨(by show 0 ≤ sizeLine; decide), fun N2 nN2 => ?_⟩
      have s6 : Same H5 (upd H5 N2 (.lst [])) := (Same.refl H5).new nN2
      refine .inr (.inr (.inr ⟨D2, N2, _, _, rfl, rfl, SqL.of (s6 _ _ hD2), SqL.of upd_same, flat_intL _, rfl, ?_⟩))
      refine q _ _ ?_ ((S4.trans s5).trans s6)
      have eq2 : (if false = true then !eqVs ((List.filter (badI (n : Int)) (goalsL r)).map V.int) [] else eqVs ((List.filter (badI (n : Int)) (goalsL r)).map V.int) []) = (List.filter (badI (n : Int)) (goalsL r)).isEmpty := by
        rw [if_neg (by decide), eqVs_nil]
        cases List.filter (badI (n : Int)) (goalsL r) <;> rfl
      rw [eq2, bad_none, goals_iff]
      exact ⟨fun z => ⟨pok, z, hcall⟩, fun z => z.2.1⟩
  have noCall : (∀ k as, r ≠ .call k as) → ∀ k as, r = .call k as → CallFits c.2 k as := fun z k as e => absurd e (z k as)
  cases r with
  | op s i j =>
    obtain ⟨p, rfl, h⟩ := hr
    have hp := s1 _ _ h
    refine ⟨_, rfl, ixT hp (by decide) rfl (.inl ⟨rfl, _, rfl, yes ?_⟩)⟩
    refine ⟨_, rfl, ixT hp (by decide) rfl ⟨_, rfl, ixT hp (by decide) rfl ⟨(by show 2 ≤ sizeLine; decide), fun t ht => ?_⟩⟩⟩
    exact rest t A4 _ upd_same ((Same.refl H1).new ht _ _ h4) (s1.new ht) (fun k as e => by (cases e))
  | call k as =>
    obtain ⟨p, q1, rfl, h, hq1⟩ := hr
    have hp := s1 _ _ h
    have hcp1 := s1 _ _ hcp
    have hcq1 := s1 _ _ hcq
    have bad : ¬ CallFits c.2 k as → Q (.bl false) H1 := fun nf => q _ _ ⟨fun z => by (cases z), fun z => absurd (z.2.2 k as rfl) nf⟩ s1
    refine ⟨_, rfl, ixT hp (by decide) rfl (.inl ⟨rfl, _, rfl, no (by decide +kernel) ?_⟩)⟩
    refine ⟨_, rfl, ixT hp (by decide) rfl (.inl ⟨rfl, _, rfl, yes ?_⟩)⟩
    have good : CallFits c.2 k as → t_row_fits_3 K { nx := t_row_fits_2 K { nx := fun _ H' => Q .non H', rt := Q }, rt := Q } [some (.ref cp), some (.ref p), some (.int (n : Nat)), some (.ref A3), some (.ref A4)] H1 := fun cf => by
      refine ⟨_, rfl, ixT hp (by decide) rfl ⟨q1, _, rfl, .inr (SqT.of (s1 _ _ hq1)), fun t ht => ?_⟩⟩
      exact rest t A4 _ upd_same ((Same.refl H1).new ht _ _ h4) (s1.new ht) (fun k' as' e => by cases e; exact cf)
    refine ⟨_, rfl, ixT hp (by decide) rfl ⟨_, _, rfl, rfl, _, rfl, if_dec (fun k0 => ?_) (fun k0 => ?_)⟩⟩
    · refine ⟨_, rfl, ixT hcp1 (by decide) rfl ⟨_, _, rfl, .inr ⟨_, SqT.of hcq1, rfl⟩, _, _, rfl, rfl, _, rfl, ?_⟩⟩
      rw [hA.len]
      by_cases k1 : k < (c.2.length : Int)
      · rw [decide_eq_true k1]
        refine iteF ?_
        obtain ⟨wv, b, e1, e2, pt, rr, rvs, rfl, hpt, hrr, hR⟩ := hA.get (i := k.toNat) (by omega)
        refine ⟨_, rfl, ixT hcp1 (by decide) rfl ⟨_, rfl, ixT hp (by decide) rfl (ixT hcq1 k0 e1 (ixT (s1 _ _ hpt) (by decide) rfl ⟨_, rfl, ixT hp (by decide) rfl ⟨_, _, rfl, .inr ⟨_, SqT.of (s1 _ _ hq1), rfl⟩, .inl ⟨rfl, _, rfl, ?_⟩⟩⟩))⟩⟩
        rw [List.length_map]
        refine if_not (fun hne => bad fun z => ?_) (fun he => good ⟨k0, k1, fun b' hb' => ?_⟩)
        · have := z.2.2 b e2
          exact hne (by rw [this])
        · rw [e2] at hb'; cases hb'
          exact (V.int.inj he).symm
      · rw [decide_eq_false k1]
        exact iteT (bad fun z => k1 z.2.1)
    · exact ⟨_, rfl, iteT (bad fun z => k0 z.1)⟩
  | jump to =>
    obtain ⟨p, rfl, h⟩ := hr
    have hp := s1 _ _ h
    refine ⟨_, rfl, ixT hp (by decide) rfl (.inl ⟨rfl, _, rfl, no (by decide +kernel) ?_⟩)⟩
    refine ⟨_, rfl, ixT hp (by decide) rfl (.inl ⟨rfl, _, rfl, no (by decide +kernel) ?_⟩)⟩
    refine ⟨_, rfl, ixT hp (by decide) rfl (.inl ⟨rfl, _, rfl, yes ?_⟩)⟩
    refine ⟨_, rfl, ixT hp (by decide) rfl ⟨(by show 1 ≤ sizeLine; decide), fun t ht => ?_⟩⟩
    exact rest A3 t _ ((Same.refl H1).new ht _ _ h3) upd_same (s1.new ht) (fun k as e => by (cases e))
  | test i to =>
    obtain ⟨p, rfl, h⟩ := hr
    have hp := s1 _ _ h
    refine ⟨_, rfl, ixT hp (by decide) rfl (.inl ⟨rfl, _, rfl, no (by decide +kernel) ?_⟩)⟩
    refine ⟨_, rfl, ixT hp (by decide) rfl (.inl ⟨rfl, _, rfl, no (by decide +kernel) ?_⟩)⟩
    refine ⟨_, rfl, ixT hp (by decide) rfl (.inl ⟨rfl, _, rfl, no (by decide +kernel) ?_⟩)⟩
    refine ⟨_, rfl, ixT hp (by decide) rfl (.inl ⟨rfl, _, rfl, yes ?_⟩)⟩
    refine ⟨_, rfl, ixT hp (by decide) rfl ⟨(by show 1 ≤ sizeLine; decide), fun t ht => ?_⟩⟩
    have hp2 : upd H1 t (.lst [.int i]) p = some (.tup [.str "test", .int i, .int to]) := (Same.refl H1).new ht _ _ hp
    refine ⟨_, rfl, ixT hp2 (by decide) rfl ⟨(by show 1 ≤ sizeLine; decide), fun t2 ht2 => ?_⟩⟩
    exact rest t t2 _ ((Same.refl _).new ht2 _ _ upd_same) upd_same ((s1.new ht).new ht2) (fun k as e => by (cases e))
  | num z =>
    obtain ⟨p, rfl, h⟩ := hr
    have hp := s1 _ _ h
    refine ⟨_, rfl, ixT hp (by decide) rfl (.inl ⟨rfl, _, rfl, no (by decide +kernel) ?_⟩)⟩
    refine ⟨_, rfl, ixT hp (by decide) rfl (.inl ⟨rfl, _, rfl, no (by decide +kernel) ?_⟩)⟩
    refine ⟨_, rfl, ixT hp (by decide) rfl (.inl ⟨rfl, _, rfl, no (by decide +kernel) ?_⟩)⟩
    refine ⟨_, rfl, ixT hp (by decide) rfl (.inl ⟨rfl, _, rfl, no (by decide +kernel) ?_⟩)⟩
    refine ⟨_, rfl, ixT hp (by decide) rfl (.inl ⟨rfl, _, rfl, if_not (fun z => absurd rfl z) (fun _ => ?_)⟩)⟩
    exact rest A3 A4 _ h3 h4 s1 (fun k as e => by (cases e))
  | keep i =>
    obtain ⟨p, rfl, h⟩ := hr
    have hp := s1 _ _ h
    refine ⟨_, rfl, ixT hp (by decide) rfl (.inl ⟨rfl, _, rfl, no (by decide +kernel) ?_⟩)⟩
    refine ⟨_, rfl, ixT hp (by decide) rfl (.inl ⟨rfl, _, rfl, no (by decide +kernel) ?_⟩)⟩
    refine ⟨_, rfl, ixT hp (by decide) rfl (.inl ⟨rfl, _, rfl, no (by decide +kernel) ?_⟩)⟩
    refine ⟨_, rfl, ixT hp (by decide) rfl (.inl ⟨rfl, _, rfl, no (by decide +kernel) ?_⟩)⟩
    refine ⟨_, rfl, ixT hp (by decide) rfl (.inl ⟨rfl, _, rfl, if_not (fun _ => ?_) (fun z => absurd z (by decide +kernel))⟩)⟩
    refine ⟨_, rfl, ixT hp (by decide) rfl ⟨(by show 1 ≤ sizeLine; decide), fun t ht => ?_⟩⟩
    exact rest t A4 _ upd_same ((Same.refl H1).new ht _ _ h4) (s1.new ht) (fun k as e => by (cases e))
  | say i =>
    obtain ⟨p, rfl, h⟩ := hr
    have hp := s1 _ _ h
    refine ⟨_, rfl, ixT hp (by decide) rfl (.inl ⟨rfl, _, rfl, no (by decide +kernel) ?_⟩)⟩
    refine ⟨_, rfl, ixT hp (by decide) rfl (.inl ⟨rfl, _, rfl, no (by decide +kernel) ?_⟩)⟩
    refine ⟨_, rfl, ixT hp (by decide) rfl (.inl ⟨rfl, _, rfl, no (by decide +kernel) ?_⟩)⟩
    refine ⟨_, rfl, ixT hp (by decide) rfl (.inl ⟨rfl, _, rfl, no (by decide +kernel) ?_⟩)⟩
    refine ⟨_, rfl, ixT hp (by decide) rfl (.inl ⟨rfl, _, rfl, if_not (fun _ => ?_) (fun z => absurd z (by decide +kernel))⟩)⟩
    refine ⟨_, rfl, ixT hp (by decide) rfl ⟨(by show 1 ≤ sizeLine; decide), fun t ht => ?_⟩⟩
    exact rest t A4 _ upd_same ((Same.refl H1).new ht _ _ h4) (s1.new ht) (fun k as e => by (cases e))
  | give i =>
    obtain ⟨p, rfl, h⟩ := hr
    have hp := s1 _ _ h
    refine ⟨_, rfl, ixT hp (by decide) rfl (.inl ⟨rfl, _, rfl, no (by decide +kernel) ?_⟩)⟩
    refine ⟨_, rfl, ixT hp (by decide) rfl (.inl ⟨rfl, _, rfl, no (by decide +kernel) ?_⟩)⟩
    refine ⟨_, rfl, ixT hp (by decide) rfl (.inl ⟨rfl, _, rfl, no (by decide +kernel) ?_⟩)⟩
    refine ⟨_, rfl, ixT hp (by decide) rfl (.inl ⟨rfl, _, rfl, no (by decide +kernel) ?_⟩)⟩
    refine ⟨_, rfl, ixT hp (by decide) rfl (.inl ⟨rfl, _, rfl, if_not (fun _ => ?_) (fun z => absurd z (by decide +kernel))⟩)⟩
    refine ⟨_, rfl, ixT hp (by decide) rfl ⟨(by show 1 ≤ sizeLine; decide), fun t ht => ?_⟩⟩
    exact rest t A4 _ upd_same ((Same.refl H1).new ht _ _ h4) (s1.new ht) (fun k as e => by (cases e))
theorem any_take {P : Nat → Prop} {n : Nat} {bs : List Bool} (hl : bs.length = n) (h : ∀ (i : Nat) b, bs[i]? = some b → (b = true ↔ P i)) : bs.any id = true ↔ ∃ i, i < n ∧ P i := by
  rw [List.any_eq_true]
  constructor
  · rintro ⟨b, hb, e⟩
    obtain ⟨i, hi, e2⟩ := List.mem_iff_getElem.mp hb
    exact ⟨i, by omega, (h i b (by rw [List.getElem?_eq_getElem hi, e2])).mp e⟩
  · rintro ⟨i, hi, p⟩
    have hb : i < bs.length := by omega
    exact ⟨bs[i], List.getElem_mem hb, (h i bs[i] (List.getElem?_eq_getElem hb)).mpr p⟩
theorem r_fits {K : PySem.W.Frag} {vs : List V} {H : Hp} {Q : VK} {E : XK} (h : sp_fits K vs H Q E) : t_fits K { nx := fun _ H' => Q .non H', rt := Q } (start N_fits vs) H := by
  obtain ⟨v, c, rfl, hc, few, q⟩ := h
  have hc' := hc
  obtain ⟨cp, cq, pvs, rfl, hcp, hcq, hA⟩ := hc
  have bad : ∀ H', Same H H' → ¬ Fits c → Q (.bl false) H' := fun H' s' nf => q _ _ ⟨fun z => by (cases z), fun z => absurd z nf⟩ s'
  refine ⟨_, rfl, ixT hcp (by decide) rfl ⟨_, _, rfl, rfl, _, rfl, if_dec (fun h => bad H (Same.refl H) fun z => by have := z.1.1; omega) (fun h0 => ?_)⟩⟩
  refine ⟨_, rfl, ixT hcp (by decide) rfl ⟨_, _, rfl, rfl, _, rfl, if_dec (fun h => bad H (Same.refl H) fun z => by have := z.1.2; omega) (fun h4 => ?_)⟩⟩
  refine .inr ⟨_, rfl, ixT hcp (by decide) rfl ⟨cq, rfl, ⟨_, SqT.of hcq⟩, for_tup (xs := pvs) (fun i σ' H' => ∃ o1 o2, σ' = [some (.ref cp), o1, o2] ∧ (∀ (j : Nat) b, j < i → c.2[j]? = some b → PartFits c.1 c.2 b) ∧ Same H H') ⟨_, _, rfl, fun j b hj => by omega, Same.refl H⟩ ?_ ?_ ?_⟩⟩
  · rintro i σ' H' _ ⟨_, _, _, _, s'⟩; exact SqT.of (s' _ _ hcq)
  · rintro i x σ' H1 hx ⟨o1, o2, rfl, ok, s1⟩
    obtain ⟨b, hbm, pt, rt, rvs, rfl, hpt, hrt, hR⟩ := hA.of_v hx
    have mem := List.mem_of_getElem? hbm
    have nof : ∀ H', Same H H' → ¬ PartFits c.1 c.2 b → Q (.bl false) H' := fun H' s' nf => bad H' s' fun z => nf (z.2 b mem)
    refine ⟨pt, _, rfl, SqT.of (s1 _ _ hpt), rfl, _, _, rfl, _, _, rfl, rfl, ?_⟩
    show t_fits_4 K _ [some (.ref cp), some (.int b.1), some (.ref rt)] H1
    refine ⟨_, rfl, _, _, rfl, rfl, _, rfl, if_dec (fun h => nof H1 s1 fun z => by have := z.1.1; omega) (fun h0' => ?_)⟩
    refine ⟨_, rfl, _, _, rfl, rfl, _, rfl, if_dec (fun h => nof H1 s1 fun z => by have := z.1.2; omega) (fun h4' => ?_)⟩
    refine ⟨_, rfl, (by show 0 ≤ sizeLine; decide), fun t ht => .inl ⟨rt, t, rvs, rfl, rfl, SqT.of ((s1.new ht) _ _ hrt), SqT.of upd_same, _, rfl, if_dec (fun h => nof _ (s1.new ht) fun z => ?_) (fun hne => ?_)⟩⟩
    · exact z.2.1 (List.length_eq_zero_iff.mp (by rw [← hR.len, h]; rfl))
    have ne : b.2 ≠ [] := fun z => hne (List.length_eq_zero_iff.mp (by rw [hR.len, z]; rfl))
    have s2 : Same H (upd H1 t (.tup [])) := s1.new ht
    generalize upd H1 t (.tup []) = H2 at s2 ⊢
    have hR2 := hR.imp fun _ _ z => z.mono (Tp.of_same s2)
    obtain ⟨lv, lr, l1, l2, l3⟩ := last_at hR2 ne
    obtain ⟨lp, lxs, rfl, hlp⟩ := l3.ref
    refine ⟨_, rfl, _, rfl, ixT1 (s2 _ _ hrt) l1 (ixT hlp (by decide) rfl ⟨(by show 2 ≤ sizeLine; decide), fun t ht => ⟨t, _, rfl, .inr (SqT.of upd_same), rfl, rfl, _, rfl, ?_⟩⟩)⟩
    have s3 : Same H (upd H2 t (.tup [.str "jump", .str "give"])) := s2.new ht
    generalize upd H2 t (.tup [.str "jump", .str "give"]) = H3 at s3 ⊢
    refine if_bl (fun hb => nof H3 s3 fun z => ?_) (fun hb => ?_)
    · have e : cEnd lr = false := by rw [← in_endC]; simpa using hb
      have z' := z.2.2.1
      rw [l2] at z'
      have z'' : cEnd lr = true := Option.some.inj z'
      rw [e] at z''; cases z''
    have eEnd : cEnd lr = true := by rw [← in_endC]; simpa using hb
    have hlast : b.2.getLast?.map cEnd = some true := by rw [l2]; exact congrArg some eEnd
    show t_fits_3 K _ [some (.ref cp), some (.int b.1), some (.ref rt)] H3
    refine .inr ⟨_, rfl, rt, rfl, ⟨_, SqT.of (s3 _ _ hrt)⟩, fun L hL => ?_⟩
    refine comp_tup (xs := rvs) (fun j σ' H' => ∃ (bs : List Bool) (o : Option V), σ' = [some (.ref cp), some (.int b.1), some (.ref rt), o] ∧ H' L = some (.lst (bs.map V.bl)) ∧ bs.length = j ∧ (∀ (i : Nat) x d, b.2[i]? = some x → bs[i]? = some d → (d = true ↔ RowFits c.1 c.2 b.2.length x)) ∧ Same H3 H') ?_ ?_ ?_ ?_
    · exact ⟨[], none, rfl, upd_same, rfl, fun i x b _ hb => by simp at hb, (Same.refl H3).new hL⟩
    · rintro j σ' H' _ ⟨bs, o, _, _, _, _, s'⟩
      exact SqT.of (s' _ _ (s3 _ _ hrt))
    · rintro j x σ' H' hx ⟨bs, o, rfl, hl, bl, hb', s'⟩
      obtain ⟨r, hr, hra⟩ := hR.of_v hx
      have jl : j < b.2.length := (List.getElem?_eq_some_iff.mp hr).1
      have S' := s3.trans s'
      have fr := few.rows b mem
      refine app_yes ⟨_, rfl, _, rfl, _, rfl, _, _, rfl, .inr ⟨_, SqT.of (S' _ _ hrt), rfl⟩, .ref cp, x, c, r, rvs.length, rfl, hc'.mono (.of_same S'), hra.mono (.of_same S'), few.ats b mem r (List.mem_of_getElem? hr), fun d H4 hd s4 => ?_⟩
      rw [hR.len] at hd
      refine ⟨_, s4 _ _ hl, smallL (by rw [List.length_map]; omega), bs ++ [d], _, rfl, ?_, by simp [bl], fun i y b' hy hb2 => ?_, ?_⟩
      · rw [upd_same, List.map_append]; rfl
      · rcases snoc_get hb2 with ⟨_, w⟩ | ⟨e, rfl⟩
        · exact hb' i y b' hy w
        · rw [e, bl, hr] at hy; cases hy; exact hd
      · intro b' u hb2
        rw [upd_ne (ne_of_none hb2 hL)]; exact s4 _ _ (s' b' u hb2)
    · rintro σ' H4 ⟨bs, o, _, hl, bl, hb', s4⟩
      rw [hR.len] at bl
      have S4 := s3.trans s4
      refine ⟨L, bs, rfl, SqL.of hl, _, rfl, ?_⟩
      have allIff := all_take bl hb'
      refine if_bl (fun e => nof H4 S4 fun z => ?_) (fun e => ?_)
      · have e' : bs.all id = false := by simpa using e
        have := allIff.mpr z.2.2.2.1
        rw [e'] at this; cases this
      have e' : bs.all id = true := by simpa using e
      have rok := allIff.mp e'
      have cl : Closed b.2 := ⟨hlast, fun r hr to ht => (rok r hr).2.1 to ht⟩
      have hR4 := hR.imp fun _ _ z => z.mono (Tp.of_same S4)
      show t_fits_2 K _ [some (.ref cp), some (.int b.1), some (.ref rt)] H4
      refine ⟨_, rfl, _, _, rfl, .inr ⟨_, SqT.of (S4 _ _ hrt), rfl⟩, _, rfl, by omega, by rw [hR.len]; have := few.rows b mem; omega, fun L2 hL2 => ?_⟩
      rw [hR.len]
      refine comp_range (n := b.2.length) (fun j σ' H' => ∃ (ds : List Bool) (o : Option V), σ' = [some (.ref cp), some (.int b.1), some (.ref rt), o] ∧ H' L2 = some (.lst (ds.map V.bl)) ∧ ds.length = j ∧ (∀ (i : Nat) d, ds[i]? = some d → (d = true ↔ silC b.2 (itr (stpC b.2) b.2.length i) = true)) ∧ Same H4 H') ?_ ?_ ?_
      · exact ⟨[], none, rfl, upd_same, rfl, fun i b hb => by simp at hb, (Same.refl H4).new hL2⟩
      · rintro j σ' H' hj ⟨ds, o, rfl, hl2, dl, hd', s'⟩
        have hj : j < b.2.length := hj
        have fr := few.rows b mem
        have S' := S4.trans s'
        have e0 : (0 : Int) + (j : Int) = ((j : Nat) : Int) := by omega
        rw [e0]
        refine app_yes ⟨_, rfl, _, rfl, rt, j, rvs, b.2, rfl, .inr (S' _ _ hrt), hR.imp fun _ _ z => z.mono (Tp.of_same S'), hj, cl, fun H5 s5 => ?_⟩
        refine ⟨_, s5 _ _ hl2, smallL (by rw [List.length_map]; omega), ds ++ [silC b.2 (itr (stpC b.2) b.2.length j)], _, rfl, ?_, by simp [dl], fun i b' hb2 => ?_, ?_⟩
        · rw [upd_same, List.map_append]; rfl
        · rcases snoc_get hb2 with ⟨_, w⟩ | ⟨e, rfl⟩
          · exact hd' i b' w
          · rw [e, dl]
        · intro b' u hb2
          rw [upd_ne (ne_of_none hb2 hL2)]; exact s5 _ _ (s' b' u hb2)
      · rintro σ' H5 ⟨ds, o, _, hl2, dl, hd', s5⟩
        have S5 := S4.trans s5
        refine ⟨L2, ds, rfl, SqL.of hl2, _, rfl, ?_⟩
        have anyIff := any_take dl hd'
        refine if_bl (fun e => nof H5 S5 fun z => ?_) (fun e => ?_)
        · obtain ⟨i, hi, si⟩ := anyIff.mp e
          rw [z.2.2.2.2 i hi] at si; cases si
        · have nr : NoRingC b.2 := fun i hi => by
            cases si : silC b.2 (itr (stpC b.2) b.2.length i) with
            | false => rfl
            | true =>
              have := anyIff.mpr ⟨i, hi, si⟩
              rw [e] at this; cases this
          refine ⟨_, _, rfl, fun j b' hj hb2 => ?_, S5⟩
          by_cases ej : j = i
          · subst ej
            rw [hbm] at hb2; cases hb2
            exact ⟨⟨by omega, by omega⟩, ne, hlast, rok, nr⟩
          · exact ok j b' (by omega) hb2
  · rintro σ' H1 ⟨o1, o2, rfl, ok, s1⟩
    rw [hA.len] at ok
    refine q _ _ ⟨fun _ => ⟨⟨by omega, by omega⟩, fun b hb => ?_⟩, fun _ => rfl⟩ s1
    obtain ⟨j, hj, e⟩ := List.mem_iff_getElem.mp hb
    exact ok j b hj (by rw [List.getElem?_eq_getElem hj, e])
end Bg
end
section
set_option Elab.async false
set_option linter.all false
set_option maxRecDepth 100000
set_option maxHeartbeats 4000000
namespace Bg
open PySem L2
end Bg
end
section
set_option Elab.async false
set_option linter.all false
set_option maxRecDepth 100000
set_option maxHeartbeats 4000000
namespace Bg
open PySem PySem.Spec PyProof.Rows L2
end Bg
end
section
set_option Elab.async false
set_option linter.all false
set_option maxRecDepth 100000
set_option maxHeartbeats 4000000
namespace Bg
open PySem L2
theorem cut_last {xs : List V} (h : xs ≠ []) : cutV xs none (some (-1)) = xs.dropLast := by
  have hl : 0 < xs.length := List.length_pos_iff.mpr h
  have e : HT.sIx xs.length xs.length (some (-1)) = xs.length - 1 := by
    show (if (-1 : Int) < 0 then ((-1 : Int) + (xs.length : Int)).toNat else min (-1 : Int).toNat xs.length) = xs.length - 1
    rw [if_pos (by decide)]; omega
  unfold cutV
  rw [HT.sIx_none, e, List.drop_zero, Nat.sub_zero, List.dropLast_eq_take]
end Bg
end
section
set_option Elab.async false
set_option linter.all false
set_option maxRecDepth 100000
set_option maxHeartbeats 4000000
namespace Bg
open PySem L2
theorem r_other {K : PySem.W.Frag} {vs : List V} {H : Hp} {Q : VK} {E : XK} (h : sp_other K vs H Q E) : t_other K { nx := fun _ H' => Q .non H', rt := Q } (start N_other vs) H := by
  obtain ⟨st, a, b, k, rfl, S, hk, q⟩ := h
  refine ⟨_, rfl, .inl ⟨_, _, rfl, rfl, _, rfl, _, _, rfl, rfl, _, rfl, _, rfl, _, _, rfl, rfl, _, rfl, ?_⟩⟩
  refine ⟨_, rfl, st, 70, k, rfl, S, by omega, by decide, by decide, fun d H1 d0 d1 S1 B1 => ?_⟩
  refine ⟨_, _, rfl, rfl, ⟨by decide, by decide, by decide⟩, (by show 8 ≤ sizeLine; decide), fun L hL => ?_⟩
  obtain ⟨ys1, hs1⟩ := S1.lst
  have nL : L ≠ st := fun z => by rw [z, hs1] at hL; cases hL
  refine ⟨_, rfl, st, 8, k + 1, rfl, S1.new hL, by omega, by decide, by decide, fun c H2 c0 c1 S2 B2 => ?_⟩
  have h2 := B2 L _ nL upd_same
  have B : But st H H2 := (B1.new hL).trans B2
  rcases (by omega : c = 0 ∨ c = 1 ∨ c = 2 ∨ c = 3 ∨ c = 4 ∨ c = 5 ∨ c = 6 ∨ c = 7) with rfl | rfl | rfl | rfl | rfl | rfl | rfl | rfl
  all_goals exact ixL (SqL.of h2) (by decide) rfl (q _ _ H2 S2 (by omega) B)
theorem splice {K : PySem.W.Frag} {σ : St} {H : Hp} {Q : VK} {rt st : Addr} {rvs : List V} {i sr sa : Nat} {tx : TE} {P : V → Hp → Prop} (hr : σ[sr]? = some (some (.ref rt))) (ha : σ[sa]? = some (some (.int (i : Nat)))) (h : H rt = some (.tup rvs)) (hl : i < rvs.length) (hz : rvs.length ≤ 1000) (nst : rt ≠ st) (hst : ∃ ys, H st = some (.lst ys))
    (htx : ∀ (H1 : Hp) (Q' : VK), Same H H1 → (∀ x H2, But st H1 H2 → P x H2 → Q' x H2) → tx σ H1 Q')
    (q : ∀ (p : Addr) (x : V) (H2 H3 : Hp), P x H2 → Same H2 H3 → But st H H3 → H3 p = some (.tup (rvs.set i x)) → Q (.ref p) H3) :
    tOp (rPlusW K) (tOp (rPlusW K) (tSl (rSlW K) (tVar sr) tNoPart (tPart (tVar sa))) (tTup (tCons tx tNil))) (tSl (rSlW K) (tVar sr) (tPart (tOp (rPlusW K) (tVar sa) (tC (.int 1)))) tNoPart) σ H Q := by
  obtain ⟨ys, hys⟩ := hst
  refine ⟨_, hr, _, ha, _, rfl, .inr (.inr ⟨rt, rvs, rfl, SqT.of h, ?_, fun p1 n1 => ?_⟩)⟩
  · rintro ⟨_, z⟩
    rw [HT.sIx_nat] at z; omega
  rw [cut_take]
  have s1 : Same H (upd H p1 (.tup (rvs.take i))) := (Same.refl H).new n1
  have g1 : upd H p1 (.tup (rvs.take i)) p1 = some (.tup (rvs.take i)) := upd_same
  have np1 : p1 ≠ st := fun z => by rw [z, hys] at n1; cases n1
  generalize upd H p1 (.tup (rvs.take i)) = H1 at s1 g1 ⊢
  refine htx H1 _ s1 fun x H2 B2 px => ⟨(by show 1 ≤ sizeLine; decide), fun t nt => ?_⟩
  have g2 := B2 p1 _ np1 g1
  have r2 := B2 rt _ nst (s1 _ _ h)
  have s3 : Same H2 (upd H2 t (.tup [x])) := (Same.refl H2).new nt
  have g3 := s3 _ _ g2
  have t3 : upd H2 t (.tup [x]) t = some (.tup [x]) := upd_same
  have B3 : But st H (upd H2 t (.tup [x])) := fun b u nb hb => s3 _ _ (B2 b u nb (s1 _ _ hb))
  generalize upd H2 t (.tup [x]) = H3 at s3 g3 t3 B3 ⊢
  have next : ∀ (u : Addr) (H4 : Hp), H4 u = some (.tup (rvs.take i ++ [x])) → Same H3 H4 → (tSl (rSlW K) (tVar sr) (tPart (tOp (rPlusW K) (tVar sa) (tC (.int 1)))) tNoPart) σ H4 fun y H5 => rPlusW K (.ref u) y H5 Q := fun u H4 g4 s4 => by
    have r4 := s4 _ _ (s3 _ _ r2)
    refine ⟨_, hr, _, ha, .inr (.inl ⟨_, _, rfl, rfl, _, rfl, .inr (.inr ⟨rt, rvs, rfl, SqT.of r4, ?_, fun p4 n4 => ?_⟩)⟩)⟩
    · have e : ((i : Nat) : Int) + 1 = ((i + 1 : Nat) : Int) := by omega
      rw [e, HT.sIx_nat]
      rintro ⟨z, _⟩
      omega
    have e : ((i : Nat) : Int) + 1 = ((i + 1 : Nat) : Int) := by omega
    rw [e, cut_drop]
    have s5 : Same H4 (upd H4 p4 (.tup (rvs.drop (i + 1)))) := (Same.refl H4).new n4
    have g5 := s5 _ _ g4
    have p5 : upd H4 p4 (.tup (rvs.drop (i + 1))) p4 = some (.tup (rvs.drop (i + 1))) := upd_same
    generalize upd H4 p4 (.tup (rvs.drop (i + 1))) = H5 at s5 g5 p5 ⊢
    have es : rvs.set i x = rvs.take i ++ [x] ++ rvs.drop (i + 1) := by
      rw [List.set_eq_take_append_cons_drop, if_pos hl, List.append_assoc]; rfl
    have B5 : But st H H5 := fun b u nb hb => s5 _ _ (s4 _ _ (B3 b u nb hb))
    have S5 : Same H2 H5 := (s3.trans s4).trans s5
    refine .inr (.inr (.inr (.inr ⟨u, p4, _, _, rfl, rfl, SqT.of g5, SqT.of p5, by simp, ?_, fun z => ?_, fun _ p6 n6 => ?_⟩)))
    · rw [← List.length_append, ← es, List.length_set]; exact Nat.le_of_lt (smallL (by omega))
    · refine q u x H2 H5 px S5 B5 ?_
      rw [es, z, List.append_nil]; exact g5
    · refine q p6 x H2 _ px (S5.new n6) (B5.new n6) ?_
      rw [upd_same, es]
  by_cases i0 : i = 0
  · subst i0
    refine .inl ⟨p1, t, [x], rfl, rfl, SqT.of g3, SqT.of t3, next t H3 t3 (Same.refl _)⟩
  · refine .inr (.inr (.inr (.inr ⟨p1, t, _, [x], rfl, rfl, SqT.of g3, SqT.of t3, ?_, ?_, fun z => by (cases z), fun _ p4 n4 => next p4 _ upd_same ((Same.refl H3).new n4)⟩)))
    · intro z
      have := congrArg List.length z
      rw [List.length_take, Nat.min_eq_left (Nat.le_of_lt hl)] at this
      exact i0 this
    · rw [List.length_take]; exact Nat.le_of_lt (smallL (by simp; omega))
theorem relast {K : PySem.W.Frag} {σ : St} {H : Hp} {Q : VK} {rt : Addr} {rvs : List V} {sr : Nat} {tx : TE} {P : V → Hp → Prop} (hr : σ[sr]? = some (some (.ref rt))) (h : H rt = some (.tup rvs)) (hl : rvs ≠ []) (hz : rvs.length ≤ 1000)
    (htx : ∀ (H1 : Hp) (Q' : VK), Same H H1 → (∀ x H2, Same H1 H2 → P x H2 → Q' x H2) → tx σ H1 Q')
    (q : ∀ (p : Addr) (x : V) (H2 H3 : Hp), P x H2 → Same H2 H3 → Same H H3 → H3 p = some (.tup (rvs.dropLast ++ [x])) → Q (.ref p) H3) :
    tOp (rPlusW K) (tSl (rSlW K) (tVar sr) tNoPart (tPart (tUn rNeg (tC (.int 1))))) (tTup (tCons tx tNil)) σ H Q := by
  have hp : 0 < rvs.length := List.length_pos_iff.mpr hl
  refine ⟨_, hr, _, rfl, _, rfl, .inr (.inr ⟨rt, rvs, rfl, SqT.of h, ?_, fun p1 n1 => ?_⟩)⟩
  · rintro ⟨_, z⟩
    have e : HT.sIx rvs.length rvs.length (some (-1)) = rvs.length - 1 := by
      show (if (-1 : Int) < 0 then ((-1 : Int) + (rvs.length : Int)).toNat else min (-1 : Int).toNat rvs.length) = rvs.length - 1
      rw [if_pos (by decide)]; omega
    have z' : HT.sIx rvs.length rvs.length (some (-1)) = rvs.length := z
    rw [e] at z'; omega
  show (tTup (tCons tx tNil)) σ (upd H p1 (.tup (cutV rvs none (some (-1))))) _
  rw [cut_last hl]
  have s1 : Same H (upd H p1 (.tup rvs.dropLast)) := (Same.refl H).new n1
  have g1 : upd H p1 (.tup rvs.dropLast) p1 = some (.tup rvs.dropLast) := upd_same
  generalize upd H p1 (.tup rvs.dropLast) = H1 at s1 g1 ⊢
  refine htx H1 _ s1 fun x H2 s2 px => ⟨(by show 1 ≤ sizeLine; decide), fun t nt => ?_⟩
  have s3 : Same H2 (upd H2 t (.tup [x])) := (Same.refl H2).new nt
  have g3 := s3 _ _ (s2 _ _ g1)
  have t3 : upd H2 t (.tup [x]) t = some (.tup [x]) := upd_same
  generalize upd H2 t (.tup [x]) = H3 at s3 g3 t3 ⊢
  have S3 := (s1.trans s2).trans s3
  by_cases e : rvs.dropLast = []
  · rw [e] at g3
    refine .inl ⟨p1, t, [x], rfl, rfl, SqT.of g3, SqT.of t3, q t x H2 H3 px s3 S3 ?_⟩
    rw [e]; exact t3
  · refine .inr (.inr (.inr (.inr ⟨p1, t, _, [x], rfl, rfl, SqT.of g3, SqT.of t3, e, ?_, fun z => by (cases z), fun _ p4 n4 => ?_⟩)))
    · rw [List.length_dropLast]; exact Nat.le_of_lt (smallL (by simp; omega))
    · exact q p4 x H2 _ px (s3.new n4) (S3.new n4) upd_same
theorem AllAt.setV {α : Type} {R : V → α → Prop} {vs : List V} {rs : List α} {j : Nat} {v : V} {r : α} (h : AllAt R vs rs) (q : R v r) : AllAt R (vs.set j v) (rs.set j r) := h.set q
theorem AllAt.dropLast {α : Type} {R : V → α → Prop} {vs : List V} {rs : List α} (h : AllAt R vs rs) : AllAt R vs.dropLast rs.dropLast := by
  refine ⟨by rw [List.length_dropLast, List.length_dropLast, h.len], fun i v r a b => ?_⟩
  rw [List.dropLast_eq_take, List.getElem?_take] at a b
  split at a
  · split at b
    · exact h.at_ i v r a b
    · cases b
  · cases a
theorem r_rows_changed {K : PySem.W.Frag} {vs : List V} {H : Hp} {Q : VK} {E : XK} (h : sp_rows_changed K vs H Q E) : t_rows_changed K { nx := fun _ H' => Q .non H', rt := Q } (start N_rows_changed vs) H := by
  obtain ⟨st, rt, v, c, rvs, rs, k, rfl, S, hk, hc, hrt, hA, r1, r100, ats, q⟩ := h
  have lv : rvs.length = rs.length := hA.len
  refine ⟨_, rfl, _, rfl, _, _, rfl, .inr ⟨_, SqT.of hrt, rfl⟩, st, _, k, rfl, S, by omega, by omega, by omega, fun a H1 a0 a1 S1 B1 => ?_⟩
  obtain ⟨i, rfl⟩ : ∃ i : Nat, a = (i : Int) := ⟨a.toNat, by omega⟩
  have il : i < rs.length := by omega
  refine ⟨_, rfl, st, 12, k + 1, rfl, S1, by omega, by decide, by decide, fun d H2 d0 d1 S2 B2 => ?_⟩
  obtain ⟨ys0, hys0⟩ := S.lst
  have nst : rt ≠ st := fun z => by rw [z, hys0] at hrt; cases hrt
  have B := B1.trans B2
  have hrt2 := B rt _ nst hrt
  have tp2 : Tp H H2 := .of_but B hys0
  have hA2 := hA.imp fun _ _ z => z.mono tp2
  have ne : rvs ≠ [] := fun z => by rw [z] at lv; simp at lv; omega
  show t_rows_changed_7 K _ [some (.ref st), some v, some (.ref rt), some (.int (i : Nat)), some (.int d), none] H2
  refine ⟨_, rfl, .inr (.inl ⟨rfl, _, rfl, if_dec (fun _ => ?_) (fun _ => ?_)⟩)⟩
  · exact ⟨(by show 0 ≤ sizeLine; decide), fun t ht => q t [] [] _ _ upd_same .nil (by simp) (by simp) (S2.new ht) (by omega) (B.new ht)⟩
  refine ⟨_, rfl, .inr (.inl ⟨rfl, _, rfl, if_dec (fun _ => ?_) (fun _ => ?_)⟩)⟩
  · refine relast (P := fun x H' => CRowAt H' x (.num 3)) rfl hrt2 ne (by omega) (fun H3 Q' s3 q' => ⟨(by show 2 ≤ sizeLine; decide), fun t ht => q' _ _ ((Same.refl H3).new ht) ⟨t, rfl, upd_same⟩⟩) fun p x H3 H4 px s4 S4 hp => ?_
    refine q p _ (rs.dropLast ++ [.num 3]) _ H4 hp ((hA2.imp fun _ _ z => z.mono (Tp.of_same S4)).dropLast.snoc (px.mono (Tp.of_same s4))) (by simp; omega) (fun r hr => ?_) (S2.same S4) (by omega) (fun b u nb hb => S4 _ _ (B b u nb hb))
    rcases List.mem_append.mp hr with z | z
    · exact Nat.le_trans (ats r ((List.dropLast_sublist _).subset z)) (by decide)
    · rw [List.mem_singleton.mp z]; show 0 ≤ 5; decide
  refine ⟨_, rfl, .inr (.inl ⟨rfl, _, rfl, if_dec (fun _ => ?_) (fun _ => ?_)⟩)⟩
  · refine relast (P := fun x H' => CRowAt H' x (.test 0 0)) rfl hrt2 ne (by omega) (fun H3 Q' s3 q' => ⟨(by show 3 ≤ sizeLine; decide), fun t ht => q' _ _ ((Same.refl H3).new ht) ⟨t, rfl, upd_same⟩⟩) fun p x H3 H4 px s4 S4 hp => ?_
    refine q p _ (rs.dropLast ++ [.test 0 0]) _ H4 hp ((hA2.imp fun _ _ z => z.mono (Tp.of_same S4)).dropLast.snoc (px.mono (Tp.of_same s4))) (by simp; omega) (fun r hr => ?_) (S2.same S4) (by omega) (fun b u nb hb => S4 _ _ (B b u nb hb))
    rcases List.mem_append.mp hr with z | z
    · exact Nat.le_trans (ats r ((List.dropLast_sublist _).subset z)) (by decide)
    · rw [List.mem_singleton.mp z]; show 1 ≤ 5; decide
  have fin : ∀ (p : Addr) (x : V) (r : CRow) (k3 : Nat) (H3 H4 : Hp), CRowAt H3 x r → (placesOf r).length ≤ 5 → Stt K H3 st k3 → k3 ≤ k + 15 → Same H3 H4 → But st H2 H4 → H4 p = some (.tup (rvs.set i x)) → Q (.ref p) H4 := fun p x r k3 H3 H4 hx h5 S3 hk3 s4 B4 hp => by
    obtain ⟨ys2, hys2⟩ := S2.lst
    refine q p _ (rs.set i r) k3 H4 hp ((hA2.imp fun _ _ z => z.mono (Tp.of_but B4 hys2)).setV (hx.mono (Tp.of_same s4))) (by rw [List.length_set]; exact r100) (fun r' hr' => ?_) (S3.same s4) (by omega) (B.trans B4)
    rcases mem_setC hr' with z | z
    · exact Nat.le_trans (ats r' z) (by decide)
    · rw [z]; exact h5
  refine ⟨_, rfl, .inr (.inl ⟨rfl, _, rfl, if_dec (fun _ => ?_) (fun _ => ?_)⟩)⟩
  · refine splice (st := st) (P := fun x H' => ∃ j, CRowAt H' x (.jump j) ∧ Stt K H' st (k + 3)) rfl rfl hrt2 (by omega) (by omega) nst S2.lst (fun H3 Q' s3 q' => ?_) fun p x H3 H4 px s4 B4 hp => ?_
    · refine ⟨_, rfl, _, rfl, _, _, rfl, .inr ⟨_, SqT.of (s3 _ _ hrt2), rfl⟩, st, _, k + 2, rfl, S2.same s3, by omega, by omega, by omega, fun j H5 j0 j1 S5 B5 => ⟨(by show 2 ≤ sizeLine; decide), fun t ht => q' _ _ (B5.new ht) ⟨j, ⟨t, rfl, upd_same⟩, S5.new ht⟩⟩⟩
    · obtain ⟨j, hx, S3⟩ := px
      exact fin p x _ _ H3 H4 hx (by show 0 ≤ 5; decide) S3 (by omega) s4 B4 hp
  refine ⟨_, rfl, .inr (.inl ⟨rfl, _, rfl, if_dec (fun _ => ?_) (fun _ => ?_)⟩)⟩
  · refine splice (st := st) (P := fun x H' => CRowAt H' x (.keep 0) ∧ Stt K H' st (k + 2)) rfl rfl hrt2 (by omega) (by omega) nst S2.lst (fun H3 Q' s3 q' => ?_) fun p x H3 H4 px s4 B4 hp => ?_
    · exact ⟨(by show 2 ≤ sizeLine; decide), fun t ht => q' _ _ ((But.refl st H3).new ht) ⟨⟨t, rfl, upd_same⟩, (S2.same s3).new ht⟩⟩
    · exact fin p x _ _ H3 H4 px.1 (by show 1 ≤ 5; decide) px.2 (by omega) s4 B4 hp
  obtain ⟨w, r, e1, e2, hra⟩ := hA2.get il
  have e1' : rvs[((i : Nat) : Int).toNat]? = some w := by simpa using e1
  refine ⟨_, rfl, _, rfl, _, rfl, _, rfl, ixT hrt2 (by omega) e1' ⟨_, rfl, _, _, rfl, .inr ⟨_, SqT.of hrt2, rfl⟩, st, v, w, c, r, rvs.length, k + 2, rfl, S2, by omega, hc.mono tp2, hra, ats r (List.mem_of_getElem? e2), by omega, by omega, fun u r' k3 H3 hu h5 S3 l3 B3 => ?_⟩⟩
  have hrt3 := B3 rt _ nst hrt2
  show t_rows_changed_1 K _ [some (.ref st), some v, some (.ref rt), some (.int (i : Nat)), some (.int d), some u] H3
  refine splice (st := st) (P := fun x H' => x = u ∧ Same H3 H') rfl rfl hrt3 (by omega) (by omega) nst S3.lst (fun H4 Q' s4 q' => ⟨_, rfl, q' _ _ (But.refl st H4) ⟨rfl, s4⟩⟩) fun p x H4 H5 px s5 B5 hp => ?_
  obtain ⟨rfl, s4⟩ := px
  exact fin p x r' k3 H4 H5 (hu.mono (Tp.of_same s4)) h5 (S3.same s4) (by omega) s5 (B3.trans B5) hp
end Bg
end
section
set_option Elab.async false
set_option linter.all false
set_option maxRecDepth 100000
set_option maxHeartbeats 4000000
namespace Bg
open PySem L2
theorem sl_from {K : PySem.W.Frag} {q1 : Addr} {xs : List V} {H : Hp} {Q : VK} {n : Nat} (h : H q1 = some (.tup xs)) (hn : 0 < n) (hq : ∀ (p : Addr) (H' : Hp), H' p = some (.tup (xs.drop n)) → Same H H' → Q (.ref p) H') : rSlW K (.ref q1) (some ((n : Nat) : Int)) none H Q := by
  by_cases e : xs = []
  · subst e
    refine .inl ⟨q1, [], rfl, SqT.of h, ⟨by rw [HT.sIx_nat]; simp, rfl⟩, hq q1 H (by rw [List.drop_nil]; exact h) (Same.refl H)⟩
  · have hp : 0 < xs.length := List.length_pos_iff.mpr e
    refine .inr (.inr ⟨q1, xs, rfl, SqT.of h, ?_, fun p np => ?_⟩)
    · rintro ⟨z, _⟩
      rw [HT.sIx_nat] at z; omega
    · rw [cut_drop]
      exact hq p _ upd_same ((Same.refl H).new np)
theorem cat_any {K : PySem.W.Frag} {a b : Addr} {xs ys : List V} {H : Hp} {Q : VK} (ha : H a = some (.tup xs)) (hb : H b = some (.tup ys)) (hz : xs.length + ys.length ≤ 1000) (hq : ∀ (p : Addr) (H' : Hp), H' p = some (.tup (xs ++ ys)) → Same H H' → Q (.ref p) H') : rPlusW K (.ref a) (.ref b) H Q := by
  by_cases e : xs = []
  · subst e
    exact .inl ⟨a, b, ys, rfl, rfl, SqT.of ha, SqT.of hb, hq b H hb (Same.refl H)⟩
  · refine .inr (.inr (.inr (.inr ⟨a, b, xs, ys, rfl, rfl, SqT.of ha, SqT.of hb, e, Nat.le_of_lt (smallL (by omega)), fun z => ?_, fun _ p np => ?_⟩)))
    · exact hq a H (by rw [z, List.append_nil]; exact ha) (Same.refl H)
    · exact hq p _ upd_same ((Same.refl H).new np)
theorem r_row_changed {K : PySem.W.Frag} {vs : List V} {H : Hp} {Q : VK} {E : XK} (h : sp_row_changed K vs H Q E) : t_row_changed K { nx := fun _ H' => Q .non H', rt := Q } (start N_row_changed vs) H := by
  obtain ⟨st, v, w, c, r, n, k, rfl, S, hk, hc, hr, h4, n1, nl, q⟩ := h
  obtain ⟨cp, cq, pvs, rfl, hcp, hcq, hA⟩ := hc
  obtain ⟨ys0, hys0⟩ := S.lst
  have ncp : cp ≠ st := fun z => by rw [z, hys0] at hcp; cases hcp
  have ncq : cq ≠ st := fun z => by rw [z, hys0] at hcq; cases hcq
  have NO : ∀ {a b : Str} {A B : Prop}, ¬ V.str a = V.str b → B → (if decide (V.str a = V.str b) = true then A else B) := fun z q => no z q
  have tail : ∀ (p : Addr) (wd : Str) (i : Int) (more : List V) (k2 : Nat) (H2 : Hp), H2 p = some (.tup (.str wd :: .int i :: more)) → more.length ≤ 2 → Stt K H2 st k2 → k2 ≤ k + 2 → But st H H2 → (∀ (z : Int) (t : Addr) (k' : Nat) (H' : Hp), H' t = some (.tup (.str wd :: .int z :: more)) → Stt K H' st k' → k' ≤ k + 5 → But st H H' → Q (.ref t) H') →
      ∀ o5 o6 o7, t_row_changed_1 K { nx := fun _ H' => Q .non H', rt := Q } [some (.ref st), some (.ref cp), some (.ref p), some (.int (n : Nat)), some (.str wd), o5, o6, o7] H2 := fun p wd i more k2 H2 hp hm S2 hk2 B2 fin o5 o6 o7 => by
    obtain ⟨ys2, hys2⟩ := S2.lst
    have np : p ≠ st := fun z => by rw [z, hys2] at hp; cases hp
    refine ⟨_, rfl, _, rfl, _, rfl, ixT hp (by decide) rfl ⟨_, rfl, ixT (B2 cp _ ncp hcp) (by decide) rfl ⟨st, i, c.1, k2, rfl, S2, by omega, fun z k3 H3 S3 l3 B3 => ⟨(by show 2 ≤ sizeLine; decide), fun t ht => ?_⟩⟩⟩⟩
    have hp3 := B3 p _ np hp
    have hp4 : upd H3 t (.tup [.str wd, .int z]) p = some (.tup (.str wd :: .int i :: more)) := by rw [upd_ne (ne_of_none hp3 ht)]; exact hp3
    have S4 := S3.new ht (o := .tup [.str wd, .int z])
    have B4 : But st H (upd H3 t (.tup [.str wd, .int z])) := (B2.trans B3).new ht
    have t4 : upd H3 t (.tup [.str wd, .int z]) t = some (.tup [.str wd, .int z]) := upd_same
    generalize upd H3 t (.tup [.str wd, .int z]) = H4 at hp4 S4 B4 t4 ⊢
    refine ⟨_, rfl, _, rfl, sl_from (n := 2) hp4 (by decide) fun p5 H5 h5 s5 => ?_⟩
    refine cat_any (s5 _ _ t4) h5 (by simp; omega) fun p6 H6 h6 s6 => ?_
    exact fin z p6 k3 H6 h6 ((S4.same s5).same s6) (by omega) (fun b u nb hb => s6 _ _ (s5 _ _ (B4 b u nb hb)))
  cases r with
  | op s i j =>
    obtain ⟨p, rfl, h⟩ := hr
    have np : p ≠ st := fun z => by rw [z, hys0] at h; cases h
    refine ⟨_, rfl, ixT h (by decide) rfl ?_⟩
    refine ⟨_, rfl, .inr (.inl ⟨rfl, _, rfl, yes ?_⟩)⟩
    refine ⟨_, rfl, _, rfl, ixT h (by decide) rfl ⟨_, rfl, _, rfl, ixT h (by decide) rfl ⟨_, rfl, ixT hcp (by decide) rfl ⟨st, i, c.1, k, rfl, S, by omega, fun z k3 H3 S3 l3 B3 => ?_⟩⟩⟩⟩
    refine ⟨_, rfl, ixT (B3 p _ np h) (by decide) rfl ⟨(by show 4 ≤ sizeLine; decide), fun t ht => ?_⟩⟩
    exact q _ (.op s z j) _ _ ⟨t, rfl, upd_same⟩ (by show 2 ≤ 5; decide) (S3.new ht) (by omega) (B3.new ht)
  | test i to =>
    obtain ⟨p, rfl, h⟩ := hr
    have np : p ≠ st := fun z => by rw [z, hys0] at h; cases h
    refine ⟨_, rfl, ixT h (by decide) rfl ?_⟩
    refine ⟨_, rfl, .inr (.inl ⟨rfl, _, rfl, no (by decide +kernel) ?_⟩)⟩
    refine ⟨_, rfl, .inr (.inl ⟨rfl, _, rfl, yes ?_⟩)⟩
    refine ⟨_, rfl, st, 2, k, rfl, S, by omega, by decide, by decide, fun d H1 d0 d1 S1 B1 => .inr (.inl ⟨rfl, _, rfl, if_dec (fun _ => ?_) (fun _ => ?_)⟩)⟩
    · have h1 := B1 p _ np h
      refine ⟨_, rfl, _, rfl, ixT h1 (by decide) rfl ⟨_, rfl, _, rfl, ixT h1 (by decide) rfl ⟨_, rfl, st, to, (n : Int), k + 1, rfl, S1, by omega, fun z k3 H3 S3 l3 B3 => ⟨(by show 3 ≤ sizeLine; decide), fun t ht => ?_⟩⟩⟩⟩
      exact q _ (.test i z) _ _ ⟨t, rfl, upd_same⟩ (by show 1 ≤ 5; decide) (S3.new ht) (by omega) ((B1.trans B3).new ht)
    · have h1 := B1 p _ np h
      refine ⟨_, rfl, .inr (.inl ⟨rfl, _, rfl, no (by decide +kernel) ?_⟩)⟩
      refine ⟨_, rfl, .inr (.inl ⟨rfl, _, rfl, no (by decide +kernel) ?_⟩)⟩
      refine ⟨_, rfl, .inr (.inl ⟨rfl, _, rfl, no (by decide +kernel) ?_⟩)⟩
      exact tail p "test" i [.int to] (k + 1) H1 h1 (by simp) S1 (by omega) B1 (fun z t k' H' ht S' hk' B' => q _ (.test z to) _ _ ⟨t, rfl, ht⟩ (by show 1 ≤ 5; decide) S' (by omega) B') _ _ _
  | jump to =>
    obtain ⟨p, rfl, h⟩ := hr
    refine ⟨_, rfl, ixT h (by decide) rfl ?_⟩
    refine ⟨_, rfl, .inr (.inl ⟨rfl, _, rfl, no (by decide +kernel) ?_⟩)⟩
    refine ⟨_, rfl, .inr (.inl ⟨rfl, _, rfl, no (by decide +kernel) ?_⟩)⟩
    refine iteF ?_
    refine ⟨_, rfl, .inr (.inl ⟨rfl, _, rfl, yes ?_⟩)⟩
    refine ⟨_, rfl, _, rfl, _, rfl, ixT h (by decide) rfl ⟨_, rfl, st, to, (n : Int), k, rfl, S, by omega, fun z k3 H3 S3 l3 B3 => ⟨(by show 2 ≤ sizeLine; decide), fun t ht => ?_⟩⟩⟩
    exact q _ (.jump z) _ _ ⟨t, rfl, upd_same⟩ (by show 0 ≤ 5; decide) (S3.new ht) (by omega) (B3.new ht)
  | num z =>
    obtain ⟨p, rfl, h⟩ := hr
    refine ⟨_, rfl, ixT h (by decide) rfl ?_⟩
    refine ⟨_, rfl, .inr (.inl ⟨rfl, _, rfl, no (by decide +kernel) ?_⟩)⟩
    refine ⟨_, rfl, .inr (.inl ⟨rfl, _, rfl, no (by decide +kernel) ?_⟩)⟩
    refine iteF ?_
    refine ⟨_, rfl, .inr (.inl ⟨rfl, _, rfl, no (by decide +kernel) ?_⟩)⟩
    refine ⟨_, rfl, .inr (.inl ⟨rfl, _, rfl, no (by decide +kernel) ?_⟩)⟩
    refine ⟨_, rfl, .inr (.inl ⟨rfl, _, rfl, yes ?_⟩)⟩
    refine ⟨_, rfl, _, rfl, st, (n : Int), k, rfl, S, by omega, by omega, by omega, fun j H3 j0 j1 S3 B3 => ⟨(by show 2 ≤ sizeLine; decide), fun t ht => ?_⟩⟩
    exact q _ (.jump j) _ _ ⟨t, rfl, upd_same⟩ (by show 0 ≤ 5; decide) (S3.new ht) (by omega) (B3.new ht)
  | keep i =>
    obtain ⟨p, rfl, h⟩ := hr
    refine ⟨_, rfl, ixT h (by decide) rfl ?_⟩
    refine ⟨_, rfl, .inr (.inl ⟨rfl, _, rfl, no (by decide +kernel) ?_⟩)⟩
    refine ⟨_, rfl, .inr (.inl ⟨rfl, _, rfl, no (by decide +kernel) ?_⟩)⟩
    refine iteF ?_
    refine ⟨_, rfl, .inr (.inl ⟨rfl, _, rfl, no (by decide +kernel) ?_⟩)⟩
    refine ⟨_, rfl, .inr (.inl ⟨rfl, _, rfl, no (by decide +kernel) ?_⟩)⟩
    refine ⟨_, rfl, .inr (.inl ⟨rfl, _, rfl, no (by decide +kernel) ?_⟩)⟩
    exact tail p "keep" i [] k H h (by simp) S (by omega) (But.refl st H) (fun z t k' H' ht S' hk' B' => q _ (.keep z) _ _ ⟨t, rfl, ht⟩ (by show 1 ≤ 5; decide) S' (by omega) B') _ _ _
  | say i =>
    obtain ⟨p, rfl, h⟩ := hr
    refine ⟨_, rfl, ixT h (by decide) rfl ?_⟩
    refine ⟨_, rfl, .inr (.inl ⟨rfl, _, rfl, no (by decide +kernel) ?_⟩)⟩
    refine ⟨_, rfl, .inr (.inl ⟨rfl, _, rfl, no (by decide +kernel) ?_⟩)⟩
    refine iteF ?_
    refine ⟨_, rfl, .inr (.inl ⟨rfl, _, rfl, no (by decide +kernel) ?_⟩)⟩
    refine ⟨_, rfl, .inr (.inl ⟨rfl, _, rfl, no (by decide +kernel) ?_⟩)⟩
    refine ⟨_, rfl, .inr (.inl ⟨rfl, _, rfl, no (by decide +kernel) ?_⟩)⟩
    exact tail p "say" i [] k H h (by simp) S (by omega) (But.refl st H) (fun z t k' H' ht S' hk' B' => q _ (.say z) _ _ ⟨t, rfl, ht⟩ (by show 1 ≤ 5; decide) S' (by omega) B') _ _ _
  | give i =>
    obtain ⟨p, rfl, h⟩ := hr
    refine ⟨_, rfl, ixT h (by decide) rfl ?_⟩
    refine ⟨_, rfl, .inr (.inl ⟨rfl, _, rfl, no (by decide +kernel) ?_⟩)⟩
    refine ⟨_, rfl, .inr (.inl ⟨rfl, _, rfl, no (by decide +kernel) ?_⟩)⟩
    refine iteF ?_
    refine ⟨_, rfl, .inr (.inl ⟨rfl, _, rfl, no (by decide +kernel) ?_⟩)⟩
    refine ⟨_, rfl, .inr (.inl ⟨rfl, _, rfl, no (by decide +kernel) ?_⟩)⟩
    refine ⟨_, rfl, .inr (.inl ⟨rfl, _, rfl, no (by decide +kernel) ?_⟩)⟩
    exact tail p "give" i [] k H h (by simp) S (by omega) (But.refl st H) (fun z t k' H' ht S' hk' B' => q _ (.give z) _ _ ⟨t, rfl, ht⟩ (by show 1 ≤ 5; decide) S' (by omega) B') _ _ _
  | call kk as =>
    obtain ⟨p, q1, rfl, h, hq1⟩ := hr
    have al : as.length ≤ 4 := h4
    have np : p ≠ st := fun z => by rw [z, hys0] at h; cases h
    have nq : q1 ≠ st := fun z => by rw [z, hys0] at hq1; cases hq1
    refine ⟨_, rfl, ixT h (by decide) rfl ?_⟩
    refine ⟨_, rfl, .inr (.inl ⟨rfl, _, rfl, no (by decide +kernel) ?_⟩)⟩
    refine ⟨_, rfl, .inr (.inl ⟨rfl, _, rfl, no (by decide +kernel) ?_⟩)⟩
    refine iteF ?_
    refine ⟨_, rfl, .inr (.inl ⟨rfl, _, rfl, no (by decide +kernel) ?_⟩)⟩
    refine ⟨_, rfl, .inr (.inl ⟨rfl, _, rfl, yes ?_⟩)⟩
    refine ⟨_, rfl, ixT h (by decide) rfl ?_⟩
    show t_row_changed_6 K _ [some (.ref st), some (.ref cp), some (.ref p), some (.int (n : Nat)), some (.str "call"), some (.ref q1), none, none] H
    refine ⟨_, rfl, (by show 1 ≤ sizeLine; decide), fun t0 n0 => ?_⟩
    have s0 : Same H (upd H t0 (.tup [.int 0])) := (Same.refl H).new n0
    refine cat_any (s0 _ _ hq1) (upd_same (H := H) (a := t0)) (by simp; omega) fun A1 H1 hA1 s1 => ?_
    have S1 := s0.trans s1
    refine ⟨_, rfl, _, rfl, sl_from (n := 1) (S1 _ _ hq1) (by decide) fun A2 H2 hA2 s2 => ?_⟩
    have S2 := S1.trans s2
    refine ⟨_, rfl, ixT (S2 _ _ hcp) (by decide) rfl ⟨(by show 1 ≤ sizeLine; decide), fun t3 n3 => ?_⟩⟩
    have s3 : Same H2 (upd H2 t3 (.tup [.int c.1])) := (Same.refl H2).new n3
    refine ⟨_, rfl, _, rfl, sl_from (n := 1) (s3 _ _ (S2 _ _ hq1)) (by decide) fun A4 H4 hA4 s4 => ?_⟩
    refine cat_any (s4 _ _ (upd_same (H := H2) (a := t3))) hA4 (by simp; omega) fun A3 H5 hA3 s5 => ?_
    have s25 : Same H2 H5 := (s3.trans s4).trans s5
    have S5 := S2.trans s25
    refine .inr ⟨_, rfl, q1, rfl, ⟨_, SqT.of (S5 _ _ hq1)⟩, fun D hD => ?_⟩
    refine comp_tup (xs := as.map V.int) (fun j σ' H' => ∃ (bs : List Int) (o : Option V), σ' = [some (.ref st), some (.ref cp), some (.ref p), some (.int (n : Nat)), some (.str "call"), some (.ref q1), none, none, o] ∧ H' D = some (.lst (bs.map V.int)) ∧ bs.length = j ∧ Same H5 H') ?_ ?_ ?_ ?_
    · exact ⟨[], none, rfl, upd_same, rfl, (Same.refl H5).new hD⟩
    · rintro j σ' H' _ ⟨bs, o, _, _, _, s'⟩
      exact SqT.of (s' _ _ (S5 _ _ hq1))
    · rintro j x σ' H' hx ⟨bs, o, rfl, hl, bl, s'⟩
      obtain ⟨z, hz, rfl⟩ := ints_get hx
      have jl : j < as.length := (List.getElem?_eq_some_iff.mp hz).1
      refine app_yes ⟨_, rfl, _, _, rfl, rfl, _, hl, smallL (by rw [List.length_map]; omega), bs ++ [z - 1], _, rfl, ?_, by simp [bl], fun b u hb => ?_⟩
      · rw [upd_same, List.map_append]; rfl
      · rw [upd_ne (ne_of_none hb hD)]; exact s' b u hb
    · rintro σ' H6 ⟨bs, o, _, hl, bl, s6⟩
      rw [List.length_map] at bl
      refine ⟨D, _, rfl, .inl ⟨SqL.of hl, fun A5 n5 => ?_⟩⟩
      have s7 : Same H6 (upd H6 A5 (.tup (bs.map V.int))) := (Same.refl H6).new n5
      refine ⟨(by show 4 ≤ sizeLine; decide), fun T nT => ?_⟩
      have s8 : Same (upd H6 A5 (.tup (bs.map V.int))) (upd (upd H6 A5 (.tup (bs.map V.int))) T (.lst [.ref A1, .ref A2, .ref A3, .ref A5])) := (Same.refl _).new nT
      have g5 := s8 _ _ (upd_same (H := H6) (a := A5) (o := .tup (bs.map V.int)))
      have s68 := s7.trans s8
      have hT : upd (upd H6 A5 (.tup (bs.map V.int))) T (.lst [.ref A1, .ref A2, .ref A3, .ref A5]) T = some (.lst [.ref A1, .ref A2, .ref A3, .ref A5]) := upd_same
      show t_row_changed_5 K _ [some (.ref st), some (.ref cp), some (.ref p), some (.int (n : Nat)), some (.str "call"), some (.ref q1), some (.ref T), none] _
      generalize upd (upd H6 A5 (.tup (bs.map V.int))) T (.lst [.ref A1, .ref A2, .ref A3, .ref A5]) = H8 at s8 s68 g5 hT ⊢
      have s58 := s6.trans s68
      have S8 := S5.trans s58
      have g3 := s58 _ _ hA3
      have g2 := (s25.trans s58) _ _ hA2
      have g1 := ((s2.trans s25).trans s58) _ _ hA1
      have St8 := S.same S8
      obtain ⟨ys8, hys8⟩ := St8.lst
      have nT8 : T ≠ st := fun z => by subst z; obtain ⟨_, _, _, e, _⟩ := St8; rw [hT] at e; cases e
      have tne : ∀ {t : Addr} {xs : List V}, H8 t = some (.tup xs) → t ≠ st := fun e z => by rw [z, hys8] at e; cases e
      have B8 : But st H H8 := S8.but
      refine ⟨_, rfl, st, 5, k, rfl, St8, by omega, by decide, by decide, fun d H9 d0 d1 S9 B9 => ?_⟩
      have B9' := B8.trans B9
      have h9 := B9' p _ np h
      refine ⟨_, rfl, .inr (.inl ⟨rfl, _, rfl, if_dec (fun _ => ?_) (fun hd4 => ?_)⟩)⟩
      · refine ⟨_, rfl, _, rfl, _, rfl, ixT h9 (by decide) rfl ⟨_, rfl, ixT (B9' cp _ ncp hcp) (by decide) rfl ⟨_, _, rfl, .inr ⟨_, SqT.of (B9' cq _ ncq hcq), rfl⟩, st, kk, _, k + 1, rfl, S9, by omega, fun z k3 H3 S3 l3 B3 => ?_⟩⟩⟩
        refine ⟨_, rfl, (by show 3 ≤ sizeLine; decide), fun t ht => ?_⟩
        have g := B3 q1 _ nq (B9' q1 _ nq hq1)
        exact q _ (.call z as) _ _ ⟨t, q1, rfl, upd_same, (Same.refl H3).new ht _ _ g⟩ (by show as.length ≤ 5; omega) (S3.new ht) (by omega) ((B9'.trans B3).new ht)
      · have d4 : d = 0 ∨ d = 1 ∨ d = 2 ∨ d = 3 := by
          have : d ≠ 4 := fun z => hd4 (by rw [z])
          omega
        have fin : ∀ (A : Addr) (bs : List Int), H9 A = some (.tup (bs.map V.int)) → bs.length ≤ 5 → (tCons (tOp (rIx K) (tVar 2) (tC (.int 1))) (tCons (tC (.ref A)) tNil)) [some (.ref st), some (.ref cp), some (.ref p), some (.int (n : Nat)), some (.str "call"), some (.ref q1), some (.ref T), some (.int d)] H9 fun xs H1 => (V.str "call" :: xs).length ≤ sizeLine ∧ ∀ t, H1 t = none → Q (.ref t) (upd H1 t (.tup (.str "call" :: xs))) := fun A bs gA bl5 => by
          refine ⟨_, rfl, ixT h9 (by decide) rfl ⟨(by show 3 ≤ sizeLine; decide), fun t ht => ?_⟩⟩
          exact q _ (.call kk bs) _ _ ⟨t, A, rfl, upd_same, (Same.refl H9).new ht _ _ gA⟩ bl5 (S9.new ht) (by omega) (B9'.new ht)
        refine ⟨_, rfl, _, rfl, ixT h9 (by decide) rfl ⟨_, rfl, _, rfl, ?_⟩⟩
        have hT9 := B9 T _ nT8 hT
        have put : ∀ (A : Addr) (bs : List Int), H9 A = some (.tup (bs.map V.int)) → bs.length ≤ 5 → (3 ≤ sizeLine ∧ ∀ t, H9 t = none → Q (.ref t) (upd H9 t (.tup [.str "call", .int kk, .ref A]))) := fun A bs gA bl5 =>
          ⟨by decide, fun t ht => q _ (.call kk bs) _ _ ⟨t, A, rfl, upd_same, (Same.refl H9).new ht _ _ gA⟩ bl5 (S9.new ht) (by omega) (B9'.new ht)⟩
        rcases d4 with rfl | rfl | rfl | rfl
        · have gA : H9 A1 = some (.tup ((as ++ [0]).map V.int)) := by rw [List.map_append]; exact B9 A1 _ (tne g1) g1
          exact ixL (SqL.of hT9) (by decide) rfl (put A1 (as ++ [0]) gA (by simp; omega))
        · have gA : H9 A2 = some (.tup ((as.drop 1).map V.int)) := by rw [List.map_drop]; exact B9 A2 _ (tne g2) g2
          exact ixL (SqL.of hT9) (by decide) rfl (put A2 (as.drop 1) gA (by simp; omega))
        · have gA : H9 A3 = some (.tup ((c.1 :: as.drop 1).map V.int)) := by rw [List.map_cons, List.map_drop]; exact B9 A3 _ (tne g3) g3
          exact ixL (SqL.of hT9) (by decide) rfl (put A3 (c.1 :: as.drop 1) gA (by simp; omega))
        · exact ixL (SqL.of hT9) (by decide) rfl (put A5 bs (B9 A5 _ (tne g5) g5) (by omega))
theorem r_changed {K : PySem.W.Frag} {vs : List V} {H : Hp} {Q : VK} {E : XK} (h : sp_changed K vs H Q E) : t_changed K { nx := fun _ H' => Q .non H', rt := Q } (start N_changed vs) H := by
  obtain ⟨st, v, c, m, n, k, rfl, S, hk, hc, ok, ml, n1, nl, q⟩ := h
  have hc' := hc
  obtain ⟨cp, cq, pvs, rfl, hcp, hcq, hA⟩ := hc
  obtain ⟨ys0, hys0⟩ := S.lst
  have ncp : cp ≠ st := fun z => by rw [z, hys0] at hcp; cases hcp
  have ncq : cq ≠ st := fun z => by rw [z, hys0] at hcq; cases hcq
  have pl : pvs.length = n := by rw [hA.len, ok.len]
  have few1 : ∀ b ∈ c.2, b.2.length ≤ 1000 := fun b hb => by have := (ok.rows b hb).2; omega
  refine ⟨_, rfl, cp, _, rfl, SqT.of hcp, rfl, _, _, rfl, _, _, rfl, rfl, ?_⟩
  refine ⟨_, rfl, st, 10, k, rfl, S, by omega, by decide, by decide, fun d H1 d0 d1 S1 B1 => ?_⟩
  have tp1 : Tp H H1 := .of_but B1 hys0
  have hcq1 := B1 cq _ ncq hcq
  show t_changed_5 K _ [some (.ref st), some (.ref cp), some (.int c.1), some (.ref cq), some (.int d), none, none, none] H1
  refine ⟨_, rfl, .inr (.inl ⟨rfl, _, rfl, if_dec (fun _ => ?_) (fun _ => ?_)⟩)⟩
  · -- another number of places
    refine ⟨_, rfl, _, rfl, _, _, rfl, rfl, (by show 6 ≤ sizeLine; decide), fun L hL => ?_⟩
    obtain ⟨ys1, hs1⟩ := S1.lst
    have nL : L ≠ st := fun z => by rw [z, hs1] at hL; cases hL
    refine ⟨_, rfl, st, 6, k + 1, rfl, S1.new hL, by omega, by decide, by decide, fun e H2 e0 e1 S2 B2 => ?_⟩
    have h2 := B2 L _ nL upd_same
    have B : But st H H2 := (B1.new hL).trans B2
    have fin : ∀ z : Int, (tVar 3) [some (.ref st), some (.ref cp), some (.int c.1), some (.ref cq), some (.int d), none, none, none] H2 fun y H3 => ([.int z, y] : List V).length ≤ sizeLine ∧ ∀ t, H3 t = none → Q (.ref t) (upd H3 t (.tup [.int z, y])) := fun z => by
      refine ⟨_, rfl, (by show 2 ≤ sizeLine; decide), fun t ht => ?_⟩
      have tp : Tp H (upd H2 t (.tup [.int z, .ref cq])) := (Tp.of_but B hys0).new ht
      refine q _ (z, c.2) _ _ ⟨t, cq, pvs, rfl, upd_same, (Same.refl H2).new ht _ _ (B cq _ ncq hcq), hA.imp fun _ _ w => w.mono tp⟩ ⟨by show c.2.length ≤ 1000; rw [ok.len]; omega, few1, fun b hb r hr => Nat.le_trans (ok.ats b hb r hr) (by decide)⟩ (S2.new ht) (by omega) (B.new ht)
    rcases (by omega : e = 0 ∨ e = 1 ∨ e = 2 ∨ e = 3 ∨ e = 4 ∨ e = 5) with rfl | rfl | rfl | rfl | rfl | rfl
    all_goals exact ixL (SqL.of h2) (by decide) rfl (fin _)
  · refine ⟨_, rfl, _, rfl, _, _, rfl, .inr ⟨_, SqT.of hcq1, rfl⟩, st, _, k + 1, rfl, S1, by omega, by omega, by omega, fun e H2 e0 e1 S2 B2 => ?_⟩
    obtain ⟨i, rfl⟩ : ∃ i : Nat, e = (i : Int) := ⟨e.toNat, by omega⟩
    have il : i < c.2.length := by rw [ok.len]; omega
    have B := B1.trans B2
    have tp2 : Tp H H2 := .of_but B hys0
    have hcq2 := B cq _ ncq hcq
    obtain ⟨w, b, e1', e2, pt, rt, rvs, rfl, hpt, hrt, hR⟩ := (hA.imp fun _ _ z => z.mono tp2).get il
    have mem := List.mem_of_getElem? e2
    have e1'' : pvs[((i : Nat) : Int).toNat]? = some (.ref pt) := by simpa using e1'
    show t_changed_3 K _ [some (.ref st), some (.ref cp), some (.int c.1), some (.ref cq), some (.int d), some (.int (i : Nat)), none, none] H2
    refine ⟨_, rfl, _, rfl, ixT hcq2 (by omega) e1'' ⟨pt, _, rfl, SqT.of hpt, rfl, _, _, rfl, _, _, rfl, rfl, ?_⟩⟩
    show t_changed_2 K _ [some (.ref st), some (.ref cp), some (.int c.1), some (.ref cq), some (.int d), some (.int (i : Nat)), some (.int b.1), some (.ref rt)] H2
    have fin : ∀ (cnt : Int) (r3 : Addr) (rvs3 : List V) (rs3 : List CRow) (k3 : Nat) (H3 : Hp), H3 r3 = some (.tup rvs3) → AllAt (CRowAt H3) rvs3 rs3 → rs3.length ≤ 100 → (∀ r ∈ rs3, (placesOf r).length ≤ 5) → Stt K H3 st k3 → k3 ≤ k + 30 → But st H2 H3 →
        t_changed_1 K { nx := fun _ H' => Q .non H', rt := Q } [some (.ref st), some (.ref cp), some (.int c.1), some (.ref cq), some (.int d), some (.int (i : Nat)), some (.int cnt), some (.ref r3)] H3 := fun cnt r3 rvs3 rs3 k3 H3 h3 hR3 l3 a3 S3 hk3 B3 => by
      have hcq3 := B3 cq _ ncq hcq2
      refine ⟨_, rfl, splice (st := st) (P := fun x H' => ∃ t, x = .ref t ∧ H' t = some (.tup [.int cnt, .ref r3]) ∧ Same H3 H') rfl rfl hcq3 (by omega) (by omega) ncq S3.lst (fun H4 Q' s4 q' => ?_) fun p x H4 H5 px s5 B5 hp => ?_⟩
      · exact ⟨_, rfl, _, rfl, (by show 2 ≤ sizeLine; decide), fun t ht => q' _ _ ((But.refl st H4).new ht) ⟨t, rfl, upd_same, s4.new ht⟩⟩
      · obtain ⟨t, rfl, ht, s4⟩ := px
        have s35 := s4.trans s5
        refine ⟨(by show 2 ≤ sizeLine; decide), fun u hu => ?_⟩
        have tp6 : Tp H5 (upd H5 u (.tup [.int c.1, .ref p])) := (Tp.refl H5).new hu
        have tp3 : Tp H H3 := by obtain ⟨_, e⟩ := S2.lst; exact tp2.trans (.of_but B3 e)
        have B' : But st H H5 := (B.trans B3).trans B5
        refine q _ (c.1, c.2.set i (cnt, rs3)) k3 _ ⟨u, p, _, rfl, upd_same, (Same.refl H5).new hu _ _ hp, (hA.imp fun _ _ w => w.mono (tp3.trans ((Tp.of_same s35).trans tp6))).setV ⟨t, r3, rvs3, rfl, tp6 _ _ (s5 _ _ ht), tp6 _ _ (s35 _ _ h3), hR3.imp fun _ _ w => w.mono ((Tp.of_same s35).trans tp6)⟩⟩ ⟨?_, fun b' hb' => ?_, fun b' hb' r hr => ?_⟩ ((S3.same s35).new hu) (by omega) (B'.new hu)
        · show (c.2.set i (cnt, rs3)).length ≤ 1000
          rw [List.length_set, ok.len]; omega
        · rcases List.mem_or_eq_of_mem_set hb' with z | z
          · exact few1 b' z
          · rw [z]; show rs3.length ≤ 1000; omega
        · rcases List.mem_or_eq_of_mem_set hb' with z | z
          · exact Nat.le_trans (ok.ats b' z r hr) (by decide)
          · rw [z] at hr; exact Nat.le_trans (a3 r hr) (by decide)
    refine ⟨_, rfl, .inr (.inl ⟨rfl, _, rfl, if_dec (fun _ => ?_) (fun _ => ?_)⟩)⟩
    · refine ⟨_, rfl, _, rfl, .inr (.inl ⟨_, _, rfl, rfl, _, rfl, _, _, rfl, rfl, (by show 4 ≤ sizeLine; decide), fun L hL => ?_⟩)⟩
      obtain ⟨ys2, hs2⟩ := S2.lst
      have nL : L ≠ st := fun z => by rw [z, hs2] at hL; cases hL
      refine ⟨_, rfl, st, 4, k + 2, rfl, S2.new hL, by omega, by decide, by decide, fun e H3 e0 e1 S3 B3 => ?_⟩
      have h3 := B3 L _ nL upd_same
      have B23 : But st H2 H3 := ((But.refl st H2).new hL).trans B3
      have nrt : rt ≠ st := fun z => by rw [z, hs2] at hrt; cases hrt
      have go : ∀ cnt : Int, t_changed_1 K { nx := fun _ H' => Q .non H', rt := Q } [some (.ref st), some (.ref cp), some (.int c.1), some (.ref cq), some (.int d), some (.int (i : Nat)), some (.int cnt), some (.ref rt)] H3 := fun cnt =>
        fin cnt rt rvs b.2 _ H3 (B23 rt _ nrt hrt) (hR.imp fun _ _ w => w.mono (.of_but B23 hs2)) (by have := (ok.rows b mem).2; omega) (fun r hr => Nat.le_trans (ok.ats b mem r hr) (by decide)) S3 (by omega) B23
      rcases (by omega : e = 0 ∨ e = 1 ∨ e = 2 ∨ e = 3) with rfl | rfl | rfl | rfl
      all_goals exact ixL (SqL.of h3) (by decide) rfl (go _)
    · refine ⟨_, rfl, _, rfl, _, rfl, st, rt, .ref cp, c, rvs, b.2, k + 2, rfl, S2, by omega, hc'.mono tp2, hrt, hR, (ok.rows b mem).1, by have := (ok.rows b mem).2; omega, fun r hr => ok.ats b mem r hr, fun p rvs' rs' k3 H3 hp hA3 l3 a3 S3 l4 B3 => ?_⟩
      exact fin b.1 p rvs' rs' k3 H3 hp hA3 l3 a3 S3 (by omega) B3
end Bg
end
section
set_option Elab.async false
set_option linter.all false
set_option maxRecDepth 100000
set_option maxHeartbeats 4000000
namespace Bg
open PySem L2
def chn (n : Nat) (to : Int) : List CRow := List.replicate n (.keep 0) ++ [.jump to, .give 0]
theorem chn_len (n : Nat) (to : Int) : (chn n to).length = n + 2 := by unfold chn; simp
theorem chn_lo {n : Nat} {to : Int} {i : Nat} (h : i < n) : (chn n to)[i]? = some (.keep 0) := by
  unfold chn
  rw [List.getElem?_append_left (by rw [List.length_replicate]; exact h), List.getElem?_replicate, if_pos h]
theorem chn_at (n : Nat) (to : Int) : (chn n to)[n]? = some (.jump to) := by
  unfold chn
  rw [List.getElem?_append_right (by rw [List.length_replicate]; exact Nat.le_refl _), List.length_replicate, Nat.sub_self]; rfl
theorem chn_hi (n : Nat) (to : Int) : (chn n to)[n + 1]? = some (.give 0) := by
  unfold chn
  rw [List.getElem?_append_right (by rw [List.length_replicate]; omega), List.length_replicate]
  have : n + 1 - n = 1 := by omega
  rw [this]; rfl
theorem chn_mem {n : Nat} {to : Int} {r : CRow} (h : r ∈ chn n to) : r = .keep 0 ∨ r = .jump to ∨ r = .give 0 := by
  unfold chn at h
  rcases List.mem_append.mp h with z | z
  · exact .inl (List.mem_replicate.mp z).2
  · rcases List.mem_cons.mp z with z | z
    · exact .inr (.inl z)
    · exact .inr (.inr (List.mem_singleton.mp z))
theorem chn_last (n : Nat) (to : Int) : (chn n to).getLast?.map cEnd = some true := by
  rw [List.getLast?_eq_getElem?, chn_len]
  have : n + 2 - 1 = n + 1 := by omega
  rw [this, chn_hi]; rfl
theorem chn_ring {n to : Nat} (h : to ≤ n) : ¬ NoRingC (chn n (to : Int)) := by
  intro nr
  have key : ∀ m, m ≤ n → silC (chn n (to : Int)) m = true ∧ stpC (chn n (to : Int)) m ≤ n := fun m hm => by
    by_cases e : m = n
    · subst e
      refine ⟨by unfold silC; rw [chn_at]; rfl, ?_⟩
      unfold stpC; rw [chn_at]
      show (to : Int).toNat ≤ m
      omega
    · have hl : m < n := by omega
      refine ⟨by unfold silC; rw [chn_lo hl]; rfl, ?_⟩
      unfold stpC; rw [chn_lo hl]
      exact hl
  have ev : ∀ k m, m ≤ n → silC (chn n (to : Int)) (itr (stpC (chn n (to : Int))) k m) = true := by
    intro k
    induction k with
    | zero => intro m hm; exact (key m hm).1
    | succ k ih => intro m hm; exact ih _ (key m hm).2
  have := nr 0 (by rw [chn_len]; omega)
  rw [ev _ 0 (Nat.zero_le _)] at this
  cases this
theorem chn_ends (n : Nat) : ∀ d m, m ≤ n + 1 → n + 1 - m = d → EndsC (chn n ((n + 1 : Nat) : Int)) m := by
  intro d
  induction d with
  | zero =>
    intro m hm e
    have : m = n + 1 := by omega
    subst this
    refine ⟨0, ?_⟩
    show silC _ (n + 1) = false
    unfold silC; rw [chn_hi]; rfl
  | succ d ih =>
    intro m hm e
    by_cases em : m = n
    · subst em
      obtain ⟨k, hk⟩ := ih (m + 1) (by omega) (by omega)
      refine ⟨k + 1, ?_⟩
      show silC _ (itr _ k (stpC _ m)) = false
      have : stpC (chn m ((m + 1 : Nat) : Int)) m = m + 1 := by unfold stpC; rw [chn_at]; show ((m + 1 : Nat) : Int).toNat = m + 1; omega
      rw [this]; exact hk
    · have hl : m < n := by omega
      obtain ⟨k, hk⟩ := ih (m + 1) (by omega) (by omega)
      refine ⟨k + 1, ?_⟩
      show silC _ (itr _ k (stpC _ m)) = false
      have : stpC (chn n ((n + 1 : Nat) : Int)) m = m + 1 := by unfold stpC; rw [chn_lo hl]
      rw [this]; exact hk
theorem chn_fits {n to : Nat} (h : to ≤ n + 1) : Fits (1, [(0, chn n (to : Int))]) ↔ n < to := by
  constructor
  · intro f
    have pf := f.2 _ List.mem_cons_self
    rcases Nat.lt_or_ge n to with z | z
    · exact z
    · exact absurd pf.2.2.2.2 (chn_ring z)
  · intro hl
    have et : to = n + 1 := by omega
    subst et
    refine ⟨⟨(by show (1 : Int) ≤ 1; decide), (by show (1 : Int) ≤ 16; decide)⟩, fun b hb => ?_⟩
    rw [List.mem_singleton.mp hb]
    have ne : chn n ((n + 1 : Nat) : Int) ≠ [] := fun z => by have := congrArg List.length z; rw [chn_len] at this; simp at this
    have rf : ∀ r ∈ chn n ((n + 1 : Nat) : Int), RowFits 1 [(0, chn n ((n + 1 : Nat) : Int))] (chn n ((n + 1 : Nat) : Int)).length r := fun r hr => by
      rcases chn_mem hr with z | z | z
      · subst z; exact ⟨fun i hi => by rw [List.mem_singleton.mp hi]; decide, fun to e => by (cases e), fun k as e => by (cases e)⟩
      · subst z
        refine ⟨fun i hi => by (cases hi), fun to e => ?_, fun k as e => by (cases e)⟩
        cases e
        rw [chn_len]
        exact ⟨by omega, by omega⟩
      · subst z; exact ⟨fun i hi => by rw [List.mem_singleton.mp hi]; decide, fun to e => by (cases e), fun k as e => by (cases e)⟩
    have cl : Closed (chn n ((n + 1 : Nat) : Int)) := ⟨chn_last _ _, fun r hr to e => (rf r hr).2.1 to e⟩
    refine ⟨⟨(by show (0 : Int) ≤ 0; decide), (by show (0 : Int) ≤ 4; decide)⟩, ne, chn_last _ _, rf, noRing_of cl fun m hm => ?_⟩
    rw [chn_len] at hm
    exact chn_ends n _ m (by omega) rfl
theorem rep_flat (n : Nat) (x : V) : (List.replicate n [x]).flatten = List.replicate n x := by
  induction n with
  | zero => rfl
  | succ n ih => rw [List.replicate_succ, List.flatten_cons, ih, List.replicate_succ]; rfl
theorem r_chain_right {K : PySem.W.Frag} {vs : List V} {H : Hp} {Q : VK} {E : XK} (h : sp_chain_right K vs H Q E) : t_chain_right K { nx := fun _ H' => Q .non H', rt := Q } (start N_chain_right vs) H := by
  obtain ⟨n, to, rfl, nl, tl, q⟩ := h
  refine ⟨(by show 2 ≤ sizeLine; decide), fun t0 n0 => ⟨(by show 1 ≤ sizeLine; decide), fun t1 n1 => ?_⟩⟩
  have s1 : Same H (upd (upd H t0 (.tup [.str "keep", .int 0])) t1 (.tup [.ref t0])) := ((Same.refl H).new n0).new n1
  have g0 : upd (upd H t0 (.tup [.str "keep", .int 0])) t1 (.tup [.ref t0]) t0 = some (.tup [.str "keep", .int 0]) := (Same.refl _).new n1 _ _ upd_same
  have g1 : upd (upd H t0 (.tup [.str "keep", .int 0])) t1 (.tup [.ref t0]) t1 = some (.tup [.ref t0]) := upd_same
  generalize upd (upd H t0 (.tup [.str "keep", .int 0])) t1 (.tup [.ref t0]) = H1 at s1 g0 g1 ⊢
  have main : ∀ (p : Addr) (H2 : Hp), H2 p = some (.tup (List.replicate n (.ref t0))) → Same H1 H2 → (tTup (tCons (tTup (tCons (tC (.str "jump")) (tCons (tVar 1) tNil))) (tCons (tTup (tCons (tC (.str "give")) (tCons (tC (.int 0)) tNil))) tNil))) [some (.int (n : Nat)), some (.int (to : Nat)), none] H2 fun y H3 => rPlusW K (.ref p) y H3 fun v H4 => gName 2 v [some (.int (n : Nat)), some (.int (to : Nat)), none] H4 fun σ' H' => t_chain_right_1 K { nx := fun _ H' => Q .non H', rt := Q } σ' H' := fun p H2 hp s2 => by
    refine ⟨_, rfl, (by show 2 ≤ sizeLine; decide), fun tj nj => ⟨(by show 2 ≤ sizeLine; decide), fun tg ng => ⟨(by show 2 ≤ sizeLine; decide), fun T nT => ?_⟩⟩⟩
    have s3 : Same H2 (upd (upd (upd H2 tj (.tup [.str "jump", .int (to : Nat)])) tg (.tup [.str "give", .int 0])) T (.tup [.ref tj, .ref tg])) := (((Same.refl H2).new nj).new ng).new nT
    have gj : upd (upd (upd H2 tj (.tup [.str "jump", .int (to : Nat)])) tg (.tup [.str "give", .int 0])) T (.tup [.ref tj, .ref tg]) tj = some (.tup [.str "jump", .int (to : Nat)]) := ((Same.refl _).new ng |>.new nT) _ _ upd_same
    have gg : upd (upd (upd H2 tj (.tup [.str "jump", .int (to : Nat)])) tg (.tup [.str "give", .int 0])) T (.tup [.ref tj, .ref tg]) tg = some (.tup [.str "give", .int 0]) := ((Same.refl _).new nT) _ _ upd_same
    have gT : upd (upd (upd H2 tj (.tup [.str "jump", .int (to : Nat)])) tg (.tup [.str "give", .int 0])) T (.tup [.ref tj, .ref tg]) T = some (.tup [.ref tj, .ref tg]) := upd_same
    generalize upd (upd (upd H2 tj (.tup [.str "jump", .int (to : Nat)])) tg (.tup [.str "give", .int 0])) T (.tup [.ref tj, .ref tg]) = H3 at s3 gj gg gT ⊢
    refine cat_any (s3 _ _ hp) gT (by simp; omega) fun p4 H4 h4 s4 => ?_
    have S4 := ((s1.trans s2).trans s3).trans s4
    have k4 := (s2.trans (s3.trans s4)) _ _ g0
    have j4 := s4 _ _ gj
    have g4 := s4 _ _ gg
    have hA : AllAt (CRowAt H4) (List.replicate n (.ref t0) ++ [.ref tj, .ref tg]) (chn n (to : Int)) := by
      refine ⟨by unfold chn; simp, fun i v r a b => ?_⟩
      by_cases c : i < n
      · rw [List.getElem?_append_left (by rw [List.length_replicate]; exact c), List.getElem?_replicate, if_pos c] at a
        rw [chn_lo c] at b
        cases a; cases b; exact ⟨t0, rfl, k4⟩
      · rw [List.getElem?_append_right (by rw [List.length_replicate]; omega), List.length_replicate] at a
        by_cases c2 : i = n
        · subst c2
          rw [chn_at] at b
          rw [Nat.sub_self] at a
          cases a; cases b; exact ⟨tj, rfl, j4⟩
        · have hi : i = n + 1 := by
            have := (List.getElem?_eq_some_iff.mp b).1
            rw [chn_len] at this; omega
          subst hi
          rw [chn_hi] at b
          have : n + 1 - n = 1 := by omega
          rw [this] at a
          cases a; cases b; exact ⟨tg, rfl, g4⟩
    show t_chain_right_1 K _ [some (.int (n : Nat)), some (.int (to : Nat)), some (.ref p4)] H4
    refine ⟨_, rfl, (by show 2 ≤ sizeLine; decide), fun a na => ⟨(by show 1 ≤ sizeLine; decide), fun b nb => ⟨(by show 2 ≤ sizeLine; decide), fun c nc => ?_⟩⟩⟩
    have s5 : Same H4 (upd (upd (upd H4 a (.tup [.int 0, .ref p4])) b (.tup [.ref a])) c (.tup [.int 1, .ref b])) := (((Same.refl H4).new na).new nb).new nc
    have ga : upd (upd (upd H4 a (.tup [.int 0, .ref p4])) b (.tup [.ref a])) c (.tup [.int 1, .ref b]) a = some (.tup [.int 0, .ref p4]) := ((Same.refl _).new nb |>.new nc) _ _ upd_same
    have gb : upd (upd (upd H4 a (.tup [.int 0, .ref p4])) b (.tup [.ref a])) c (.tup [.int 1, .ref b]) b = some (.tup [.ref a]) := ((Same.refl _).new nc) _ _ upd_same
    have gc : upd (upd (upd H4 a (.tup [.int 0, .ref p4])) b (.tup [.ref a])) c (.tup [.int 1, .ref b]) c = some (.tup [.int 1, .ref b]) := upd_same
    generalize upd (upd (upd H4 a (.tup [.int 0, .ref p4])) b (.tup [.ref a])) c (.tup [.int 1, .ref b]) = H5 at s5 ga gb gc ⊢
    have hPart : CPartAt H5 (.ref a) ((0 : Int), chn n (to : Int)) := ⟨a, p4, _, rfl, ga, s5 _ _ h4, hA.imp fun _ _ z => z.mono (Tp.of_same s5)⟩
    have hCode : CodeAt H5 (.ref c) ((1 : Int), [((0 : Int), chn n (to : Int))]) := ⟨c, b, [.ref a], rfl, gc, gb, by simpa using (AllAt.nil (R := CPartAt H5)).snoc hPart⟩
    refine ⟨.ref c, (1, [(0, chn n (to : Int))]), rfl, hCode, ⟨by simp, fun b' hb' => ?_, fun b' hb' r hr => ?_⟩, fun d H6 hd s6 => ⟨_, rfl, _, rfl, _, _, rfl, rfl, .inr (.inl ⟨rfl, ?_⟩)⟩⟩
    · rw [List.mem_singleton.mp hb']; show (chn n (to : Int)).length ≤ 1000; rw [chn_len]; omega
    · rw [List.mem_singleton.mp hb'] at hr
      rcases chn_mem hr with z | z | z
      · subst z; show 1 ≤ 1000; decide
      · subst z; show 0 ≤ 1000; decide
      · subst z; show 1 ≤ 1000; decide
    · have e : V.bl d = V.bl (decide (((n : Nat) : Int) < ((to : Nat) : Int))) := by
        congr 1
        rw [Bool.eq_iff_iff, hd, chn_fits tl, decide_eq_true_eq]
        omega
      rw [decide_eq_true e]
      exact q _ ((S4.trans s5).trans s6)
  refine ⟨_, rfl, .inr ⟨t1, n, [.ref t0], rfl, rfl, SqT.of g1, by simp, Nat.le_of_lt (smallL (by simp; omega)), fun z => ?_, fun _ p np => ?_⟩⟩
  · subst z
    exact main t1 H1 g1 (Same.refl H1)
  · rw [rep_flat]
    exact main p _ upd_same ((Same.refl H1).new np)
theorem r_law {K : PySem.W.Frag} {vs : List V} {H : Hp} {Q : VK} {E : XK} (h : sp_law K vs H Q E) : t_law K { nx := fun _ H' => Q .non H', rt := Q } (start N_law vs) H := by
  obtain ⟨scr, ns, rfl, hscr, hns, q⟩ := h
  refine ⟨_, rfl, (by show 3 ≤ sizeLine; decide), fun st hst => ?_⟩
  have S1 : Stt K (upd H st (.lst [.ref scr, .int 0, .int 0])) st 0 := ⟨scr, ns, 0, upd_same, hscr.mono (.of_same ((Same.refl H).new hst)), hns⟩
  show t_law_9 K _ [some (.ref scr), some (.ref st), none, none, none, none, none] (upd H st (.lst [.ref scr, .int 0, .int 0]))
  generalize upd H st (.lst [.ref scr, .int 0, .int 0]) = H1 at S1 ⊢
  refine ⟨_, rfl, _, rfl, st, 3, 0, rfl, S1, by omega, by decide, by decide, fun d H2 d0 d1 S2 B2 => .inl ⟨_, _, rfl, rfl, ?_⟩⟩
  obtain ⟨n, hn⟩ : ∃ n : Nat, (1 : Int) + d = (n : Int) := ⟨(1 + d).toNat, by omega⟩
  refine ⟨st, 24, n, 1, (by show [V.ref st, V.int 24, V.int (1 + d)] = _; rw [hn]; rfl), S2, by omega, by decide, by decide, by omega, by omega, fun v c k3 H3 hc ok S3 l3 B3 => ?_⟩
  have few : FewC c := ⟨by rw [ok.len]; omega, fun b hb => by have := (ok.rows b hb).2; omega, fun b hb r hr => Nat.le_trans (ok.ats b hb r hr) (by decide)⟩
  show t_law_8 K _ [some (.ref scr), some (.ref st), some v, none, none, none, none] H3
  refine ⟨_, rfl, v, c, rfl, hc, few, fun b H4 hb s4 => ⟨b, true, rfl, rfl, _, rfl, ?_⟩⟩
  have eb : b = true := hb.mpr ok.fits
  subst eb
  refine iteF ?_
  have S4 := S3.same s4
  have hc4 := hc.mono (Tp.of_same s4)
  refine ⟨_, rfl, st, 150, k3, rfl, S4, by omega, by decide, by decide, fun e H5 e0 e1 S5 B5 => ?_⟩
  obtain ⟨i, rfl⟩ : ∃ i : Nat, e = (i : Int) := ⟨e.toNat, by omega⟩
  refine ⟨i, 0, rfl, by omega, by omega, fun H6 s6 => ⟨_, rfl, iteF ?_⟩⟩
  have S6 := S5.same s6
  have hc6 : CodeAt H6 v c := (hc4.mono (.of_but B5 S4.lst.choose_spec)).mono (Tp.of_same s6)
  show t_law_7 K _ [some (.ref scr), some (.ref st), some v, none, none, none, none] H6
  refine ⟨_, rfl, st, 150, k3 + 1, rfl, S6, by omega, by decide, by decide, fun e H7 e0 e1 S7 B7 => ?_⟩
  obtain ⟨j, rfl⟩ : ∃ j : Nat, e = (j : Int) := ⟨e.toNat, by omega⟩
  have hc7 : CodeAt H7 v c := hc6.mono (.of_but B7 S6.lst.choose_spec)
  show t_law_6 K _ [some (.ref scr), some (.ref st), some v, some (.int (j : Nat)), none, none, none] H7
  refine ⟨_, rfl, _, rfl, _, rfl, .inl ⟨_, _, rfl, rfl, st, _, k3 + 2, rfl, S7, by omega, by omega, by omega, fun e H8 e0 e1 S8 B8 => ?_⟩⟩
  obtain ⟨to, rfl⟩ : ∃ to : Nat, e = (to : Int) := ⟨e.toNat, by omega⟩
  refine ⟨j, to, rfl, by omega, by omega, fun H9 s9 => ⟨_, rfl, iteF ?_⟩⟩
  have S9 := S8.same s9
  have hc9 : CodeAt H9 v c := (hc7.mono (.of_but B8 S7.lst.choose_spec)).mono (Tp.of_same s9)
  show t_law_5 K _ [some (.ref scr), some (.ref st), some v, some (.int (j : Nat)), none, none, none] H9
  refine ⟨6, rfl, by decide, by decide, for_range (n := 6) (fun i σ' H' => ∃ o4 o5 o6 k', σ' = [some (.ref scr), some (.ref st), some v, some (.int (j : Nat)), o4, o5, o6] ∧ CodeAt H' v c ∧ Stt K H' st k' ∧ k' ≤ 40000 + 50 * i) ⟨_, _, _, _, rfl, hc9, S9, by omega⟩ ?_ ?_⟩
  · rintro i σ' H2 hi ⟨o4, o5, o6, k', rfl, hc2, S2, hk'⟩
    refine ⟨_, rfl, _, rfl, st, v, c, 24, n, k', rfl, S2, by omega, hc2, ok, by decide, by omega, by omega, fun u c' k4 H4 hu few' S4 l4 B4 => ?_⟩
    have hc4 : CodeAt H4 v c := hc2.mono (.of_but B4 S2.lst.choose_spec)
    refine ⟨_, rfl, u, c', rfl, hu, few', fun b H5 hb s5 => ?_⟩
    refine ⟨_, rfl, _, _, _, rfl, .bl_bool b, _, rfl, iteF ?_⟩
    refine ⟨_, rfl, _, rfl, u, c', rfl, hu.mono (Tp.of_same s5), few', fun b' H6 hb' s6 => .inl ⟨rfl, _, rfl, ?_⟩⟩
    have e : V.bl b = V.bl b' := by congr 1; rw [Bool.eq_iff_iff, hb, hb']
    rw [decide_eq_true e]
    exact iteF ⟨_, _, _, k4, rfl, (hc4.mono (Tp.of_same s5)).mono (Tp.of_same s6), (S4.same s5).same s6, by omega⟩
  · rintro σ' H2 ⟨o4, o5, o6, k', rfl, hc2, S2, hk'⟩
    refine ⟨_, rfl, v, c, rfl, hc2, few, fun b H3 hb s3 => ⟨b, true, rfl, rfl, ?_⟩⟩
    have eb : b = true := hb.mpr ok.fits
    subst eb
    exact q H3
end Bg
end
set_option Elab.async false
set_option linter.all false
set_option maxRecDepth 100000
set_option maxHeartbeats 4000000
namespace Bg
open PySem PySem.Spec PyProof.Rows L2
section
variable {P : Program} {w : World} {K : PySem.W.Frag} {mg : Str → Option Value} {base : Heap}
theorem len_c_goal {vs : List V} {H : Hp} {Q : VK} {E : XK} (h : sp_c_goal K vs H Q E) : vs.length = PS_c_goal.length := by
  first | (obtain ⟨rfl, _⟩ := h; rfl) | (obtain ⟨_, rfl, _⟩ := h; rfl) | (obtain ⟨_, _, rfl, _⟩ := h; rfl) | (obtain ⟨_, _, _, rfl, _⟩ := h; rfl) | (obtain ⟨_, _, _, _, rfl, _⟩ := h; rfl) | (obtain ⟨_, _, _, _, _, rfl, _⟩ := h; rfl) | (obtain ⟨_, _, _, _, _, _, rfl, _⟩ := h; rfl) | (obtain ⟨_, _, _, _, _, _, _, rfl, _⟩ := h; rfl) | (obtain ⟨_, _, _, _, _, _, _, _, rfl, _⟩ := h; rfl) | (obtain ⟨_, _, _, _, _, _, _, _, _, rfl, _⟩ := h; rfl) | (obtain ⟨_, _, _, _, _, _, _, _, _, _, rfl, _⟩ := h; rfl) | (obtain ⟨_, _, _, _, _, _, _, _, _, _, _, rfl, _⟩ := h; rfl) | (obtain ⟨_, _, _, _, _, _, _, _, _, _, _, _, rfl, _⟩ := h; rfl) | (obtain ⟨_, _, _, _, _, _, _, _, _, _, _, _, _, rfl, _⟩ := h; rfl) | (obtain ⟨_, _, _, _, _, _, _, _, _, _, _, _, _, _, rfl, _⟩ := h; rfl) | (obtain ⟨_, _, _, _, _, _, _, _, _, _, _, _, _, _, _, rfl, _⟩ := h; rfl)
theorem ok_c_goal {f : Addr} {fd : FuncData} (F : Fun K "goal" "goal" s_c_goal f fd) (B : Blt mg)  : FnOk P w K mg base CX0 K_c_goal f fd PS_c_goal (sp_c_goal K) :=
  F.ok sc_c_goal (fun vs H Q E h => len_c_goal h) fun cdv A outer s H vs Q E hr h => ⟨_, d_c_goal B hr, r_c_goal (E := E) h⟩
theorem len_c_leads {vs : List V} {H : Hp} {Q : VK} {E : XK} (h : sp_c_leads K vs H Q E) : vs.length = PS_c_leads.length := by
  first | (obtain ⟨rfl, _⟩ := h; rfl) | (obtain ⟨_, rfl, _⟩ := h; rfl) | (obtain ⟨_, _, rfl, _⟩ := h; rfl) | (obtain ⟨_, _, _, rfl, _⟩ := h; rfl) | (obtain ⟨_, _, _, _, rfl, _⟩ := h; rfl) | (obtain ⟨_, _, _, _, _, rfl, _⟩ := h; rfl) | (obtain ⟨_, _, _, _, _, _, rfl, _⟩ := h; rfl) | (obtain ⟨_, _, _, _, _, _, _, rfl, _⟩ := h; rfl) | (obtain ⟨_, _, _, _, _, _, _, _, rfl, _⟩ := h; rfl) | (obtain ⟨_, _, _, _, _, _, _, _, _, rfl, _⟩ := h; rfl) | (obtain ⟨_, _, _, _, _, _, _, _, _, _, rfl, _⟩ := h; rfl) | (obtain ⟨_, _, _, _, _, _, _, _, _, _, _, rfl, _⟩ := h; rfl) | (obtain ⟨_, _, _, _, _, _, _, _, _, _, _, _, rfl, _⟩ := h; rfl) | (obtain ⟨_, _, _, _, _, _, _, _, _, _, _, _, _, rfl, _⟩ := h; rfl) | (obtain ⟨_, _, _, _, _, _, _, _, _, _, _, _, _, _, rfl, _⟩ := h; rfl) | (obtain ⟨_, _, _, _, _, _, _, _, _, _, _, _, _, _, _, rfl, _⟩ := h; rfl)
theorem ok_c_leads {f : Addr} {fd : FuncData} (F : Fun K "leads" "leads" s_c_leads f fd) (B : Blt mg) (c_c_goal : Callee P w K mg base "goal" PS_c_goal K_c_goal (sp_c_goal K)) : FnOk P w K mg base CX0 K_c_leads f fd PS_c_leads (sp_c_leads K) :=
  F.ok sc_c_leads (fun vs H Q E h => len_c_leads h) fun cdv A outer s H vs Q E hr h => ⟨_, d_c_leads B c_c_goal hr, r_c_leads (E := E) h⟩
theorem len_p_has_ring {vs : List V} {H : Hp} {Q : VK} {E : XK} (h : sp_p_has_ring K vs H Q E) : vs.length = PS_p_has_ring.length := by
  first | (obtain ⟨rfl, _⟩ := h; rfl) | (obtain ⟨_, rfl, _⟩ := h; rfl) | (obtain ⟨_, _, rfl, _⟩ := h; rfl) | (obtain ⟨_, _, _, rfl, _⟩ := h; rfl) | (obtain ⟨_, _, _, _, rfl, _⟩ := h; rfl) | (obtain ⟨_, _, _, _, _, rfl, _⟩ := h; rfl) | (obtain ⟨_, _, _, _, _, _, rfl, _⟩ := h; rfl) | (obtain ⟨_, _, _, _, _, _, _, rfl, _⟩ := h; rfl) | (obtain ⟨_, _, _, _, _, _, _, _, rfl, _⟩ := h; rfl) | (obtain ⟨_, _, _, _, _, _, _, _, _, rfl, _⟩ := h; rfl) | (obtain ⟨_, _, _, _, _, _, _, _, _, _, rfl, _⟩ := h; rfl) | (obtain ⟨_, _, _, _, _, _, _, _, _, _, _, rfl, _⟩ := h; rfl) | (obtain ⟨_, _, _, _, _, _, _, _, _, _, _, _, rfl, _⟩ := h; rfl) | (obtain ⟨_, _, _, _, _, _, _, _, _, _, _, _, _, rfl, _⟩ := h; rfl) | (obtain ⟨_, _, _, _, _, _, _, _, _, _, _, _, _, _, rfl, _⟩ := h; rfl) | (obtain ⟨_, _, _, _, _, _, _, _, _, _, _, _, _, _, _, rfl, _⟩ := h; rfl)
theorem ok_p_has_ring {f : Addr} {fd : FuncData} (F : Fun K "has_ring" "has_ring" s_p_has_ring f fd) (B : Blt mg) (c_c_leads : Callee P w K mg base "leads" PS_c_leads K_c_leads (sp_c_leads K)) : FnOk P w K mg base CX0 K_p_has_ring f fd PS_p_has_ring (sp_p_has_ring K) :=
  F.ok sc_p_has_ring (fun vs H Q E h => len_p_has_ring h) fun cdv A outer s H vs Q E hr h => ⟨_, d_p_has_ring B c_c_leads hr, r_p_has_ring (E := E) h⟩
theorem len_p_is_number_of {vs : List V} {H : Hp} {Q : VK} {E : XK} (h : sp_p_is_number_of K vs H Q E) : vs.length = PS_p_is_number_of.length := by
  first | (obtain ⟨rfl, _⟩ := h; rfl) | (obtain ⟨_, rfl, _⟩ := h; rfl) | (obtain ⟨_, _, rfl, _⟩ := h; rfl) | (obtain ⟨_, _, _, rfl, _⟩ := h; rfl) | (obtain ⟨_, _, _, _, rfl, _⟩ := h; rfl) | (obtain ⟨_, _, _, _, _, rfl, _⟩ := h; rfl) | (obtain ⟨_, _, _, _, _, _, rfl, _⟩ := h; rfl) | (obtain ⟨_, _, _, _, _, _, _, rfl, _⟩ := h; rfl) | (obtain ⟨_, _, _, _, _, _, _, _, rfl, _⟩ := h; rfl) | (obtain ⟨_, _, _, _, _, _, _, _, _, rfl, _⟩ := h; rfl) | (obtain ⟨_, _, _, _, _, _, _, _, _, _, rfl, _⟩ := h; rfl) | (obtain ⟨_, _, _, _, _, _, _, _, _, _, _, rfl, _⟩ := h; rfl) | (obtain ⟨_, _, _, _, _, _, _, _, _, _, _, _, rfl, _⟩ := h; rfl) | (obtain ⟨_, _, _, _, _, _, _, _, _, _, _, _, _, rfl, _⟩ := h; rfl) | (obtain ⟨_, _, _, _, _, _, _, _, _, _, _, _, _, _, rfl, _⟩ := h; rfl) | (obtain ⟨_, _, _, _, _, _, _, _, _, _, _, _, _, _, _, rfl, _⟩ := h; rfl)
theorem ok_p_is_number_of {f : Addr} {fd : FuncData} (F : Fun K "is_number_of" "is_number_of" s_p_is_number_of f fd) (B : Blt mg)  : FnOk P w K mg base CX0 K_p_is_number_of f fd PS_p_is_number_of (sp_p_is_number_of K) :=
  F.ok sc_p_is_number_of (fun vs H Q E h => len_p_is_number_of h) fun cdv A outer s H vs Q E hr h => ⟨_, d_p_is_number_of B hr, r_p_is_number_of (E := E) h⟩
theorem len_p_call_fits {vs : List V} {H : Hp} {Q : VK} {E : XK} (h : sp_p_call_fits K vs H Q E) : vs.length = PS_p_call_fits.length := by
  first | (obtain ⟨rfl, _⟩ := h; rfl) | (obtain ⟨_, rfl, _⟩ := h; rfl) | (obtain ⟨_, _, rfl, _⟩ := h; rfl) | (obtain ⟨_, _, _, rfl, _⟩ := h; rfl) | (obtain ⟨_, _, _, _, rfl, _⟩ := h; rfl) | (obtain ⟨_, _, _, _, _, rfl, _⟩ := h; rfl) | (obtain ⟨_, _, _, _, _, _, rfl, _⟩ := h; rfl) | (obtain ⟨_, _, _, _, _, _, _, rfl, _⟩ := h; rfl) | (obtain ⟨_, _, _, _, _, _, _, _, rfl, _⟩ := h; rfl) | (obtain ⟨_, _, _, _, _, _, _, _, _, rfl, _⟩ := h; rfl) | (obtain ⟨_, _, _, _, _, _, _, _, _, _, rfl, _⟩ := h; rfl) | (obtain ⟨_, _, _, _, _, _, _, _, _, _, _, rfl, _⟩ := h; rfl) | (obtain ⟨_, _, _, _, _, _, _, _, _, _, _, _, rfl, _⟩ := h; rfl) | (obtain ⟨_, _, _, _, _, _, _, _, _, _, _, _, _, rfl, _⟩ := h; rfl) | (obtain ⟨_, _, _, _, _, _, _, _, _, _, _, _, _, _, rfl, _⟩ := h; rfl) | (obtain ⟨_, _, _, _, _, _, _, _, _, _, _, _, _, _, _, rfl, _⟩ := h; rfl)
theorem ok_p_call_fits {f : Addr} {fd : FuncData} (F : Fun K "call_fits" "call_fits" s_p_call_fits f fd) (B : Blt mg) (c_p_is_number_of : Callee P w K mg base "is_number_of" PS_p_is_number_of K_p_is_number_of (sp_p_is_number_of K)) : FnOk P w K mg base CX0 K_p_call_fits f fd PS_p_call_fits (sp_p_call_fits K) :=
  F.ok sc_p_call_fits (fun vs H Q E h => len_p_call_fits h) fun cdv A outer s H vs Q E hr h => ⟨_, d_p_call_fits B c_p_is_number_of hr, r_p_call_fits (E := E) h⟩
theorem len_p_places_read {vs : List V} {H : Hp} {Q : VK} {E : XK} (h : sp_p_places_read K vs H Q E) : vs.length = PS_p_places_read.length := by
  first | (obtain ⟨rfl, _⟩ := h; rfl) | (obtain ⟨_, rfl, _⟩ := h; rfl) | (obtain ⟨_, _, rfl, _⟩ := h; rfl) | (obtain ⟨_, _, _, rfl, _⟩ := h; rfl) | (obtain ⟨_, _, _, _, rfl, _⟩ := h; rfl) | (obtain ⟨_, _, _, _, _, rfl, _⟩ := h; rfl) | (obtain ⟨_, _, _, _, _, _, rfl, _⟩ := h; rfl) | (obtain ⟨_, _, _, _, _, _, _, rfl, _⟩ := h; rfl) | (obtain ⟨_, _, _, _, _, _, _, _, rfl, _⟩ := h; rfl) | (obtain ⟨_, _, _, _, _, _, _, _, _, rfl, _⟩ := h; rfl) | (obtain ⟨_, _, _, _, _, _, _, _, _, _, rfl, _⟩ := h; rfl) | (obtain ⟨_, _, _, _, _, _, _, _, _, _, _, rfl, _⟩ := h; rfl) | (obtain ⟨_, _, _, _, _, _, _, _, _, _, _, _, rfl, _⟩ := h; rfl) | (obtain ⟨_, _, _, _, _, _, _, _, _, _, _, _, _, rfl, _⟩ := h; rfl) | (obtain ⟨_, _, _, _, _, _, _, _, _, _, _, _, _, _, rfl, _⟩ := h; rfl) | (obtain ⟨_, _, _, _, _, _, _, _, _, _, _, _, _, _, _, rfl, _⟩ := h; rfl)
theorem ok_p_places_read {f : Addr} {fd : FuncData} (F : Fun K "places_read" "places_read" s_p_places_read f fd) (B : Blt mg)  : FnOk P w K mg base CX0 K_p_places_read f fd PS_p_places_read (sp_p_places_read K) :=
  F.ok sc_p_places_read (fun vs H Q E h => len_p_places_read h) fun cdv A outer s H vs Q E hr h => ⟨_, d_p_places_read B hr, r_p_places_read (E := E) h⟩
theorem len_p_row_fits {vs : List V} {H : Hp} {Q : VK} {E : XK} (h : sp_p_row_fits K vs H Q E) : vs.length = PS_p_row_fits.length := by
  first | (obtain ⟨rfl, _⟩ := h; rfl) | (obtain ⟨_, rfl, _⟩ := h; rfl) | (obtain ⟨_, _, rfl, _⟩ := h; rfl) | (obtain ⟨_, _, _, rfl, _⟩ := h; rfl) | (obtain ⟨_, _, _, _, rfl, _⟩ := h; rfl) | (obtain ⟨_, _, _, _, _, rfl, _⟩ := h; rfl) | (obtain ⟨_, _, _, _, _, _, rfl, _⟩ := h; rfl) | (obtain ⟨_, _, _, _, _, _, _, rfl, _⟩ := h; rfl) | (obtain ⟨_, _, _, _, _, _, _, _, rfl, _⟩ := h; rfl) | (obtain ⟨_, _, _, _, _, _, _, _, _, rfl, _⟩ := h; rfl) | (obtain ⟨_, _, _, _, _, _, _, _, _, _, rfl, _⟩ := h; rfl) | (obtain ⟨_, _, _, _, _, _, _, _, _, _, _, rfl, _⟩ := h; rfl) | (obtain ⟨_, _, _, _, _, _, _, _, _, _, _, _, rfl, _⟩ := h; rfl) | (obtain ⟨_, _, _, _, _, _, _, _, _, _, _, _, _, rfl, _⟩ := h; rfl) | (obtain ⟨_, _, _, _, _, _, _, _, _, _, _, _, _, _, rfl, _⟩ := h; rfl) | (obtain ⟨_, _, _, _, _, _, _, _, _, _, _, _, _, _, _, rfl, _⟩ := h; rfl)
theorem ok_p_row_fits {f : Addr} {fd : FuncData} (F : Fun K "row_fits" "row_fits" s_p_row_fits f fd) (B : Blt mg) (c_p_call_fits : Callee P w K mg base "call_fits" PS_p_call_fits K_p_call_fits (sp_p_call_fits K)) (c_p_is_number_of : Callee P w K mg base "is_number_of" PS_p_is_number_of K_p_is_number_of (sp_p_is_number_of K)) (c_c_goal : Callee P w K mg base "goal" PS_c_goal K_c_goal (sp_c_goal K)) (c_p_places_read : Callee P w K mg base "places_read" PS_p_places_read K_p_places_read (sp_p_places_read K)) : FnOk P w K mg base CX0 K_p_row_fits f fd PS_p_row_fits (sp_p_row_fits K) :=
  F.ok sc_p_row_fits (fun vs H Q E h => len_p_row_fits h) fun cdv A outer s H vs Q E hr h => ⟨_, d_p_row_fits B c_p_call_fits c_p_is_number_of c_c_goal c_p_places_read hr, r_p_row_fits (E := E) h⟩
theorem len_p_part_fits {vs : List V} {H : Hp} {Q : VK} {E : XK} (h : sp_p_part_fits K vs H Q E) : vs.length = PS_p_part_fits.length := by
  first | (obtain ⟨rfl, _⟩ := h; rfl) | (obtain ⟨_, rfl, _⟩ := h; rfl) | (obtain ⟨_, _, rfl, _⟩ := h; rfl) | (obtain ⟨_, _, _, rfl, _⟩ := h; rfl) | (obtain ⟨_, _, _, _, rfl, _⟩ := h; rfl) | (obtain ⟨_, _, _, _, _, rfl, _⟩ := h; rfl) | (obtain ⟨_, _, _, _, _, _, rfl, _⟩ := h; rfl) | (obtain ⟨_, _, _, _, _, _, _, rfl, _⟩ := h; rfl) | (obtain ⟨_, _, _, _, _, _, _, _, rfl, _⟩ := h; rfl) | (obtain ⟨_, _, _, _, _, _, _, _, _, rfl, _⟩ := h; rfl) | (obtain ⟨_, _, _, _, _, _, _, _, _, _, rfl, _⟩ := h; rfl) | (obtain ⟨_, _, _, _, _, _, _, _, _, _, _, rfl, _⟩ := h; rfl) | (obtain ⟨_, _, _, _, _, _, _, _, _, _, _, _, rfl, _⟩ := h; rfl) | (obtain ⟨_, _, _, _, _, _, _, _, _, _, _, _, _, rfl, _⟩ := h; rfl) | (obtain ⟨_, _, _, _, _, _, _, _, _, _, _, _, _, _, rfl, _⟩ := h; rfl) | (obtain ⟨_, _, _, _, _, _, _, _, _, _, _, _, _, _, _, rfl, _⟩ := h; rfl)
theorem ok_p_part_fits {f : Addr} {fd : FuncData} (F : Fun K "part_fits" "part_fits" s_p_part_fits f fd) (B : Blt mg) (c_p_has_ring : Callee P w K mg base "has_ring" PS_p_has_ring K_p_has_ring (sp_p_has_ring K)) (c_p_row_fits : Callee P w K mg base "row_fits" PS_p_row_fits K_p_row_fits (sp_p_row_fits K)) : FnOk P w K mg base CX0 K_p_part_fits f fd PS_p_part_fits (sp_p_part_fits K) :=
  F.ok sc_p_part_fits (fun vs H Q E h => len_p_part_fits h) fun cdv A outer s H vs Q E hr h => ⟨_, d_p_part_fits B c_p_has_ring c_p_row_fits hr, r_p_part_fits (E := E) h⟩
theorem len_p_fits {vs : List V} {H : Hp} {Q : VK} {E : XK} (h : sp_p_fits K vs H Q E) : vs.length = PS_p_fits.length := by
  first | (obtain ⟨rfl, _⟩ := h; rfl) | (obtain ⟨_, rfl, _⟩ := h; rfl) | (obtain ⟨_, _, rfl, _⟩ := h; rfl) | (obtain ⟨_, _, _, rfl, _⟩ := h; rfl) | (obtain ⟨_, _, _, _, rfl, _⟩ := h; rfl) | (obtain ⟨_, _, _, _, _, rfl, _⟩ := h; rfl) | (obtain ⟨_, _, _, _, _, _, rfl, _⟩ := h; rfl) | (obtain ⟨_, _, _, _, _, _, _, rfl, _⟩ := h; rfl) | (obtain ⟨_, _, _, _, _, _, _, _, rfl, _⟩ := h; rfl) | (obtain ⟨_, _, _, _, _, _, _, _, _, rfl, _⟩ := h; rfl) | (obtain ⟨_, _, _, _, _, _, _, _, _, _, rfl, _⟩ := h; rfl) | (obtain ⟨_, _, _, _, _, _, _, _, _, _, _, rfl, _⟩ := h; rfl) | (obtain ⟨_, _, _, _, _, _, _, _, _, _, _, _, rfl, _⟩ := h; rfl) | (obtain ⟨_, _, _, _, _, _, _, _, _, _, _, _, _, rfl, _⟩ := h; rfl) | (obtain ⟨_, _, _, _, _, _, _, _, _, _, _, _, _, _, rfl, _⟩ := h; rfl) | (obtain ⟨_, _, _, _, _, _, _, _, _, _, _, _, _, _, _, rfl, _⟩ := h; rfl)
theorem ok_p_fits {f : Addr} {fd : FuncData} (F : Fun K "fits" "fits" s_p_fits f fd) (B : Blt mg) (c_p_part_fits : Callee P w K mg base "part_fits" PS_p_part_fits K_p_part_fits (sp_p_part_fits K)) : FnOk P w K mg base CX0 K_p_fits f fd PS_p_fits (sp_p_fits K) :=
  F.ok sc_p_fits (fun vs H Q E h => len_p_fits h) fun cdv A outer s H vs Q E hr h => ⟨_, d_p_fits B c_p_part_fits hr, r_p_fits (E := E) h⟩
theorem len_silent {vs : List V} {H : Hp} {Q : VK} {E : XK} (h : sp_silent K vs H Q E) : vs.length = PS_silent.length := by
  first | (obtain ⟨rfl, _⟩ := h; rfl) | (obtain ⟨_, rfl, _⟩ := h; rfl) | (obtain ⟨_, _, rfl, _⟩ := h; rfl) | (obtain ⟨_, _, _, rfl, _⟩ := h; rfl) | (obtain ⟨_, _, _, _, rfl, _⟩ := h; rfl) | (obtain ⟨_, _, _, _, _, rfl, _⟩ := h; rfl) | (obtain ⟨_, _, _, _, _, _, rfl, _⟩ := h; rfl) | (obtain ⟨_, _, _, _, _, _, _, rfl, _⟩ := h; rfl) | (obtain ⟨_, _, _, _, _, _, _, _, rfl, _⟩ := h; rfl) | (obtain ⟨_, _, _, _, _, _, _, _, _, rfl, _⟩ := h; rfl) | (obtain ⟨_, _, _, _, _, _, _, _, _, _, rfl, _⟩ := h; rfl) | (obtain ⟨_, _, _, _, _, _, _, _, _, _, _, rfl, _⟩ := h; rfl) | (obtain ⟨_, _, _, _, _, _, _, _, _, _, _, _, rfl, _⟩ := h; rfl) | (obtain ⟨_, _, _, _, _, _, _, _, _, _, _, _, _, rfl, _⟩ := h; rfl) | (obtain ⟨_, _, _, _, _, _, _, _, _, _, _, _, _, _, rfl, _⟩ := h; rfl) | (obtain ⟨_, _, _, _, _, _, _, _, _, _, _, _, _, _, _, rfl, _⟩ := h; rfl)
theorem ok_silent {f : Addr} {fd : FuncData} (F : Fun K "_law_silent" "_law_silent" s_silent f fd) (B : Blt mg)  : FnOk P w K mg base CX0 K_silent f fd PS_silent (sp_silent K) :=
  F.ok sc_silent (fun vs H Q E h => len_silent h) fun cdv A outer s H vs Q E hr h => ⟨_, d_silent B hr, r_silent (E := E) h⟩
theorem len_row_fits {vs : List V} {H : Hp} {Q : VK} {E : XK} (h : sp_row_fits K vs H Q E) : vs.length = PS_row_fits.length := by
  first | (obtain ⟨rfl, _⟩ := h; rfl) | (obtain ⟨_, rfl, _⟩ := h; rfl) | (obtain ⟨_, _, rfl, _⟩ := h; rfl) | (obtain ⟨_, _, _, rfl, _⟩ := h; rfl) | (obtain ⟨_, _, _, _, rfl, _⟩ := h; rfl) | (obtain ⟨_, _, _, _, _, rfl, _⟩ := h; rfl) | (obtain ⟨_, _, _, _, _, _, rfl, _⟩ := h; rfl) | (obtain ⟨_, _, _, _, _, _, _, rfl, _⟩ := h; rfl) | (obtain ⟨_, _, _, _, _, _, _, _, rfl, _⟩ := h; rfl) | (obtain ⟨_, _, _, _, _, _, _, _, _, rfl, _⟩ := h; rfl) | (obtain ⟨_, _, _, _, _, _, _, _, _, _, rfl, _⟩ := h; rfl) | (obtain ⟨_, _, _, _, _, _, _, _, _, _, _, rfl, _⟩ := h; rfl) | (obtain ⟨_, _, _, _, _, _, _, _, _, _, _, _, rfl, _⟩ := h; rfl) | (obtain ⟨_, _, _, _, _, _, _, _, _, _, _, _, _, rfl, _⟩ := h; rfl) | (obtain ⟨_, _, _, _, _, _, _, _, _, _, _, _, _, _, rfl, _⟩ := h; rfl) | (obtain ⟨_, _, _, _, _, _, _, _, _, _, _, _, _, _, _, rfl, _⟩ := h; rfl)
theorem ok_row_fits {f : Addr} {fd : FuncData} (F : Fun K "_law_row_fits" "_law_row_fits" s_row_fits f fd) (B : Blt mg)  : FnOk P w K mg base CX0 K_row_fits f fd PS_row_fits (sp_row_fits K) :=
  F.ok sc_row_fits (fun vs H Q E h => len_row_fits h) fun cdv A outer s H vs Q E hr h => ⟨_, d_row_fits B hr, r_row_fits (E := E) h⟩
theorem len_fits {vs : List V} {H : Hp} {Q : VK} {E : XK} (h : sp_fits K vs H Q E) : vs.length = PS_fits.length := by
  first | (obtain ⟨rfl, _⟩ := h; rfl) | (obtain ⟨_, rfl, _⟩ := h; rfl) | (obtain ⟨_, _, rfl, _⟩ := h; rfl) | (obtain ⟨_, _, _, rfl, _⟩ := h; rfl) | (obtain ⟨_, _, _, _, rfl, _⟩ := h; rfl) | (obtain ⟨_, _, _, _, _, rfl, _⟩ := h; rfl) | (obtain ⟨_, _, _, _, _, _, rfl, _⟩ := h; rfl) | (obtain ⟨_, _, _, _, _, _, _, rfl, _⟩ := h; rfl) | (obtain ⟨_, _, _, _, _, _, _, _, rfl, _⟩ := h; rfl) | (obtain ⟨_, _, _, _, _, _, _, _, _, rfl, _⟩ := h; rfl) | (obtain ⟨_, _, _, _, _, _, _, _, _, _, rfl, _⟩ := h; rfl) | (obtain ⟨_, _, _, _, _, _, _, _, _, _, _, rfl, _⟩ := h; rfl) | (obtain ⟨_, _, _, _, _, _, _, _, _, _, _, _, rfl, _⟩ := h; rfl) | (obtain ⟨_, _, _, _, _, _, _, _, _, _, _, _, _, rfl, _⟩ := h; rfl) | (obtain ⟨_, _, _, _, _, _, _, _, _, _, _, _, _, _, rfl, _⟩ := h; rfl) | (obtain ⟨_, _, _, _, _, _, _, _, _, _, _, _, _, _, _, rfl, _⟩ := h; rfl)
theorem ok_fits {f : Addr} {fd : FuncData} (F : Fun K "_law_fits" "_law_fits" s_fits f fd) (B : Blt mg) (c_silent : Callee P w K mg base "_law_silent" PS_silent K_silent (sp_silent K)) (c_row_fits : Callee P w K mg base "_law_row_fits" PS_row_fits K_row_fits (sp_row_fits K)) : FnOk P w K mg base CX0 K_fits f fd PS_fits (sp_fits K) :=
  F.ok sc_fits (fun vs H Q E h => len_fits h) fun cdv A outer s H vs Q E hr h => ⟨_, d_fits B c_silent c_row_fits hr, r_fits (E := E) h⟩
theorem len_draw {vs : List V} {H : Hp} {Q : VK} {E : XK} (h : sp_draw K vs H Q E) : vs.length = PS_draw.length := by
  first | (obtain ⟨rfl, _⟩ := h; rfl) | (obtain ⟨_, rfl, _⟩ := h; rfl) | (obtain ⟨_, _, rfl, _⟩ := h; rfl) | (obtain ⟨_, _, _, rfl, _⟩ := h; rfl) | (obtain ⟨_, _, _, _, rfl, _⟩ := h; rfl) | (obtain ⟨_, _, _, _, _, rfl, _⟩ := h; rfl) | (obtain ⟨_, _, _, _, _, _, rfl, _⟩ := h; rfl) | (obtain ⟨_, _, _, _, _, _, _, rfl, _⟩ := h; rfl) | (obtain ⟨_, _, _, _, _, _, _, _, rfl, _⟩ := h; rfl) | (obtain ⟨_, _, _, _, _, _, _, _, _, rfl, _⟩ := h; rfl) | (obtain ⟨_, _, _, _, _, _, _, _, _, _, rfl, _⟩ := h; rfl) | (obtain ⟨_, _, _, _, _, _, _, _, _, _, _, rfl, _⟩ := h; rfl) | (obtain ⟨_, _, _, _, _, _, _, _, _, _, _, _, rfl, _⟩ := h; rfl) | (obtain ⟨_, _, _, _, _, _, _, _, _, _, _, _, _, rfl, _⟩ := h; rfl) | (obtain ⟨_, _, _, _, _, _, _, _, _, _, _, _, _, _, rfl, _⟩ := h; rfl) | (obtain ⟨_, _, _, _, _, _, _, _, _, _, _, _, _, _, _, rfl, _⟩ := h; rfl)
theorem ok_draw {f : Addr} {fd : FuncData} (F : Fun K "_law_draw" "_law_draw" s_draw f fd) (B : Blt mg)  : FnOk P w K mg base CX0 K_draw f fd PS_draw (sp_draw K) :=
  F.ok sc_draw (fun vs H Q E h => len_draw h) fun cdv A outer s H vs Q E hr h => ⟨_, d_draw B hr, r_draw (E := E) h⟩
theorem len_other {vs : List V} {H : Hp} {Q : VK} {E : XK} (h : sp_other K vs H Q E) : vs.length = PS_other.length := by
  first | (obtain ⟨rfl, _⟩ := h; rfl) | (obtain ⟨_, rfl, _⟩ := h; rfl) | (obtain ⟨_, _, rfl, _⟩ := h; rfl) | (obtain ⟨_, _, _, rfl, _⟩ := h; rfl) | (obtain ⟨_, _, _, _, rfl, _⟩ := h; rfl) | (obtain ⟨_, _, _, _, _, rfl, _⟩ := h; rfl) | (obtain ⟨_, _, _, _, _, _, rfl, _⟩ := h; rfl) | (obtain ⟨_, _, _, _, _, _, _, rfl, _⟩ := h; rfl) | (obtain ⟨_, _, _, _, _, _, _, _, rfl, _⟩ := h; rfl) | (obtain ⟨_, _, _, _, _, _, _, _, _, rfl, _⟩ := h; rfl) | (obtain ⟨_, _, _, _, _, _, _, _, _, _, rfl, _⟩ := h; rfl) | (obtain ⟨_, _, _, _, _, _, _, _, _, _, _, rfl, _⟩ := h; rfl) | (obtain ⟨_, _, _, _, _, _, _, _, _, _, _, _, rfl, _⟩ := h; rfl) | (obtain ⟨_, _, _, _, _, _, _, _, _, _, _, _, _, rfl, _⟩ := h; rfl) | (obtain ⟨_, _, _, _, _, _, _, _, _, _, _, _, _, _, rfl, _⟩ := h; rfl) | (obtain ⟨_, _, _, _, _, _, _, _, _, _, _, _, _, _, _, rfl, _⟩ := h; rfl)
theorem ok_other {f : Addr} {fd : FuncData} (F : Fun K "_law_other" "_law_other" s_other f fd) (B : Blt mg) (c_draw : Callee P w K mg base "_law_draw" PS_draw K_draw (sp_draw K)) : FnOk P w K mg base CX0 K_other f fd PS_other (sp_other K) :=
  F.ok sc_other (fun vs H Q E h => len_other h) fun cdv A outer s H vs Q E hr h => ⟨_, d_other B c_draw hr, r_other (E := E) h⟩
theorem len_row_changed {vs : List V} {H : Hp} {Q : VK} {E : XK} (h : sp_row_changed K vs H Q E) : vs.length = PS_row_changed.length := by
  first | (obtain ⟨rfl, _⟩ := h; rfl) | (obtain ⟨_, rfl, _⟩ := h; rfl) | (obtain ⟨_, _, rfl, _⟩ := h; rfl) | (obtain ⟨_, _, _, rfl, _⟩ := h; rfl) | (obtain ⟨_, _, _, _, rfl, _⟩ := h; rfl) | (obtain ⟨_, _, _, _, _, rfl, _⟩ := h; rfl) | (obtain ⟨_, _, _, _, _, _, rfl, _⟩ := h; rfl) | (obtain ⟨_, _, _, _, _, _, _, rfl, _⟩ := h; rfl) | (obtain ⟨_, _, _, _, _, _, _, _, rfl, _⟩ := h; rfl) | (obtain ⟨_, _, _, _, _, _, _, _, _, rfl, _⟩ := h; rfl) | (obtain ⟨_, _, _, _, _, _, _, _, _, _, rfl, _⟩ := h; rfl) | (obtain ⟨_, _, _, _, _, _, _, _, _, _, _, rfl, _⟩ := h; rfl) | (obtain ⟨_, _, _, _, _, _, _, _, _, _, _, _, rfl, _⟩ := h; rfl) | (obtain ⟨_, _, _, _, _, _, _, _, _, _, _, _, _, rfl, _⟩ := h; rfl) | (obtain ⟨_, _, _, _, _, _, _, _, _, _, _, _, _, _, rfl, _⟩ := h; rfl) | (obtain ⟨_, _, _, _, _, _, _, _, _, _, _, _, _, _, _, rfl, _⟩ := h; rfl)
theorem ok_row_changed {f : Addr} {fd : FuncData} (F : Fun K "_law_row_changed" "_law_row_changed" s_row_changed f fd) (B : Blt mg) (c_other : Callee P w K mg base "_law_other" PS_other K_other (sp_other K)) (c_draw : Callee P w K mg base "_law_draw" PS_draw K_draw (sp_draw K)) : FnOk P w K mg base CX0 K_row_changed f fd PS_row_changed (sp_row_changed K) :=
  F.ok sc_row_changed (fun vs H Q E h => len_row_changed h) fun cdv A outer s H vs Q E hr h => ⟨_, d_row_changed B c_other c_draw hr, r_row_changed (E := E) h⟩
theorem len_rows_changed {vs : List V} {H : Hp} {Q : VK} {E : XK} (h : sp_rows_changed K vs H Q E) : vs.length = PS_rows_changed.length := by
  first | (obtain ⟨rfl, _⟩ := h; rfl) | (obtain ⟨_, rfl, _⟩ := h; rfl) | (obtain ⟨_, _, rfl, _⟩ := h; rfl) | (obtain ⟨_, _, _, rfl, _⟩ := h; rfl) | (obtain ⟨_, _, _, _, rfl, _⟩ := h; rfl) | (obtain ⟨_, _, _, _, _, rfl, _⟩ := h; rfl) | (obtain ⟨_, _, _, _, _, _, rfl, _⟩ := h; rfl) | (obtain ⟨_, _, _, _, _, _, _, rfl, _⟩ := h; rfl) | (obtain ⟨_, _, _, _, _, _, _, _, rfl, _⟩ := h; rfl) | (obtain ⟨_, _, _, _, _, _, _, _, _, rfl, _⟩ := h; rfl) | (obtain ⟨_, _, _, _, _, _, _, _, _, _, rfl, _⟩ := h; rfl) | (obtain ⟨_, _, _, _, _, _, _, _, _, _, _, rfl, _⟩ := h; rfl) | (obtain ⟨_, _, _, _, _, _, _, _, _, _, _, _, rfl, _⟩ := h; rfl) | (obtain ⟨_, _, _, _, _, _, _, _, _, _, _, _, _, rfl, _⟩ := h; rfl) | (obtain ⟨_, _, _, _, _, _, _, _, _, _, _, _, _, _, rfl, _⟩ := h; rfl) | (obtain ⟨_, _, _, _, _, _, _, _, _, _, _, _, _, _, _, rfl, _⟩ := h; rfl)
theorem ok_rows_changed {f : Addr} {fd : FuncData} (F : Fun K "_law_rows_changed" "_law_rows_changed" s_rows_changed f fd) (B : Blt mg) (c_row_changed : Callee P w K mg base "_law_row_changed" PS_row_changed K_row_changed (sp_row_changed K)) (c_draw : Callee P w K mg base "_law_draw" PS_draw K_draw (sp_draw K)) : FnOk P w K mg base CX0 K_rows_changed f fd PS_rows_changed (sp_rows_changed K) :=
  F.ok sc_rows_changed (fun vs H Q E h => len_rows_changed h) fun cdv A outer s H vs Q E hr h => ⟨_, d_rows_changed B c_row_changed c_draw hr, r_rows_changed (E := E) h⟩
theorem len_changed {vs : List V} {H : Hp} {Q : VK} {E : XK} (h : sp_changed K vs H Q E) : vs.length = PS_changed.length := by
  first | (obtain ⟨rfl, _⟩ := h; rfl) | (obtain ⟨_, rfl, _⟩ := h; rfl) | (obtain ⟨_, _, rfl, _⟩ := h; rfl) | (obtain ⟨_, _, _, rfl, _⟩ := h; rfl) | (obtain ⟨_, _, _, _, rfl, _⟩ := h; rfl) | (obtain ⟨_, _, _, _, _, rfl, _⟩ := h; rfl) | (obtain ⟨_, _, _, _, _, _, rfl, _⟩ := h; rfl) | (obtain ⟨_, _, _, _, _, _, _, rfl, _⟩ := h; rfl) | (obtain ⟨_, _, _, _, _, _, _, _, rfl, _⟩ := h; rfl) | (obtain ⟨_, _, _, _, _, _, _, _, _, rfl, _⟩ := h; rfl) | (obtain ⟨_, _, _, _, _, _, _, _, _, _, rfl, _⟩ := h; rfl) | (obtain ⟨_, _, _, _, _, _, _, _, _, _, _, rfl, _⟩ := h; rfl) | (obtain ⟨_, _, _, _, _, _, _, _, _, _, _, _, rfl, _⟩ := h; rfl) | (obtain ⟨_, _, _, _, _, _, _, _, _, _, _, _, _, rfl, _⟩ := h; rfl) | (obtain ⟨_, _, _, _, _, _, _, _, _, _, _, _, _, _, rfl, _⟩ := h; rfl) | (obtain ⟨_, _, _, _, _, _, _, _, _, _, _, _, _, _, _, rfl, _⟩ := h; rfl)
theorem ok_changed {f : Addr} {fd : FuncData} (F : Fun K "_law_changed" "_law_changed" s_changed f fd) (B : Blt mg) (c_draw : Callee P w K mg base "_law_draw" PS_draw K_draw (sp_draw K)) (c_rows_changed : Callee P w K mg base "_law_rows_changed" PS_rows_changed K_rows_changed (sp_rows_changed K)) : FnOk P w K mg base CX0 K_changed f fd PS_changed (sp_changed K) :=
  F.ok sc_changed (fun vs H Q E h => len_changed h) fun cdv A outer s H vs Q E hr h => ⟨_, d_changed B c_draw c_rows_changed hr, r_changed (E := E) h⟩
theorem len_chain_right {vs : List V} {H : Hp} {Q : VK} {E : XK} (h : sp_chain_right K vs H Q E) : vs.length = PS_chain_right.length := by
  first | (obtain ⟨rfl, _⟩ := h; rfl) | (obtain ⟨_, rfl, _⟩ := h; rfl) | (obtain ⟨_, _, rfl, _⟩ := h; rfl) | (obtain ⟨_, _, _, rfl, _⟩ := h; rfl) | (obtain ⟨_, _, _, _, rfl, _⟩ := h; rfl) | (obtain ⟨_, _, _, _, _, rfl, _⟩ := h; rfl) | (obtain ⟨_, _, _, _, _, _, rfl, _⟩ := h; rfl) | (obtain ⟨_, _, _, _, _, _, _, rfl, _⟩ := h; rfl) | (obtain ⟨_, _, _, _, _, _, _, _, rfl, _⟩ := h; rfl) | (obtain ⟨_, _, _, _, _, _, _, _, _, rfl, _⟩ := h; rfl) | (obtain ⟨_, _, _, _, _, _, _, _, _, _, rfl, _⟩ := h; rfl) | (obtain ⟨_, _, _, _, _, _, _, _, _, _, _, rfl, _⟩ := h; rfl) | (obtain ⟨_, _, _, _, _, _, _, _, _, _, _, _, rfl, _⟩ := h; rfl) | (obtain ⟨_, _, _, _, _, _, _, _, _, _, _, _, _, rfl, _⟩ := h; rfl) | (obtain ⟨_, _, _, _, _, _, _, _, _, _, _, _, _, _, rfl, _⟩ := h; rfl) | (obtain ⟨_, _, _, _, _, _, _, _, _, _, _, _, _, _, _, rfl, _⟩ := h; rfl)
theorem ok_chain_right {f : Addr} {fd : FuncData} (F : Fun K "_law_chain_right" "_law_chain_right" s_chain_right f fd) (B : Blt mg) (c_p_fits : Callee P w K mg base "fits" PS_p_fits K_p_fits (sp_p_fits K)) : FnOk P w K mg base CX0 K_chain_right f fd PS_chain_right (sp_chain_right K) :=
  F.ok sc_chain_right (fun vs H Q E h => len_chain_right h) fun cdv A outer s H vs Q E hr h => ⟨_, d_chain_right B c_p_fits hr, r_chain_right (E := E) h⟩
theorem len_worth {vs : List V} {H : Hp} {Q : VK} {E : XK} (h : sp_worth K vs H Q E) : vs.length = PS_worth.length := by
  first | (obtain ⟨rfl, _⟩ := h; rfl) | (obtain ⟨_, rfl, _⟩ := h; rfl) | (obtain ⟨_, _, rfl, _⟩ := h; rfl) | (obtain ⟨_, _, _, rfl, _⟩ := h; rfl) | (obtain ⟨_, _, _, _, rfl, _⟩ := h; rfl) | (obtain ⟨_, _, _, _, _, rfl, _⟩ := h; rfl) | (obtain ⟨_, _, _, _, _, _, rfl, _⟩ := h; rfl) | (obtain ⟨_, _, _, _, _, _, _, rfl, _⟩ := h; rfl) | (obtain ⟨_, _, _, _, _, _, _, _, rfl, _⟩ := h; rfl) | (obtain ⟨_, _, _, _, _, _, _, _, _, rfl, _⟩ := h; rfl) | (obtain ⟨_, _, _, _, _, _, _, _, _, _, rfl, _⟩ := h; rfl) | (obtain ⟨_, _, _, _, _, _, _, _, _, _, _, rfl, _⟩ := h; rfl) | (obtain ⟨_, _, _, _, _, _, _, _, _, _, _, _, rfl, _⟩ := h; rfl) | (obtain ⟨_, _, _, _, _, _, _, _, _, _, _, _, _, rfl, _⟩ := h; rfl) | (obtain ⟨_, _, _, _, _, _, _, _, _, _, _, _, _, _, rfl, _⟩ := h; rfl) | (obtain ⟨_, _, _, _, _, _, _, _, _, _, _, _, _, _, _, rfl, _⟩ := h; rfl)
theorem ok_worth {f : Addr} {fd : FuncData} (F : Fun K "_law_worth" "_law_worth" s_worth f fd) (B : Blt mg) (c_draw : Callee P w K mg base "_law_draw" PS_draw K_draw (sp_draw K)) : FnOk P w K mg base CX0 K_worth f fd PS_worth (sp_worth K) :=
  F.ok sc_worth (fun vs H Q E h => len_worth h) fun cdv A outer s H vs Q E hr h => ⟨_, d_worth B c_draw hr, r_worth (E := E) h⟩
theorem len_code_row {vs : List V} {H : Hp} {Q : VK} {E : XK} (h : sp_code_row K vs H Q E) : vs.length = PS_code_row.length := by
  first | (obtain ⟨rfl, _⟩ := h; rfl) | (obtain ⟨_, rfl, _⟩ := h; rfl) | (obtain ⟨_, _, rfl, _⟩ := h; rfl) | (obtain ⟨_, _, _, rfl, _⟩ := h; rfl) | (obtain ⟨_, _, _, _, rfl, _⟩ := h; rfl) | (obtain ⟨_, _, _, _, _, rfl, _⟩ := h; rfl) | (obtain ⟨_, _, _, _, _, _, rfl, _⟩ := h; rfl) | (obtain ⟨_, _, _, _, _, _, _, rfl, _⟩ := h; rfl) | (obtain ⟨_, _, _, _, _, _, _, _, rfl, _⟩ := h; rfl) | (obtain ⟨_, _, _, _, _, _, _, _, _, rfl, _⟩ := h; rfl) | (obtain ⟨_, _, _, _, _, _, _, _, _, _, rfl, _⟩ := h; rfl) | (obtain ⟨_, _, _, _, _, _, _, _, _, _, _, rfl, _⟩ := h; rfl) | (obtain ⟨_, _, _, _, _, _, _, _, _, _, _, _, rfl, _⟩ := h; rfl) | (obtain ⟨_, _, _, _, _, _, _, _, _, _, _, _, _, rfl, _⟩ := h; rfl) | (obtain ⟨_, _, _, _, _, _, _, _, _, _, _, _, _, _, rfl, _⟩ := h; rfl) | (obtain ⟨_, _, _, _, _, _, _, _, _, _, _, _, _, _, _, rfl, _⟩ := h; rfl)
theorem ok_code_row {f : Addr} {fd : FuncData} (F : Fun K "_law_code_row" "_law_code_row" s_code_row f fd) (B : Blt mg) (c_draw : Callee P w K mg base "_law_draw" PS_draw K_draw (sp_draw K)) (c_worth : Callee P w K mg base "_law_worth" PS_worth K_worth (sp_worth K)) : FnOk P w K mg base CX0 K_code_row f fd PS_code_row (sp_code_row K) :=
  F.ok sc_code_row (fun vs H Q E h => len_code_row h) fun cdv A outer s H vs Q E hr h => ⟨_, d_code_row B c_draw c_worth hr, r_code_row (E := E) h⟩
theorem len_code_part {vs : List V} {H : Hp} {Q : VK} {E : XK} (h : sp_code_part K vs H Q E) : vs.length = PS_code_part.length := by
  first | (obtain ⟨rfl, _⟩ := h; rfl) | (obtain ⟨_, rfl, _⟩ := h; rfl) | (obtain ⟨_, _, rfl, _⟩ := h; rfl) | (obtain ⟨_, _, _, rfl, _⟩ := h; rfl) | (obtain ⟨_, _, _, _, rfl, _⟩ := h; rfl) | (obtain ⟨_, _, _, _, _, rfl, _⟩ := h; rfl) | (obtain ⟨_, _, _, _, _, _, rfl, _⟩ := h; rfl) | (obtain ⟨_, _, _, _, _, _, _, rfl, _⟩ := h; rfl) | (obtain ⟨_, _, _, _, _, _, _, _, rfl, _⟩ := h; rfl) | (obtain ⟨_, _, _, _, _, _, _, _, _, rfl, _⟩ := h; rfl) | (obtain ⟨_, _, _, _, _, _, _, _, _, _, rfl, _⟩ := h; rfl) | (obtain ⟨_, _, _, _, _, _, _, _, _, _, _, rfl, _⟩ := h; rfl) | (obtain ⟨_, _, _, _, _, _, _, _, _, _, _, _, rfl, _⟩ := h; rfl) | (obtain ⟨_, _, _, _, _, _, _, _, _, _, _, _, _, rfl, _⟩ := h; rfl) | (obtain ⟨_, _, _, _, _, _, _, _, _, _, _, _, _, _, rfl, _⟩ := h; rfl) | (obtain ⟨_, _, _, _, _, _, _, _, _, _, _, _, _, _, _, rfl, _⟩ := h; rfl)
theorem ok_code_part {f : Addr} {fd : FuncData} (F : Fun K "_law_code_part" "_law_code_part" s_code_part f fd) (B : Blt mg) (c_silent : Callee P w K mg base "_law_silent" PS_silent K_silent (sp_silent K)) (c_draw : Callee P w K mg base "_law_draw" PS_draw K_draw (sp_draw K)) (c_code_row : Callee P w K mg base "_law_code_row" PS_code_row K_code_row (sp_code_row K)) : FnOk P w K mg base CX0 K_code_part f fd PS_code_part (sp_code_part K) :=
  F.ok sc_code_part (fun vs H Q E h => len_code_part h) fun cdv A outer s H vs Q E hr h => ⟨_, d_code_part B c_silent c_draw c_code_row hr, r_code_part (E := E) h⟩
theorem len_code {vs : List V} {H : Hp} {Q : VK} {E : XK} (h : sp_code K vs H Q E) : vs.length = PS_code.length := by
  first | (obtain ⟨rfl, _⟩ := h; rfl) | (obtain ⟨_, rfl, _⟩ := h; rfl) | (obtain ⟨_, _, rfl, _⟩ := h; rfl) | (obtain ⟨_, _, _, rfl, _⟩ := h; rfl) | (obtain ⟨_, _, _, _, rfl, _⟩ := h; rfl) | (obtain ⟨_, _, _, _, _, rfl, _⟩ := h; rfl) | (obtain ⟨_, _, _, _, _, _, rfl, _⟩ := h; rfl) | (obtain ⟨_, _, _, _, _, _, _, rfl, _⟩ := h; rfl) | (obtain ⟨_, _, _, _, _, _, _, _, rfl, _⟩ := h; rfl) | (obtain ⟨_, _, _, _, _, _, _, _, _, rfl, _⟩ := h; rfl) | (obtain ⟨_, _, _, _, _, _, _, _, _, _, rfl, _⟩ := h; rfl) | (obtain ⟨_, _, _, _, _, _, _, _, _, _, _, rfl, _⟩ := h; rfl) | (obtain ⟨_, _, _, _, _, _, _, _, _, _, _, _, rfl, _⟩ := h; rfl) | (obtain ⟨_, _, _, _, _, _, _, _, _, _, _, _, _, rfl, _⟩ := h; rfl) | (obtain ⟨_, _, _, _, _, _, _, _, _, _, _, _, _, _, rfl, _⟩ := h; rfl) | (obtain ⟨_, _, _, _, _, _, _, _, _, _, _, _, _, _, _, rfl, _⟩ := h; rfl)
theorem ok_code {f : Addr} {fd : FuncData} (F : Fun K "_law_code" "_law_code" s_code f fd) (B : Blt mg) (c_code_part : Callee P w K mg base "_law_code_part" PS_code_part K_code_part (sp_code_part K)) (c_draw : Callee P w K mg base "_law_draw" PS_draw K_draw (sp_draw K)) : FnOk P w K mg base CX0 K_code f fd PS_code (sp_code K) :=
  F.ok sc_code (fun vs H Q E h => len_code h) fun cdv A outer s H vs Q E hr h => ⟨_, d_code B c_code_part c_draw hr, r_code (E := E) h⟩
theorem len_law {vs : List V} {H : Hp} {Q : VK} {E : XK} (h : sp_law K vs H Q E) : vs.length = PS_law.length := by
  first | (obtain ⟨rfl, _⟩ := h; rfl) | (obtain ⟨_, rfl, _⟩ := h; rfl) | (obtain ⟨_, _, rfl, _⟩ := h; rfl) | (obtain ⟨_, _, _, rfl, _⟩ := h; rfl) | (obtain ⟨_, _, _, _, rfl, _⟩ := h; rfl) | (obtain ⟨_, _, _, _, _, rfl, _⟩ := h; rfl) | (obtain ⟨_, _, _, _, _, _, rfl, _⟩ := h; rfl) | (obtain ⟨_, _, _, _, _, _, _, rfl, _⟩ := h; rfl) | (obtain ⟨_, _, _, _, _, _, _, _, rfl, _⟩ := h; rfl) | (obtain ⟨_, _, _, _, _, _, _, _, _, rfl, _⟩ := h; rfl) | (obtain ⟨_, _, _, _, _, _, _, _, _, _, rfl, _⟩ := h; rfl) | (obtain ⟨_, _, _, _, _, _, _, _, _, _, _, rfl, _⟩ := h; rfl) | (obtain ⟨_, _, _, _, _, _, _, _, _, _, _, _, rfl, _⟩ := h; rfl) | (obtain ⟨_, _, _, _, _, _, _, _, _, _, _, _, _, rfl, _⟩ := h; rfl) | (obtain ⟨_, _, _, _, _, _, _, _, _, _, _, _, _, _, rfl, _⟩ := h; rfl) | (obtain ⟨_, _, _, _, _, _, _, _, _, _, _, _, _, _, _, rfl, _⟩ := h; rfl)
theorem ok_law {f : Addr} {fd : FuncData} (F : Fun K "law" "law" s_law f fd) (B : Blt mg) (c_p_fits : Callee P w K mg base "fits" PS_p_fits K_p_fits (sp_p_fits K)) (c_fits : Callee P w K mg base "_law_fits" PS_fits K_fits (sp_fits K)) (c_changed : Callee P w K mg base "_law_changed" PS_changed K_changed (sp_changed K)) (c_draw : Callee P w K mg base "_law_draw" PS_draw K_draw (sp_draw K)) (c_chain_right : Callee P w K mg base "_law_chain_right" PS_chain_right K_chain_right (sp_chain_right K)) (c_code : Callee P w K mg base "_law_code" PS_code K_code (sp_code K)) : FnOk P w K mg base CX0 K_law f fd PS_law (sp_law K) :=
  F.ok sc_law (fun vs H Q E h => len_law h) fun cdv A outer s H vs Q E hr h => ⟨_, d_law B c_p_fits c_fits c_changed c_draw c_chain_right c_code hr, r_law (E := E) h⟩
end
theorem all_mk {l : PySem.W.OpenLaw} {w : World} {K : PySem.W.Frag} {h : Heap} {mg : Str → Option Value} {fa : Addr} (X : K.In h) (G : h.Ns mainGlobals mg) (hfa : mg "law" = some (.ref fa))
    {od0 an0 : Option Addr} {sl0 : Array (Option Value)} {oc0 kV0 dc0 pm0 cd0 ct0 : Value} {f0 : Addr}
    (a0 : PySem.W.nsIn K mainGlobals "goal" = some (some (.ref f0))) (l0 : K.lookup f0 = some ⟨oc0, od0, .func (PySem.W.fnOf "goal" "goal" (defArgs s_c_goal) (defBody s_c_goal) (defScope s_c_goal) .none kV0 dc0 pm0 an0 cd0 ct0), sl0⟩) (c0 : PySem.W.codeIn K cd0 "goal" = true) (k0 : PySem.W.keepIn K (.ref f0) = true)
    {od1 an1 : Option Addr} {sl1 : Array (Option Value)} {oc1 kV1 dc1 pm1 cd1 ct1 : Value} {f1 : Addr}
    (a1 : PySem.W.nsIn K mainGlobals "leads" = some (some (.ref f1))) (l1 : K.lookup f1 = some ⟨oc1, od1, .func (PySem.W.fnOf "leads" "leads" (defArgs s_c_leads) (defBody s_c_leads) (defScope s_c_leads) .none kV1 dc1 pm1 an1 cd1 ct1), sl1⟩) (c1 : PySem.W.codeIn K cd1 "leads" = true) (k1 : PySem.W.keepIn K (.ref f1) = true)
    {od2 an2 : Option Addr} {sl2 : Array (Option Value)} {oc2 kV2 dc2 pm2 cd2 ct2 : Value} {f2 : Addr}
    (a2 : PySem.W.nsIn K mainGlobals "has_ring" = some (some (.ref f2))) (l2 : K.lookup f2 = some ⟨oc2, od2, .func (PySem.W.fnOf "has_ring" "has_ring" (defArgs s_p_has_ring) (defBody s_p_has_ring) (defScope s_p_has_ring) .none kV2 dc2 pm2 an2 cd2 ct2), sl2⟩) (c2 : PySem.W.codeIn K cd2 "has_ring" = true) (k2 : PySem.W.keepIn K (.ref f2) = true)
    {od3 an3 : Option Addr} {sl3 : Array (Option Value)} {oc3 kV3 dc3 pm3 cd3 ct3 : Value} {f3 : Addr}
    (a3 : PySem.W.nsIn K mainGlobals "is_number_of" = some (some (.ref f3))) (l3 : K.lookup f3 = some ⟨oc3, od3, .func (PySem.W.fnOf "is_number_of" "is_number_of" (defArgs s_p_is_number_of) (defBody s_p_is_number_of) (defScope s_p_is_number_of) .none kV3 dc3 pm3 an3 cd3 ct3), sl3⟩) (c3 : PySem.W.codeIn K cd3 "is_number_of" = true) (k3 : PySem.W.keepIn K (.ref f3) = true)
    {od4 an4 : Option Addr} {sl4 : Array (Option Value)} {oc4 kV4 dc4 pm4 cd4 ct4 : Value} {f4 : Addr}
    (a4 : PySem.W.nsIn K mainGlobals "call_fits" = some (some (.ref f4))) (l4 : K.lookup f4 = some ⟨oc4, od4, .func (PySem.W.fnOf "call_fits" "call_fits" (defArgs s_p_call_fits) (defBody s_p_call_fits) (defScope s_p_call_fits) .none kV4 dc4 pm4 an4 cd4 ct4), sl4⟩) (c4 : PySem.W.codeIn K cd4 "call_fits" = true) (k4 : PySem.W.keepIn K (.ref f4) = true)
    {od5 an5 : Option Addr} {sl5 : Array (Option Value)} {oc5 kV5 dc5 pm5 cd5 ct5 : Value} {f5 : Addr}
    (a5 : PySem.W.nsIn K mainGlobals "places_read" = some (some (.ref f5))) (l5 : K.lookup f5 = some ⟨oc5, od5, .func (PySem.W.fnOf "places_read" "places_read" (defArgs s_p_places_read) (defBody s_p_places_read) (defScope s_p_places_read) .none kV5 dc5 pm5 an5 cd5 ct5), sl5⟩) (c5 : PySem.W.codeIn K cd5 "places_read" = true) (k5 : PySem.W.keepIn K (.ref f5) = true)
    {od6 an6 : Option Addr} {sl6 : Array (Option Value)} {oc6 kV6 dc6 pm6 cd6 ct6 : Value} {f6 : Addr}
    (a6 : PySem.W.nsIn K mainGlobals "row_fits" = some (some (.ref f6))) (l6 : K.lookup f6 = some ⟨oc6, od6, .func (PySem.W.fnOf "row_fits" "row_fits" (defArgs s_p_row_fits) (defBody s_p_row_fits) (defScope s_p_row_fits) .none kV6 dc6 pm6 an6 cd6 ct6), sl6⟩) (c6 : PySem.W.codeIn K cd6 "row_fits" = true) (k6 : PySem.W.keepIn K (.ref f6) = true)
    {od7 an7 : Option Addr} {sl7 : Array (Option Value)} {oc7 kV7 dc7 pm7 cd7 ct7 : Value} {f7 : Addr}
    (a7 : PySem.W.nsIn K mainGlobals "part_fits" = some (some (.ref f7))) (l7 : K.lookup f7 = some ⟨oc7, od7, .func (PySem.W.fnOf "part_fits" "part_fits" (defArgs s_p_part_fits) (defBody s_p_part_fits) (defScope s_p_part_fits) .none kV7 dc7 pm7 an7 cd7 ct7), sl7⟩) (c7 : PySem.W.codeIn K cd7 "part_fits" = true) (k7 : PySem.W.keepIn K (.ref f7) = true)
    {od8 an8 : Option Addr} {sl8 : Array (Option Value)} {oc8 kV8 dc8 pm8 cd8 ct8 : Value} {f8 : Addr}
    (a8 : PySem.W.nsIn K mainGlobals "fits" = some (some (.ref f8))) (l8 : K.lookup f8 = some ⟨oc8, od8, .func (PySem.W.fnOf "fits" "fits" (defArgs s_p_fits) (defBody s_p_fits) (defScope s_p_fits) .none kV8 dc8 pm8 an8 cd8 ct8), sl8⟩) (c8 : PySem.W.codeIn K cd8 "fits" = true) (k8 : PySem.W.keepIn K (.ref f8) = true)
    {od9 an9 : Option Addr} {sl9 : Array (Option Value)} {oc9 kV9 dc9 pm9 cd9 ct9 : Value} {f9 : Addr}
    (a9 : PySem.W.nsIn K mainGlobals "_law_silent" = some (some (.ref f9))) (l9 : K.lookup f9 = some ⟨oc9, od9, .func (PySem.W.fnOf "_law_silent" "_law_silent" (defArgs s_silent) (defBody s_silent) (defScope s_silent) .none kV9 dc9 pm9 an9 cd9 ct9), sl9⟩) (c9 : PySem.W.codeIn K cd9 "_law_silent" = true) (k9 : PySem.W.keepIn K (.ref f9) = true)
    {od10 an10 : Option Addr} {sl10 : Array (Option Value)} {oc10 kV10 dc10 pm10 cd10 ct10 : Value} {f10 : Addr}
    (a10 : PySem.W.nsIn K mainGlobals "_law_row_fits" = some (some (.ref f10))) (l10 : K.lookup f10 = some ⟨oc10, od10, .func (PySem.W.fnOf "_law_row_fits" "_law_row_fits" (defArgs s_row_fits) (defBody s_row_fits) (defScope s_row_fits) .none kV10 dc10 pm10 an10 cd10 ct10), sl10⟩) (c10 : PySem.W.codeIn K cd10 "_law_row_fits" = true) (k10 : PySem.W.keepIn K (.ref f10) = true)
    {od11 an11 : Option Addr} {sl11 : Array (Option Value)} {oc11 kV11 dc11 pm11 cd11 ct11 : Value} {f11 : Addr}
    (a11 : PySem.W.nsIn K mainGlobals "_law_fits" = some (some (.ref f11))) (l11 : K.lookup f11 = some ⟨oc11, od11, .func (PySem.W.fnOf "_law_fits" "_law_fits" (defArgs s_fits) (defBody s_fits) (defScope s_fits) .none kV11 dc11 pm11 an11 cd11 ct11), sl11⟩) (c11 : PySem.W.codeIn K cd11 "_law_fits" = true) (k11 : PySem.W.keepIn K (.ref f11) = true)
    {od12 an12 : Option Addr} {sl12 : Array (Option Value)} {oc12 kV12 dc12 pm12 cd12 ct12 : Value} {f12 : Addr}
    (a12 : PySem.W.nsIn K mainGlobals "_law_draw" = some (some (.ref f12))) (l12 : K.lookup f12 = some ⟨oc12, od12, .func (PySem.W.fnOf "_law_draw" "_law_draw" (defArgs s_draw) (defBody s_draw) (defScope s_draw) .none kV12 dc12 pm12 an12 cd12 ct12), sl12⟩) (c12 : PySem.W.codeIn K cd12 "_law_draw" = true) (k12 : PySem.W.keepIn K (.ref f12) = true)
    {od13 an13 : Option Addr} {sl13 : Array (Option Value)} {oc13 kV13 dc13 pm13 cd13 ct13 : Value} {f13 : Addr}
    (a13 : PySem.W.nsIn K mainGlobals "_law_other" = some (some (.ref f13))) (l13 : K.lookup f13 = some ⟨oc13, od13, .func (PySem.W.fnOf "_law_other" "_law_other" (defArgs s_other) (defBody s_other) (defScope s_other) .none kV13 dc13 pm13 an13 cd13 ct13), sl13⟩) (c13 : PySem.W.codeIn K cd13 "_law_other" = true) (k13 : PySem.W.keepIn K (.ref f13) = true)
    {od14 an14 : Option Addr} {sl14 : Array (Option Value)} {oc14 kV14 dc14 pm14 cd14 ct14 : Value} {f14 : Addr}
    (a14 : PySem.W.nsIn K mainGlobals "_law_row_changed" = some (some (.ref f14))) (l14 : K.lookup f14 = some ⟨oc14, od14, .func (PySem.W.fnOf "_law_row_changed" "_law_row_changed" (defArgs s_row_changed) (defBody s_row_changed) (defScope s_row_changed) .none kV14 dc14 pm14 an14 cd14 ct14), sl14⟩) (c14 : PySem.W.codeIn K cd14 "_law_row_changed" = true) (k14 : PySem.W.keepIn K (.ref f14) = true)
    {od15 an15 : Option Addr} {sl15 : Array (Option Value)} {oc15 kV15 dc15 pm15 cd15 ct15 : Value} {f15 : Addr}
    (a15 : PySem.W.nsIn K mainGlobals "_law_rows_changed" = some (some (.ref f15))) (l15 : K.lookup f15 = some ⟨oc15, od15, .func (PySem.W.fnOf "_law_rows_changed" "_law_rows_changed" (defArgs s_rows_changed) (defBody s_rows_changed) (defScope s_rows_changed) .none kV15 dc15 pm15 an15 cd15 ct15), sl15⟩) (c15 : PySem.W.codeIn K cd15 "_law_rows_changed" = true) (k15 : PySem.W.keepIn K (.ref f15) = true)
    {od16 an16 : Option Addr} {sl16 : Array (Option Value)} {oc16 kV16 dc16 pm16 cd16 ct16 : Value} {f16 : Addr}
    (a16 : PySem.W.nsIn K mainGlobals "_law_changed" = some (some (.ref f16))) (l16 : K.lookup f16 = some ⟨oc16, od16, .func (PySem.W.fnOf "_law_changed" "_law_changed" (defArgs s_changed) (defBody s_changed) (defScope s_changed) .none kV16 dc16 pm16 an16 cd16 ct16), sl16⟩) (c16 : PySem.W.codeIn K cd16 "_law_changed" = true) (k16 : PySem.W.keepIn K (.ref f16) = true)
    {od17 an17 : Option Addr} {sl17 : Array (Option Value)} {oc17 kV17 dc17 pm17 cd17 ct17 : Value} {f17 : Addr}
    (a17 : PySem.W.nsIn K mainGlobals "_law_chain_right" = some (some (.ref f17))) (l17 : K.lookup f17 = some ⟨oc17, od17, .func (PySem.W.fnOf "_law_chain_right" "_law_chain_right" (defArgs s_chain_right) (defBody s_chain_right) (defScope s_chain_right) .none kV17 dc17 pm17 an17 cd17 ct17), sl17⟩) (c17 : PySem.W.codeIn K cd17 "_law_chain_right" = true) (k17 : PySem.W.keepIn K (.ref f17) = true)
    {od18 an18 : Option Addr} {sl18 : Array (Option Value)} {oc18 kV18 dc18 pm18 cd18 ct18 : Value} {f18 : Addr}
    (a18 : PySem.W.nsIn K mainGlobals "_law_worth" = some (some (.ref f18))) (l18 : K.lookup f18 = some ⟨oc18, od18, .func (PySem.W.fnOf "_law_worth" "_law_worth" (defArgs s_worth) (defBody s_worth) (defScope s_worth) .none kV18 dc18 pm18 an18 cd18 ct18), sl18⟩) (c18 : PySem.W.codeIn K cd18 "_law_worth" = true) (k18 : PySem.W.keepIn K (.ref f18) = true)
    {od19 an19 : Option Addr} {sl19 : Array (Option Value)} {oc19 kV19 dc19 pm19 cd19 ct19 : Value} {f19 : Addr}
    (a19 : PySem.W.nsIn K mainGlobals "_law_code_row" = some (some (.ref f19))) (l19 : K.lookup f19 = some ⟨oc19, od19, .func (PySem.W.fnOf "_law_code_row" "_law_code_row" (defArgs s_code_row) (defBody s_code_row) (defScope s_code_row) .none kV19 dc19 pm19 an19 cd19 ct19), sl19⟩) (c19 : PySem.W.codeIn K cd19 "_law_code_row" = true) (k19 : PySem.W.keepIn K (.ref f19) = true)
    {od20 an20 : Option Addr} {sl20 : Array (Option Value)} {oc20 kV20 dc20 pm20 cd20 ct20 : Value} {f20 : Addr}
    (a20 : PySem.W.nsIn K mainGlobals "_law_code_part" = some (some (.ref f20))) (l20 : K.lookup f20 = some ⟨oc20, od20, .func (PySem.W.fnOf "_law_code_part" "_law_code_part" (defArgs s_code_part) (defBody s_code_part) (defScope s_code_part) .none kV20 dc20 pm20 an20 cd20 ct20), sl20⟩) (c20 : PySem.W.codeIn K cd20 "_law_code_part" = true) (k20 : PySem.W.keepIn K (.ref f20) = true)
    {od21 an21 : Option Addr} {sl21 : Array (Option Value)} {oc21 kV21 dc21 pm21 cd21 ct21 : Value} {f21 : Addr}
    (a21 : PySem.W.nsIn K mainGlobals "_law_code" = some (some (.ref f21))) (l21 : K.lookup f21 = some ⟨oc21, od21, .func (PySem.W.fnOf "_law_code" "_law_code" (defArgs s_code) (defBody s_code) (defScope s_code) .none kV21 dc21 pm21 an21 cd21 ct21), sl21⟩) (c21 : PySem.W.codeIn K cd21 "_law_code" = true) (k21 : PySem.W.keepIn K (.ref f21) = true)
    {od22 an22 : Option Addr} {sl22 : Array (Option Value)} {oc22 kV22 dc22 pm22 cd22 ct22 : Value} {f22 : Addr}
    (a22 : PySem.W.nsIn K mainGlobals "law" = some (some (.ref f22))) (l22 : K.lookup f22 = some ⟨oc22, od22, .func (PySem.W.fnOf "law" "law" (defArgs s_law) (defBody s_law) (defScope s_law) .none kV22 dc22 pm22 an22 cd22 ct22), sl22⟩) (c22 : PySem.W.codeIn K cd22 "law" = true) (k22 : PySem.W.keepIn K (.ref f22) = true)
    (z_len : PySem.W.nsIn K mainGlobals "len" = some none) (z_range : PySem.W.nsIn K mainGlobals "range" = some none) (z_divmod : PySem.W.nsIn K mainGlobals "divmod" = some none) (z_max : PySem.W.nsIn K mainGlobals "max" = some none) (z_min : PySem.W.nsIn K mainGlobals "min" = some none) (z_sum : PySem.W.nsIn K mainGlobals "sum" = some none) (z_all : PySem.W.nsIn K mainGlobals "all" = some none) (z_isinstance : PySem.W.nsIn K mainGlobals "isinstance" = some none) (z_int : PySem.W.nsIn K mainGlobals "int" = some none) (z_bool : PySem.W.nsIn K mainGlobals "bool" = some none) (z_list : PySem.W.nsIn K mainGlobals "list" = some none) (z_tuple : PySem.W.nsIn K mainGlobals "tuple" = some none) (z_enumerate : PySem.W.nsIn K mainGlobals "enumerate" = some none) (z_zip : PySem.W.nsIn K mainGlobals "zip" = some none) (z_sorted : PySem.W.nsIn K mainGlobals "sorted" = some none) (z_set : PySem.W.nsIn K mainGlobals "set" = some none) (z_dict : PySem.W.nsIn K mainGlobals "dict" = some none) (z_str : PySem.W.nsIn K mainGlobals "str" = some none) (z_any : PySem.W.nsIn K mainGlobals "any" = some none) (z_reversed : PySem.W.nsIn K mainGlobals "reversed" = some none) (z_abs : PySem.W.nsIn K mainGlobals "abs" = some none) :
    ∃ fd : FuncData, (∀ (s : Shared) (v : Value), BindsTo s fd ⟨[v], []⟩ [("_law_script", v)]) ∧ ∀ base : Heap, K.In base → base.Ns mainGlobals mg → FnOk l.prog w K mg base CX0 K_law fa fd PS_law (sp_law K) := by
  have e := hfa.symm.trans (PySem.W.mg_of X G a22)
  cases e
  have B : Blt mg := ⟨PySem.W.mg_none_of X G z_len, PySem.W.mg_none_of X G z_range, PySem.W.mg_none_of X G z_divmod, PySem.W.mg_none_of X G z_max, PySem.W.mg_none_of X G z_min, PySem.W.mg_none_of X G z_sum, PySem.W.mg_none_of X G z_all, PySem.W.mg_none_of X G z_isinstance, PySem.W.mg_none_of X G z_int, PySem.W.mg_none_of X G z_bool, PySem.W.mg_none_of X G z_list, PySem.W.mg_none_of X G z_tuple, PySem.W.mg_none_of X G z_enumerate, PySem.W.mg_none_of X G z_zip, PySem.W.mg_none_of X G z_sorted, PySem.W.mg_none_of X G z_set, PySem.W.mg_none_of X G z_dict, PySem.W.mg_none_of X G z_str, PySem.W.mg_none_of X G z_any, PySem.W.mg_none_of X G z_reversed, PySem.W.mg_none_of X G z_abs⟩
  have F0 := fun_mk (st := s_c_goal) l0 c0 k0
  have b0 := F0.binds (ps := PS_c_goal) fun _ _ _ _ _ _ us hl => match us, hl with | [_], _ => rfl
  have F1 := fun_mk (st := s_c_leads) l1 c1 k1
  have b1 := F1.binds (ps := PS_c_leads) fun _ _ _ _ _ _ us hl => match us, hl with | [_, _], _ => rfl
  have F2 := fun_mk (st := s_p_has_ring) l2 c2 k2
  have b2 := F2.binds (ps := PS_p_has_ring) fun _ _ _ _ _ _ us hl => match us, hl with | [_], _ => rfl
  have F3 := fun_mk (st := s_p_is_number_of) l3 c3 k3
  have b3 := F3.binds (ps := PS_p_is_number_of) fun _ _ _ _ _ _ us hl => match us, hl with | [_, _], _ => rfl
  have F4 := fun_mk (st := s_p_call_fits) l4 c4 k4
  have b4 := F4.binds (ps := PS_p_call_fits) fun _ _ _ _ _ _ us hl => match us, hl with | [_, _], _ => rfl
  have F5 := fun_mk (st := s_p_places_read) l5 c5 k5
  have b5 := F5.binds (ps := PS_p_places_read) fun _ _ _ _ _ _ us hl => match us, hl with | [_], _ => rfl
  have F6 := fun_mk (st := s_p_row_fits) l6 c6 k6
  have b6 := F6.binds (ps := PS_p_row_fits) fun _ _ _ _ _ _ us hl => match us, hl with | [_, _, _, _], _ => rfl
  have F7 := fun_mk (st := s_p_part_fits) l7 c7 k7
  have b7 := F7.binds (ps := PS_p_part_fits) fun _ _ _ _ _ _ us hl => match us, hl with | [_, _, _], _ => rfl
  have F8 := fun_mk (st := s_p_fits) l8 c8 k8
  have b8 := F8.binds (ps := PS_p_fits) fun _ _ _ _ _ _ us hl => match us, hl with | [_], _ => rfl
  have F9 := fun_mk (st := s_silent) l9 c9 k9
  have b9 := F9.binds (ps := PS_silent) fun _ _ _ _ _ _ us hl => match us, hl with | [_, _], _ => rfl
  have F10 := fun_mk (st := s_row_fits) l10 c10 k10
  have b10 := F10.binds (ps := PS_row_fits) fun _ _ _ _ _ _ us hl => match us, hl with | [_, _, _], _ => rfl
  have F11 := fun_mk (st := s_fits) l11 c11 k11
  have b11 := F11.binds (ps := PS_fits) fun _ _ _ _ _ _ us hl => match us, hl with | [_], _ => rfl
  have F12 := fun_mk (st := s_draw) l12 c12 k12
  have b12 := F12.binds (ps := PS_draw) fun _ _ _ _ _ _ us hl => match us, hl with | [_, _], _ => rfl
  have F13 := fun_mk (st := s_other) l13 c13 k13
  have b13 := F13.binds (ps := PS_other) fun _ _ _ _ _ _ us hl => match us, hl with | [_, _, _], _ => rfl
  have F14 := fun_mk (st := s_row_changed) l14 c14 k14
  have b14 := F14.binds (ps := PS_row_changed) fun _ _ _ _ _ _ us hl => match us, hl with | [_, _, _, _], _ => rfl
  have F15 := fun_mk (st := s_rows_changed) l15 c15 k15
  have b15 := F15.binds (ps := PS_rows_changed) fun _ _ _ _ _ _ us hl => match us, hl with | [_, _, _], _ => rfl
  have F16 := fun_mk (st := s_changed) l16 c16 k16
  have b16 := F16.binds (ps := PS_changed) fun _ _ _ _ _ _ us hl => match us, hl with | [_, _], _ => rfl
  have F17 := fun_mk (st := s_chain_right) l17 c17 k17
  have b17 := F17.binds (ps := PS_chain_right) fun _ _ _ _ _ _ us hl => match us, hl with | [_, _], _ => rfl
  have F18 := fun_mk (st := s_worth) l18 c18 k18
  have b18 := F18.binds (ps := PS_worth) fun _ _ _ _ _ _ us hl => match us, hl with | [_], _ => rfl
  have F19 := fun_mk (st := s_code_row) l19 c19 k19
  have b19 := F19.binds (ps := PS_code_row) fun _ _ _ _ _ _ us hl => match us, hl with | [_, _, _, _], _ => rfl
  have F20 := fun_mk (st := s_code_part) l20 c20 k20
  have b20 := F20.binds (ps := PS_code_part) fun _ _ _ _ _ _ us hl => match us, hl with | [_, _, _, _], _ => rfl
  have F21 := fun_mk (st := s_code) l21 c21 k21
  have b21 := F21.binds (ps := PS_code) fun _ _ _ _ _ _ us hl => match us, hl with | [_, _, _], _ => rfl
  have F22 := fun_mk (st := s_law) l22 c22 k22
  refine ⟨PySem.W.fnOf "law" "law" (defArgs s_law) (defBody s_law) (defScope s_law) .none kV22 dc22 pm22 an22 cd22 ct22, fun s v => .of_eq rfl, fun base _ _ => ?_⟩
  have c_c_goal : Callee l.prog w K mg base "goal" PS_c_goal K_c_goal (sp_c_goal K) := ⟨⟨_, _, PySem.W.mg_of X G a0, k0, b0, ok_c_goal F0 B⟩⟩
  have c_c_leads : Callee l.prog w K mg base "leads" PS_c_leads K_c_leads (sp_c_leads K) := ⟨⟨_, _, PySem.W.mg_of X G a1, k1, b1, ok_c_leads F1 B c_c_goal⟩⟩
  have c_p_has_ring : Callee l.prog w K mg base "has_ring" PS_p_has_ring K_p_has_ring (sp_p_has_ring K) := ⟨⟨_, _, PySem.W.mg_of X G a2, k2, b2, ok_p_has_ring F2 B c_c_leads⟩⟩
  have c_p_is_number_of : Callee l.prog w K mg base "is_number_of" PS_p_is_number_of K_p_is_number_of (sp_p_is_number_of K) := ⟨⟨_, _, PySem.W.mg_of X G a3, k3, b3, ok_p_is_number_of F3 B⟩⟩
  have c_p_call_fits : Callee l.prog w K mg base "call_fits" PS_p_call_fits K_p_call_fits (sp_p_call_fits K) := ⟨⟨_, _, PySem.W.mg_of X G a4, k4, b4, ok_p_call_fits F4 B c_p_is_number_of⟩⟩
  have c_p_places_read : Callee l.prog w K mg base "places_read" PS_p_places_read K_p_places_read (sp_p_places_read K) := ⟨⟨_, _, PySem.W.mg_of X G a5, k5, b5, ok_p_places_read F5 B⟩⟩
  have c_p_row_fits : Callee l.prog w K mg base "row_fits" PS_p_row_fits K_p_row_fits (sp_p_row_fits K) := ⟨⟨_, _, PySem.W.mg_of X G a6, k6, b6, ok_p_row_fits F6 B c_p_call_fits c_p_is_number_of c_c_goal c_p_places_read⟩⟩
  have c_p_part_fits : Callee l.prog w K mg base "part_fits" PS_p_part_fits K_p_part_fits (sp_p_part_fits K) := ⟨⟨_, _, PySem.W.mg_of X G a7, k7, b7, ok_p_part_fits F7 B c_p_has_ring c_p_row_fits⟩⟩
  have c_p_fits : Callee l.prog w K mg base "fits" PS_p_fits K_p_fits (sp_p_fits K) := ⟨⟨_, _, PySem.W.mg_of X G a8, k8, b8, ok_p_fits F8 B c_p_part_fits⟩⟩
  have c_silent : Callee l.prog w K mg base "_law_silent" PS_silent K_silent (sp_silent K) := ⟨⟨_, _, PySem.W.mg_of X G a9, k9, b9, ok_silent F9 B⟩⟩
  have c_row_fits : Callee l.prog w K mg base "_law_row_fits" PS_row_fits K_row_fits (sp_row_fits K) := ⟨⟨_, _, PySem.W.mg_of X G a10, k10, b10, ok_row_fits F10 B⟩⟩
  have c_fits : Callee l.prog w K mg base "_law_fits" PS_fits K_fits (sp_fits K) := ⟨⟨_, _, PySem.W.mg_of X G a11, k11, b11, ok_fits F11 B c_silent c_row_fits⟩⟩
  have c_draw : Callee l.prog w K mg base "_law_draw" PS_draw K_draw (sp_draw K) := ⟨⟨_, _, PySem.W.mg_of X G a12, k12, b12, ok_draw F12 B⟩⟩
  have c_other : Callee l.prog w K mg base "_law_other" PS_other K_other (sp_other K) := ⟨⟨_, _, PySem.W.mg_of X G a13, k13, b13, ok_other F13 B c_draw⟩⟩
  have c_row_changed : Callee l.prog w K mg base "_law_row_changed" PS_row_changed K_row_changed (sp_row_changed K) := ⟨⟨_, _, PySem.W.mg_of X G a14, k14, b14, ok_row_changed F14 B c_other c_draw⟩⟩
  have c_rows_changed : Callee l.prog w K mg base "_law_rows_changed" PS_rows_changed K_rows_changed (sp_rows_changed K) := ⟨⟨_, _, PySem.W.mg_of X G a15, k15, b15, ok_rows_changed F15 B c_row_changed c_draw⟩⟩
  have c_changed : Callee l.prog w K mg base "_law_changed" PS_changed K_changed (sp_changed K) := ⟨⟨_, _, PySem.W.mg_of X G a16, k16, b16, ok_changed F16 B c_draw c_rows_changed⟩⟩
  have c_chain_right : Callee l.prog w K mg base "_law_chain_right" PS_chain_right K_chain_right (sp_chain_right K) := ⟨⟨_, _, PySem.W.mg_of X G a17, k17, b17, ok_chain_right F17 B c_p_fits⟩⟩
  have c_worth : Callee l.prog w K mg base "_law_worth" PS_worth K_worth (sp_worth K) := ⟨⟨_, _, PySem.W.mg_of X G a18, k18, b18, ok_worth F18 B c_draw⟩⟩
  have c_code_row : Callee l.prog w K mg base "_law_code_row" PS_code_row K_code_row (sp_code_row K) := ⟨⟨_, _, PySem.W.mg_of X G a19, k19, b19, ok_code_row F19 B c_draw c_worth⟩⟩
  have c_code_part : Callee l.prog w K mg base "_law_code_part" PS_code_part K_code_part (sp_code_part K) := ⟨⟨_, _, PySem.W.mg_of X G a20, k20, b20, ok_code_part F20 B c_silent c_draw c_code_row⟩⟩
  have c_code : Callee l.prog w K mg base "_law_code" PS_code K_code (sp_code K) := ⟨⟨_, _, PySem.W.mg_of X G a21, k21, b21, ok_code F21 B c_code_part c_draw⟩⟩
  exact ok_law F22 B c_p_fits c_fits c_changed c_draw c_chain_right c_code
theorem scr_of {K : PySem.W.Frag} {H : Hp} {a : Addr} {ns : List Int} (o : Only H) (h : SqL K H a (ns.map V.int)) : ScrAt K H a ns := by
  rcases h with (h | h) | h
  · rcases o a with z | ⟨ob, xs, z⟩ <;> rw [h] at z <;> cases z
  · exact .inl h
  · exact .inr h
theorem walk {l : PySem.W.OpenLaw} {q : Program} {loose : List Str} {XP : (Str → Option Value) → Heap → Prop} {YP : World → Heap → Prop} {d : DefRec} {K : Params → PySem.W.Frag} (hn : l.most = some 63) (hdf : d.params.defaults = [])
    (hY : ∀ (w : World) (h : Heap), YP w h → (K w.params).In h)
    (F : ∀ (w : World) (mg : Str → Option Value) (fa : Addr) (h : Heap), (K w.params).In h → h.Ns mainGlobals mg → mg d.name = some (.ref fa) →
      ∃ fd : FuncData, (∀ (s : Shared) (u : Value), BindsTo s fd ⟨[u], []⟩ [("_law_script", u)]) ∧ ∀ base : Heap, (K w.params).In base → base.Ns mainGlobals mg → FnOk l.prog w (K w.params) mg base CX0 K_law fa fd PS_law (sp_law (K w.params))) :
    PySem.W.WalkO q loose XP YP l.row.toRowW d [] (fun f vs => PySem.call f vs) :=
  L2.walk_of (n := 63) (k := K_law) (x := "_law_script") (CX := fun _ => CX0) (sp := fun w => sp_law (K w.params)) hn (by decide) hdf ⟨rfl, by decide, by decide⟩ hY F (fun _ _ a ns hl hO hS => ⟨a, ns, rfl, scr_of hO hS, hl, fun _ => rfl⟩) fun _ _ _ _ _ z => z
end Bg
open PySem PySem.W PyProof.Rows
set_option maxRecDepth 100000 in
set_option maxHeartbeats 0 in
theorem PySem.Challenge.cw_beltgarth_k42_code_that_fits_holds : PySem.Challenge.rw_beltgarth_k42_code_that_fits.Holds := by
  w_on; o_law; k_head; (case hw => w_witness2)
  k_fill
  refine Bg.walk (l := PySem.Challenge.rw_beltgarth_k42_code_that_fits) rfl rfl (fun w h Y => PySem.W.kIn_of Y) ?F
  case F =>
    intro w mg fa h KX G hmg
    refine' Bg.all_mk KX G hmg ?a0 ?l0 ?c0 ?k0 ?a1 ?l1 ?c1 ?k1 ?a2 ?l2 ?c2 ?k2 ?a3 ?l3 ?c3 ?k3 ?a4 ?l4 ?c4 ?k4 ?a5 ?l5 ?c5 ?k5 ?a6 ?l6 ?c6 ?k6 ?a7 ?l7 ?c7 ?k7 ?a8 ?l8 ?c8 ?k8 ?a9 ?l9 ?c9 ?k9 ?a10 ?l10 ?c10 ?k10 ?a11 ?l11 ?c11 ?k11 ?a12 ?l12 ?c12 ?k12 ?a13 ?l13 ?c13 ?k13 ?a14 ?l14 ?c14 ?k14 ?a15 ?l15 ?c15 ?k15 ?a16 ?l16 ?c16 ?k16 ?a17 ?l17 ?c17 ?k17 ?a18 ?l18 ?c18 ?k18 ?a19 ?l19 ?c19 ?k19 ?a20 ?l20 ?c20 ?k20 ?a21 ?l21 ?c21 ?k21 ?a22 ?l22 ?c22 ?k22 ?z_len ?z_range ?z_divmod ?z_max ?z_min ?z_sum ?z_all ?z_isinstance ?z_int ?z_bool ?z_list ?z_tuple ?z_enumerate ?z_zip ?z_sorted ?z_set ?z_dict ?z_str ?z_any ?z_reversed ?z_abs
    (case a0 => k_is)
    (case l0 => k_is)
    (case c0 => k_is)
    (case k0 => k_is)
    (case a1 => k_is)
    (case l1 => k_is)
    (case c1 => k_is)
    (case k1 => k_is)
    (case a2 => k_is)
    (case l2 => k_is)
    (case c2 => k_is)
    (case k2 => k_is)
    (case a3 => k_is)
    (case l3 => k_is)
    (case c3 => k_is)
    (case k3 => k_is)
    (case a4 => k_is)
    (case l4 => k_is)
    (case c4 => k_is)
    (case k4 => k_is)
    (case a5 => k_is)
    (case l5 => k_is)
    (case c5 => k_is)
    (case k5 => k_is)
    (case a6 => k_is)
    (case l6 => k_is)
    (case c6 => k_is)
    (case k6 => k_is)
    (case a7 => k_is)
    (case l7 => k_is)
    (case c7 => k_is)
    (case k7 => k_is)
    (case a8 => k_is)
    (case l8 => k_is)
    (case c8 => k_is)
    (case k8 => k_is)
    (case a9 => k_is)
    (case l9 => k_is)
    (case c9 => k_is)
    (case k9 => k_is)
    (case a10 => k_is)
    (case l10 => k_is)
    (case c10 => k_is)
    (case k10 => k_is)
    (case a11 => k_is)
    (case l11 => k_is)
    (case c11 => k_is)
    (case k11 => k_is)
    (case a12 => k_is)
    (case l12 => k_is)
    (case c12 => k_is)
    (case k12 => k_is)
    (case a13 => k_is)
    (case l13 => k_is)
    (case c13 => k_is)
    (case k13 => k_is)
    (case a14 => k_is)
    (case l14 => k_is)
    (case c14 => k_is)
    (case k14 => k_is)
    (case a15 => k_is)
    (case l15 => k_is)
    (case c15 => k_is)
    (case k15 => k_is)
    (case a16 => k_is)
    (case l16 => k_is)
    (case c16 => k_is)
    (case k16 => k_is)
    (case a17 => k_is)
    (case l17 => k_is)
    (case c17 => k_is)
    (case k17 => k_is)
    (case a18 => k_is)
    (case l18 => k_is)
    (case c18 => k_is)
    (case k18 => k_is)
    (case a19 => k_is)
    (case l19 => k_is)
    (case c19 => k_is)
    (case k19 => k_is)
    (case a20 => k_is)
    (case l20 => k_is)
    (case c20 => k_is)
    (case k20 => k_is)
    (case a21 => k_is)
    (case l21 => k_is)
    (case c21 => k_is)
    (case k21 => k_is)
    (case a22 => k_is)
    (case l22 => k_is)
    (case c22 => k_is)
    (case k22 => k_is)
    (case z_len => k_is)
    (case z_range => k_is)
    (case z_divmod => k_is)
    (case z_max => k_is)
    (case z_min => k_is)
    (case z_sum => k_is)
    (case z_all => k_is)
    (case z_isinstance => k_is)
    (case z_int => k_is)
    (case z_bool => k_is)
    (case z_list => k_is)
    (case z_tuple => k_is)
    (case z_enumerate => k_is)
    (case z_zip => k_is)
    (case z_sorted => k_is)
    (case z_set => k_is)
    (case z_dict => k_is)
    (case z_str => k_is)
    (case z_any => k_is)
    (case z_reversed => k_is)
    (case z_abs => k_is)
