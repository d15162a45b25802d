import PyProof.Rows.All
import Wide.All
import OpenK.AllK
import Wide.FinOn
import Lean
import PyProof.EqAt
import PyProof.EqKinds
import PyProof.TupleCall
import PySem.Challenge.RW_beltgarth_k36_whole_unwanted_names
set_option Elab.async false
set_option autoImplicit true
set_option linter.all false
set_option maxHeartbeats 4000000
set_option maxRecDepth 100000
set_option relaxedAutoImplicit true
abbrev Fg := PySem.W.Frag
section
namespace Bg
theorem ls0 {α:Type} {P:List α→Prop} {us:List α} (h:us.length=0) (k:P []):P us:=by cases us with | nil=>exact k | cons a r=>cases h
theorem ls1 {α:Type} {P:List α→Prop} {us:List α} (h:us.length=1) (k:∀ x0,P [x0]):P us:=by cases us with | nil=>cases h | cons a r=>exact ls0 (P:=fun r=>P (a::r)) (Nat.succ.inj h) (k a)
theorem ls2 {α:Type} {P:List α→Prop} {us:List α} (h:us.length=2) (k:∀ x0 x1,P [x0,x1]):P us:=by cases us with | nil=>cases h | cons a r=>exact ls1 (P:=fun r=>P (a::r)) (Nat.succ.inj h) (k a)
theorem ls3 {α:Type} {P:List α→Prop} {us:List α} (h:us.length=3) (k:∀ x0 x1 x2,P [x0,x1,x2]):P us:=by cases us with | nil=>cases h | cons a r=>exact ls2 (P:=fun r=>P (a::r)) (Nat.succ.inj h) (k a)
theorem ls4 {α:Type} {P:List α→Prop} {us:List α} (h:us.length=4) (k:∀ x0 x1 x2 x3,P [x0,x1,x2,x3]):P us:=by cases us with | nil=>cases h | cons a r=>exact ls3 (P:=fun r=>P (a::r)) (Nat.succ.inj h) (k a)
theorem ls5 {α:Type} {P:List α→Prop} {us:List α} (h:us.length=5) (k:∀ x0 x1 x2 x3 x4,P [x0,x1,x2,x3,x4]):P us:=by cases us with | nil=>cases h | cons a r=>exact ls4 (P:=fun r=>P (a::r)) (Nat.succ.inj h) (k a)
theorem ls6 {α:Type} {P:List α→Prop} {us:List α} (h:us.length=6) (k:∀ x0 x1 x2 x3 x4 x5,P [x0,x1,x2,x3,x4,x5]):P us:=by cases us with | nil=>cases h | cons a r=>exact ls5 (P:=fun r=>P (a::r)) (Nat.succ.inj h) (k a)
theorem le1 {α:Type} {us:List α} (h:us.length=1):∃ x0,us=[x0]:=ls1 (P:=fun us=>∃ x0,us=[x0]) h fun x0=>⟨x0,rfl⟩
theorem le2 {α:Type} {us:List α} (h:us.length=2):∃ x0 x1,us=[x0,x1]:=ls2 (P:=fun us=>∃ x0 x1,us=[x0,x1]) h fun x0 x1=>⟨x0,x1,rfl⟩
theorem le3 {α:Type} {us:List α} (h:us.length=3):∃ x0 x1 x2,us=[x0,x1,x2]:=ls3 (P:=fun us=>∃ x0 x1 x2,us=[x0,x1,x2]) h fun x0 x1 x2=>⟨x0,x1,x2,rfl⟩
theorem le4 {α:Type} {us:List α} (h:us.length=4):∃ x0 x1 x2 x3,us=[x0,x1,x2,x3]:=ls4 (P:=fun us=>∃ x0 x1 x2 x3,us=[x0,x1,x2,x3]) h fun x0 x1 x2 x3=>⟨x0,x1,x2,x3,rfl⟩
theorem le6 {α:Type} {us:List α} (h:us.length=6):∃ x0 x1 x2 x3 x4 x5,us=[x0,x1,x2,x3,x4,x5]:=ls6 (P:=fun us=>∃ x0 x1 x2 x3 x4 x5,us=[x0,x1,x2,x3,x4,x5]) h fun x0 x1 x2 x3 x4 x5=>⟨x0,x1,x2,x3,x4,x5,rfl⟩
end Bg
end
section
namespace L2
open PySem PySem.Spec PyProof.Rows
abbrev Key:=Sum Int Str
def keyIs:Key→Value→Bool
  | .inl k,v=>Value.isInt k v
  | .inr x,v=>Value.isStrOf x v
def keyH (w:World):Key→Int
  | .inl k=>hashInt k
  | .inr x=>hashStr w x
theorem keyIs_shape:∀ {k:Key} {v:Value},keyIs k v=true→(∃ i t,k=Sum.inl i∧v=Value.int i t)∨(∃ x t,k=Sum.inr x∧v=Value.str x t)
  | .inl i,v,h=>by
    obtain ⟨t,e⟩:=Value.isInt_shape (k:=i) (v:=v) h
    exact .inl ⟨i,t,rfl,e⟩
  | .inr x,v,h=>by
    obtain ⟨t,e⟩:=Value.isStrOf_shape (x:=x) (v:=v) h
    exact .inr ⟨x,t,rfl,e⟩
theorem keyIs_int (i:Int) (t:Tok):keyIs (.inl i) (.int i t)=true:=by simp [keyIs,Value.isInt]
theorem keyIs_str (x:Str) (t:Tok):keyIs (.inr x) (.str x t)=true:=by simp [keyIs,Value.isStrOf]
theorem key_ll (a b:Int):decide ((Sum.inl a:Key)=Sum.inl b)=(a == b):=by
  by_cases e:a=b
  · subst e;simp
  · have h:¬ (Sum.inl a:Key)=Sum.inl b:=fun q=>e (Sum.inl.inj q)
    rw [decide_eq_false h]
    exact (beq_eq_false_iff_ne.mpr e).symm
theorem key_rr (a b:Str):decide ((Sum.inr a:Key)=Sum.inr b)=decide (a=b):=by
  by_cases e:a=b
  · subst e;simp
  · have h:¬ (Sum.inr a:Key)=Sum.inr b:=fun q=>e (Sum.inr.inj q)
    rw [decide_eq_false h,decide_eq_false e]
theorem key_lr (a:Int) (b:Str):decide ((Sum.inl a:Key)=Sum.inr b)=false:=decide_eq_false (fun q=>nomatch q)
theorem key_rl (a:Str) (b:Int):decide ((Sum.inr a:Key)=Sum.inl b)=false:=decide_eq_false (fun q=>nomatch q)
def mixKind (prog:Program) (w:World):PySem.KeyKind prog w Key where
  is:=keyIs
  hash:=keyH w
  inj:=fun v a b ha hb=>by
    rcases keyIs_shape ha with ⟨i,t,rfl,rfl⟩ | ⟨x,t,rfl,rfl⟩
    · rcases keyIs_shape hb with ⟨j,u,rfl,e⟩ | ⟨y,u,rfl,e⟩
      · injection e with e1 _;rw [e1]
      · exact nomatch e
    · rcases keyIs_shape hb with ⟨j,u,rfl,e⟩ | ⟨y,u,rfl,e⟩
      · exact nomatch e
      · injection e with e1 _;rw [e1]
  byValue:=fun k v h=>by
    rcases keyIs_shape h with ⟨i,t,rfl,rfl⟩ | ⟨x,t,rfl,rfl⟩ <;> rfl
  pyHash:=fun hv h=>by
    rcases keyIs_shape hv with ⟨i,t,rfl,rfl⟩ | ⟨x,t,rfl,rfl⟩
    · exact wpAny_pyHash_int h
    · exact wpAny_pyHash_str h
  eqBool:=fun hu hv h=>by
    rcases keyIs_shape hu with ⟨i,t,rfl,rfl⟩ | ⟨x,t,rfl,rfl⟩
    · rcases keyIs_shape hv with ⟨j,u,rfl,rfl⟩ | ⟨y,u,rfl,rfl⟩
      · rw [key_ll] at h;exact wpAny_eqBool_int h
      · rw [key_lr] at h;exact SeqAt.EqAt.int_str i t y u _ _ _ _ h
    · rcases keyIs_shape hv with ⟨j,u,rfl,rfl⟩ | ⟨y,u,rfl,rfl⟩
      · rw [key_rl] at h;exact SeqAt.EqAt.str_int x t j u _ _ _ _ h
      · rw [key_rr] at h;exact wpAny_eqBool_str h
  «strs»:=fun k x t v h=>by
    rcases keyIs_shape h with ⟨i,u,rfl,e⟩ | ⟨y,u,rfl,e⟩
    · exact nomatch e
    · injection e with e1 _
      subst e1
      cases v <;> rfl
theorem mixKind_int (prog:Program) (w:World) (i:Int) (t:Tok):(mixKind prog w).is (.inl i) (.int i t)=true:=keyIs_int i t
theorem mixKind_str (prog:Program) (w:World) (x:Str) (t:Tok):(mixKind prog w).is (.inr x) (.str x t)=true:=keyIs_str x t
inductive V where
  | non | bl (b:Bool) | int (i:Int) | str (x:Str) | byt (b:Array UInt8) | flt (b:UInt64) | ref (a:Addr) | ty (n:String)
  deriving DecidableEq
def RelV:V→Value→Prop
  | .non,u=>u=Value.none
  | .bl b,u=>u=Value.bool b
  | .int i,u=>∃ t,u=Value.int i t
  | .str x,u=>∃ t,u=Value.str x t
  | .byt b,u=>∃ t,u=Value.bytes b t
  | .flt b,u=>∃ t,u=Value.float b t
  | .ref a,u=>u=Value.ref a
  | .ty n,u=>u=Value.type n
abbrev Vals:List V→List Value→Prop:=Paired RelV
theorem Vals.length {xs:List V} {us:List Value} (r:Vals xs us):xs.length=us.length:=Paired.length r
theorem Vals.get:∀ {xs:List V} {us:List Value} {i:Nat} {x:V},Vals xs us→xs[i]?=some x→∃ u,us[i]?=some u∧RelV x u
  | _,_,_,_,.nil,e=>by simp at e
  | _,_,0,_,.cons r _,e=>by simp at e;subst e;exact ⟨_,rfl,r⟩
  | _,_,i + 1,x,.cons _ t,e=>by
    obtain ⟨u,h1,h2⟩:=Vals.get (i:=i) (x:=x) t (by simpa using e)
    exact ⟨u,by simpa using h1,h2⟩
theorem Vals.set {x:V} {u:Value} (r:RelV x u):∀ {xs:List V} {us:List Value} (i:Nat),Vals xs us→Vals (xs.set i x) (us.set i u)
  | _,_,_,.nil=>.nil
  | _,_,0,.cons _ t=>.cons r t
  | _,_,i + 1,.cons q t=>.cons q (Vals.set r i t)
theorem Vals.append:∀ {xs ys:List V} {us ws:List Value},Vals xs us→Vals ys ws→Vals (xs++ys) (us++ws)
  | _,_,_,_,.nil,s=>s
  | _,_,_,_,.cons r t,s=>.cons r (Vals.append t s)
theorem Vals.take:∀ {xs:List V} {us:List Value} (n:Nat),Vals xs us→Vals (xs.take n) (us.take n)
  | _,_,0,_=>.nil
  | _,_,_ + 1,.nil=>.nil
  | _,_,n + 1,.cons r t=>.cons r (Vals.take n t)
theorem Vals.drop:∀ {xs:List V} {us:List Value} (n:Nat),Vals xs us→Vals (xs.drop n) (us.drop n)
  | _,_,0,r=>r
  | _,_,_ + 1,.nil=>.nil
  | _,_,n + 1,.cons _ t=>Vals.drop n t
def RelO:Option V→Option Value→Prop
  | some v,some u=>RelV v u
  | none,none=>True
  | _,_=>False
def KV {κ:Type}:List (κ × V)→List (κ × Value)→Prop:=Paired fun (p:κ × V) (q:κ × Value)=>p.1=q.1∧RelV p.2 q.2
def kV:Key→V
  | .inl i=>.int i
  | .inr x=>.str x
inductive HO where
    | lst (xs:List V)
    | tup (xs:List V)
    | dK (kvs:List (Key × V)) | dT (kvs:List (List Key × V))
    | set (S:Int→Bool) (n:Nat)
    | ins (C dx:Addr) (fs:List (Str × V))
    | own (x:Addr)
    | xd (fs:List (Str × V))
    | met (f x:Addr)
    | rng (lo hi:Int)
    | frz (o:Obj) (u:HO)
    | tbl (ps:Array Value)
    | ext (φ:Heap→Prop)
abbrev Hp:=Addr→Option HO
def upd (H:Hp) (a:Addr) (o:HO):Hp:=fun b=>if b=a then some o else H b
theorem upd_same {H:Hp} {a:Addr} {o:HO}:upd H a o a=some o:=by unfold upd;rw [if_pos rfl]
theorem upd_ne {H:Hp} {a b:Addr} {o:HO} (h:b≠a):upd H a o b=H b:=by unfold upd;rw [if_neg h]
theorem upd_upd {H:Hp} {a:Addr} {o u:HO}:upd (upd H a o) a u=upd H a u:=by
  funext b;unfold upd;split <;> rfl
theorem ne_of {H:Hp} {a b:Addr} {o u:HO} (h:H a=some o) (h':H b=some u) (d:o≠u):a≠b:=by
  intro e;subst e;rw [h] at h';exact d (Option.some.inj h')
theorem ne_of_none {H:Hp} {a b:Addr} {o:HO} (h:H a=some o) (h':H b=none):a≠b:=by
  intro e;subst e;rw [h] at h';cases h'
def IsTupN (h:Heap) (a:Addr) (items:Array Value):Prop:=∃ o,h.get? a=some o∧(o.cls=.type "tuple"∧o.dict=none)∧∃ n,o.data=.seq items n
theorem IsTupN.tup {h:Heap} {a:Addr} {items:Array Value} (x:IsTupN h a items):IsTup h a items:=let ⟨o,e,c,n⟩:=x;⟨o,e,c.1,n⟩
theorem IsTupN.lt {h:Heap} {a:Addr} {items:Array Value} (x:IsTupN h a items):a < h.objs.size:=let ⟨_,e,_⟩:=x;Heap.lt_size e
theorem IsTupN.new (h:Heap) (items:Array Value):IsTupN (h.push { cls:=.type "tuple",data:=.seq items }) h.objs.size items:=⟨_,Heap.get?_push_size _ rfl,⟨rfl,rfl⟩,_,rfl⟩
section
variable (P:Program) (w:World)
def ObjOk (H:Hp) (h:Heap) (a:Addr):HO→Prop
  | .lst xs=>xs.length≤sizeLine∧∃ (its:List Value) (n:Nat),Vals xs its∧h.get? a=some { cls:=.type "list",data:=.seq its.toArray n }
  | .tup xs=>xs.length≤sizeLine∧∃ its:List Value,Vals xs its∧IsTupN h a its.toArray
  | .dK kvs=>kvs.length≤sizeLine∧(a == sysModules)=false∧∃ vs,KV kvs vs∧h.DictOf (mixKind P w) a vs
  | .dT kvs=>kvs.length≤sizeLine∧(a == sysModules)=false∧∃ xs:List (List Key × Addr × Value),
      Paired (fun (p:List Key × V) (q:List Key × Addr × Value)=>p.1=q.1∧H q.2.1=some (.tup (p.1.map kV))∧RelV p.2 q.2.2) kvs xs∧
      ∃ o es ep,h.get? a=some o∧o.ExactDict∧o.data=.dict es ep∧es.toList=xs.map (entryOfKey (tupleKind (mixKind P w)))∧(xs.map (·.1)).Nodup
  | .set S n=>h.SetOf (intKind P w) a S n
  | .ins C dx fs=>H dx=some (.own a)∧fs.length≤1000∧dx≠a∧h.get? a=some (PySem.W.instObj C dx)∧
      ∃ mA,h.Ns1 dx mA∧(∀ f,RelO (fs.lookup f) (mA f))∧PySem.Within mA (fs.map (·.1))
  | .own _=>∃ o,h.get? a=some o
  | .xd fs=>∃ mA,h.Ns1 a mA∧∀ f,RelO (fs.lookup f) (mA f)
  | .rng lo hi=>∃ t u v,h.get? a=some { cls:=.type "range",data:=.fields #[.int lo t,.int hi u,.int 1 v] }
  | .frz o u=>h.get? a=some o∧ObjOk H h a u
  | .tbl ps=>h.get? a=some { cls:=.none,data:=.fields ps }
  | .met f x=>h.get? a=some (PySem.W.methodObj (.ref f) (.ref x))
  | .ext φ=>φ h∧(∃ o,h.get? a=some o)∧∀ h1 h2:Heap,φ h1→(∀ o,h1.get? a=some o→h2.get? a=some o)→φ h2
def HOk (H:Hp) (h:Heap):Prop:=∀ a o,H a=some o→ObjOk P w H h a o
end
section
variable {P:Program} {w:World} {H H':Hp} {h h':Heap} {a:Addr} {o:HO}
theorem ObjOk.lt (x:ObjOk P w H h a o):a < h.objs.size:=by
  cases o with
  | lst xs=>obtain ⟨_,_,_,_,e⟩:=x;exact Heap.lt_size e
  | tup xs=>obtain ⟨_,_,_,p⟩:=x;exact p.lt
  | dK kvs=>obtain ⟨_,_,_,_,o,_,_,e,_⟩:=x;exact Heap.lt_size e
  | dT kvs=>obtain ⟨_,_,_,_,o,_,_,e,_⟩:=x;exact Heap.lt_size e
  | set S n=>obtain ⟨o,_,_,_,e,_⟩:=x;exact Heap.lt_size e
  | ins C dx fs=>obtain ⟨_,_,_,e,_⟩:=x;exact Heap.lt_size e
  | own y=>obtain ⟨_,e⟩:=x;exact Heap.lt_size e
  | xd fs=>obtain ⟨_,⟨_,_,_,e,_⟩,_⟩:=x;exact Heap.lt_size e
  | rng lo hi=>obtain ⟨_,_,_,e⟩:=x;exact Heap.lt_size e
  | frz ob u=>obtain ⟨e,_⟩:=x;exact Heap.lt_size e
  | tbl ps=>exact Heap.lt_size (show h.get? a=some _ from x)
  | met f y=>exact Heap.lt_size (show h.get? a=some _ from x)
  | ext φ=>obtain ⟨_,⟨_,e⟩,_⟩:=x;exact Heap.lt_size e
theorem Paired.mapP {α β:Type} {F G:α→β→Prop}:∀ {l₁:List α} {l₂:List β},Paired F l₁ l₂→(∀ a b,F a b→G a b)→Paired G l₁ l₂
  | _,_,.nil,_=>.nil
  | _,_,.cons r t,f=>.cons (f _ _ r) (Paired.mapP t f)
theorem ObjOk.stay (x:ObjOk P w H h a o) (k:∀ b u,(b=a∨H b=some (.own a))→h.get? b=some u→h'.get? b=some u)
    (ho:∀ b,H b=some (.own a)→H' b=some (.own a)) (ht:∀ b xs,H b=some (.tup xs)→H' b=some (.tup xs)):ObjOk P w H' h' a o:=by
  induction o with
  | lst xs=>obtain ⟨z,its,n,r,e⟩:=x;exact ⟨z,its,n,r,k _ _ (.inl rfl) e⟩
  | tup xs=>obtain ⟨z,its,r,ob,e,c⟩:=x;exact ⟨z,its,r,ob,k _ _ (.inl rfl) e,c⟩
  | dK kvs=>obtain ⟨z,y,vs,r,ob,es,ep,e,c⟩:=x;exact ⟨z,y,vs,r,ob,es,ep,k _ _ (.inl rfl) e,c⟩
  | dT kvs=>
    obtain ⟨z,y,xs,r,ob,es,ep,e,c⟩:=x
    exact ⟨z,y,xs,Paired.mapP r fun p q z=>⟨z.1,ht _ _ z.2.1,z.2.2⟩,ob,es,ep,k _ _ (.inl rfl) e,c⟩
  | set S n=>obtain ⟨ob,es,ep,t,e,c⟩:=x;exact ⟨ob,es,ep,t,k _ _ (.inl rfl) e,c⟩
  | ins C dx fs=>
    obtain ⟨d,z,ne,e,mA,⟨od,es,ep,e2,c⟩,r⟩:=x
    exact ⟨ho _ d,z,ne,k _ _ (.inl rfl) e,mA,⟨od,es,ep,k _ _ (.inr d) e2,c⟩,r⟩
  | own y=>obtain ⟨ob,e⟩:=x;exact ⟨ob,k _ _ (.inl rfl) e⟩
  | xd fs=>obtain ⟨mA,⟨od,es,ep,e,c⟩,r⟩:=x;exact ⟨mA,⟨od,es,ep,k _ _ (.inl rfl) e,c⟩,r⟩
  | rng lo hi=>obtain ⟨t,u,v,e⟩:=x;exact ⟨t,u,v,k _ _ (.inl rfl) e⟩
  | frz ob u ih=>obtain ⟨e,q⟩:=x;exact ⟨k _ _ (.inl rfl) e,ih q⟩
  | tbl ps=>
    have e:h.get? a=some { cls:=.none,data:=.fields ps }:=x
    show h'.get? a=some { cls:=.none,data:=.fields ps }
    exact k a _ (.inl rfl) e
  | met f y=>
    have e:h.get? a=some (PySem.W.methodObj (.ref f) (.ref y)):=x
    show h'.get? a=some (PySem.W.methodObj (.ref f) (.ref y))
    exact k a _ (.inl rfl) e
  | ext φ=>obtain ⟨p,⟨o,e⟩,st⟩:=x;exact ⟨st _ _ p fun o q=>k _ _ (.inl rfl) q,⟨o,k _ _ (.inl rfl) e⟩,st⟩
theorem HOk.lt (x:HOk P w H h) (e:H a=some o):a < h.objs.size:=(x a o e).lt
theorem HOk.fresh (x:HOk P w H h) (e:h.objs.size≤a):H a=none:=by
  cases q:H a with
  | none=>rfl
  | some u=>exact absurd (Nat.lt_of_lt_of_le (x.lt q) e) (Nat.lt_irrefl _)
theorem HOk.kept (x:HOk P w H h) (k:∀ b u,h.get? b=some u→h'.get? b=some u):HOk P w H h':=fun a o e=>
  (x a o e).stay (fun b u _ q=>k b u q) (fun _ q=>q) fun _ _ q=>q
theorem HOk.laid (x:HOk P w H h) (k:∀ b u,h.get? b=some u→h'.get? b=some u) (hp:h.objs.size≤a) (new:ObjOk P w (upd H a o) h' a o):HOk P w (upd H a o) h':=fun b u e=>by
  have hn:=x.fresh hp
  by_cases hb:b=a
  · subst hb;rw [upd_same] at e;cases e;exact new
  · rw [upd_ne hb] at e
    exact (x b u e).stay (fun c v _ q=>k c v q) (fun c q=>by rw [upd_ne (ne_of_none q hn)];exact q) fun c xs q=>by rw [upd_ne (ne_of_none q hn)];exact q
end
def Rd (H:Hp) (a:Addr) (u:HO):Prop:=H a=some u∨∃ o,H a=some (.frz o u)
theorem Rd.ok {P:Program} {w:World} {H:Hp} {h:Heap} {a:Addr} {u:HO} (r:Rd H a u) (x:HOk P w H h):ObjOk P w H h a u:=by
  rcases r with r | ⟨o,r⟩
  · exact x a u r
  · obtain ⟨_,q⟩:=x a _ r
    exact q
def Mut:Option HO→Prop
  | some (.lst _)=>True
  | some (.dK _)=>True
  | some (.dT _)=>True
  | some (.set _ _)=>True
  | some (.ins _ _ _)=>True
  | some (.ext _)=>True
  | _=>False
section
variable {P:Program} {w:World} {H:Hp} {h h':Heap} {x e:Addr} {o':HO}
theorem HOk.write (ok:HOk P w H h) (mu:Mut (H x)) (he:e=x∨H e=some (.own x)) (k:∀ b u,b≠e→h.get? b=some u→h'.get? b=some u) (heo:∃ u,h'.get? e=some u)
    (new:ObjOk P w (upd H x o') h' x o'):HOk P w (upd H x o') h':=fun b u q=>by
  have nown:∀ c y,H c=some (.own y)→c≠x:=fun c y r z=>by subst z;rw [r] at mu;exact mu
  have ntup:∀ c xs,H c=some (.tup xs)→c≠x:=fun c xs r z=>by subst z;rw [r] at mu;exact mu
  by_cases hb:b=x
  · subst hb;rw [upd_same] at q;cases q;exact new
  · rw [upd_ne hb] at q
    by_cases hbe:b=e
    · have q':H b=some (.own x):=by
        rcases he with z | z
        · exact absurd (hbe.trans z) hb
        · rw [hbe];exact z
      rw [q] at q';cases q'
      obtain ⟨v,hv⟩:=heo
      exact ⟨v,by rw [hbe];exact hv⟩
    · refine (ok b u q).stay (fun c v hc r=>k c v ?_ r) (fun c r=>by rw [upd_ne (nown c b r)];exact r) fun c xs r=>by rw [upd_ne (ntup c xs r)];exact r
      rcases hc with rfl | hc
      · exact hbe
      · rintro rfl
        rcases he with z | z
        · exact nown c b hc z
        · rw [hc] at z;cases z;exact hb rfl
end
structure Un (fs ex:List Addr) (H H':Hp) (h h':Heap):Prop where
  keep:∀ b o,h.get? b=some o→H b=none→b∉fs→b∉ex→h'.get? b=some o
  slot:∀ b o,h.get? b=some o→H b=none→b∈fs→b∉ex→∃ sl,h'.get? b=some { o with slots:=sl }
  free:∀ b o,h.get? b=some o→H b=none→b∉ex→H' b=none
  there:∀ b o,h.get? b=some o→b∉ex→∃ o',h'.get? b=some o'
  tups:∀ b xs,H b=some (.tup xs)→H' b=some (.tup xs)
  frzs:∀ b o u,H b=some (.frz o u)→H' b=some (.frz o u)
  tbls:∀ b ps,H b=some (.tbl ps)→∃ more,H' b=some (.tbl (ps++more))
section
variable {fs fs' ex ex':List Addr} {H H1 H2:Hp} {h h1 h2 h':Heap} {a x e:Addr} {o:HO}
theorem Un.any (u:Un fs ex H H1 h h1) {b:Addr} {ob:Obj} (q:h.get? b=some ob) (n:H b=none) (hx:b∉ex):∃ sl,h1.get? b=some { ob with slots:=sl }:=by
  by_cases hb:b∈fs
  · exact u.slot b ob q n hb hx
  · exact ⟨ob.slots,u.keep b ob q n hb hx⟩
theorem Un.kept (k:∀ b u,h.get? b=some u→h'.get? b=some u):Un fs ex H H h h':=
  ⟨fun b ob q _ _ _=>k b ob q,fun b ob q _ _ _=>⟨ob.slots,k b ob q⟩,fun _ _ _ n _=>n,fun b ob q _=>⟨ob,k b ob q⟩,fun _ _ q=>q,fun _ _ _ q=>q,fun _ ps q=>⟨#[],by rw [q];simp⟩⟩
theorem Un.refl:Un fs ex H H h h:=Un.kept fun _ _ q=>q
theorem Un.laid (k:∀ b u,h.get? b=some u→h'.get? b=some u) (hp:h.objs.size≤a) (hn:H a=none):Un fs ex H (upd H a o) h h' where
  keep:=fun b u q _ _ _=>k b u q
  slot:=fun b u q _ _ _=>⟨u.slots,k b u q⟩
  free:=fun b u q n _=>by rw [upd_ne (Nat.ne_of_lt (Nat.lt_of_lt_of_le (Heap.lt_size q) hp))];exact n
  there:=fun b u q _=>⟨u,k b u q⟩
  tups:=fun b xs q=>by rw [upd_ne (ne_of_none q hn)];exact q
  frzs:=fun b u xs q=>by rw [upd_ne (ne_of_none q hn)];exact q
  tbls:=fun b ps q=>⟨#[],by rw [upd_ne (ne_of_none q hn),q];simp⟩
theorem Un.write (mu:Mut (H x)) (he:e=x∨H e=some (.own x)) (k:∀ b u,b≠e→h.get? b=some u→h'.get? b=some u) (heo:∃ u,h'.get? e=some u):Un fs ex H (upd H x o) h h':=by
  have hx:∀ b,H b=none→b≠x:=fun b n z=>by subst z;rw [n] at mu;exact mu
  have hb:∀ b,H b=none→b≠e:=fun b n z=>by
    subst z
    rcases he with r | r
    · exact hx b n r
    · rw [n] at r;cases r
  have hm:∀ b u,H b=some u→¬ Mut (some u)→b≠x:=fun b u q nm z=>by subst z;rw [q] at mu;exact nm mu
  refine ⟨fun b u q n _ _=>k b u (hb b n) q,fun b u q n _ _=>⟨u.slots,k b u (hb b n) q⟩,fun b u q n _=>by rw [upd_ne (hx b n)];exact n,fun b u q _=>?_,
    fun b xs q=>by rw [upd_ne (hm b _ q fun z=>z)];exact q,fun b u xs q=>by rw [upd_ne (hm b _ q fun z=>z)];exact q,fun b ps q=>⟨#[],by rw [upd_ne (hm b _ q fun z=>z),q];simp⟩⟩
  by_cases hbe:b=e
  · subst hbe;exact heo
  · exact ⟨u,k b u hbe q⟩
end
def trk (h:Heap) (H:Hp):List Addr:=(List.range h.objs.size).filter fun a=>(H a).isSome
def hidT (h:Heap) (H:Hp):Heap:=PySem.W.hideAll h (trk h H)
theorem hidT_size (h:Heap) (H:Hp):(hidT h H).objs.size=h.objs.size:=PySem.W.hideAll_size _ _
theorem hidT_get {h:Heap} {H:Hp} {b:Addr} {o:Obj} (e:h.get? b=some o) (n:H b=none):(hidT h H).get? b=some o:=
  PySem.W.hideAll_get _ e fun hm=>by
    have q:(H b).isSome=true:=(List.mem_filter.mp hm).2
    rw [n] at q;simp at q
theorem of_hidT {h:Heap} {H:Hp} {b:Addr} {o:Obj} (e:(hidT h H).get? b=some o):h.get? b=some o∧H b=none:=by
  have e':h.get? b=some o:=PySem.W.of_hideAll (trk h H) e
  refine ⟨e',?_⟩
  cases q:H b with
  | none=>rfl
  | some x=>
    have hm:b∈trk h H:=List.mem_filter.mpr ⟨List.mem_range.mpr (Heap.lt_size e'),by simp [q]⟩
    have z:(hidT h H).get? b=none:=PySem.W.hideAll_none (trk h H) hm
    rw [z] at e;cases e
structure Mod (K:Fg) (mg:Str→Option Value) (base:Heap):Prop where
  kin:K.In base
  glob:base.Ns mainGlobals mg
  blt:∃ mb,base.Ns builtinsNs mb∧∀ x:Str,x≠"__name__"→mb x=bootBuiltins x
  nolimit:base.NoLimit
structure Cx where
  prog:Program
  w:World
  K:Fg
  mg:Str→Option Value
  base:Heap
  A:Around
  N:List Str
  s₀:Shared
  H₀:Hp
  env:Env
  outer:List Env
  stack:List Env
  ex:List Addr
  fn:Str→Bool
  calm:Bool
  pn:List (Addr × Obj)
  xe:Value→Shared→Prop
def frs (l:List Env):List Addr:=l.filterMap (·.frame)
abbrev Cx.fs (X:Cx):List Addr:=frs X.outer
def Vis (sc:Scope) (x:Str):Prop:=sc.names.lookup x=some .local∨sc.names.lookup x=some .cell∨sc.names.lookup x=some .free
def Loc (sc:Scope) (x:Str):Prop:=sc.names.lookup x=some .local∨sc.names.lookup x=some .cell
def Look (env:Env) (h:Heap) (m:Str→Option Value) (x:Str) (u:Value):Prop:=
  (env.kindOf x=some .local∧m x=some u)∨((env.kindOf x=some .cell∨env.kindOf x=some .free)∧∃ c,env.cells.lookup x=some c∧h.IsCell c (some u))
structure Cx.Ok (X:Cx):Prop where
  mod:Mod X.K X.mg X.base
  kind:X.env.scope.kind=.function
  glob:X.env.globals=mainGlobals
  blt:X.env.builtins=builtinsNs
  above:X.s₀.heap.objs.size≤X.env.locals
  inj:∀ x y c,X.env.cells.lookup x=some c→X.env.cells.lookup y=some c→x=y
  has:∀ x,(X.env.kindOf x=some .cell∨X.env.kindOf x=some .free)→∃ c,X.env.cells.lookup x=some c
  cab:∀ x c,X.fn x=true→X.env.cells.lookup x=some c→X.s₀.heap.objs.size≤c
  hd:X.calm=true→X.A.handled=none
  frames:X.A.frames=some X.stack
  stk:X.stack=X.outer∨(X.stack=X.env::X.outer∧X.env.frame=some X.env.locals)
  exf:∀ b∈X.ex,b≠X.env.locals∧∀ x c,X.env.cells.lookup x=some c→c≠b
  bs:∀ b o,X.base.get? b=some o→X.s₀.heap.get? b=some o∧X.H₀ b=none
  bsz:X.base.objs.size≤X.s₀.heap.objs.size
  noex:∀ b o,X.base.get? b=some o→b∉X.ex
  exfs:∀ b∈X.ex,b∉X.fs
  funs:X.s₀.heap.FunFrames X.base X.outer
  frf:∀ b∈X.fs,X.H₀ b=none
structure Inv (X:Cx) (pins:List (Addr × Obj)) (σ:List (Option V)) (H:Hp) (s:Shared):Prop where
  ok:X.Ok
  os:s.os=X.s₀.os
  bare:AllBare s.gens
  base:Un X.fs X.ex X.H₀ H X.s₀.heap s.heap
  loc:∃ m,s.heap.Ns X.env.locals m∧∀ (i:Nat) (x:Str) (v:V),X.N[i]?=some x→σ[i]?=some (some v)→Vis X.env.scope x→∃ u,RelV v u∧Look X.env s.heap m x u
  cell:∀ x c,X.env.cells.lookup x=some c→∃ v,s.heap.IsCell c v
  free:H X.env.locals=none
  freeC:∀ x c,X.env.cells.lookup x=some c→H c=none
  pin:∀ p∈X.pn++pins,s.heap.get? p.1=some p.2∧H p.1=none∧p.1≠X.env.locals∧p.1∉X.fs∧∀ v,p.2.data≠.cell v
  hok:HOk X.prog X.w H s.heap
  len:σ.length=X.N.length
section
variable {X:Cx} {pins:List (Addr × Obj)} {σ:List (Option V)} {H H':Hp} {s:Shared} {h':Heap}
theorem Cx.Ok.nofr (ok:X.Ok) {b:Addr} {o:Obj} (e:X.base.get? b=some o):b∉X.fs:=fun hb=>by
  have:=(ok.funs.mem hb).1
  rw [e] at this;cases this
theorem Inv.bs (I:Inv X pins σ H s):∀ b o,X.base.get? b=some o→s.heap.get? b=some o∧H b=none:=fun b o e=>
  ⟨I.base.keep b o (I.ok.bs b o e).1 (I.ok.bs b o e).2 (I.ok.nofr e) (I.ok.noex b o e),I.base.free b o (I.ok.bs b o e).1 (I.ok.bs b o e).2 (I.ok.noex b o e)⟩
theorem Inv.bk (I:Inv X pins σ H s):∀ b o,X.base.get? b=some o→s.heap.get? b=some o:=fun b o e=>(I.bs b o e).1
theorem Inv.mod (I:Inv X pins σ H s):Mod X.K X.mg X.base:=I.ok.mod
theorem Inv.kIn (I:Inv X pins σ H s):X.K.In s.heap:=I.ok.mod.kin.keeps I.bk
theorem Inv.lt (I:Inv X pins σ H s):X.env.locals < s.heap.objs.size:=let ⟨_,hn,_⟩:=I.loc;hn.lt
theorem Inv.sz (I:Inv X pins σ H s):X.s₀.heap.objs.size≤s.heap.objs.size:=Nat.le_trans I.ok.above (Nat.le_of_lt I.lt)
theorem Inv.nofs (I:Inv X pins σ H s) {a:Addr} (h:s.heap.objs.size≤a):a∉X.fs:=fun hb=>by
  obtain ⟨_,o,ho,_⟩:=I.ok.funs.mem hb
  exact absurd (Nat.lt_of_lt_of_le (Heap.lt_size ho) (Nat.le_trans I.sz h)) (Nat.lt_irrefl _)
theorem Inv.cne (I:Inv X pins σ H s):∀ x c,X.env.cells.lookup x=some c→c≠X.env.locals:=fun x c e z=>by
  obtain ⟨v,o,ho,hd⟩:=I.cell x c e
  obtain ⟨m,⟨o',es,ep,ho',hd',_⟩,_⟩:=I.loc
  rw [z,ho'] at ho;cases ho;rw [hd'] at hd;cases hd
theorem Inv.funs (I:Inv X pins σ H s):s.heap.FunFrames X.base X.outer:=by
  have all:∀ (l:List Env),(∀ b∈frs l,b∈X.fs)→X.s₀.heap.FunFrames X.base l→s.heap.FunFrames X.base l:=by
    intro l
    induction l with
    | nil=>intro _ _;trivial
    | cons env r ih=>
      intro hs hl
      obtain ⟨hk,⟨L,o,hf,hn,ho,hd⟩,hr⟩:=hl
      have hL:L∈X.fs:=hs L (by unfold frs;rw [List.filterMap_cons,hf];exact List.mem_cons_self)
      obtain ⟨sl,e⟩:=I.base.slot L o ho (I.ok.frf L hL) hL fun z=>I.ok.exfs L z hL
      exact ⟨hk,⟨L,_,hf,hn,e,hd⟩,ih (fun b hb=>hs b (by unfold frs;rw [List.filterMap_cons,hf];exact List.mem_cons_of_mem _ hb)) hr⟩
  exact all X.outer (fun _ hb=>hb) I.ok.funs
theorem Inv.stack (I:Inv X pins σ H s):s.heap.FunFrames X.base X.stack:=by
  rcases I.ok.stk with e | ⟨e,hf⟩
  · rw [e];exact I.funs
  · rw [e]
    obtain ⟨m,hn,_⟩:=I.loc
    refine .cons (by rw [I.ok.kind];decide) hf hn ?_ I.funs
    exact Heap.get?_none_of_le (Nat.le_trans I.ok.bsz I.ok.above)
theorem Inv.stkSub (I:Inv X pins σ H s):∀ b∈frs X.stack,b∈X.env.locals::X.fs:=fun b hb=>by
  rcases I.ok.stk with e | ⟨e,hf⟩
  · rw [e] at hb;exact List.mem_cons_of_mem _ hb
  · rw [e] at hb
    unfold frs at hb
    rw [List.filterMap_cons,hf] at hb
    exact hb
theorem Inv.stkFree (I:Inv X pins σ H s):∀ b∈frs X.stack,H b=none:=fun b hb=>by
  rcases List.mem_cons.mp (I.stkSub b hb) with e | hb
  · rw [e];exact I.free
  · obtain ⟨_,o,ho,_⟩:=I.ok.funs.mem hb
    exact I.base.free b o ho (I.ok.frf b hb) fun z=>I.ok.exfs b z hb
theorem Inv.step {g':Array GenState} {t':Nat} {d':Drawn} {ch:List Addr} (I:Inv X pins σ H s)
    (hch:∀ b∈ch,(b∈X.ex∨X.s₀.heap.objs.size≤b)∧b≠X.env.locals∧(∀ x c,X.env.cells.lookup x=some c→c≠b)∧∀ p∈X.pn++pins,p.1≠b)
    (keep:∀ b o,b≠X.env.locals→b∉X.fs→b∉ch→s.heap.get? b=some o→H b=none→h'.get? b=some o)
    (slot:∀ b o,b≠X.env.locals→b∈X.fs→b∉ch→s.heap.get? b=some o→H b=none→∃ sl,h'.get? b=some { o with slots:=sl }) (free:∀ b o,b∉ch→s.heap.get? b=some o→H b=none→H' b=none)
    (there:∀ b o,b∉ch→s.heap.get? b=some o→∃ o',h'.get? b=some o')
    (tups:∀ b xs,H b=some (.tup xs)→H' b=some (.tup xs)) (frzs:∀ b o u,H b=some (.frz o u)→H' b=some (.frz o u)) (tbls:∀ b ps,H b=some (.tbl ps)→∃ more,H' b=some (.tbl (ps++more)))
    (ns:∀ m,s.heap.Ns X.env.locals m→h'.Ns X.env.locals m) (hok:HOk X.prog X.w H' h') (hg:AllBare g') :
    Inv X pins σ H' { s with heap:=h',gens:=g',drawn:=d',toks:=t' }:=by
  have neL:∀ b o,X.s₀.heap.get? b=some o→b≠X.env.locals:=fun b o e=>Nat.ne_of_lt (Nat.lt_of_lt_of_le (Heap.lt_size e) I.ok.above)
  have neC:∀ b o,X.s₀.heap.get? b=some o→b∉X.ex→b∉ch:=fun b o e hx hb=>by
    rcases (hch b hb).1 with z | z
    · exact hx z
    · exact absurd (Nat.lt_of_lt_of_le (Heap.lt_size e) z) (Nat.lt_irrefl _)
  have cellK:∀ x c,X.env.cells.lookup x=some c→∀ v,s.heap.IsCell c v→h'.IsCell c v:=fun x c e v ⟨o,ho,hd⟩=>by
    have nch:c∉ch:=fun z=>(hch c z).2.2.1 x c e rfl
    by_cases hc:c∈X.fs
    · obtain ⟨sl,q⟩:=slot c o (I.cne x c e) hc nch ho (I.freeC x c e)
      exact ⟨_,q,hd⟩
    · exact ⟨o,keep c o (I.cne x c e) hc nch ho (I.freeC x c e),hd⟩
  refine ⟨I.ok,I.os,hg,⟨fun b o e n hb hx=>?_,fun b o e n hb hx=>?_,fun b o e n hx=>?_,fun b o e hx=>?_,fun b xs e=>tups b xs (I.base.tups b xs e),fun b o xs e=>frzs b o xs (I.base.frzs b o xs e),fun b ps e=>?_⟩,?_,fun x c e=>?_,?_,fun x c e=>?_,fun p hp=>?_,hok,I.len⟩
  · exact keep b o (neL b o e) hb (neC b o e hx) (I.base.keep b o e n hb hx) (I.base.free b o e n hx)
  · obtain ⟨sl,e1⟩:=I.base.slot b o e n hb hx
    obtain ⟨sl',e2⟩:=slot b _ (neL b o e) hb (neC b o e hx) e1 (I.base.free b o e n hx)
    exact ⟨sl',e2⟩
  · obtain ⟨o',e1⟩:=I.base.there b o e hx
    exact free b o' (neC b o e hx) e1 (I.base.free b o e n hx)
  · obtain ⟨o',e1⟩:=I.base.there b o e hx
    exact there b o' (neC b o e hx) e1
  · obtain ⟨m1,e1⟩:=I.base.tbls b ps e
    obtain ⟨m2,e2⟩:=tbls b _ e1
    exact ⟨m1++m2,by rw [e2,Array.append_assoc]⟩
  · obtain ⟨m,hn,hl⟩:=I.loc
    refine ⟨m,ns m hn,fun i x v e1 e2 e3=>?_⟩
    obtain ⟨u,r,l⟩:=hl i x v e1 e2 e3
    refine ⟨u,r,?_⟩
    rcases l with l | ⟨k,c,e,z⟩
    · exact .inl l
    · exact .inr ⟨k,c,e,cellK x c e _ z⟩
  · obtain ⟨v,z⟩:=I.cell x c e
    exact ⟨v,cellK x c e v z⟩
  · obtain ⟨m,⟨o,_,_,ho,_⟩,_⟩:=I.loc
    exact free _ o (fun z=>(hch _ z).2.1 rfl) ho I.free
  · obtain ⟨v,o,ho,hd⟩:=I.cell x c e
    exact free c o (fun z=>(hch c z).2.2.1 x c e rfl) ho (I.freeC x c e)
  · obtain ⟨e,n,ne,nf,d⟩:=I.pin p hp
    have nch:p.1∉ch:=fun z=>(hch p.1 z).2.2.2 p hp rfl
    exact ⟨keep p.1 p.2 ne nf nch e n,free p.1 p.2 nch e n,ne,nf,d⟩
theorem Inv.un {t':Nat} (I:Inv X pins σ H s) (u:Un X.fs [] H H' s.heap h') (hok:HOk X.prog X.w H' h'):Inv X pins σ H' { s with heap:=h',toks:=t' }:=by
  obtain ⟨m,⟨o,es,ep,ho,r⟩,_⟩:=id I.loc
  obtain ⟨sl,hL⟩:=u.any ho I.free (by simp)
  exact I.step (g':=s.gens) (d':=s.drawn) (ch:=[]) (fun _ z=>nomatch z) (fun b o _ hb _ e n=>u.keep b o e n hb (by simp)) (fun b o _ hb _ e n=>u.slot b o e n hb (by simp)) (fun b o _ e n=>u.free b o e n (by simp)) (fun b o _ e=>u.there b o e (by simp)) u.tups u.frzs u.tbls (fun m' hm=>by
    obtain ⟨o',es',ep',ho',r'⟩:=hm
    rw [ho] at ho';cases ho'
    exact ⟨_,es',ep',hL,r'⟩) hok I.bare
theorem Inv.call {g':Array GenState} {t':Nat} {d':Drawn} {ch:List Addr} (I:Inv X pins σ H s) (u:Un (frs X.stack) ch H H' s.heap h') (hok:HOk X.prog X.w H' h') (hg:AllBare g')
    (hch:∀ b∈ch,(b∈X.ex∨X.s₀.heap.objs.size≤b)∧b≠X.env.locals∧(∀ x c,X.env.cells.lookup x=some c→c≠b)∧∀ p∈X.pn++pins,p.1≠b) :
    Inv X pins σ H' { s with heap:=h',gens:=g',drawn:=d',toks:=t' }:=by
  obtain ⟨m,⟨o,es,ep,ho,r⟩,_⟩:=id I.loc
  obtain ⟨sl,hL⟩:=u.any ho I.free fun z=>(hch _ z).2.1 rfl
  exact I.step (ch:=ch) hch (fun b o hL hb hc e n=>u.keep b o e n (fun z=>(List.mem_cons.mp (I.stkSub b z)).elim hL hb) hc) (fun b o _ _ hc e n=>u.any e n hc) (fun b o hc e n=>u.free b o e n hc) (fun b o hc e=>u.there b o e hc) u.tups u.frzs u.tbls (fun m' hm=>by
    obtain ⟨o',es',ep',ho',r'⟩:=hm
    rw [ho] at ho';cases ho'
    exact ⟨_,es',ep',hL,r'⟩) hok hg
theorem Inv.turned {t':Nat} {it:Addr} (I:Inv X pins σ H s) (k:∀ b o,b≠it→s.heap.get? b=some o→h'.get? b=some o) (hn:H it=none) (hL:it≠X.env.locals)
    (h1:it∈X.ex∨X.s₀.heap.objs.size≤it) (h2:∀ x c,X.env.cells.lookup x=some c→c≠it) (h3:∀ p∈X.pn++pins,p.1≠it):Inv X pins σ H { s with heap:=h',toks:=t' }:=by
  have nit:∀ b u,H b=some u→b≠it:=fun b u e z=>by rw [z,hn] at e;cases e
  refine I.step (g':=s.gens) (d':=s.drawn) (ch:=[it]) (fun b hb=>?_) (fun b o _ _ hc e _=>k b o (fun z=>hc (by simp [z])) e) (fun b o _ _ hc e _=>⟨o.slots,k b o (fun z=>hc (by simp [z])) e⟩) (fun _ _ _ _ n=>n)
    (fun b o hc e=>⟨o,k b o (fun z=>hc (by simp [z])) e⟩) (fun _ _ e=>e) (fun _ _ _ e=>e) (fun b ps e=>⟨#[],by rw [e];simp⟩) (fun m hm=>?_) (fun b u e=>?_) I.bare
  · have e:b=it:=by simpa using hb
    subst e
    exact ⟨h1,hL,h2,h3⟩
  · obtain ⟨o,es,ep,ho,r⟩:=hm
    exact ⟨o,es,ep,k _ o (Ne.symm hL) ho,r⟩
  · refine (I.hok b u e).stay (fun c v hc q=>k c v ?_ q) (fun _ q=>q) fun _ _ q=>q
    rcases hc with z | z
    · rw [z];exact nit b u e
    · exact nit c _ z
theorem Inv.tok (I:Inv X pins σ H s) (t:Nat):Inv X pins σ H { s with toks:=t }:=I.un (h':=s.heap) (t':=t) Un.refl I.hok
theorem Inv.kept {t':Nat} (I:Inv X pins σ H s) (k:∀ b u,s.heap.get? b=some u→h'.get? b=some u):Inv X pins σ H { s with heap:=h',toks:=t' }:=I.un (Un.kept k) (I.hok.kept k)
theorem Inv.laid {a:Addr} {o:HO} {t':Nat} (I:Inv X pins σ H s) (k:∀ b u,s.heap.get? b=some u→h'.get? b=some u) (hp:s.heap.objs.size≤a) (new:ObjOk X.prog X.w (upd H a o) h' a o) :
    Inv X pins σ (upd H a o) { s with heap:=h',toks:=t' }:=I.un (Un.laid k hp (I.hok.fresh hp)) (I.hok.laid k hp new)
theorem Inv.write {x e:Addr} {o:HO} {t':Nat} (I:Inv X pins σ H s) (mu:Mut (H x)) (he:e=x∨H e=some (.own x)) (k:∀ b u,b≠e→s.heap.get? b=some u→h'.get? b=some u) (heo:∃ u,h'.get? e=some u)
    (new:ObjOk X.prog X.w (upd H x o) h' x o):Inv X pins σ (upd H x o) { s with heap:=h',toks:=t' }:=I.un (Un.write mu he k heo) (I.hok.write mu he k heo new)
theorem Inv.pins_of {pins':List (Addr × Obj)} (I:Inv X pins σ H s) (h:∀ p∈pins',s.heap.get? p.1=some p.2∧H p.1=none∧p.1≠X.env.locals∧p.1∉X.fs∧∀ v,p.2.data≠.cell v):Inv X pins' σ H s:=
  ⟨I.ok,I.os,I.bare,I.base,I.loc,I.cell,I.free,I.freeC,fun p hp=>(List.mem_append.mp hp).elim (fun z=>I.pin p (List.mem_append_left _ z)) (h p),I.hok,I.len⟩
theorem nodup_ix {N:List Str} (hN:N.Nodup) {i j:Nat} {x:Str} (a:N[i]?=some x) (b:N[j]?=some x):i=j:=by
  obtain ⟨h1,e1⟩:=List.getElem?_eq_some_iff.mp a
  obtain ⟨h2,e2⟩:=List.getElem?_eq_some_iff.mp b
  exact (List.getElem_inj hN).mp (e1.trans e2.symm)
theorem store_ok2 {M:Model} {A:Around} {E:Value→Shared→Prop} {i:Nat} {x:Str} {v:V} {u:Value} {Q:Unit→Shared→Prop} (I:Inv X pins σ H s) (hN:X.N.Nodup) (hi:X.N[i]?=some x) (hx:Loc X.env.scope x) (r:RelV v u)
    (h:∀ s',Inv X pins (σ.set i (some v)) H s'→(∃ a,Heap.SameBut a s.heap s'.heap∧(a=X.env.locals∨X.env.cells.lookup x=some a))→Q () s') (hf:X.fn x=true∨X.env.scope.names.lookup x=some .local:=by first | exact .inl rfl | exact .inr rfl | assumption):wpAny M A (storeName X.env x u) Q E s:=by
  obtain ⟨m,hn,hl⟩:=id I.loc
  have hcls:(X.env.scope.kind == .class || (X.env.scope.kind == .module && X.env.locals != X.env.globals))=false:=by rw [I.ok.kind];rfl
  have hiσ:i < σ.length:=by rw [I.len];exact (List.getElem?_eq_some_iff.mp hi).1
  have cne:=I.cne
  have tracked:∀ {a:Addr} {h':Heap},(∃ o,s.heap.get? a=some o∧H a=none)→Heap.SameBut a s.heap h'→HOk X.prog X.w H h':=fun {a h'} ha hs b ob e=>by
    obtain ⟨_,_,hfree⟩:=ha
    refine (I.hok b ob e).stay (fun c w' hc q=>(hs.2 c ?_).trans q) (fun _ q=>q) fun _ _ q=>q
    rintro rfl
    rcases hc with rfl | hc
    · rw [hfree] at e;cases e
    · rw [hfree] at hc;cases hc
  rcases hx with hk | hk
  · refine wpAny_storeName_local hk hn (fun h' hn' hs=>?_) hcls
    obtain ⟨oL,_,_,hoL,_⟩:=id hn
    refine h _ ⟨I.ok,I.os,I.bare,⟨fun b o e n hb hx=>?_,fun b o e n hb hx=>?_,I.base.free,fun b o e hx=>?_,I.base.tups,I.base.frzs,I.base.tbls⟩,⟨_,hn',fun j y v' e1 e2 e3=>?_⟩,fun y c e=>?_,I.free,I.freeC,fun p hp=>?_,tracked ⟨oL,hoL,I.free⟩ hs,by simpa using I.len⟩ ⟨_,hs,.inl rfl⟩
    · exact (hs.2 b (Nat.ne_of_lt (Nat.lt_of_lt_of_le (Heap.lt_size e) I.ok.above))).trans (I.base.keep b o e n hb hx)
    · obtain ⟨sl,e1⟩:=I.base.slot b o e n hb hx
      exact ⟨sl,(hs.2 b (Nat.ne_of_lt (Nat.lt_of_lt_of_le (Heap.lt_size e) I.ok.above))).trans e1⟩
    · obtain ⟨o',e1⟩:=I.base.there b o e hx
      exact ⟨o',(hs.2 b (Nat.ne_of_lt (Nat.lt_of_lt_of_le (Heap.lt_size e) I.ok.above))).trans e1⟩
    · by_cases hj:j=i
      · subst hj
        rw [hi] at e1;cases e1
        rw [List.getElem?_set_self hiσ] at e2
        cases e2
        exact ⟨u,r,.inl ⟨hk,by simp⟩⟩
      · rw [List.getElem?_set_ne (Ne.symm hj)] at e2
        obtain ⟨u',r',q⟩:=hl j y v' e1 e2 e3
        refine ⟨u',r',?_⟩
        rcases q with ⟨k,e⟩ | ⟨k,c,e,z⟩
        · refine .inl ⟨k,?_⟩
          have:y≠x:=fun e=>hj (nodup_ix hN e1 (e ▸ hi))
          simp [this,e]
        · exact .inr ⟨k,c,e,z.sameBut hs (cne y c e)⟩
    · obtain ⟨w',z⟩:=I.cell y c e
      exact ⟨w',z.sameBut hs (cne y c e)⟩
    · obtain ⟨e,n,ne,nf,d⟩:=I.pin p hp
      exact ⟨(hs.2 p.1 ne).trans e,n,ne,nf,d⟩
  · have hfn:X.fn x=true:=by
      rcases hf with z | z
      · exact z
      · rw [z] at hk;cases hk
    obtain ⟨c,hc⟩:=I.ok.has x (.inl hk)
    obtain ⟨w',z⟩:=I.cell x c hc
    refine wpAny_storeName_cell I.ok.kind hk hc z (fun h' hc' hs=>?_)
    obtain ⟨oc,hoc,hocd⟩:=id z
    refine h { s with heap:=h' } ⟨I.ok,I.os,I.bare,⟨fun b o e n hb hx=>?_,fun b o e n hb hx=>?_,I.base.free,fun b o e hx=>?_,I.base.tups,I.base.frzs,I.base.tbls⟩,⟨m,hn.sameBut hs (Ne.symm (cne x c hc)),fun j y v' e1 e2 e3=>?_⟩,fun y c' e=>?_,I.free,I.freeC,fun p hp=>?_,tracked ⟨oc,hoc,I.freeC x c hc⟩ hs,by simpa using I.len⟩ ⟨c,hs,.inr hc⟩
    · exact (hs.2 b (Nat.ne_of_lt (Nat.lt_of_lt_of_le (Heap.lt_size e) (I.ok.cab x c hfn hc)))).trans (I.base.keep b o e n hb hx)
    · obtain ⟨sl,e1⟩:=I.base.slot b o e n hb hx
      exact ⟨sl,(hs.2 b (Nat.ne_of_lt (Nat.lt_of_lt_of_le (Heap.lt_size e) (I.ok.cab x c hfn hc)))).trans e1⟩
    · obtain ⟨o',e1⟩:=I.base.there b o e hx
      exact ⟨o',(hs.2 b (Nat.ne_of_lt (Nat.lt_of_lt_of_le (Heap.lt_size e) (I.ok.cab x c hfn hc)))).trans e1⟩
    · by_cases hj:j=i
      · subst hj
        rw [hi] at e1;cases e1
        rw [List.getElem?_set_self hiσ] at e2
        cases e2
        exact ⟨u,r,.inr ⟨.inl hk,c,hc,hc'⟩⟩
      · rw [List.getElem?_set_ne (Ne.symm hj)] at e2
        obtain ⟨u',r',q⟩:=hl j y v' e1 e2 e3
        refine ⟨u',r',?_⟩
        rcases q with q | ⟨k,c',e,z'⟩
        · exact .inl q
        · refine .inr ⟨k,c',e,z'.sameBut hs ?_⟩
          rintro rfl
          exact hj (nodup_ix hN e1 (I.ok.inj _ _ _ e hc ▸ hi))
    · by_cases hcc:c'=c
      · subst hcc;exact ⟨_,hc'⟩
      · obtain ⟨w2,z2⟩:=I.cell y c' e
        exact ⟨w2,z2.sameBut hs hcc⟩
    · obtain ⟨e,n,ne,nf,d⟩:=I.pin p hp
      refine ⟨(hs.2 p.1 ?_).trans e,n,ne,nf,d⟩
      intro q
      rw [q,hoc] at e
      have q':oc=p.2:=Option.some.inj e
      exact d w' (by rw [← q'];exact hocd)
theorem store_ok {M:Model} {A:Around} {E:Value→Shared→Prop} {i:Nat} {x:Str} {v:V} {u:Value} {Q:Unit→Shared→Prop} (I:Inv X pins σ H s) (hN:X.N.Nodup) (hi:X.N[i]?=some x) (hx:Loc X.env.scope x) (r:RelV v u)
    (h:∀ s',Inv X pins (σ.set i (some v)) H s'→Q () s') (hf:X.fn x=true∨X.env.scope.names.lookup x=some .local:=by first | exact .inl rfl | exact .inr rfl | assumption):wpAny M A (storeName X.env x u) Q E s:=
  store_ok2 I hN hi hx r (fun s' I' _=>h s' I') hf
theorem Inv.call' {s':Shared} {ch:List Addr} (I:Inv X pins σ H s) (ho:s'.os=s.os) (u:Un (frs X.stack) ch H H' s.heap s'.heap) (hok:HOk X.prog X.w H' s'.heap) (hg:AllBare s'.gens)
    (hch:∀ b∈ch,(b∈X.ex∨X.s₀.heap.objs.size≤b)∧b≠X.env.locals∧(∀ x c,X.env.cells.lookup x=some c→c≠b)∧∀ p∈X.pn++pins,p.1≠b):Inv X pins σ H' s':=by
  obtain ⟨h',g',d',t',o'⟩:=s'
  have e:o'=s.os:=ho
  subst e
  exact I.call (g':=g') (t':=t') (d':=d') u hok hg hch
end
abbrev XK:=Value→Option Addr→Hp→Prop
abbrev St:=List (Option V)
abbrev VK:=V→Hp→Prop
abbrev TE:=St→Hp→VK→Prop
abbrev TT:=St→Hp→(Bool→Hp→Prop)→Prop
abbrev TA:=St→Hp→(List V→Hp→Prop)→Prop
structure Ends where
  nx:St→Hp→Prop
  rt:VK
  bk:St→Hp→Prop:=fun _ _=>False
  ct:St→Hp→Prop:=fun _ _=>False
abbrev TS:=Ends→St→Hp→Prop
def EP (X:Cx) (pins:List (Addr × Obj)) (σ:St) (Q:VK) (u:Value) (s':Shared):Prop:=∃ v H',Inv X pins σ H' s'∧RelV v u∧Q v H'
def TP (X:Cx) (pins:List (Addr × Obj)) (σ:St) (Q:Bool→Hp→Prop) (b:Bool) (s':Shared):Prop:=∃ H',Inv X pins σ H' s'∧Q b H'
def AP (X:Cx) (pins:List (Addr × Obj)) (σ:St) (Q:List V→Hp→Prop) (us:List Value) (s':Shared):Prop:=∃ vs H',Inv X pins σ H' s'∧Vals vs us∧Q vs H'
def SP (X:Cx) (pins:List (Addr × Obj)) (D:Ends) (f:Flow) (s':Shared):Prop:=
  match f with
  | .next=>∃ σ' H',Inv X pins σ' H' s'∧D.nx σ' H'
  | .brk=>∃ σ' H',Inv X pins σ' H' s'∧D.bk σ' H'
  | .cont=>∃ σ' H',Inv X pins σ' H' s'∧D.ct σ' H'
  | .ret u=>∃ v σ' H',Inv X pins σ' H' s'∧RelV v u∧D.rt v H'
def PE (X:Cx) (e:Expr) (t:TE):Prop:=
  ∀ (pins:List (Addr × Obj)) (s:Shared) (σ:St) (H:Hp) (Q:VK),Inv X pins σ H s→t σ H Q→wpAny (model X.prog X.w) X.A (eval e X.env) (EP X pins σ Q) X.xe s
def PT (X:Cx) (e:Expr) (t:TT):Prop:=
  ∀ (pins:List (Addr × Obj)) (s:Shared) (σ:St) (H:Hp) (Q:Bool→Hp→Prop),Inv X pins σ H s→t σ H Q→wpAny (model X.prog X.w) X.A (isTrue e X.env (eval e X.env)) (TP X pins σ Q) X.xe s
def PW (X:Cx) (e:Expr) (t:TT):Prop:=
  ∀ (whole:Sem Value) (pins:List (Addr × Obj)) (s:Shared) (σ:St) (H:Hp) (Q:Bool→Hp→Prop),Inv X pins σ H s→t σ H Q→wpAny (model X.prog X.w) X.A (isTrue e X.env whole) (TP X pins σ Q) X.xe s
theorem PW.pt {X:Cx} {e:Expr} {t:TT} (h:PW X e t):PT X e t:=h _
def PA (X:Cx) (es:List Expr) (t:TA):Prop:=
  ∀ (pos:Pos) (pins:List (Addr × Obj)) (s:Shared) (σ:St) (H:Hp) (Q:List V→Hp→Prop),Inv X pins σ H s→t σ H Q→wpAny (model X.prog X.w) X.A (spliced (backTo pos (starEach es X.env))) (AP X pins σ Q) X.xe s
def PS (X:Cx) (st:Stmt) (t:TS):Prop:=
  ∀ (pins:List (Addr × Obj)) (s:Shared) (σ:St) (H:Hp) (D:Ends),Inv X pins σ H s→t D σ H→wpAny (model X.prog X.w) X.A (exec st X.env) (SP X pins D) X.xe s
def PSs (X:Cx) (st:List Stmt) (t:TS):Prop:=
  ∀ (pins:List (Addr × Obj)) (s:Shared) (σ:St) (H:Hp) (D:Ends),Inv X pins σ H s→t D σ H→wpAny (model X.prog X.w) X.A (execs st X.env) (SP X pins D) X.xe s
theorem thn {α:Type} {t:Sem α} {Q Q':α→Shared→Prop} {M:Model} {A:Around} {E:Value→Shared→Prop} {s:Shared} (h:wpAny M A t Q E s) (hQ:∀ a s,Q a s→Q' a s):wpAny M A t Q' E s:=wpAny_mono h hQ fun _ _ x=>x
section
variable {X:Cx}
def tVar (i:Nat):TE:=fun σ H Q=>∃ v,σ[i]?=some (some v)∧Q v H
def tC (v:V):TE:=fun _ H Q=>Q v H
theorem pe_var {i:Nat} {x:Str} {pos:Pos} (hN:X.N[i]?=some x) (hv:Vis X.env.scope x) (hd:(x == ("__debug__":Str))=false:=by decide) (hcd:(x == ("__classdict__":Str))=false:=by decide):PE X (.Name x pos) (tVar i):=by
  intro pins s σ H Q I h
  obtain ⟨v,e,h⟩:=h
  obtain ⟨m,hn,hl⟩:=I.loc
  obtain ⟨u,r,l⟩:=hl i x v hN e hv
  have fin:EP X pins σ Q u s:=⟨v,H,I,r,h⟩
  rcases l with ⟨hk,hm⟩ | ⟨hk,c,hc,hcell⟩
  · exact wpAny_Name (wpAny_loadName_local I.ok.kind hk hn hm fin) hd
  · rcases hk with hk | hk
    · exact wpAny_Name (wpAny_loadName_cell I.ok.kind hk hc hcell fin) hd
    · exact wpAny_Name (wpAny_loadName_free I.ok.kind hk hc hcell fin hcd) hd
theorem pe_int {i j pos}:PE X (.Constant (.int i) j pos) (tC (.int i)):=fun _ _ _ H _ I h=>wpAny_Constant_int ⟨.int i,H,I.tok _,⟨_,rfl⟩,h⟩
theorem pe_bl {b j pos}:PE X (.Constant (.bool b) j pos) (tC (.bl b)):=fun _ _ _ H _ I h=>Constant_bool ⟨.bl b,H,I,rfl,h⟩
theorem pe_non {j pos}:PE X (.Constant .none j pos) (tC .non):=fun _ _ _ H _ I h=>Constant_none ⟨.non,H,I,rfl,h⟩
theorem pe_str {x j pos}:PE X (.Constant (.str x) j pos) (tC (.str x)):=fun _ _ _ H _ I h=>Calls.Constant_str ⟨.str x,H,I.tok _,⟨_,rfl⟩,h⟩
def Gl (X:Cx) (x:Str):Prop:=X.env.kindOf x=some .globalImplicit
theorem ld_glob {E:Value→Shared→Prop} {pins:List (Addr × Obj)} {s:Shared} {σ:St} {H:Hp} {x:Str} {u:Value} {pos:Pos} {Q:Value→Shared→Prop} (I:Inv X pins σ H s) (hg:Gl X x) (hm:X.mg x=some u) (h:Q u s)
    (hd:(x == ("__debug__":Str))=false:=by decide):wpAny (model X.prog X.w) X.A (eval (.Name x pos) X.env) Q E s:=
  Calls.Name_function_global I.ok.kind hg (Calls.loadGlobal_global (by rw [I.ok.glob];exact I.mod.glob.keeps I.bk) hm h) hd
theorem ld_blt {E:Value→Shared→Prop} {pins:List (Addr × Obj)} {s:Shared} {σ:St} {H:Hp} {x:Str} {u:Value} {pos:Pos} {Q:Value→Shared→Prop} (I:Inv X pins σ H s) (hg:Gl X x) (hm:X.mg x=none) (hv:bootBuiltins x=some u) (h:Q u s)
    (hn:x≠"__name__":=by decide) (hd:(x == ("__debug__":Str))=false:=by decide):wpAny (model X.prog X.w) X.A (eval (.Name x pos) X.env) Q E s:=by
  obtain ⟨mb,h1,h2⟩:=I.mod.blt
  exact Calls.Name_function_global I.ok.kind hg (Calls.loadGlobal_builtin (by rw [I.ok.glob];exact I.mod.glob.keeps I.bk) hm (by rw [I.ok.blt];exact h1.keeps I.bk) ((h2 x hn).trans hv) h) hd
theorem pe_bltn {x:Str} {v:V} {u:Value} {pos:Pos} (hg:Gl X x) (hm:X.mg x=none) (hv:bootBuiltins x=some u) (r:RelV v u) (hn:x≠"__name__":=by decide) (hd:(x == ("__debug__":Str))=false:=by decide):PE X (.Name x pos) (tC v):=
  fun _ _ _ H _ I h=>ld_blt I hg hm hv ⟨v,H,I,r,h⟩ hn hd
variable {a b:Expr} {ta tb:TE} {pos:Pos}
def tB (t:TE):TT:=fun σ H Q=>t σ H fun x H1=>∃ c,x=.bl c∧Q c H1
theorem pt_val {e:Expr} {t:TE} (h:PE X e t) (he:∀ whole,isTrue e X.env whole=(do let v ← whole;standAt e.pos;holding [v] (truthy v)):=by intro _;rfl):PT X e (tB t):=by
  intro pins s σ H Q I hw
  refine isTrue_plain (thn (h pins s σ H _ I hw) fun v s1 ⟨x,H1,I1,r1,q1⟩=>?_) (he _)
  obtain ⟨d,rfl,q⟩:=q1
  cases r1
  exact wpAny_truthy_bool ⟨H1,I1,q⟩
variable {tA tB':TT} {rest:List Expr}
def tAnd (t u:TT):TT:=fun σ H Q=>t σ H fun c H1=>if c=true then u σ H1 Q else Q false H1
def tOr (t u:TT):TT:=fun σ H Q=>t σ H fun c H1=>if c=true then Q true H1 else u σ H1 Q
theorem pw_and1 (ha:PT X a tA):PW X (.BoolOp .And [a] pos) tA:=by
  intro wh pins s σ H Q I h
  refine isTrue_and (thn (ha pins s σ H Q I h) fun c s1 e=>?_)
  cases c with
  | true=>exact isTrue_and_nil e
  | false=>exact e
theorem pw_or1 (ha:PT X a tA):PW X (.BoolOp .Or [a] pos) tA:=by
  intro wh pins s σ H Q I h
  refine isTrue_or (thn (ha pins s σ H Q I h) fun c s1 e=>?_)
  cases c with
  | false=>exact isTrue_or_nil e
  | true=>exact e
theorem pw_and (ha:PT X a tA) (hb:PW X (.BoolOp .And (b::rest) pos) tB'):PW X (.BoolOp .And (a::b::rest) pos) (tAnd tA tB'):=by
  intro wh pins s σ H Q I h
  refine isTrue_and (thn (ha pins s σ H _ I h) fun c s1 ⟨H1,I1,q1⟩=>?_)
  cases c with
  | true=>exact hb wh pins s1 σ H1 Q I1 q1
  | false=>exact ⟨H1,I1,q1⟩
theorem pw_or (ha:PT X a tA) (hb:PW X (.BoolOp .Or (b::rest) pos) tB'):PW X (.BoolOp .Or (a::b::rest) pos) (tOr tA tB'):=by
  intro wh pins s σ H Q I h
  refine isTrue_or (thn (ha pins s σ H _ I h) fun c s1 ⟨H1,I1,q1⟩=>?_)
  cases c with
  | true=>exact ⟨H1,I1,q1⟩
  | false=>exact hb wh pins s1 σ H1 Q I1 q1
end
def SqL (K:Fg) (H:Hp) (a:Addr) (xs:List V):Prop:=
  Rd H a (.lst xs)∨
    ∃ (o:Obj) (its:Array Value) (n:Nat),K.lookup a=some o∧o.cls=.type "list"∧o.dict=none∧o.data=.seq its n∧its.size≤sizeLine∧Vals xs its.toList
def SqT (K:Fg) (H:Hp) (a:Addr) (xs:List V):Prop:=
  Rd H a (.tup xs)∨
    ∃ (o:Obj) (its:Array Value) (n:Nat),K.lookup a=some o∧o.cls=.type "tuple"∧o.data=.seq its n∧its.size≤sizeLine∧Vals xs its.toList
def absV:Value→Option V
  | .none=>some .non
  | .bool b=>some (.bl b)
  | .int i _=>some (.int i)
  | .str x _=>some (.str x)
  | .bytes b _=>some (.byt b)
  | .float b _=>some (.flt b)
  | .ref a=>some (.ref a)
  | .type n=>some (.ty n)
  | _=>none
theorem RelV.abs {x:V} {u:Value} (r:RelV x u):absV u=some x:=by
  cases x with
  | non=>cases r;rfl
  | bl _=>cases r;rfl
  | int _=>obtain ⟨t,rfl⟩:=r;rfl
  | str _=>obtain ⟨t,rfl⟩:=r;rfl
  | byt _=>obtain ⟨t,rfl⟩:=r;rfl
  | flt _=>obtain ⟨t,rfl⟩:=r;rfl
  | ref _=>cases r;rfl
  | ty _=>cases r;rfl
theorem RelV.inj {x y:V} {u:Value} (r:RelV x u) (q:RelV y u):x=y:=Option.some.inj (r.abs.symm.trans q.abs)
theorem Vals.inj:∀ {xs ys:List V} {us:List Value},Vals xs us→Vals ys us→xs=ys
  | _,_,_,.nil,.nil=>rfl
  | _,_,_,.cons r t,.cons r' t'=>by rw [r.inj r',Vals.inj t t']
section
variable {X:Cx} {pins:List (Addr × Obj)} {σ:St} {H:Hp} {s:Shared} {a:Addr} {xs ys:List V}
theorem SqL.of {K:Fg} (h:H a=some (.lst xs)):SqL K H a xs:=.inl (.inl h)
theorem SqT.of {K:Fg} (h:H a=some (.tup xs)):SqT K H a xs:=.inl (.inl h)
theorem Inv.list (I:Inv X pins σ H s) (h:SqL X.K H a xs):∃ its:List Value,Vals xs its∧PlainL s.heap a its.toArray∧xs.length≤sizeLine:=by
  rcases h with h | ⟨o,its,n,hk,hc,hd,hs,hz,r⟩
  · obtain ⟨z,its,n,r,e⟩:=h.ok I.hok
    exact ⟨its,r,⟨_,n,e,rfl,rfl,rfl⟩,z⟩
  · refine ⟨its.toList,r,⟨o,n,I.kIn a o hk,hc,hd,by simpa using hs⟩,?_⟩
    have e:=r.length
    simp only [Array.length_toList] at e
    lia
theorem Inv.tuple (I:Inv X pins σ H s) (h:SqT X.K H a xs):∃ its:List Value,Vals xs its∧IsTup s.heap a its.toArray∧xs.length≤sizeLine:=by
  rcases h with h | ⟨o,its,n,hk,hc,hs,hz,r⟩
  · obtain ⟨z,its,r,p⟩:=h.ok I.hok
    exact ⟨its,r,p.tup,z⟩
  · refine ⟨its.toList,r,⟨o,I.kIn a o hk,hc,n,by simpa using hs⟩,?_⟩
    have e:=r.length
    simp only [Array.length_toList] at e
    lia
theorem Inv.list_inj (I:Inv X pins σ H s) (h:SqL X.K H a xs) (h':SqL X.K H a ys):xs=ys:=by
  obtain ⟨its,r,⟨o,n,e,_,_,d⟩,_⟩:=I.list h
  obtain ⟨its',r',⟨o',n',e',_,_,d'⟩,_⟩:=I.list h'
  rw [e] at e';cases e'
  rw [d] at d'
  injection d' with d1 _
  have:its=its':=by simpa using congrArg Array.toList d1
  subst this
  exact r.inj r'
theorem Inv.tuple_inj (I:Inv X pins σ H s) (h:SqT X.K H a xs) (h':SqT X.K H a ys):xs=ys:=by
  obtain ⟨its,r,⟨o,e,_,n,d⟩,_⟩:=I.tuple h
  obtain ⟨its',r',⟨o',e',_,n',d'⟩,_⟩:=I.tuple h'
  rw [e] at e';cases e'
  rw [d] at d'
  injection d' with d1 _
  have:its=its':=by simpa using congrArg Array.toList d1
  subst this
  exact r.inj r'
end
abbrev Cx.wish (X:Cx) (E:Value→Shared→Prop):Cx:={ X with xe:=E }
abbrev Cx.nox (X:Cx):Cx:=X.wish fun _ _=>False
theorem Cx.Ok.wish {X:Cx} (ok:X.Ok) (E:Value→Shared→Prop):(X.wish E).Ok:=
  ⟨ok.mod,ok.kind,ok.glob,ok.blt,ok.above,ok.inj,ok.has,ok.cab,ok.hd,ok.frames,ok.stk,ok.exf,ok.bs,ok.bsz,ok.noex,ok.exfs,ok.funs,ok.frf⟩
theorem Cx.Ok.unwish {X:Cx} {E:Value→Shared→Prop} (ok:(X.wish E).Ok):X.Ok:=
  ⟨ok.mod,ok.kind,ok.glob,ok.blt,ok.above,ok.inj,ok.has,ok.cab,ok.hd,ok.frames,ok.stk,ok.exf,ok.bs,ok.bsz,ok.noex,ok.exfs,ok.funs,ok.frf⟩
section
variable {X:Cx} {pins:List (Addr × Obj)} {σ:St} {H:Hp} {s:Shared} {E:Value→Shared→Prop}
theorem Inv.wish (I:Inv X pins σ H s) (E:Value→Shared→Prop):Inv (X.wish E) pins σ H s:=⟨I.ok.wish E,I.os,I.bare,I.base,I.loc,I.cell,I.free,I.freeC,I.pin,I.hok,I.len⟩
theorem Inv.unwish (I:Inv (X.wish E) pins σ H s):Inv X pins σ H s:=⟨I.ok.unwish,I.os,I.bare,I.base,I.loc,I.cell,I.free,I.freeC,I.pin,I.hok,I.len⟩
theorem SP.unwish {D:Ends} {f:Flow} {s':Shared} (h:SP (X.wish E) pins D f s'):SP X pins D f s':=by
  cases f with
  | next=>obtain ⟨σ',H',I,q⟩:=h;exact ⟨σ',H',I.unwish,q⟩
  | brk=>obtain ⟨σ',H',I,q⟩:=h;exact ⟨σ',H',I.unwish,q⟩
  | cont=>obtain ⟨σ',H',I,q⟩:=h;exact ⟨σ',H',I.unwish,q⟩
  | ret u=>obtain ⟨v,σ',H',I,r,q⟩:=h;exact ⟨v,σ',H',I.unwish,r,q⟩
theorem PSs.nox {st:List Stmt} {t:TS} (h:PSs X.nox st t):PSs X st t:=fun pins s σ H D I hw=>
  wpAny_mono (h pins s σ H D (I.wish _) hw) (fun _ _ q=>q.unwish) fun _ _ z=>False.elim z
end
section
variable {X:Cx} {st:Stmt} {rest:List Stmt} {t u:TS} {e:Expr} {te:TE} {pos:Pos}
def tNext:TS:=fun D σ H=>D.nx σ H
def tSeq (t u:TS):TS:=fun D σ H=>t { D with nx:=u D } σ H
theorem pss_nil:PSs X [] tNext:=fun _ _ σ H _ I h=>wpAny_execs_nil ⟨σ,H,I,h⟩
theorem pss_cons (h1:PS X st t) (h2:PSs X rest u):PSs X (st::rest) (tSeq t u):=by
  intro pins s σ H D I h
  refine wpAny_execs_cons (thn (h1 pins s σ H { D with nx:=u D } I h) fun f s1 q=>?_)
  cases f with
  | next=>
    obtain ⟨σ',H',I',q⟩:=q
    exact h2 pins s1 σ' H' D I' q
  | ret v=>exact q
  | brk=>exact q
  | cont=>exact q
theorem pss_one (h1:PS X st t):PSs X [st] t:=by
  intro pins s σ H D I h
  refine wpAny_execs_cons (thn (h1 pins s σ H D I h) fun f s1 q=>?_)
  cases f with
  | next=>exact wpAny_execs_nil q
  | ret v=>exact q
  | brk=>exact q
  | cont=>exact q
theorem Inv.quiet {pins:List (Addr × Obj)} {σ:St} {H:Hp} {s:Shared} (I:Inv X pins σ H s):interactive X.env=false:=by simp [interactive,I.ok.kind]
def tDrop (te:TE):TS:=fun D σ H=>te σ H fun _ H1=>D.nx σ H1
theorem ps_expr (he:PE X e te) (hs:swapsWith e none pos.line X.env=pure false:=by rfl):PS X (.Expr e pos) (tDrop te):=by
  intro pins s σ H D I h
  exact wpAny_Expr_any (thn (he pins s σ H _ I h) fun v s1 ⟨x,H1,I1,r1,q1⟩=>⟨σ,H1,I1,q1⟩) I.quiet hs
def tRet (te:TE):TS:=fun D σ H=>te σ H D.rt
theorem ps_ret (he:PE X e te):PS X (.Return (some e) pos) (tRet te):=by
  intro pins s σ H D I h
  exact wpAny_Return_some (thn (he pins s σ H _ I h) fun v s1 ⟨x,H1,I1,r1,q1⟩=>⟨x,σ,H1,I1,r1,q1⟩)
def tIfS (c:TT) (t u:TS):TS:=fun D σ H=>c σ H fun b H1=>if b=true then t D σ H1 else u D σ H1
theorem ps_if {c:Expr} {a b:List Stmt} {tc:TT} (hc:PT X c tc) (ha:PSs X a t) (hb:PSs X b u):PS X (.If c a b pos) (tIfS tc t u):=by
  intro pins s σ H D I h
  refine wpAny_If (thn (hc pins s σ H _ I h) fun d s1 ⟨H1,I1,q1⟩=>?_)
  cases d with
  | true=>exact ha pins s1 σ H1 D I1 q1
  | false=>exact hb pins s1 σ H1 D I1 q1
end
abbrev TG:=V→St→Hp→(St→Hp→Prop)→Prop
abbrev TGs:=List V→St→Hp→(St→Hp→Prop)→Prop
def PG (X:Cx) (target:Expr) (t:TG):Prop:=
  ∀ (pins:List (Addr × Obj)) (s:Shared) (σ:St) (H:Hp) (v:V) (u:Value) (Q:St→Hp→Prop),Inv X pins σ H s→RelV v u→t v σ H Q→
    wpAny (model X.prog X.w) X.A (assign target X.env u) (fun _ s'=>∃ σ' H',Inv X pins σ' H' s'∧Q σ' H') X.xe s
def PGs (X:Cx) (ts:List Expr) (t:TGs):Prop:=
  ∀ (pins:List (Addr × Obj)) (s:Shared) (σ:St) (H:Hp) (vs:List V) (us:List Value) (Q:St→Hp→Prop),Inv X pins σ H s→Vals vs us→t vs σ H Q→
    wpAny (model X.prog X.w) X.A (assignInOrder ((assignEach ts X.env).map (·.2)) us) (fun _ s'=>∃ σ' H',Inv X pins σ' H' s'∧Q σ' H') X.xe s
abbrev TSet:=V→V→V→Hp→(Hp→Prop)→Prop
def PSet (X:Cx) (t:TSet):Prop:=
  ∀ (pins:List (Addr × Obj)) (s:Shared) (σ:St) (H:Hp) (o i v:V) (ov iv u:Value) (Q:Hp→Prop),Inv X pins σ H s→RelV o ov→RelV i iv→RelV v u→t o i v H Q→
    wpAny (model X.prog X.w) X.A (setItem ov iv u) (fun _ s'=>∃ H',Inv X pins σ H' s'∧Q H') X.xe s
section
variable {X:Cx} {pos:Pos}
def gName (i:Nat):TG:=fun v σ H Q=>Q (σ.set i (some v)) H
theorem pg_name {i:Nat} {x:Str} (hN:X.N.Nodup) (hi:X.N[i]?=some x) (hx:Loc X.env.scope x) (hf:X.fn x=true∨X.env.scope.names.lookup x=some .local:=by first | exact .inl rfl | exact .inr rfl | assumption):PG X (.Name x pos) (gName i):=by
  intro pins s σ H v u Q I r h
  exact wpAny_assign_Name (store_ok I hN hi hx r (fun s' I'=>⟨_,H,I',h⟩) hf)
def gNil:TGs:=fun vs σ H Q=>vs=[]∧Q σ H
def gCons (t:TG) (u:TGs):TGs:=fun vs σ H Q=>∃ v r,vs=v::r∧t v σ H fun σ' H'=>u r σ' H' Q
theorem pgs_nil:PGs X [] gNil:=by
  intro pins s σ H vs us Q I r h
  obtain ⟨e,h⟩:=h
  subst e
  cases r
  exact assignInOrder_nil ⟨σ,H,I,h⟩
theorem pgs_cons {e:Expr} {es:List Expr} {t:TG} {u:TGs} (h1:PG X e t) (h2:PGs X es u)
    (hs:(assignEach (e::es) X.env).map (·.2)=assign e X.env::(assignEach es X.env).map (·.2):=by rfl):PGs X (e::es) (gCons t u):=by
  intro pins s σ H vs us Q I r h
  obtain ⟨v,vr,e1,h⟩:=h
  subst e1
  cases r with
  | cons r rr=>
    rw [hs]
    refine assignInOrder_cons (thn (h1 pins s σ H _ _ _ I r h) fun _ s1 ⟨σ1,H1,I1,q1⟩=>?_)
    exact h2 pins s1 σ1 H1 _ _ Q I1 rr q1
def gTup (K:Fg) (n:Nat) (t:TGs):TG:=fun v σ H Q=>∃ a xs,v=.ref a∧SqT K H a xs∧xs.length=n∧t xs σ H Q
theorem pg_tup {es:List Expr} {k:Nat} {t:TGs} {n:Nat} (hc:X.calm=true) (h:PGs X es t)
    (hn:(assignEach es X.env).length=n:=by rfl) (hst:(assignEach es X.env).findIdx? (·.1)=none:=by rfl):PG X (.Tuple es k pos) (gTup X.K n t):=by
  intro pins s σ H v u Q I r hw
  obtain ⟨a,xs,e1,hq,hl,hw⟩:=hw
  subst e1
  cases r
  obtain ⟨its,rv,ht,hz⟩:=I.tuple hq
  refine assign_Tuple_tuple (I.ok.hd hc) ht (by simp [hn,← hl,rv.length]) hst fun h' hx=>?_
  have I1:Inv X pins σ H { s with heap:=h' }:=I.kept (t':=s.toks) fun b o e=>hx b o (Nat.ne_of_lt (Heap.lt_size e)) e
  exact h pins _ σ H xs _ Q I1 (by simpa using rv) hw
def gSub (to ti:TE) (t:TSet):TG:=fun v σ H Q=>to σ H fun o H1=>ti σ H1 fun i H2=>t o i v H2 fun H3=>Q σ H3
theorem pg_sub {o i:Expr} {to ti:TE} {t:TSet} (ho:PE X o to) (hi:PE X i ti) (hs:PSet X t)
    (ha:∀ v,assign (.Subscript o i pos) X.env v=(do
      let ov ← holding [v] (eval o X.env)
      let iv ← holding [v,ov] (eval i X.env)
      standAt pos
      holding [v,ov,iv] (setItem ov iv v)
      release [v,ov,iv] []):=by intro _;rfl):PG X (.Subscript o i pos) (gSub to ti t):=by
  intro pins s σ H v u Q I r h
  rw [ha]
  refine wpAny_bind (wpAny_holding (thn (ho pins s σ H _ I h) fun ov s1 ⟨x,H1,I1,r1,q1⟩=>?_))
  refine wpAny_bind (wpAny_holding (thn (hi pins s1 σ H1 _ I1 q1) fun iv s2 ⟨y,H2,I2,r2,q2⟩=>?_))
  refine wpAny_bind (wpAny_standAt (wpAny_bind (wpAny_holding (thn (hs pins s2 σ H2 x y v ov iv u _ I2 r1 r2 r q2) fun _ s3 ⟨H3,I3,q3⟩=>?_))))
  exact wpAny_release ⟨σ,H3,I3,q3⟩
def tAsg (te:TE) (g:TG):TS:=fun D σ H=>te σ H fun x H1=>g x σ H1 D.nx
theorem ps_asg {tg e:Expr} {te:TE} {g:TG} (he:PE X e te) (hg:PG X tg g) (hs:swapsWithSole [tg] e pos.line X.env=pure false:=by rfl) (hw:swappedStores [tg] e X.env=pure none:=by rfl)
    (h1:(assignEach [tg] X.env).map (·.2)=[assign tg X.env]:=by rfl):PS X (.Assign [tg] e pos) (tAsg te g):=by
  intro pins s σ H D I h
  refine wpAny_Assign_stores (thn (he pins s σ H _ I h) fun v s1 ⟨x,H1,I1,r1,q1⟩=>?_) hs hw
  rw [h1]
  exact thn (hg pins s1 σ H1 x v _ I1 r1 q1) fun _ s2 q=>q
theorem ps_set {i:Nat} {x:Str} {e:Expr} {te:TE} {pos':Pos} (hN:X.N.Nodup) (hi:X.N[i]?=some x) (hx:Loc X.env.scope x) (he:PE X e te) (hs:swapsWith e (some (.Name x pos')) pos.line X.env=pure false:=by rfl) (hf:X.fn x=true∨X.env.scope.names.lookup x=some .local:=by first | exact .inl rfl | exact .inr rfl | assumption) :
    PS X (.Assign [.Name x pos'] e pos) (tAsg te (gName i)):=by
  intro pins s σ H D I h
  refine wpAny_Assign_Name (thn (he pins s σ H _ I h) fun v s1 ⟨y,H1,I1,r1,q1⟩=>?_) hs
  exact store_ok I1 hN hi hx r1 (fun s2 I2=>⟨_,H1,I2,q1⟩) hf
end
section
variable {X:Cx} {pos:Pos}
def tWhile (c:TT) (tb:TS):TS:=fun D σ H=>∃ W:Nat→St→Hp→Prop,(∃ m,W m σ H)∧∀ m σ H,W m σ H→
  c σ H fun b H1=>if b=true then ∃ N:St→Hp→Prop,(∀ σ' H',N σ' H'→∃ m',m' < m∧W m' σ' H')∧tb { D with nx:=N,ct:=N,bk:=D.nx } σ H1 else D.nx σ H1
theorem ps_while {c:Expr} {body:List Stmt} {tc:TT} {tb:TS} (hp:PassesOwn (model X.prog X.w) X.A X.env X.xe) (hc:PT X c tc) (hb:PSs X body tb):PS X (.While c body [] pos) (tWhile tc tb):=by
  intro pins s σ H D I h
  obtain ⟨W,⟨m0,w0⟩,turn⟩:=h
  refine wpAny_While (codeAny_whileLoop (fun n s'=>∃ σ' H',Inv X pins σ' H' s'∧W n σ' H') ?_ m0 ⟨σ,H,I,w0⟩)
  rintro n s1 ⟨σ1,H1,I1,w1⟩
  refine wpAny_passesOwn hp (thn (hc pins s1 σ1 H1 _ I1 (turn n σ1 H1 w1)) fun b s2 ⟨H2,I2,q2⟩=>?_)
  cases b with
  | true=>
    obtain ⟨N,hN,q2⟩:=q2
    rw [if_pos rfl]
    refine wpAny_passesOwn hp (thn (hb pins s2 σ1 H2 _ I2 q2) fun f s3 q3=>?_)
    cases f with
    | next=>
      obtain ⟨σ3,H3,I3,n3⟩:=q3
      obtain ⟨m',hm,w3⟩:=hN σ3 H3 n3
      exact ⟨m',hm,σ3,H3,I3,w3⟩
    | cont=>
      obtain ⟨σ3,H3,I3,n3⟩:=q3
      obtain ⟨m',hm,w3⟩:=hN σ3 H3 n3
      exact ⟨m',hm,σ3,H3,I3,w3⟩
    | brk=>exact q3
    | ret v=>exact q3
  | false=>
    rw [if_neg Bool.false_ne_true]
    exact wpAny_execs_nil ⟨σ1,H2,I2,q2⟩
end
structure It where
  go:Nat→Hp→Prop
  yld:Nat→Hp→V→Hp→Prop
  stop:Nat→Hp→Prop
def FpOk (X:Cx) (pins:List (Addr × Obj)) (H:Hp) (b:Addr):Prop:=
  H b=none∧b≠X.env.locals∧b∉X.fs∧(b∈X.ex∨X.s₀.heap.objs.size≤b)∧(∀ x c,X.env.cells.lookup x=some c→c≠b)∧∀ p∈X.pn++pins,p.1≠b
theorem Inv.fpOk {X:Cx} {pins:List (Addr × Obj)} {σ:St} {H H':Hp} {s:Shared} {b:Addr} (I:Inv X pins σ H s) (hb:s.heap.objs.size≤b) (hn:H' b=none):FpOk X pins H' b:=by
  refine ⟨hn,Nat.ne_of_gt (Nat.lt_of_lt_of_le I.lt hb),I.nofs hb,.inr (Nat.le_trans I.sz hb),fun x c e z=>?_,fun p hp z=>?_⟩
  · obtain ⟨v,q⟩:=I.cell x c e
    exact absurd (Nat.lt_of_lt_of_le q.lt (by rw [z];exact hb)) (Nat.lt_irrefl _)
  · exact absurd (Nat.lt_of_lt_of_le (Heap.lt_size (I.pin p hp).1) (by rw [z];exact hb)) (Nat.lt_irrefl _)
structure Turn (P:Program) (w:World) (K:Fg) (tg:Expr) (J:It) (fp:List Addr) (it:Addr) (tn:Nat→Heap→Prop):Prop where
  mem:it∈fp
  obj:∀ i h,tn i h→∀ b∈fp,∃ o,h.get? b=some o∧∀ v,o.data≠.cell v
  keep:∀ i h h',tn i h→(∀ b∈fp,∀ o,h.get? b=some o→h'.get? b=some o)→tn i h'
  item:∀ (X:Cx),X.prog=P→X.w=w→X.K=K→X.calm=true→∀ (i:Nat) (pins:List (Addr × Obj)) (s:Shared) (σ:St) (H:Hp) (E:Value→Shared→Prop),Inv X pins σ H s→(∀ b∈fp,FpOk X pins H b)→tn i s.heap→J.go i H→
    wpAny (model P w) X.A (pyNext (.ref it)) (fun r s1=>∃ u,r=some u∧
      wpAny (model P w) X.A (letOwnedTupleGo tg (.ref it) u) (fun _ s2=>∃ x H',Inv X pins σ H' s2∧RelV x u∧J.yld i H x H'∧tn (i + 1) s2.heap∧∀ b∈fp,H' b=none) E s1) E s
  done:∀ (X:Cx),X.prog=P→X.w=w→X.K=K→X.calm=true→∀ (i:Nat) (pins:List (Addr × Obj)) (s:Shared) (σ:St) (H:Hp) (E:Value→Shared→Prop),Inv X pins σ H s→(∀ b∈fp,FpOk X pins H b)→tn i s.heap→J.stop i H→
    wpAny (model P w) X.A (pyNext (.ref it)) (fun r s1=>r=none∧Inv X pins σ H s1) E s
  self:∀ (A:Around) (i:Nat) (s:Shared) (Q:Value→Shared→Prop) (E:Value→Shared→Prop),tn i s.heap→Q (.ref it) s→wpAny (model P w) A (pyIter (.ref it)) Q E s
abbrev TI:=St→Hp→(It→Hp→Prop)→Prop
def PIE (X:Cx) (pins:List (Addr × Obj)) (σ:St) (tg:Expr) (R:It→Hp→Prop) (itv:Value) (s2:Shared):Prop:=
  ∃ (it:Addr) (fp:List Addr) (tn:Nat→Heap→Prop) (J:It) (H':Hp),itv=.ref it∧Inv X pins σ H' s2∧Turn X.prog X.w X.K tg J fp it tn∧tn 0 s2.heap∧(∀ b∈fp,FpOk X pins H' b)∧R J H'
def PI (X:Cx) (tg iter:Expr) (wi:TI):Prop:=
  ∀ (pins:List (Addr × Obj)) (s:Shared) (σ:St) (H:Hp) (R:It→Hp→Prop),Inv X pins σ H s→wi σ H R→
    wpAny (model X.prog X.w) X.A (eval iter X.env) (fun v s1=>wpAny (model X.prog X.w) X.A (pyIter v) (PIE X pins σ tg R) X.xe s1) X.xe s
theorem go_of {M:Model} {A:Around} {E:Value→Shared→Prop} {s:Shared} {tg:Expr} {it:Addr} {u:Value} {o:Obj} {n:String} {vs:Array Value} {Q:Unit→Shared→Prop} (ho:s.heap.get? it=some o) (hc:o.cls=.type n) (hd:o.data=.fields vs)
    (hn:["enumerate","zip","dict_itemiterator","dict_reverseitemiterator","odict_iterator","itertools.zip_longest","itertools.pairwise"].contains n=false) (hQ:Q () s):wpAny M A (letOwnedTupleGo tg (.ref it) u) Q E s:=by
  unfold letOwnedTupleGo
  cases tg <;> first
    | exact wpAny_pure hQ
    | (cases u <;> first
        | exact wpAny_pure hQ
        | (refine wpAny_bind (wpAny_load ho ?_)
           rw [hc,hd]
           show wpAny M A (if (["enumerate","zip","dict_itemiterator","dict_reverseitemiterator","odict_iterator","itertools.zip_longest","itertools.pairwise"].contains n && vs[0]? == some (rawInt _))=true then _ else _) Q E s
           rw [if_neg (by intro h;rw [hn,Bool.false_and] at h;cases h)]
           exact wpAny_pure hQ))
def Itl (K:Fg) (a:Addr):It:=
  ⟨fun i H=>∃ xs x,SqL K H a xs∧xs[i]?=some x,fun i H x H'=>H'=H∧∀ xs,SqL K H a xs→xs[i]?=some x,fun i H=>∃ xs,SqL K H a xs∧xs.length≤i⟩
def Itt (K:Fg) (a:Addr):It:=
  ⟨fun i H=>∃ xs x,SqT K H a xs∧xs[i]?=some x,fun i H x H'=>H'=H∧∀ xs,SqT K H a xs→xs[i]?=some x,fun i H=>∃ xs,SqT K H a xs∧xs.length≤i⟩
def Itr (lo:Int) (n:Nat):It:=⟨fun i _=>i < n,fun i H x H'=>H'=H∧x=.int (lo + i),fun i _=>n≤i⟩
theorem turn_list {P:Program} {w:World} {K:Fg} {tg:Expr} (a it:Addr):Turn P w K tg (Itl K a) [it] it (fun i h=>h.IsListIter it a i) where
  mem:=by simp
  obj:=fun i h st b hb=>by
    have e:b=it:=by simpa using hb
    subst e
    obtain ⟨o,e,c,d⟩:=st
    exact ⟨o,e,fun v z=>by rw [d] at z;cases z⟩
  keep:=fun i h h' st k=>st.at fun o e=>k it (by simp) o e
  item:=by
    intro X hP hw hK hc i pins s σ H E I hf st hg
    subst hP hw hK
    obtain ⟨xs,x,hq,hx⟩:=hg
    obtain ⟨its,rv,p,hz⟩:=I.list hq
    obtain ⟨u,hu,ru⟩:=rv.get hx
    obtain ⟨f0,f1,f2,f3,f4,f5⟩:=hf it (by simp)
    refine wpAny_pyNext_list_item st p.isList (x:=u) (by simpa using hu) fun h' st' sb=>?_
    have I1:Inv X pins σ H { s with heap:=h' }:=I.turned (t':=s.toks) (fun b o hb e=>(sb.2 b hb).trans e) f0 f1 f3 f4 f5
    obtain ⟨o,e,c,d⟩:=id st'
    exact ⟨u,rfl,go_of (s:={ s with heap:=h' }) e c d (by decide) ⟨x,H,I1,ru,⟨rfl,fun ys hy=>by rw [I.list_inj hy hq];exact hx⟩,st',fun b hb=>(hf b hb).1⟩⟩
  done:=by
    intro X hP hw hK hc i pins s σ H E I hf st hg
    subst hP hw hK
    obtain ⟨xs,hq,hx⟩:=hg
    obtain ⟨its,rv,p,hz⟩:=I.list hq
    obtain ⟨f0,f1,f2,f3,f4,f5⟩:=hf it (by simp)
    have hl:=rv.length
    exact wpAny_pyNext_list_end (I.ok.hd hc) st p.isList (by simp;lia) fun h' eb=>⟨rfl,I.turned (t':=s.toks) (fun b o hb e=>eb b o hb e) f0 f1 f3 f4 f5⟩
  self:=fun _ _ _ _ _ st h=>wpAny_pyIter_listiter st h
theorem turn_tuple {P:Program} {w:World} {K:Fg} {tg:Expr} (a it:Addr):Turn P w K tg (Itt K a) [it] it (fun i h=>h.IsTupleIter it a i) where
  mem:=by simp
  obj:=fun i h st b hb=>by
    have e:b=it:=by simpa using hb
    subst e
    obtain ⟨o,e,c,d⟩:=st
    exact ⟨o,e,fun v z=>by rw [d] at z;cases z⟩
  keep:=fun i h h' st k=>st.at fun o e=>k it (by simp) o e
  item:=by
    intro X hP hw hK hc i pins s σ H E I hf st hg
    subst hP hw hK
    obtain ⟨xs,x,hq,hx⟩:=hg
    obtain ⟨its,rv,p,hz⟩:=I.tuple hq
    obtain ⟨u,hu,ru⟩:=rv.get hx
    obtain ⟨f0,f1,f2,f3,f4,f5⟩:=hf it (by simp)
    refine wpAny_pyNext_tuple_item st (show s.heap.IsTuple a its.toArray from p) (x:=u) (by simpa using hu) fun h' st' sb=>?_
    have I1:Inv X pins σ H { s with heap:=h' }:=I.turned (t':=s.toks) (fun b o hb e=>(sb.2 b hb).trans e) f0 f1 f3 f4 f5
    obtain ⟨o,e,c,d⟩:=id st'
    exact ⟨u,rfl,go_of (s:={ s with heap:=h' }) e c d (by decide) ⟨x,H,I1,ru,⟨rfl,fun ys hy=>by rw [I.tuple_inj hy hq];exact hx⟩,st',fun b hb=>(hf b hb).1⟩⟩
  done:=by
    intro X hP hw hK hc i pins s σ H E I hf st hg
    subst hP hw hK
    obtain ⟨xs,hq,hx⟩:=hg
    obtain ⟨its,rv,p,hz⟩:=I.tuple hq
    obtain ⟨f0,f1,f2,f3,f4,f5⟩:=hf it (by simp)
    have hl:=rv.length
    exact wpAny_pyNext_tuple_end (I.ok.hd hc) st (show s.heap.IsTuple a its.toArray from p) (by simp;lia) fun h' eb=>⟨rfl,I.turned (t':=s.toks) (fun b o hb e=>eb b o hb e) f0 f1 f3 f4 f5⟩
  self:=fun _ _ _ _ _ st h=>wpAny_pyIter_tupleiter st h
theorem turn_range {P:Program} {w:World} {K:Fg} {tg:Expr} (it:Addr) (lo:Int) (n:Nat):Turn P w K tg (Itr lo n) [it] it (fun i h=>IsRangeIter h it (lo + (i:Nat) * 1) ((n:Int) - (i:Nat)) 1) where
  mem:=by simp
  obj:=fun i h st b hb=>by
    have e:b=it:=by simpa using hb
    subst e
    exact ⟨_,st,fun v z=>by
      have z':Data.fields _=Data.cell v:=z
      cases z'⟩
  keep:=fun i h h' st k=>k it (by simp) _ st
  item:=by
    intro X hP hw hK hc i pins s σ H E I hf st hg
    subst hP hw hK
    obtain ⟨f0,f1,f2,f3,f4,f5⟩:=hf it (by simp)
    have W:=Walks.range (prog:=X.prog) (w:=X.w) (I.ok.hd hc) it lo 1 n
    refine W.item i s _ _ hg st fun v h' tk hv st' kk=>?_
    obtain ⟨t,rfl⟩:=hv
    have I1:Inv X pins σ H { s with heap:=h',toks:=tk }:=I.turned (fun b o hb e=>kk b o (by simpa using hb) e) f0 f1 f3 f4 f5
    refine ⟨_,rfl,go_of (s:={ s with heap:=h',toks:=tk }) (n:="range_iterator") st' rfl rfl (by decide) ⟨.int (lo + i),H,I1,⟨t,?_⟩,⟨rfl,rfl⟩,st',fun b hb=>(hf b hb).1⟩⟩
    rw [Int.mul_one]
  done:=by
    intro X hP hw hK hc i pins s σ H E I hf st hg
    subst hP hw hK
    obtain ⟨f0,f1,f2,f3,f4,f5⟩:=hf it (by simp)
    exact wpAny_pyNext_range_end (I.ok.hd hc) st (by have:n≤i:=hg;lia) fun h' eb=>⟨rfl,I.turned (t':=s.toks) (fun b o hb e=>eb b o hb e) f0 f1 f3 f4 f5⟩
  self:=fun _ _ _ _ _ st h=>wpAny_pyIter_rangeiter st h
section
variable {X:Cx} {tg:Expr}
def iList (K:Fg) (tl:TE):TI:=fun σ H R=>tl σ H fun x H1=>∃ a,x=.ref a∧(∃ xs,SqL K H1 a xs)∧R (Itl K a) H1
def iTup (K:Fg) (tl:TE):TI:=fun σ H R=>tl σ H fun x H1=>∃ a,x=.ref a∧(∃ xs,SqT K H1 a xs)∧R (Itt K a) H1
theorem pi_list {l:Expr} {tl:TE} (hl:PE X l tl):PI X tg l (iList X.K tl):=by
  intro pins s σ H R I h
  refine thn (hl pins s σ H _ I h) fun v s1 ⟨x,H1,I1,r1,q1⟩=>?_
  obtain ⟨a,e,⟨xs,hq⟩,q⟩:=q1
  subst e
  cases r1
  obtain ⟨its,rv,p,hz⟩:=I1.list hq
  refine wpAny_pyIter_list p.isList ?_
  refine ⟨s1.heap.objs.size,[s1.heap.objs.size],_,_,H1,rfl,I1.kept (t':=s1.toks) fun b o e=>Heap.get?_push_of_some _ e,turn_list a _,⟨_,Heap.get?_push_size _ rfl,rfl,rfl⟩,fun b hb=>?_,q⟩
  have e:b=s1.heap.objs.size:=by simpa using hb
  subst e
  exact I1.fpOk (Nat.le_refl _) (I1.hok.fresh (Nat.le_refl _))
theorem pi_tup {l:Expr} {tl:TE} (hl:PE X l tl):PI X tg l (iTup X.K tl):=by
  intro pins s σ H R I h
  refine thn (hl pins s σ H _ I h) fun v s1 ⟨x,H1,I1,r1,q1⟩=>?_
  obtain ⟨a,e,⟨xs,hq⟩,q⟩:=q1
  subst e
  cases r1
  obtain ⟨its,rv,p,hz⟩:=I1.tuple hq
  refine wpAny_pyIter_tuple (show s1.heap.IsTuple a its.toArray from p) ?_
  refine ⟨s1.heap.objs.size,[s1.heap.objs.size],_,_,H1,rfl,I1.kept (t':=s1.toks) fun b o e=>Heap.get?_push_of_some _ e,turn_tuple a _,⟨_,Heap.get?_push_size _ rfl,rfl,rfl⟩,fun b hb=>?_,q⟩
  have e:b=s1.heap.objs.size:=by simpa using hb
  subst e
  exact I1.fpOk (Nat.le_refl _) (I1.hok.fresh (Nat.le_refl _))
theorem range_it {pins:List (Addr × Obj)} {σ:St} {H:Hp} {s:Shared} {R:It→Hp→Prop} {E:Value→Shared→Prop} {lo hi:Int} {t u v:Tok} {tk:Nat} (I:Inv X pins σ H s) (h1:-(2 ^ 62)≤lo) (h2:lo < 2 ^ 62) (h3:-(2 ^ 62)≤hi) (h4:hi < 2 ^ 62)
    (q:R (Itr lo (hi - lo).toNat) H):wpAny (model X.prog X.w) X.A (pyIter (.ref s.heap.objs.size)) (PIE X pins σ tg R) E { s with heap:=s.heap.push { cls:=.type "range",data:=.fields #[.int lo t,.int hi u,.int 1 v] },toks:=tk }:=by
  refine wpAny_pyIter_range (IsRange.new ..) (small_one h1 h2 h3 h4) ?_
  have I1:Inv X pins σ H { s with heap:=s.heap.push { cls:=.type "range",data:=.fields #[.int lo t,.int hi u,.int 1 v] },toks:=tk }:=I.kept fun b o e=>Heap.get?_push_of_some _ e
  refine ⟨(s.heap.push { cls:=.type "range",data:=.fields #[.int lo t,.int hi u,.int 1 v] }).objs.size,[(s.heap.push { cls:=.type "range",data:=.fields #[.int lo t,.int hi u,.int 1 v] }).objs.size],_,_,H,rfl,
    I1.kept (t':=tk) fun b o e=>Heap.get?_push_of_some _ e,turn_range _ lo (hi - lo).toNat,?_,fun b hb=>?_,q⟩
  · have e1:lo + ((0:Nat):Int) * 1=lo:=by simp
    have e2:(((hi - lo).toNat:Nat):Int) - ((0:Nat):Int)=Builtin.Range.rangeSize lo hi 1:=by rw [rangeSize_one];split <;> lia
    show IsRangeIter _ _ (lo + ((0:Nat):Int) * 1) ((((hi - lo).toNat:Nat):Int) - ((0:Nat):Int)) 1
    rw [e1,e2]
    exact Heap.get?_push_size _ rfl
  · have e:b=(s.heap.push { cls:=.type "range",data:=.fields #[.int lo t,.int hi u,.int 1 v] }).objs.size:=by simpa using hb
    subst e
    exact I1.fpOk (Nat.le_refl _) (I1.hok.fresh (Nat.le_refl _))
def iRng1 (ta:TA):TI:=fun σ H R=>ta σ H fun vs H1=>∃ j:Int,vs=[.int j]∧-(2 ^ 62)≤j∧j < 2 ^ 62∧R (Itr 0 j.toNat) H1
theorem pi_range1 {a:Expr} {ta:TA} {p pos:Pos} (hg:Gl X "range") (hm:X.mg "range"=none) (ha:PA X [a] ta) (hs:starEach [a] X.env=[(false,eval a X.env)]:=by rfl):PI X tg (.Call (.Name "range" p) [a] [] pos) (iRng1 ta):=by
  intro pins s σ H R I h
  refine Call_ (ld_blt I hg hm boot_range (PyProof.Rows.callWith_type1 (thn (ha pos pins s σ H _ I h) fun us s1 ⟨vs,H1,I1,r1,q1⟩=>?_) hs rfl))
  obtain ⟨j,e,q1,q2,q⟩:=q1
  subst e
  cases r1 with
  | cons r rr=>
    cases rr
    obtain ⟨t,rfl⟩:=r
    exact call_range_1 (range_it I1 (by lia) (by lia) q1 q2 (by simpa using q))
def tFor (wi:TI) (g:TG) (tb:TS):TS:=fun D σ H=>wi σ H fun J H1=>∃ W:Nat→Nat→St→Hp→Prop,(∃ m,W 0 m σ H1)∧∀ i m σ H,W i m σ H→
  (J.stop i H∧D.nx σ H)∨(J.go i H∧∃ N:St→Hp→Prop,(∀ σ' H',N σ' H'→∃ m',m' < m∧W (i + 1) m' σ' H')∧∀ x H',J.yld i H x H'→g x σ H' fun σ2 H2=>tb { D with nx:=N,ct:=N,bk:=D.nx } σ2 H2)
def pinsAt (fp:List Addr) (h:Heap):List (Addr × Obj):=fp.filterMap fun b=>(h.get? b).map fun o=>(b,o)
theorem mem_pinsAt {fp:List Addr} {h:Heap} {b:Addr} {o:Obj} (hb:b∈fp) (e:h.get? b=some o):(b,o)∈pinsAt fp h:=List.mem_filterMap.mpr ⟨b,hb,by rw [e];rfl⟩
theorem of_pinsAt {fp:List Addr} {h:Heap} {p:Addr × Obj} (hp:p∈pinsAt fp h):p.1∈fp∧h.get? p.1=some p.2:=by
  obtain ⟨b,hb,e⟩:=List.mem_filterMap.mp hp
  cases q:h.get? b with
  | none=>rw [q] at e;cases e
  | some o=>
    rw [q] at e
    have e':(b,o)=p:=Option.some.inj e
    subst e'
    exact ⟨hb,q⟩
theorem Inv.pinned {pins:List (Addr × Obj)} {σ:St} {H:Hp} {s:Shared} {fp:List Addr} (I:Inv X pins σ H s) (hf:∀ b∈fp,FpOk X pins H b) (ho:∀ b∈fp,∃ o,s.heap.get? b=some o∧∀ v,o.data≠.cell v):Inv X (pins++pinsAt fp s.heap) σ H s:=
  I.pins_of fun p hp=>(List.mem_append.mp hp).elim (fun z=>I.pin p (List.mem_append_right _ z)) fun z=>by
    obtain ⟨hb,e⟩:=of_pinsAt z
    obtain ⟨f0,f1,f2,_⟩:=hf p.1 hb
    obtain ⟨o,e',d⟩:=ho p.1 hb
    rw [e] at e';cases e'
    exact ⟨e,f0,f1,f2,d⟩
theorem Inv.unpinned {pins pl:List (Addr × Obj)} {σ:St} {H:Hp} {s:Shared} (I:Inv X (pins++pl) σ H s):Inv X pins σ H s:=I.pins_of fun p hp=>I.pin p (List.mem_append_right _ (List.mem_append_left _ hp))
theorem ps_for {iter:Expr} {body:List Stmt} {wi:TI} {g:TG} {tb:TS} {pos:Pos} (hp:PassesOwn (model X.prog X.w) X.A X.env X.xe) (hc:X.calm=true) (hi:PI X tg iter wi) (hg:PG X tg g) (hb:PSs X body tb)
    (hs:∀ x,foldedSetIterable iter X.env x=pure x:=by intro _;rfl):PS X (.For tg iter body [] pos) (tFor wi g tb):=by
  intro pins s σ H D I h
  refine wpAny_For (thn (hi pins s σ H _ I h) fun v s1 h1=>thn h1 fun itv s2 h2=>?_) hs
  obtain ⟨it,fp,tn,J,H2,e,I2,T,st2,f2,W,⟨m0,w0⟩,turn⟩:=h2
  subst e
  have stat:∀ {H':Hp},(∀ b∈fp,H' b=none)→∀ b∈fp,FpOk X pins H' b:=fun hn b hb=>⟨hn b hb,(f2 b hb).2⟩
  refine codeAny_forLoop_any (fun n s'=>∃ i σ' H',Inv X pins σ' H' s'∧tn i s'.heap∧(∀ b∈fp,H' b=none)∧W i n σ' H') ?_ m0 ⟨0,σ,H2,I2,st2,fun b hb=>(f2 b hb).1,w0⟩
  rintro n s3 ⟨i,σ3,H3,I3,st3,fr3,w3⟩
  rcases turn i n σ3 H3 w3 with ⟨stop,qn⟩ | ⟨go,N,hN,step⟩
  · refine wpAny_passesOwn hp (thn (T.done X rfl rfl rfl hc i pins s3 σ3 H3 X.xe I3 (stat fr3) st3 stop) fun r s4 ⟨hr,I4⟩=>?_)
    subst hr
    exact wpAny_execs_nil ⟨σ3,H3,I4,qn⟩
  · refine wpAny_passesOwn hp (thn (T.item X rfl rfl rfl hc i pins s3 σ3 H3 X.xe I3 (stat fr3) st3 go) fun r s4 ⟨u,hr,h4⟩=>?_)
    subst hr
    refine wpAny_passesOwn hp (thn h4 fun _ s5 ⟨x,H5,I5,r5,y5,st5,fr5⟩=>?_)
    have I5':=I5.pinned (stat fr5) (T.obj _ _ st5)
    refine wpAny_passesOwn hp (thn (hg _ s5 σ3 H5 x u _ I5' r5 (step x H5 y5)) fun _ s6 ⟨σ6,H6,I6,q6⟩=>?_)
    refine wpAny_passesOwn hp (thn (hb _ s6 σ6 H6 _ I6 q6) fun f s7 q7=>?_)
    have again:∀ {σ7:St} {H7:Hp},Inv X (pins++pinsAt fp s5.heap) σ7 H7 s7→N σ7 H7→∃ m,m < n∧∃ i σ' H',Inv X pins σ' H' s7∧tn i s7.heap∧(∀ b∈fp,H' b=none)∧W i m σ' H':=fun {σ7 H7} I7 n7=>by
      obtain ⟨m',hm,w7⟩:=hN σ7 H7 n7
      refine ⟨m',hm,i + 1,σ7,H7,I7.unpinned,T.keep _ _ _ st5 fun b hb o e=>(I7.pin (b,o) (List.mem_append_right _ (List.mem_append_right _ (mem_pinsAt hb e)))).1,fun b hb=>?_,w7⟩
      obtain ⟨o,e,d⟩:=T.obj _ _ st5 b hb
      exact (I7.pin (b,o) (List.mem_append_right _ (List.mem_append_right _ (mem_pinsAt hb e)))).2.1
    cases f with
    | next=>obtain ⟨σ7,H7,I7,n7⟩:=q7;exact again I7 n7
    | cont=>obtain ⟨σ7,H7,I7,n7⟩:=q7;exact again I7 n7
    | brk=>obtain ⟨σ7,H7,I7,q7⟩:=q7;exact ⟨σ7,H7,I7.unpinned,q7⟩
    | ret v=>obtain ⟨x7,σ7,H7,I7,r7,q7⟩:=q7;exact ⟨x7,σ7,H7,I7.unpinned,r7,q7⟩
end
theorem for_list {K:Fg} {a:Addr} {xs:List V} {g:TG} {tb:TS} {D:Ends} {σ:St} {H:Hp} (Pv:Nat→St→Hp→Prop) (h0:Pv 0 σ H) (hl:∀ i σ H,i≤xs.length→Pv i σ H→SqL K H a xs)
    (hs:∀ i x σ H,xs[i]?=some x→Pv i σ H→g x σ H fun σ2 H2=>tb { D with nx:=Pv (i + 1),ct:=Pv (i + 1),bk:=D.nx } σ2 H2) (hd:∀ σ H,Pv xs.length σ H→D.nx σ H) :
    ∃ W:Nat→Nat→St→Hp→Prop,(∃ m,W 0 m σ H)∧∀ i m σ H,W i m σ H→
      ((Itl K a).stop i H∧D.nx σ H)∨((Itl K a).go i H∧∃ N:St→Hp→Prop,(∀ σ' H',N σ' H'→∃ m',m' < m∧W (i + 1) m' σ' H')∧∀ x H',(Itl K a).yld i H x H'→g x σ H' fun σ2 H2=>tb { D with nx:=N,ct:=N,bk:=D.nx } σ2 H2):=by
  refine ⟨fun i m σ H=>m=xs.length - i∧i≤xs.length∧Pv i σ H,⟨xs.length,by simp,Nat.zero_le _,h0⟩,?_⟩
  rintro i m σ H ⟨rfl,hi,p⟩
  have q:=hl i σ H hi p
  by_cases hlt:i < xs.length
  · refine .inr ⟨⟨xs,xs[i],q,by simp [hlt]⟩,Pv (i + 1),fun σ' H' p'=>⟨xs.length - (i + 1),by lia,rfl,hlt,p'⟩,fun x H' y=>?_⟩
    obtain ⟨e,y⟩:=y
    subst e
    exact hs i x σ _ (y xs q) p
  · have e:i=xs.length:=by lia
    subst e
    exact .inl ⟨⟨xs,q,Nat.le_refl _⟩,hd σ H p⟩
theorem for_tup {K:Fg} {a:Addr} {xs:List V} {g:TG} {tb:TS} {D:Ends} {σ:St} {H:Hp} (Pv:Nat→St→Hp→Prop) (h0:Pv 0 σ H) (hl:∀ i σ H,i≤xs.length→Pv i σ H→SqT K H a xs)
    (hs:∀ i x σ H,xs[i]?=some x→Pv i σ H→g x σ H fun σ2 H2=>tb { D with nx:=Pv (i + 1),ct:=Pv (i + 1),bk:=D.nx } σ2 H2) (hd:∀ σ H,Pv xs.length σ H→D.nx σ H) :
    ∃ W:Nat→Nat→St→Hp→Prop,(∃ m,W 0 m σ H)∧∀ i m σ H,W i m σ H→
      ((Itt K a).stop i H∧D.nx σ H)∨((Itt K a).go i H∧∃ N:St→Hp→Prop,(∀ σ' H',N σ' H'→∃ m',m' < m∧W (i + 1) m' σ' H')∧∀ x H',(Itt K a).yld i H x H'→g x σ H' fun σ2 H2=>tb { D with nx:=N,ct:=N,bk:=D.nx } σ2 H2):=by
  refine ⟨fun i m σ H=>m=xs.length - i∧i≤xs.length∧Pv i σ H,⟨xs.length,by simp,Nat.zero_le _,h0⟩,?_⟩
  rintro i m σ H ⟨rfl,hi,p⟩
  have q:=hl i σ H hi p
  by_cases hlt:i < xs.length
  · refine .inr ⟨⟨xs,xs[i],q,by simp [hlt]⟩,Pv (i + 1),fun σ' H' p'=>⟨xs.length - (i + 1),by lia,rfl,hlt,p'⟩,fun x H' y=>?_⟩
    obtain ⟨e,y⟩:=y
    subst e
    exact hs i x σ _ (y xs q) p
  · have e:i=xs.length:=by lia
    subst e
    exact .inl ⟨⟨xs,q,Nat.le_refl _⟩,hd σ H p⟩
theorem for_range {lo:Int} {n:Nat} {g:TG} {tb:TS} {D:Ends} {σ:St} {H:Hp} (Pv:Nat→St→Hp→Prop) (h0:Pv 0 σ H)
    (hs:∀ i σ H,i < n→Pv i σ H→g (.int (lo + i)) σ H fun σ2 H2=>tb { D with nx:=Pv (i + 1),ct:=Pv (i + 1),bk:=D.nx } σ2 H2) (hd:∀ σ H,Pv n σ H→D.nx σ H) :
    ∃ W:Nat→Nat→St→Hp→Prop,(∃ m,W 0 m σ H)∧∀ i m σ H,W i m σ H→
      ((Itr lo n).stop i H∧D.nx σ H)∨((Itr lo n).go i H∧∃ N:St→Hp→Prop,(∀ σ' H',N σ' H'→∃ m',m' < m∧W (i + 1) m' σ' H')∧∀ x H',(Itr lo n).yld i H x H'→g x σ H' fun σ2 H2=>tb { D with nx:=N,ct:=N,bk:=D.nx } σ2 H2):=by
  refine ⟨fun i m σ H=>m=n - i∧i≤n∧Pv i σ H,⟨n,by simp,Nat.zero_le _,h0⟩,?_⟩
  rintro i m σ H ⟨rfl,hi,p⟩
  by_cases hlt:i < n
  · refine .inr ⟨hlt,Pv (i + 1),fun σ' H' p'=>⟨n - (i + 1),by lia,rfl,hlt,p'⟩,fun x H' y=>?_⟩
    obtain ⟨e,y⟩:=y
    subst e y
    exact hs i σ _ hlt p
  · have e:i=n:=by lia
    subst e
    exact .inl ⟨Nat.le_refl _,hd σ H p⟩
abbrev R2:=V→V→Hp→VK→Prop
def OpR (X:Cx) (f:Value→Value→Sem Value) (r:R2):Prop:=
  ∀ (pins:List (Addr × Obj)) (s:Shared) (σ:St) (H:Hp) (x y:V) (v u:Value) (Q:VK),Inv X pins σ H s→RelV x v→RelV y u→r x y H Q→
    wpAny (model X.prog X.w) X.A (f v u) (EP X pins σ Q) X.xe s
def UnR (X:Cx) (f:Value→Sem Value) (r:V→Hp→VK→Prop):Prop:=
  ∀ (pins:List (Addr × Obj)) (s:Shared) (σ:St) (H:Hp) (x:V) (v:Value) (Q:VK),Inv X pins σ H s→RelV x v→r x H Q→
    wpAny (model X.prog X.w) X.A (f v) (EP X pins σ Q) X.xe s
def CallR (X:Cx) (f:Value) (r:List V→Hp→VK→Prop):Prop:=
  ∀ (pins:List (Addr × Obj)) (s:Shared) (σ:St) (H:Hp) (xs:List V) (us:List Value) (Q:VK),Inv X pins σ H s→Vals xs us→r xs H Q→
    wpAny (model X.prog X.w) X.A (call f us) (EP X pins σ Q) X.xe s
def tOp (r:R2) (ta tb:TE):TE:=fun σ H Q=>ta σ H fun x H1=>tb σ H1 fun y H2=>r x y H2 Q
def tUn (r:V→Hp→VK→Prop) (ta:TE):TE:=fun σ H Q=>ta σ H fun x H1=>r x H1 Q
def rI (C:Int→Int→Prop) (g:Int→Int→V):R2:=fun x y H Q=>∃ i j,x=.int i∧y=.int j∧C i j∧Q (g i j) H
def rI0 (g:Int→Int→V):R2:=fun x y H Q=>∃ i j,x=.int i∧y=.int j∧Q (g i j) H
def rU (g:Int→V):V→Hp→VK→Prop:=fun x H Q=>∃ i,x=.int i∧Q (g i) H
section
variable {X:Cx} {a b c:Expr} {ta tb tc:TE} {pos:Pos}
theorem binT (ha:PE X a ta) (hb:PE X b tb) {pins:List (Addr × Obj)} {s:Shared} {σ:St} {H:Hp} {R:V→V→Hp→Prop} (I:Inv X pins σ H s)
    (h:ta σ H fun x H1=>tb σ H1 fun y H2=>R x y H2) {Q:Value→Shared→Prop} {f:Value→Value→Sem Value}
    (hf:∀ v u s2 x y H2,Inv X pins σ H2 s2→RelV x v→RelV y u→R x y H2→wpAny (model X.prog X.w) X.A (f v u) Q X.xe s2) :
    wpAny (model X.prog X.w) X.A (eval a X.env) (fun v s₁=>wpAny (model X.prog X.w) X.A (eval b X.env) (fun u s₂=>wpAny (model X.prog X.w) X.A (f v u) Q X.xe s₂) X.xe s₁) X.xe s:=by
  refine thn (ha pins s σ H _ I h) fun v s1 ⟨x,H1,I1,r1,q1⟩=>?_
  refine thn (hb pins s1 σ H1 _ I1 q1) fun u s2 ⟨y,H2,I2,r2,q2⟩=>?_
  exact hf v u s2 x y H2 I2 r1 r2 q2
theorem pe_op {op:Operator} {r:R2} (ho:OpR X (binaryOp op) r) (ha:PE X a ta) (hb:PE X b tb):PE X (.BinOp a op b pos) (tOp r ta tb):=by
  intro pins s σ H Q I h
  exact wpAny_BinOp (binT ha hb I h fun v u s2 x y H2 I2 rx ry q=>ho pins s2 σ H2 x y v u Q I2 rx ry q)
theorem pe_un {op:UnaryOp} {r:V→Hp→VK→Prop} (ho:UnR X (unaryOp op) r) (ha:PE X a ta):PE X (.UnaryOp op a pos) (tUn r ta):=by
  intro pins s σ H Q I h
  exact UnaryOp_ (thn (ha pins s σ H _ I h) fun v s1 ⟨x,H1,I1,r1,q1⟩=>ho pins s1 σ H1 x v Q I1 r1 q1)
theorem opI {f:Value→Value→Sem Value} {C:Int→Int→Prop} {g:Int→Int→Int}
    (rule:∀ (i j:Int) (t u:Tok) (s:Shared) (Q:Value→Shared→Prop) (E:Value→Shared→Prop),C i j→Q (.int (g i j) s.toks) { s with toks:=s.toks + 1 }→wpAny (model X.prog X.w) X.A (f (.int i t) (.int j u)) Q E s) :
    OpR X f (rI C fun i j=>.int (g i j)):=by
  intro pins s σ H x y v u Q I rx ry h
  obtain ⟨i,j,rfl,rfl,hc,q⟩:=h
  obtain ⟨t,rfl⟩:=rx
  obtain ⟨t',rfl⟩:=ry
  exact rule i j t t' s _ _ hc ⟨.int (g i j),H,I.tok _,⟨_,rfl⟩,q⟩
theorem opI0 {f:Value→Value→Sem Value} {g:Int→Int→Int}
    (rule:∀ (i j:Int) (t u:Tok) (s:Shared) (Q:Value→Shared→Prop) (E:Value→Shared→Prop),Q (.int (g i j) s.toks) { s with toks:=s.toks + 1 }→wpAny (model X.prog X.w) X.A (f (.int i t) (.int j u)) Q E s) :
    OpR X f (rI0 fun i j=>.int (g i j)):=by
  intro pins s σ H x y v u Q I rx ry h
  obtain ⟨i,j,rfl,rfl,q⟩:=h
  obtain ⟨t,rfl⟩:=rx
  obtain ⟨t',rfl⟩:=ry
  exact rule i j t t' s _ _ ⟨.int (g i j),H,I.tok _,⟨_,rfl⟩,q⟩
theorem opB0 {f:Value→Value→Sem Value} {g:Int→Int→Bool}
    (rule:∀ (i j:Int) (t u:Tok) (s:Shared) (Q:Value→Shared→Prop) (E:Value→Shared→Prop),Q (.bool (g i j)) s→wpAny (model X.prog X.w) X.A (f (.int i t) (.int j u)) Q E s) :
    OpR X f (rI0 fun i j=>.bl (g i j)):=by
  intro pins s σ H x y v u Q I rx ry h
  obtain ⟨i,j,rfl,rfl,q⟩:=h
  obtain ⟨t,rfl⟩:=rx
  obtain ⟨t',rfl⟩:=ry
  exact rule i j t t' s _ _ ⟨.bl (g i j),H,I,rfl,q⟩
def CDiv (i j:Int):Prop:=0 < j∧j < 1073741824
def CPow (i j:Int):Prop:=0≤j∧j≤1000000∧i.natAbs < 2 ^ 64
def CMul (i j:Int):Prop:=(-(2 ^ 64) < i∧i < 2 ^ 64)∨(-(2 ^ 64) < j∧j < 2 ^ 64)
theorem CMul.ok {i j:Int} (h:CMul i j):IntMulOk i j:=by
  rcases h with ⟨h1,h2⟩ | ⟨h1,h2⟩
  · exact .of_left (intBits_le_64 h1 h2)
  · exact .of_right (intBits_le_64 h1 h2)
theorem op_add:OpR X (binaryOp .Add) (rI0 fun i j=>.int (i + j)):=opI0 fun _ _ _ _ _ _ _ q=>add_int q
theorem op_sub:OpR X (binaryOp .Sub) (rI0 fun i j=>.int (i - j)):=opI0 fun _ _ _ _ _ _ _ q=>sub_int q
theorem op_mul:OpR X (binaryOp .Mult) (rI CMul fun i j=>.int (i * j)):=opI fun _ _ _ _ _ _ _ hc q=>mul_int q hc.ok
theorem op_fdiv:OpR X (binaryOp .FloorDiv) (rI CDiv fun i j=>.int (i / j)):=opI fun i j _ _ _ _ _ hc q=>by
  have h1:(0:Int) < j:=hc.1
  have h2:j < 1073741824:=hc.2
  exact floordiv_int (by lia) (by rw [Int.fdiv_eq_ediv_of_nonneg i (by lia)];exact q) (.inl (PyProof.noPylong_small (by lia)))
theorem op_mod:OpR X (binaryOp .Mod) (rI (fun _ j=>0 < j) fun i j=>.int (i % j)):=opI fun i j _ _ _ _ _ hc q=>by
  have h1:(0:Int) < j:=hc
  exact mod_int' (by lia) (by rw [Int.fmod_eq_emod_of_nonneg i (by lia)];exact q)
theorem op_pow:OpR X (binaryOp .Pow) (rI CPow fun i j=>.int (i ^ j.toNat)):=opI fun _ _ _ _ _ _ _ hc q=>pow_int_small hc.1 hc.2.1 hc.2.2 q
theorem unI {f:Value→Sem Value} {g:Int→Int}
    (rule:∀ (i:Int) (t:Tok) (s:Shared) (Q:Value→Shared→Prop) (E:Value→Shared→Prop),Q (.int (g i) s.toks) { s with toks:=s.toks + 1 }→wpAny (model X.prog X.w) X.A (f (.int i t)) Q E s) :
    UnR X f (rU fun i=>.int (g i)):=by
  intro pins s σ H x v Q I rx h
  obtain ⟨i,rfl,q⟩:=h
  obtain ⟨t,rfl⟩:=rx
  exact rule i t s _ _ ⟨.int (g i),H,I.tok _,⟨_,rfl⟩,q⟩
theorem un_neg:UnR X (unaryOp .USub) (rU fun i=>.int (-i)):=unI fun _ _ _ _ _ q=>neg_int q
end
def scal:V→V→Bool
  | .non,.non=>true | .non,.int _=>true | .int _,.non=>true | .non,.bl _=>true | .bl _,.non=>true | .non,.str _=>true | .str _,.non=>true
  | .int _,.int _=>true | .bl _,.bl _=>true | .str _,.str _=>true | .byt _,.byt _=>true
  | .int _,.str _=>true | .str _,.int _=>true | .bl _,.str _=>true | .str _,.bl _=>true
  | _,_=>false
def rEq:R2:=fun x y H Q=>scal x y=true∧Q (.bl (decide (x=y))) H
def rNe:R2:=fun x y H Q=>scal x y=true∧Q (.bl (!decide (x=y))) H
theorem dec_int {i j:Int}:decide (V.int i=V.int j)=(i == j):=by
  rw [Bool.eq_iff_iff]
  simp
theorem dec_bl {i j:Bool}:decide (V.bl i=V.bl j)=(i == j):=by
  rw [Bool.eq_iff_iff]
  simp
theorem dec_str {i j:Str}:decide (V.str i=V.str j)=(i == j):=by
  rw [Bool.eq_iff_iff]
  simp
theorem dec_byt {i j:Array UInt8}:decide (V.byt i=V.byt j)=(i.toList == j.toList):=by
  rw [Bool.eq_iff_iff]
  cases i
  cases j
  simp
section
variable {X:Cx} {a b c:Expr} {ta tb tc:TE} {pos:Pos}
theorem fin_bl {pins:List (Addr × Obj)} {σ:St} {H:Hp} {s:Shared} {Q:VK} {k k':Bool} (I:Inv X pins σ H s) (q:Q (.bl k) H) (e:k=k'):EP X pins σ Q (.bool k') s:=by
  subst e
  exact ⟨.bl k,H,I,rfl,q⟩
theorem op_eq:OpR X (compareOp .Eq) rEq:=by
  intro pins s σ H x y v u Q I rx ry h
  obtain ⟨hs,q⟩:=h
  cases x with
  | non=>
    cases rx
    cases y with
    | non=>cases ry;exact PySem.EqNone.eq_none_none (fin_bl I q (by simp))
    | bl j=>cases ry;exact PySem.EqNone.eq_none_bool (fin_bl I q (by simp))
    | int j=>obtain ⟨t',rfl⟩:=ry;exact PySem.EqNone.eq_none_int (fin_bl I q (by simp))
    | str j=>obtain ⟨t',rfl⟩:=ry;exact PySem.EqNone.eq_none_str (fin_bl I q (by simp))
    | _=>exact absurd (show false=true from hs) Bool.false_ne_true
  | bl i=>
    cases rx
    cases y with
    | non=>cases ry;exact PySem.EqNone.eq_bool_none (fin_bl I q (by simp))
    | bl j=>cases ry;exact eq_bool (fin_bl I q dec_bl)
    | str j=>obtain ⟨t',rfl⟩:=ry;exact PySem.EqMixed.eq_bool_str (fin_bl I q (by simp))
    | _=>exact absurd (show false=true from hs) Bool.false_ne_true
  | int i=>
    obtain ⟨t,rfl⟩:=rx
    cases y with
    | non=>cases ry;exact PySem.EqNone.eq_int_none (fin_bl I q (by simp))
    | int j=>obtain ⟨t',rfl⟩:=ry;exact eq_int (fin_bl I q dec_int)
    | str j=>obtain ⟨t',rfl⟩:=ry;exact PySem.EqMixed.eq_int_str (fin_bl I q (by simp))
    | _=>exact absurd (show false=true from hs) Bool.false_ne_true
  | str i=>
    obtain ⟨t,rfl⟩:=rx
    cases y with
    | non=>cases ry;exact PySem.EqNone.eq_str_none (fin_bl I q (by simp))
    | bl j=>cases ry;exact PySem.EqMixed.eq_str_bool (fin_bl I q (by simp))
    | int j=>obtain ⟨t',rfl⟩:=ry;exact PySem.EqMixed.eq_str_int (fin_bl I q (by simp))
    | str j=>obtain ⟨t',rfl⟩:=ry;exact eq_str (fin_bl I q dec_str)
    | _=>exact absurd (show false=true from hs) Bool.false_ne_true
  | byt i=>
    obtain ⟨t,rfl⟩:=rx
    cases y with
    | byt j=>obtain ⟨t',rfl⟩:=ry;exact PySem.W.eq_bytes (fin_bl I q dec_byt)
    | _=>exact absurd (show false=true from hs) Bool.false_ne_true
  | _=>cases y <;> exact absurd (show false=true from hs) Bool.false_ne_true
theorem op_ne:OpR X (compareOp .NotEq) rNe:=by
  intro pins s σ H x y v u Q I rx ry h
  obtain ⟨hs,q⟩:=h
  cases x with
  | non=>
    cases rx
    cases y with
    | non=>cases ry;exact PySem.EqNone.ne_none_none (fin_bl I q (by simp))
    | bl j=>cases ry;exact PySem.EqNone.ne_none_bool (fin_bl I q (by simp))
    | int j=>obtain ⟨t',rfl⟩:=ry;exact PySem.EqNone.ne_none_int (fin_bl I q (by simp))
    | str j=>obtain ⟨t',rfl⟩:=ry;exact PySem.EqNone.ne_none_str (fin_bl I q (by simp))
    | _=>exact absurd (show false=true from hs) Bool.false_ne_true
  | bl i=>
    cases rx
    cases y with
    | non=>cases ry;exact PySem.EqNone.ne_bool_none (fin_bl I q (by simp))
    | bl j=>cases ry;exact ne_bool (fin_bl I q (congrArg not dec_bl))
    | str j=>obtain ⟨t',rfl⟩:=ry;exact PySem.EqMixed.ne_bool_str (fin_bl I q (by simp))
    | _=>exact absurd (show false=true from hs) Bool.false_ne_true
  | int i=>
    obtain ⟨t,rfl⟩:=rx
    cases y with
    | non=>cases ry;exact PySem.EqNone.ne_int_none (fin_bl I q (by simp))
    | int j=>obtain ⟨t',rfl⟩:=ry;exact ne_int (fin_bl I q (congrArg not dec_int))
    | str j=>obtain ⟨t',rfl⟩:=ry;exact PySem.EqMixed.ne_int_str (fin_bl I q (by simp))
    | _=>exact absurd (show false=true from hs) Bool.false_ne_true
  | str i=>
    obtain ⟨t,rfl⟩:=rx
    cases y with
    | non=>cases ry;exact PySem.EqNone.ne_str_none (fin_bl I q (by simp))
    | bl j=>cases ry;exact PySem.EqMixed.ne_str_bool (fin_bl I q (by simp))
    | int j=>obtain ⟨t',rfl⟩:=ry;exact PySem.EqMixed.ne_str_int (fin_bl I q (by simp))
    | str j=>obtain ⟨t',rfl⟩:=ry;exact ne_str (fin_bl I q (congrArg not dec_str))
    | _=>exact absurd (show false=true from hs) Bool.false_ne_true
  | byt i=>
    obtain ⟨t,rfl⟩:=rx
    cases y with
    | byt j=>obtain ⟨t',rfl⟩:=ry;exact PySem.W.ne_bytes (fin_bl I q (congrArg not dec_byt))
    | _=>exact absurd (show false=true from hs) Bool.false_ne_true
  | _=>cases y <;> exact absurd (show false=true from hs) Bool.false_ne_true
theorem op_lt:OpR X (compareOp .Lt) (rI0 fun i j=>.bl (decide (i < j))):=opB0 fun _ _ _ _ _ _ _ q=>lt_int q
theorem op_gt:OpR X (compareOp .Gt) (rI0 fun i j=>.bl (decide (j < i))):=opB0 fun _ _ _ _ _ _ _ q=>gt_int q
theorem op_isN:OpR X (compareOp .Is) (fun x y H Q=>y=.non∧Q (.bl (decide (x=.non))) H):=by
  intro pins s σ H x y v u Q I rx ry h
  obtain ⟨rfl,q⟩:=h
  cases ry
  refine is_none_gen (fin_bl I q ?_)
  cases x <;> first
    | (cases rx;rfl)
    | (obtain ⟨t,rfl⟩:=rx;rfl)
theorem OpR.or {f:Value→Value→Sem Value} {r r':R2} (h:OpR X f r) (h':OpR X f r'):OpR X f (fun x y H Q=>r x y H Q∨r' x y H Q):=by
  intro pins s σ H x y v u Q I rx ry q
  rcases q with q | q
  · exact h pins s σ H x y v u Q I rx ry q
  · exact h' pins s σ H x y v u Q I rx ry q
theorem pe_cmpR {op:CmpOp} {r:R2} (ho:OpR X (compareOp op) r) (ha:PE X a ta) (hb:PE X b tb) (hm:behindInMarks op b=false):PE X (.Compare a [op] [b] pos) (tOp r ta tb):=by
  intro pins s σ H Q I h
  exact wpAny_Compare1 (binT ha hb I h fun v u s2 x y H2 I2 rx ry q=>ho pins s2 σ H2 x y v u Q I2 rx ry q) hm
def tTest (t:TE):TT:=fun σ H Q=>t σ H fun x H'=>∃ k,x=.bl k∧Q k H'
theorem pt_cmpR {op:CmpOp} {r:R2} (ho:OpR X (compareOp op) r) (ha:PE X a ta) (hb:PE X b tb) (hm:behindInMarks op b=false):PT X (.Compare a [op] [b] pos) (tTest (tOp r ta tb)):=by
  intro pins s σ H Q I h
  refine wpAny_isTrue_Compare1 (thn (ha pins s σ H _ I h) fun v s1 ⟨x,H1,I1,r1,q1⟩=>thn (hb pins s1 σ H1 _ I1 q1) fun u s2 ⟨y,H2,I2,r2,q2⟩=>
    thn (ho pins s2 σ H2 x y v u _ I2 r1 r2 q2) fun c s3 ⟨z,H3,I3,r3,k,e,q3⟩=>?_) hm
  subst e
  cases r3
  exact wpAny_truthy_bool ⟨H3,I3,q3⟩
theorem line63:(sizeLine:Nat) < 2 ^ 63:=by rw [sizeLine_eq];decide
theorem op_add_str:OpR X (binaryOp .Add) (fun x y H Q=>∃ i j,x=.str i∧y=.str j∧i.length + j.length≤sizeLine∧Q (.str (i++j)) H):=by
  intro pins s σ H x y v u Q I rx ry h
  obtain ⟨i,j,rfl,rfl,hz,q⟩:=h
  obtain ⟨t,rfl⟩:=rx
  obtain ⟨t',rfl⟩:=ry
  exact add_str (fun t' tk=>⟨.str (i++j),H,I.tok _,⟨_,rfl⟩,q⟩) hz
theorem vals1 {x:V} {us:List Value} (r:Vals [x] us):∃ u,us=[u]∧RelV x u:=by
  cases r with
  | cons r1 r2=>cases r2;exact ⟨_,rfl,r1⟩
theorem vals2 {x y:V} {us:List Value} (r:Vals [x,y] us):∃ u w',us=[u,w']∧RelV x u∧RelV y w':=by
  cases r with
  | cons r1 r2=>
    cases r2 with
    | cons r3 r4=>cases r4;exact ⟨_,_,rfl,r1,r3⟩
theorem call_max2 (hc:X.calm=true):CallR X (.builtin "max") (fun xs H Q=>∃ i j,xs=[.int i,.int j]∧Q (.int (if j > i then j else i)) H):=by
  intro pins s σ H xs us Q I r h
  obtain ⟨i,j,rfl,q⟩:=h
  obtain ⟨u,w',rfl,⟨t,rfl⟩,⟨t',rfl⟩⟩:=vals2 r
  refine max_two_ints (I.ok.hd hc) fun h' tk k=>⟨_,H,I.kept k,?_,q⟩
  by_cases hj:j > i
  · rw [if_pos hj,if_pos hj];exact ⟨_,rfl⟩
  · rw [if_neg hj,if_neg hj];exact ⟨_,rfl⟩
theorem call_min2 (hc:X.calm=true):CallR X (.builtin "min") (fun xs H Q=>∃ i j,xs=[.int i,.int j]∧Q (.int (if j < i then j else i)) H):=by
  intro pins s σ H xs us Q I r h
  obtain ⟨i,j,rfl,q⟩:=h
  obtain ⟨u,w',rfl,⟨t,rfl⟩,⟨t',rfl⟩⟩:=vals2 r
  refine min_two_ints (I.ok.hd hc) fun h' tk k=>⟨_,H,I.kept k,?_,q⟩
  by_cases hj:j < i
  · rw [if_pos hj,if_pos hj];exact ⟨_,rfl⟩
  · rw [if_neg hj,if_neg hj];exact ⟨_,rfl⟩
theorem call_int1:CallR X (.type "int") (fun xs H Q=>(∃ i,xs=[.int i]∧Q (.int i) H)∨∃ k,xs=[.bl k]∧Q (.int (if k then 1 else 0)) H):=by
  intro pins s σ H xs us Q I r h
  rcases h with ⟨i,rfl,q⟩ | ⟨k,rfl,q⟩
  · obtain ⟨u,rfl,t,rfl⟩:=vals1 r
    exact call_int_int ⟨.int i,H,I,⟨_,rfl⟩,q⟩
  · obtain ⟨u,rfl,r1⟩:=vals1 r
    cases r1
    exact call_int_bool ⟨.int (if k then 1 else 0),H,I.tok _,⟨_,rfl⟩,q⟩
def LenV (K:Fg) (x:V) (H:Hp) (n:Nat):Prop:=
  match x with
  | .str y=>y.length≤sizeLine∧n=y.length
  | .byt y=>y.size≤sizeLine∧n=y.size
  | .ref p=>(∃ xs,SqL K H p xs∧n=xs.length)∨∃ xs,SqT K H p xs∧n=xs.length
  | _=>False
theorem call_len:CallR X (.builtin "len") (fun xs H Q=>∃ x n,xs=[x]∧LenV X.K x H n∧Q (.int n) H):=by
  intro pins s σ H xs us Q I r h
  obtain ⟨x,n,rfl,e,q⟩:=h
  obtain ⟨u,rfl,rx⟩:=vals1 r
  have hl:=line63
  have hs:sizeLine=16777216:=sizeLine_eq
  cases x with
  | str y=>
    obtain ⟨t,rfl⟩:=rx
    obtain ⟨hy,e'⟩:y.length≤sizeLine∧n=y.length:=e
    subst e'
    exact len_str (by lia) ⟨.int _,H,I.tok _,⟨_,rfl⟩,q⟩
  | byt y=>
    obtain ⟨t,rfl⟩:=rx
    obtain ⟨hy,e'⟩:y.size≤sizeLine∧n=y.size:=e
    subst e'
    exact PySem.W.len_bytes (by lia) ⟨.int _,H,I.tok _,⟨_,rfl⟩,q⟩
  | ref p=>
    cases rx
    have e':(∃ xs,SqL X.K H p xs∧n=xs.length)∨∃ xs,SqT X.K H p xs∧n=xs.length:=e
    rcases e' with ⟨xs,hx,e'⟩ | ⟨xs,hx,e'⟩
    · subst e'
      obtain ⟨its,r',pl,hz⟩:=I.list hx
      have hlen:=r'.length
      exact Calls.call_len_list pl.isList (by simp only [List.size_toArray];lia) ⟨.int xs.length,H,I.tok _,⟨_,by simp only [List.size_toArray];rw [hlen]⟩,q⟩
    · subst e'
      obtain ⟨its,r',pl,hz⟩:=I.tuple hx
      have hlen:=r'.length
      exact len_tuple pl (by simp only [List.size_toArray];lia) ⟨.int xs.length,H,I.tok _,⟨_,by simp only [List.size_toArray];rw [hlen]⟩,q⟩
  | _=>exact (show False from e).elim
end
section
variable {prog:Program} {w:World} {A:Around} {E:Value→Shared→Prop} {s:Shared} {K:Fg} {x dx C f:Addr} {mA:Str→Option Value} {name:Str} {v:Value}
end
theorem RelO.some_of {v:V} {o:Option Value} (r:RelO (some v) o):∃ u,o=some u∧RelV v u:=by
  cases o with
  | none=>exact (show False from r).elim
  | some u=>exact ⟨u,rfl,r⟩
section
variable {P:Program} {w:World} {H H':Hp} {h h':Heap} {a C dx:Addr} {fs fs':List (Str × V)}
end
section
variable {X:Cx} {pins:List (Addr × Obj)} {σ:St} {H:Hp} {s:Shared} {a C dx:Addr} {fs:List (Str × V)} {f:Str} {v:V} {A:Around} {E:Value→Shared→Prop}
end
section
variable {X:Cx} {o e value:Expr} {f:Str} {pos pos' tpos:Pos} {ta tv:TE}
end
section
variable {X:Cx} {pins:List (Addr × Obj)} {σ:St} {H:Hp} {s:Shared} {A:Around} {E:Value→Shared→Prop} {Q:Value→Shared→Prop} {c:Value} {b:Bool}
end
structure Room (k:Nat) (A:Around):Prop where
  hd:A.handled=none
  dp:A.depth + 3 * k + 5 < recursionLimit
  un:A.units + 16 * k + 200 < cLine
theorem Room.mono {j k:Nat} {A:Around} (r:Room k A) (h:j≤k):Room j A:=⟨r.hd,by have:=r.dp;lia,by have:=r.un;lia⟩
theorem Room.deeper {k:Nat} {A:Around} (r:Room (k + 1) A) (env:Env):Room k (A.deeper env):=
  ⟨r.hd,by have:=r.dp;show A.depth + 1 + 3 * k + 5 < _;lia,by have:=r.un;show A.units + 3 + 16 * k + 200 < _;lia⟩
theorem Room.depth {k:Nat} {A:Around} (r:Room k A):A.depth < recursionLimit:=by have:=r.dp;lia
theorem Room.units {k:Nat} {A:Around} (r:Room k A):A.units + 64 < cLine:=by have:=r.un;lia
theorem Room.units0 {k:Nat} {A:Around} (r:Room k A):A.units < cLine:=by have:=r.un;lia
def tNil:TA:=fun _ H Q=>Q [] H
def tCons (ta:TE) (tr:TA):TA:=fun σ H Q=>ta σ H fun x H1=>tr σ H1 fun xs H2=>Q (x::xs) H2
section
variable {X:Cx} {e:Expr} {es:List Expr} {te:TE} {t:TA} {pos:Pos}
theorem pa_nil:PA X [] tNil:=fun _ _ _ _ H Q I h=>Calls.spliced_nil ⟨[],H,I,.nil,h⟩
theorem pa_cons (ha:PE X e te) (hr:PA X es t) (hs:starEach (e::es) X.env=(false,eval e X.env)::starEach es X.env:=by rfl):PA X (e::es) (tCons te t):=by
  intro pos pins s σ H Q I h
  rw [hs]
  show wpAny _ _ (spliced ((false,eval e X.env)::backTo pos (starEach es X.env))) _ _ s
  refine Calls.spliced_cons (thn (ha pins s σ H _ I h) fun u s1 ⟨x,H1,I1,r1,q1⟩=>?_)
  exact thn (hr pos pins s1 σ H1 _ I1 q1) fun us s2 ⟨xs,H2,I2,r2,q2⟩=>⟨x::xs,H2,I2,.cons r1 r2,q2⟩
def tTup (t:TA):TE:=fun σ H Q=>t σ H fun xs H1=>xs.length≤sizeLine∧∀ p,H1 p=none→Q (.ref p) (upd H1 p (.tup xs))
def tLst (t:TA):TE:=fun σ H Q=>t σ H fun xs H1=>xs.length≤sizeLine∧∀ p,H1 p=none→Q (.ref p) (upd H1 p (.lst xs))
theorem pe_tup {x1} (h:PA X es t):PE X (.Tuple es x1 pos) (tTup t):=by
  intro pins s σ H Q I hq
  refine wpAny_Tuple_spliced (thn (h pos pins s σ H _ I hq) fun us s1 ⟨xs,H1,I1,r,z,q⟩=>⟨by rw [← r.length];exact z,?_⟩)
  have hf:H1 s1.heap.objs.size=none:=I1.hok.fresh (Nat.le_refl _)
  refine ⟨.ref s1.heap.objs.size,upd H1 s1.heap.objs.size (.tup xs),I1.laid (t':=s1.toks) (fun b u e=>Heap.get?_push_of_some _ e) (Nat.le_refl _) ?_,rfl,q _ hf⟩
  exact ⟨z,us,r,⟨_,Heap.get?_push_size _ rfl,⟨rfl,rfl⟩,_,rfl⟩⟩
theorem pe_lst (h:PA X es t):PE X (.List es pos) (tLst t):=by
  intro pins s σ H Q I hq
  refine wpAny_List_spliced (thn (h pos pins s σ H _ I hq) fun us s1 ⟨xs,H1,I1,r,z,q⟩=>⟨by rw [← r.length];exact z,?_⟩)
  have hf:H1 s1.heap.objs.size=none:=I1.hok.fresh (Nat.le_refl _)
  refine ⟨.ref s1.heap.objs.size,upd H1 s1.heap.objs.size (.lst xs),I1.laid (t':=s1.toks) (fun b u e=>Heap.get?_push_of_some _ e) (Nat.le_refl _) ?_,rfl,q _ hf⟩
  exact ⟨z,us,0,r,Heap.get?_push_size _ rfl⟩
end
abbrev Sp:=List V→Hp→VK→XK→Prop
abbrev CXT:=List Env→Hp→Shared→XK→Value→Shared→Prop
structure Env0 (P:Program) (w:World) (K:Fg) (mg:Str→Option Value) (base:Heap) (A:Around) (outer:List Env) (s:Shared) (H:Hp):Prop where
  frames:A.frames=some outer
  mod:Mod K mg base
  bs:∀ b o,base.get? b=some o→s.heap.get? b=some o∧H b=none
  bsz:base.objs.size≤s.heap.objs.size
  funs:s.heap.FunFrames base outer
  frf:∀ b∈frs outer,H b=none
  hok:HOk P w H s.heap
  bare:AllBare s.gens
def CE (outer:List Env) (P:Program) (w:World) (H:Hp) (s:Shared) (Q:VK) (u:Value) (s':Shared):Prop:=
  ∃ v H',s'.os=s.os∧AllBare s'.gens∧Un (frs outer) [] H H' s.heap s'.heap∧HOk P w H' s'.heap∧RelV v u∧Q v H'
def CR (CX:CXT) (outer:List Env) (P:Program) (w:World) (H:Hp) (s:Shared) (Q:VK) (E:XK) (r:Result) (s':Shared):Prop:=
  match r with
  | .ok (.ret u)=>CE outer P w H s Q u s'
  | .ok _=>False
  | .error e=>CX outer H s E e s'
structure FnOk (P:Program) (w:World) (K:Fg) (mg:Str→Option Value) (base:Heap) (CX:CXT) (k:Nat) (f:Addr) (fd:FuncData) (ps:List Str) (sp:Sp):Prop where
  len:∀ vs H Q E,sp vs H Q E→vs.length=ps.length
  run:∀ (A:Around) (outer:List Env) (s:Shared) (H:Hp) (args:Args) (us:List Value) (vs:List V) (Q:VK) (E:XK),Room k A→Env0 P w K mg base A outer s H→BindsTo s fd args (ps.zip us)→Vals vs us→sp vs H Q E→
    codeAny (model P w) A (.call (.ref f) args) (CR CX outer P w H s Q E) s
section
variable {X:Cx} {pins:List (Addr × Obj)} {σ:St} {H:Hp} {s s':Shared}
theorem Inv.env0 (I:Inv X pins σ H s):Env0 X.prog X.w X.K X.mg X.base X.A X.stack s H:=
  ⟨I.ok.frames,I.ok.mod,I.bs,Nat.le_trans I.ok.bsz I.sz,I.stack,I.stkFree,I.hok,I.bare⟩
theorem Inv.after {Q:VK} {u:Value} (I:Inv X pins σ H s) (h:CE X.stack X.prog X.w H s Q u s'):EP X pins σ Q u s':=by
  obtain ⟨v,H',os,bare,un,hok,r,q⟩:=h
  obtain ⟨hh,g,d,t,os'⟩:=s'
  obtain rfl:os'=s.os:=os
  exact ⟨v,H',I.call (h':=hh) (g':=g) (d':=d) (t':=t) (ch:=[]) un hok bare (fun b z=>absurd z (by simp)),r,q⟩
end
def tCall (sp:Sp) (dvs:List V) (E:XK) (t:TA):TE:=fun σ H Q=>t σ H fun vs H1=>sp (vs++dvs) H1 Q E
def Binds (K:Fg) (fd:FuncData) (ps:List Str) (ds:List Value):Prop:=
  ∀ (s:Shared) (us:List Value),K.In s.heap→(us++ds).length=ps.length→BindsTo s fd ⟨us,[]⟩ (ps.zip (us++ds))
theorem Binds.all {K:Fg} {fd:FuncData} {ps:List Str} (h:∀ us:List Value,us.length=ps.length→bindArgs fd ⟨us,[]⟩=pure (ps.zip us)):Binds K fd ps []:=fun s us _ hl=>by
  rw [List.append_nil] at hl ⊢
  exact .of_eq (h us hl)
def Passes (CX:CXT) (X:Cx) (E:XK):Prop:=∀ (pins:List (Addr × Obj)) (σ:St) (H:Hp) (s:Shared) (e:Value) (s':Shared),Inv X pins σ H s→CX X.stack H s E e s'→X.xe e s'
section
variable {X:Cx} {CX:CXT} {k:Nat} {f C:Addr} {fd:FuncData} {ps:List Str} {sp:Sp} {dvs:List V} {ds:List Value} {E:XK} {x m:Str} {p pos apos:Pos} {e o:Expr} {es:List Expr} {ta:TE} {t:TA}
theorem run_fn {pins:List (Addr × Obj)} {σ:St} {H:Hp} {s:Shared} {Q:VK} {us:List Value} {vs:List V} (F:FnOk X.prog X.w X.K X.mg X.base CX k f fd ps sp) (hr:Room k X.A) (hb:Binds X.K fd ps ds) (hd:Vals dvs ds) (hx:Passes CX X E)
    (I:Inv X pins σ H s) (r:Vals vs us) (h:sp (vs++dvs) H Q E):wpAny (model X.prog X.w) X.A (call (.ref f) us) (EP X pins σ Q) X.xe s:=by
  have r2:Vals (vs++dvs) (us++ds):=r.append hd
  have hl:(us++ds).length=ps.length:=by rw [← r2.length];exact F.len _ _ _ _ h
  refine wpAny_call (codeAny_mono (F.run X.A X.stack s H ⟨us,[]⟩ (us++ds) (vs++dvs) Q E hr I.env0 (hb s us I.kIn hl) r2 h) fun r s' hq=>?_)
  cases r with
  | error e=>exact hx pins σ H s e s' I hq
  | ok fl=>
    cases fl with
    | ret u=>exact I.after hq
    | next=>exact False.elim hq
    | brk=>exact False.elim hq
    | cont=>exact False.elim hq
theorem pe_call (F:FnOk X.prog X.w X.K X.mg X.base CX k f fd ps sp) (hr:Room k X.A) (hg:Gl X x) (hm:X.mg x=some (.ref f)) (hk:PySem.W.keepIn X.K (.ref f)=true) (hb:Binds X.K fd ps ds) (hd:Vals dvs ds) (hx:Passes CX X E)
    (ha:PA X (e::es) t) (hdb:(x == ("__debug__":Str))=false:=by decide) (he:starEach (e::es) X.env=(false,eval e X.env)::starEach es X.env:=by rfl) (hpl:(backTo pos (starEach es X.env)).any (·.1)=false:=by rfl) :
    PE X (.Call (.Name x p) (e::es) [] pos) (tCall sp dvs E t):=by
  intro pins s σ H Q I h
  refine wpAny_Call_Name_kw (ld_glob I hg hm ?_ hdb)
  refine PySem.W.callWith_K (h₀:=X.base) I.ok.mod.kin hk (thn (ha pos pins s σ H _ I h) fun us s1 ⟨vs,H1,I1,r,q⟩=>⟨I1.kIn,?_⟩) he hpl
  exact run_fn F hr hb hd hx I1 r q
end
section
variable {X:Cx} {CX:CXT} {k:Nat} {f C:Addr} {fd:FuncData} {ps ks:List Str} {sp:Sp} {E:XK} {x m:Str} {p pos apos kpos:Pos} {e o:Expr} {es:List Expr} {kws:List Keyword} {te ta:TE} {t tk:TA} {nm:Option Str}
variable {g:List Value→List Value→List Value} {gV:List V→List V→List V}
end
structure FnScope (N P:List Str) (sc:Scope):Prop where
  kind:sc.kind=.function
  co:sc.isCoroutine=false
  gen:sc.isGenerator=false
  nd:N.Nodup
  pre:N.take P.length=P
  par:∀ x∈P,sc.names.lookup x=some .local∨sc.names.lookup x=some .cell
  nofree:∀ y∈sc.names,y.2≠.free
theorem bindL_out {kindOf:Str→Option NameKind} {x:Str}:∀ {binds:List (Str × Value)} {m:Str→Option Value},(∀ v,(x,v)∉binds)→bindL kindOf binds m x=m x
  | [],_,_=>rfl
  | (n,v)::r,m,h=>by
    unfold bindL
    rw [bindL_out fun w hw=>h w (List.mem_cons_of_mem _ hw)]
    split
    · have:x≠n:=by rintro rfl;exact h v List.mem_cons_self
      simp [this]
    · rfl
theorem bindC_out {kindOf:Str→Option NameKind} {x:Str}:∀ {binds:List (Str × Value)} {m:Str→Option Value},(∀ v,(x,v)∉binds)→bindC kindOf binds m x=m x
  | [],_,_=>rfl
  | (n,v)::r,m,h=>by
    unfold bindC
    rw [bindC_out fun w hw=>h w (List.mem_cons_of_mem _ hw)]
    split
    · rfl
    · have:x≠n:=by rintro rfl;exact h v List.mem_cons_self
      simp [this]
theorem bindL_get {kindOf:Str→Option NameKind} {x:Str} {v:Value}:∀ {P:List Str} {vs:List Value} {i:Nat} {m:Str→Option Value},P.Nodup→P[i]?=some x→vs[i]?=some v→kindOf x=some .local→
    bindL kindOf (P.zip vs) m x=some v
  | [],_,_,_,_,h,_,_=>by simp at h
  | _::_,[],_,_,_,_,h,_=>by simp at h
  | p::P,w::vs,0,m,nd,h1,h2,hk=>by
    simp at h1 h2;subst h1;subst h2
    show bindL kindOf ((p,w)::P.zip vs) m p=_
    unfold bindL
    rw [bindL_out fun v hv=>(List.nodup_cons.mp nd).1 (List.of_mem_zip hv).1,if_pos hk]
    simp
  | p::P,w::vs,i + 1,m,nd,h1,h2,hk=>by
    show bindL kindOf ((p,w)::P.zip vs) m x=_
    unfold bindL
    exact bindL_get (i:=i) (List.nodup_cons.mp nd).2 (by simpa using h1) (by simpa using h2) hk
theorem bindC_get {kindOf:Str→Option NameKind} {x:Str} {v:Value}:∀ {P:List Str} {vs:List Value} {i:Nat} {m:Str→Option Value},P.Nodup→P[i]?=some x→vs[i]?=some v→kindOf x≠some .local→
    bindC kindOf (P.zip vs) m x=some v
  | [],_,_,_,_,h,_,_=>by simp at h
  | _::_,[],_,_,_,_,h,_=>by simp at h
  | p::P,w::vs,0,m,nd,h1,h2,hk=>by
    simp at h1 h2;subst h1;subst h2
    show bindC kindOf ((p,w)::P.zip vs) m p=_
    unfold bindC
    rw [bindC_out fun v hv=>(List.nodup_cons.mp nd).1 (List.of_mem_zip hv).1,if_neg hk]
    simp
  | p::P,w::vs,i + 1,m,nd,h1,h2,hk=>by
    show bindC kindOf ((p,w)::P.zip vs) m x=_
    unfold bindC
    exact bindC_get (i:=i) (List.nodup_cons.mp nd).2 (by simpa using h1) (by simpa using h2) hk
def start (N:List Str) (vs:List V):St:=vs.map some++List.replicate (N.length - vs.length) none
def cxOf (CX:CXT) (P:Program) (w:World) (K:Fg) (mg:Str→Option Value) (base:Heap) (N:List Str) (qual:Str) (scope:Scope) (f:Addr) (cd:Value) (A:Around) (outer:List Env) (s:Shared) (H:Hp) (E:XK):Cx where
  prog:=P
  w:=w
  K:=K
  mg:=mg
  base:=base
  A:=A.deeper (envOfC qual scope s.heap.objs.size f cd)
  N:=N
  s₀:=s
  H₀:=H
  env:=envOfC qual scope s.heap.objs.size f cd
  outer:=outer
  stack:=envOfC qual scope s.heap.objs.size f cd::outer
  ex:=[]
  calm:=true
  fn:=fun _=>true
  pn:=[]
  xe:=fun e s'=>wpAny (model P w) (A.deeper (envOfC qual scope s.heap.objs.size f cd)) (leaving (envOfC qual scope s.heap.objs.size f cd) e) (fun _ s''=>CX outer H s E e s'') (fun e' s''=>CX outer H s E e' s'') s'
theorem cell_has {sc:Scope} {n:Nat} {x:Str} (h:sc.names.lookup x=some .cell):∃ c,(cellsFrom n sc.names []).lookup x=some c:=by
  have q:=PySem.W.cellsFrom_some sc.names n [] (.inl h)
  exact Option.isSome_iff_exists.mp q
theorem inv_start {CX:CXT} {P:Program} {w:World} {K:Fg} {mg:Str→Option Value} {base:Heap} {N ps:List Str} {qual:Str} {scope:Scope} {f:Addr} {cd:Value} {A:Around} {outer:List Env} {s s1:Shared} {H:Hp} {E:XK} {us:List Value} {vs:List V}
    (S:FnScope N ps scope) (hd:A.handled=none) (e0:Env0 P w K mg base A outer s H) (hl:vs.length=ps.length) (r:Vals vs us)
    (x:InCallC s s.heap.objs.size (bindL (envOfC qual scope s.heap.objs.size f cd).kindOf (ps.zip us) fun _=>none) (cellsFrom (s.heap.objs.size + 1) scope.names []) (bindC (envOfC qual scope s.heap.objs.size f cd).kindOf (ps.zip us) fun _=>none) s1) :
    Inv (cxOf CX P w K mg base N qual scope f cd A outer s H E) [] (start N vs) H s1:=by
  have hpl:ps.length≤N.length:=by have:=congrArg List.length S.pre;rw [List.length_take] at this;lia
  obtain ⟨h1,tk,rfl,hk⟩:=x.done
  have noA:∀ b:Addr,b∉(cxOf CX P w K mg base N qual scope f cd A outer s H E).ex:=fun b z=>absurd (show b∈([]:List Addr) from z) (by simp)
  refine ⟨⟨e0.mod,S.kind,rfl,rfl,Nat.le_refl _,fun y z c h1 h2=>?_,fun y hy=>?_,fun y c _ h=>?_,fun _=>hd,Around.frames_deeper e0.frames,.inr ⟨rfl,rfl⟩,fun b z=>absurd z (noA b),e0.bs,e0.bsz,fun b _ _=>noA b,fun b z=>absurd z (noA b),e0.funs,e0.frf⟩,
    rfl,e0.bare,Un.kept hk,⟨_,x.toInCall.ns,fun i y v h1 h2 h3=>?_⟩,fun y c h=>⟨_,x.cell y c h⟩,e0.hok.fresh (Nat.le_refl _),fun y c h=>?_,fun p hp=>absurd (show p∈([]:List (Addr × Obj)) from hp) (by simp),e0.hok.kept hk,?_⟩
  · exact name_of_addr x.apart (PySem.mem_of_lookup h1) (PySem.mem_of_lookup h2)
  · have hy:scope.names.lookup y=some .cell∨scope.names.lookup y=some .free:=hy
    rcases hy with hy | hy
    · exact cell_has hy
    · exact absurd rfl (S.nofree _ (PySem.mem_of_lookup hy))
  · exact Nat.le_of_lt (x.above y c (PySem.mem_of_lookup h))
  · have hi:i < vs.length:=by
      unfold start at h2
      by_cases hi:i < vs.length
      · exact hi
      · rw [List.getElem?_append_right (by simpa using hi)] at h2
        rw [List.getElem?_replicate] at h2
        split at h2 <;> cases h2
    have ha:vs[i]?=some v:=by
      unfold start at h2
      rw [List.getElem?_append_left (by simpa using hi),List.getElem?_map] at h2
      cases e:vs[i]? with
      | none=>rw [e] at h2;cases h2
      | some a=>rw [e] at h2;cases h2;rfl
    obtain ⟨u,hu,rv⟩:=r.get ha
    have hp:ps[i]?=some y:=by
      rw [← S.pre,List.getElem?_take_of_lt (by lia)];exact h1
    have ndP:ps.Nodup:=by rw [← S.pre];exact S.nd.sublist (List.take_sublist _ _)
    refine ⟨u,rv,?_⟩
    rcases S.par y (List.mem_of_getElem? hp) with k | k
    · exact .inl ⟨k,bindL_get ndP hp hu k⟩
    · obtain ⟨c,e⟩:=cell_has (n:=s.heap.objs.size + 1) k
      refine .inr ⟨.inl k,c,e,?_⟩
      have q:=x.cell y c e
      rw [bindC_get ndP hp hu (by show scope.names.lookup y≠_;rw [k];decide)] at q
      exact q
  · exact e0.hok.fresh (Nat.le_of_lt (x.above y c (PySem.mem_of_lookup h)))
  · unfold start
    show _=N.length
    rw [List.length_append,List.length_map,List.length_replicate]
    lia
theorem fn_of {CX:CXT} {P:Program} {w:World} {K:Fg} {mg:Str→Option Value} {base:Heap} {k:Nat} {f:Addr} {name qual:Str} {params:Arguments} {body:List Stmt} {scope:Scope} {dV kV doc pm cdv ct oc:Value} {an od:Option Addr}
    {osl:Array (Option Value)} {N ps:List Str} {sp:Sp} (lk:K.lookup f=some ⟨oc,od,.func (PySem.W.fnOf name qual params body scope dV kV doc pm an cdv ct),osl⟩) (hcd:PySem.W.codeIn K cdv qual=true) (S:FnScope N ps scope)
    (len:∀ vs H Q E,sp vs H Q E→vs.length=ps.length)
    (hbody:∀ (A:Around) (outer:List Env) (s:Shared) (H:Hp) (vs:List V) (Q:VK) (E:XK),Room k (A.deeper (envOfC qual scope s.heap.objs.size f cdv))→sp vs H Q E→
      ∃ t,PSs (cxOf CX P w K mg base N qual scope f cdv A outer s H E) body t∧t { nx:=fun _ H'=>Q .non H',rt:=Q } (start N vs) H) :
    FnOk P w K mg base CX (k + 1) f (PySem.W.fnOf name qual params body scope dV kV doc pm an cdv ct) ps sp:=by
  refine ⟨len,fun A outer s H args us vs Q E hr e0 hb r hsp=>?_⟩
  have hl:=len _ _ _ _ hsp
  have KX:K.In s.heap:=e0.mod.kin.keeps fun b o e=>(e0.bs b o e).1
  have lim:s.heap.NoLimit:=e0.mod.nolimit.keeps fun b o e=>(e0.bs b o e).1
  have hkind:∀ y∈ps.zip us,scope.names.lookup y.1=some .local∨(scope.names.lookup y.1=some .cell∧((cellsFrom (s.heap.objs.size + 1) scope.names []).lookup y.1).isSome=true):=fun ⟨n,v⟩ hy=>by
    rcases S.par n (List.of_mem_zip hy).1 with q | q
    · exact .inl q
    · exact .inr ⟨q,PySem.W.cellsFrom_some _ _ _ (.inl q)⟩
  refine codeAny_call_function hr.depth (KX _ _ lk) rfl S.co S.gen rfl (PySem.W.codeRec_of KX hcd) (hb _ _ _ _ ?_)
  refine wpAny_newFunctionEnv_cells S.kind hkind fun env he s1 x=>?_
  subst he
  refine ⟨lim.keeps x.toInCall.keep,codeAny_func ?_⟩
  obtain ⟨t,ht,hq⟩:=hbody A outer s H vs Q E (hr.deeper _) hsp
  have I:Inv (cxOf CX P w K mg base N qual scope f cdv A outer s H E) [] (start N vs) H s1:=inv_start S hr.hd e0 hl r x
  refine wpAny_mono (ht [] s1 (start N vs) H _ I hq) (fun fl s' hs=>?_) fun e s' hs=>hs
  have fin:∀ {σ':St} {H':Hp} {v:V} {u:Value},Inv (cxOf CX P w K mg base N qual scope f cdv A outer s H E) [] σ' H' s'→RelV v u→Q v H'→CE outer P w H s Q u s':=
    fun {σ' H' v u} J rv q=>⟨v,H',J.os,J.bare,J.base,J.hok,rv,q⟩
  cases fl with
  | ret u=>
    obtain ⟨v,σ',H',J,rv,q⟩:=hs
    exact fin J rv q
  | next=>
    obtain ⟨σ',H',J,q⟩:=hs
    exact fin (v:=V.non) (u:=Value.none) J rfl q
  | brk=>
    obtain ⟨_,_,_,q⟩:=hs
    exact False.elim q
  | cont=>
    obtain ⟨_,_,_,q⟩:=hs
    exact False.elim q
section
variable {X:Cx} {x:Str} {p pos:Pos} {e:Expr} {es:List Expr} {t:TA} {id T:String} {r:List V→Hp→VK→Prop}
def tCB (r:List V→Hp→VK→Prop) (t:TA):TE:=fun σ H Q=>t σ H fun vs H1=>r vs H1 Q
theorem pe_callB (hc:CallR X (.builtin id) r) (hg:Gl X x) (hm:X.mg x=none) (hv:bootBuiltins x=some (.builtin id)) (ha:PA X (e::es) t) (hn:x≠"__name__":=by decide) (hdb:(x == ("__debug__":Str))=false:=by decide)
    (he:starEach (e::es) X.env=(false,eval e X.env)::starEach es X.env:=by rfl) (hpl:(backTo pos (starEach es X.env)).any (·.1)=false:=by rfl):PE X (.Call (.Name x p) (e::es) [] pos) (tCB r t):=by
  intro pins s σ H Q I h
  refine wpAny_Call_Name_kw (ld_blt I hg hm hv ?_ hn hdb)
  exact PyProof.Rows.callWith_builtin1 (thn (ha pos pins s σ H _ I h) fun us s1 ⟨vs,H1,I1,r1,q1⟩=>hc pins s1 σ H1 vs us Q I1 r1 q1) he hpl
theorem pe_callTy (hc:CallR X (.type T) r) (hg:Gl X x) (hm:X.mg x=none) (hv:bootBuiltins x=some (.type T)) (ha:PA X (e::es) t) (hn:x≠"__name__":=by decide) (hdb:(x == ("__debug__":Str))=false:=by decide)
    (he:starEach (e::es) X.env=(false,eval e X.env)::starEach es X.env:=by rfl) (hpl:(backTo pos (starEach es X.env)).any (·.1)=false:=by rfl):PE X (.Call (.Name x p) (e::es) [] pos) (tCB r t):=by
  intro pins s σ H Q I h
  refine wpAny_Call_Name_kw (ld_blt I hg hm hv ?_ hn hdb)
  exact PyProof.Rows.callWith_type1 (thn (ha pos pins s σ H _ I h) fun us s1 ⟨vs,H1,I1,r1,q1⟩=>hc pins s1 σ H1 vs us Q I1 r1 q1) he hpl
end
end L2
namespace HT
open PySem PyProof.Rows
section
open PySem.SeqAt
open PySem.AutoSeq1 (wpAny_loadPart')
open PySem.MeetsSeq PySem.MeetsSeq2 PySem.MeetsSeq3
end
section
variable {prog:Program} {w:World} {A:Around} {E:Value→Shared→Prop} {s:Shared}
theorem cat_tup {t b:Addr} {vs ws:List Value} {Q:Value→Shared→Prop} (ht:IsTup s.heap t vs.toArray) (hb:IsTup s.heap b ws.toArray) (hv:vs≠[])
    (h1:ws=[]→Q (.ref t) s) (h2:ws≠[]→Q (.ref s.heap.objs.size) { s with heap:=s.heap.push { cls:=.type "tuple",data:=.seq (vs++ws).toArray } })
    (hsz:vs.length + ws.length≤sizeLine):wpAny (model prog w) A (binaryOp .Add (.ref t) (.ref b)) Q E s:=by
  obtain ⟨⟨cls,dd,data,sl⟩,ho,hc,n,hd⟩:=id ht
  obtain ⟨⟨cls2,dd2,data2,sl2⟩,ho2,hc2,n2,hd2⟩:=id hb
  simp only at hc hd hc2 hd2
  subst hc hd hc2 hd2
  have e:vs.toArray++ws.toArray=(vs++ws).toArray:=by simp
  by_cases hw:ws=[]
  · exact concat_meets ⟨_,ho,rfl⟩ ⟨_,ho2,rfl⟩ noFill_tuple_add seq_tuple_add PySem.F.slot_tuple_add PySem.F.entry_tuple_add (PySem.F.args_tuple_add_2 _ _)
      (tuple_addW1 t b vs.toArray ws.toArray n n2 dd dd2 sl sl2 (by simpa using hv) (by simp [hw])) ⟨ho,ho2,h1 hw⟩
  · refine concat_meets ⟨_,ho,rfl⟩ ⟨_,ho2,rfl⟩ noFill_tuple_add seq_tuple_add PySem.F.slot_tuple_add PySem.F.entry_tuple_add (PySem.F.args_tuple_add_2 _ _)
      (tuple_addW2 t b vs.toArray ws.toArray n n2 dd dd2 sl sl2 (by simpa using hv) (by simpa using hw) (by rw [List.size_toArray,List.size_toArray];exact hsz)) ⟨ho,ho2,?_⟩
    rw [e]
    exact h2 hw
def sIx (n d:Nat):Option Int→Nat
  | none=>d
  | some v=>if v < 0 then (v + (n:Int)).toNat else min v.toNat n
theorem sIx_none (n d:Nat):sIx n d none=d:=rfl
theorem sIx_nat (n d k:Nat):sIx n d (some (k:Int))=min k n:=by
  show (if (k:Int) < 0 then ((k:Int) + (n:Int)).toNat else min (k:Int).toNat n)=min k n
  rw [if_neg (by lia),Int.toNat_natCast]
theorem sIx_le (n d:Nat) (hd:d≤n) (o:Option Int):sIx n d o≤n:=by
  cases o with
  | none=>exact hd
  | some v=>
    show (if v < 0 then (v + (n:Int)).toNat else min v.toNat n)≤n
    by_cases hv:v < 0
    · rw [if_pos hv];lia
    · rw [if_neg hv];exact Nat.min_le_right _ _
theorem clip_eq (v:Int) (n d:Nat):(if v < 0 then max (v + (n:Int)) 0 else min v (n:Int))=((sIx n d (some v):Nat):Int):=by
  show (if v < 0 then max (v + (n:Int)) 0 else min v (n:Int))=(((if v < 0 then (v + (n:Int)).toNat else min v.toNat n):Nat):Int)
  by_cases hv:v < 0
  · simp only [if_pos hv];lia
  · simp only [if_neg hv];lia
theorem adjust_gen (lo hi:Option Int) (n:Nat):Builtin.Slice.sliceAdjust lo hi 1 (n:Int)=(((sIx n 0 lo:Nat):Int),((sIx n n hi:Nat):Int)):=by
  have h1:¬ ((1:Int) < 0):=by lia
  unfold Builtin.Slice.sliceAdjust
  simp only [h1,if_false]
  refine Prod.ext ?_ ?_
  · cases lo with
    | none=>rfl
    | some v=>exact clip_eq v n 0
  · cases hi with
    | none=>rfl
    | some v=>exact clip_eq v n n
theorem places_gen (i j:Nat):Builtin.Slice.slicePlaces (i:Int) (j:Int) 1=j - i:=by
  unfold Builtin.Slice.slicePlaces
  have h1:(1:Int) > 0:=by lia
  simp only [h1,if_true,Int.ediv_one]
  split <;> lia
theorem slicePart_ {v:Value} {o:Option Int} {Q:Option Int→Shared→Prop} (p:IsPart v o) (h:Q o s):wpAny (model prog w) A (Builtin.Slice.slicePartIndex v) Q E s:=by
  cases p with
  | none=>exact slicePart_none h
  | int i t=>exact slicePart_int h
theorem sliceApplied_gen {sl:Addr} {vl vu:Value} {lo hi:Option Int} {n:Nat} {Q:Int × Int × Nat→Shared→Prop} (hs:s.heap.IsSliceOf sl vl vu .none) (pl:IsPart vl lo) (pu:IsPart vu hi)
    (h:Q (((sIx n 0 lo:Nat):Int),1,sIx n n hi - sIx n 0 lo) s):wpAny (model prog w) A (Builtin.Slice.sliceApplied (.ref sl) (pure (n:Int))) Q E s:=by
  obtain ⟨os,hos,hcs,hds⟩:=id hs
  unfold Builtin.Slice.sliceApplied Builtin.Slice.sliceFields
  refine wpAny_bind (wpAny_bind (wpAny_field hos hds (x:=vl) rfl (wpAny_bind (wpAny_field hos hds (x:=vu) rfl (wpAny_bind (wpAny_field hos hds (x:=.none) rfl (wpAny_pure ?_)))))))
  refine wpAny_bind (slicePart_none ?_)
  show wpAny _ _ (if ((1:Int) == 0)=true then _ else _) _ _ s
  rw [if_neg (by decide)]
  refine wpAny_bind (slicePart_ pl (wpAny_bind (slicePart_ pu (wpAny_bind (wpAny_pure ?_)))))
  show wpAny _ _ (match Builtin.Slice.sliceAdjust lo hi 1 (n:Int) with | (lo,hi)=>pure (lo,(1:Int),Builtin.Slice.slicePlaces lo hi 1)) _ _ s
  rw [adjust_gen lo hi n]
  show wpAny _ _ (pure (((sIx n 0 lo:Nat):Int),(1:Int),Builtin.Slice.slicePlaces ((sIx n 0 lo:Nat):Int) ((sIx n n hi:Nat):Int) 1)) _ _ s
  rw [places_gen]
  exact wpAny_pure h
theorem pick_gen (xs:Array Value) (i k:Nat):((List.range k).filterMap fun (m:Nat)=>xs[((i:Int) + (m:Int) * 1).toNat]?).toArray=((xs.toList.drop i).take k).toArray:=by
  have e:(fun (m:Nat)=>xs[((i:Int) + (m:Int) * 1).toNat]?)=fun m=>xs[i + m]?:=by
    funext m
    have:((i:Int) + (m:Int) * 1).toNat=i + m:=by lia
    rw [this]
  rw [e]
  have:=pick_run xs i k
  rw [List.filterMap_map] at this
  have e2:((fun x=>xs[x]?) ∘ fun x=>i + x)=fun m=>xs[i + m]?:=rfl
  rw [e2] at this
  rw [this]
theorem getItem_tuple_cut {t sl:Addr} {items:Array Value} {vl vu:Value} {lo hi:Option Int} {Q:Value→Shared→Prop} (ht:IsTup s.heap t items) (hs:s.heap.IsSliceOf sl vl vu .none) (pl:IsPart vl lo) (pu:IsPart vu hi)
    (hw:¬ (sIx items.size 0 lo=0∧sIx items.size items.size hi=items.size))
    (h:Q (.ref s.heap.objs.size) { s with heap:=s.heap.push { cls:=.type "tuple",data:=.seq ((items.toList.drop (sIx items.size 0 lo)).take (sIx items.size items.size hi - sIx items.size 0 lo)).toArray } })
    (hsz:items.size≤sizeLine):wpAny (model prog w) A (getItem (.ref t) (.ref sl)) Q E s:=by
  have htake:sizeOk (.seq ((items.toList.drop (sIx items.size 0 lo)).take (sIx items.size items.size hi - sIx items.size 0 lo)).toArray):=by
    show ((items.toList.drop (sIx items.size 0 lo)).take (sIx items.size items.size hi - sIx items.size 0 lo)).toArray.size≤sizeLine
    rw [List.size_toArray,List.length_take,List.length_drop,Array.length_toList]
    lia
  have hj:sIx items.size items.size hi≤items.size:=sIx_le _ _ (Nat.le_refl _) hi
  obtain ⟨os,hos,hcs,hds⟩:=id hs
  have hTs:s.TypeIs (.ref sl) "slice":=⟨os,hos,hcs⟩
  unfold getItem
  try with_reducible refine wpAny_holding ?_
  first | refine wpAny_bind (wpAny_pure ?_) | skip
  refine wpAny_bind (wpAny_sequenceKey ht.typeIs (by decide) ?_)
  refine wpAny_bind (wpAny_callSpecial?_slot (name:=Str.ofString "__getitem__") ht.typeIs PyProof.Rows.slot_tuple_getitem
    (wpAny_call_entry PyProof.Rows.slot_tuple_getitem ht.typeIs entry_tuple_getitem ?_ (args_tuple_getitem _ _)))
  show wpAny _ _ (Builtin.Tuple.tupleItemsOf (.ref t) >>= _) _ _ s
  refine wpAny_bind (tupleItemsOf_ ht ?_)
  refine wpAny_bind (wpAny_typeOf hTs ?_)
  rw [if_pos (by decide)]
  refine wpAny_bind (sliceApplied_gen hs pl pu ?_)
  have hno:¬ ((((sIx items.size 0 lo:Nat):Int) == 0 && (1:Int) == 1 && (sIx items.size items.size hi - sIx items.size 0 lo) == items.size)=true):=by
    intro q
    rw [Bool.and_eq_true,Bool.and_eq_true] at q
    have q1:((sIx items.size 0 lo:Nat):Int)=0:=eq_of_beq q.1.1
    have q2:sIx items.size items.size hi - sIx items.size 0 lo=items.size:=eq_of_beq q.2
    exact hw ⟨by lia,by lia⟩
  show wpAny _ _ (if (((sIx items.size 0 lo:Nat):Int) == 0 && (1:Int) == 1 && (sIx items.size items.size hi - sIx items.size 0 lo) == items.size)=true then _ else _) _ _ s
  rw [if_neg hno,pick_gen]
  first
    | exact wpAny_bind (m:=Builtin.Tuple.tupleExact _) (wpAny_newObj_type (wpAny_pure ⟨_,rfl,wpAny_pure h⟩) htake)
    | exact wpAny_bind (m:=Builtin.Tuple.tupleExact _) (wpAny_newObj_type (wpAny_bind (wpAny_pure (wpAny_pure ⟨_,rfl,wpAny_pure h⟩))) htake)
    | exact wpAny_bind (wpAny_bind (m:=Builtin.Tuple.tupleExact _) (wpAny_newObj_type (wpAny_pure (wpAny_pure ⟨_,rfl,wpAny_pure h⟩)) htake))
    | exact wpAny_bind (wpAny_bind (m:=Builtin.Tuple.tupleExact _) (wpAny_newObj_type (wpAny_pure ⟨_,rfl,wpAny_pure h⟩) htake))
end
end HT
namespace L2
open PySem PySem.Spec PyProof.Rows
abbrev TO:=St→Hp→(Option Int→Hp→Prop)→Prop
def PO (X:Cx) (e:Option Expr) (t:TO):Prop:=
  ∀ (pins:List (Addr × Obj)) (s:Shared) (σ:St) (H:Hp) (Q:Option Int→Hp→Prop),Inv X pins σ H s→t σ H Q→
    wpAny (model X.prog X.w) X.A (evalPart e X.env) (fun u s'=>∃ o H',Inv X pins σ H' s'∧IsPart u o∧Q o H') X.xe s
def tNoPart:TO:=fun _ H Q=>Q none H
def tPart (t:TE):TO:=fun σ H Q=>t σ H fun x H1=>∃ i,x=.int i∧Q (some i) H1
section
variable {X:Cx} {e:Expr} {te:TE} {lo hi:Option Expr} {tl th:TO} {pos p2:Pos}
theorem po_none:PO X none tNoPart:=by
  intro pins s σ H Q I h
  rw [evalPart_none]
  exact wpAny_pure ⟨none,H,I,.none,h⟩
theorem po_some (h:PE X e te):PO X (some e) (tPart te):=by
  intro pins s σ H Q I hw
  rw [evalPart_some]
  refine thn (h pins s σ H _ I hw) fun u s1 ⟨x,H1,I1,r1,q1⟩=>?_
  obtain ⟨i,rfl,q⟩:=q1
  obtain ⟨t,rfl⟩:=r1
  exact ⟨some i,H1,I1,.int i t,q⟩
def SlR (X:Cx) (r:V→Option Int→Option Int→Hp→VK→Prop):Prop:=
  ∀ (pins:List (Addr × Obj)) (s:Shared) (σ:St) (H:Hp) (x:V) (v vl vu:Value) (lo hi:Option Int) (sl:Addr) (Q:VK),Inv X pins σ H s→RelV x v→s.heap.IsSliceOf sl vl vu .none→IsPart vl lo→IsPart vu hi→r x lo hi H Q→
    ∃ T id,typeLookup (.type T) "__getitem__"=pure (some (.builtin id))∧s.TypeIs v T∧wpAny (model X.prog X.w) X.A (getItem v (.ref sl)) (EP X pins σ Q) X.xe s
theorem SlR.or {r r':V→Option Int→Option Int→Hp→VK→Prop} (h:SlR X r) (h':SlR X r'):SlR X (fun x lo hi H Q=>r x lo hi H Q∨r' x lo hi H Q):=by
  intro pins s σ H x v vl vu lo hi sl Q I rx hs pl pu q
  rcases q with q | q
  · exact h pins s σ H x v vl vu lo hi sl Q I rx hs pl pu q
  · exact h' pins s σ H x v vl vu lo hi sl Q I rx hs pl pu q
def tSl (r:V→Option Int→Option Int→Hp→VK→Prop) (te:TE) (tl th:TO):TE:=fun σ H Q=>te σ H fun x H1=>tl σ H1 fun l H2=>th σ H2 fun u H3=>r x l u H3 Q
theorem pe_slice {r:V→Option Int→Option Int→Hp→VK→Prop} (hr:SlR X r) (he:PE X e te) (hl:PO X lo tl) (hu:PO X hi th):PE X (.Subscript e (.Slice lo hi none p2) pos) (tSl r te tl th):=by
  intro pins s σ H Q I h
  refine Subscript_ (thn (he pins s σ H _ I h) fun v s1 ⟨x,H1,I1,r1,q1⟩=>?_)
  refine wpAny_Slice (thn (hl pins s1 σ H1 _ I1 q1) fun vl s2 ⟨l,H2,I2,pl,q2⟩=>thn (hu pins s2 σ H2 _ I2 q2) fun vu s3 ⟨u,H3,I3,pu,q3⟩=>?_)
  rw [evalPart_none]
  refine wpAny_pure ?_
  have I4:Inv X pins σ H3 { s3 with heap:=s3.heap.push { cls:=.type "slice",data:=.fields #[vl,vu,.none] } }:=I3.kept (t':=s3.toks) fun b ob q=>Heap.get?_push_of_some _ q
  obtain ⟨T,id,hT,ht,hg⟩:=hr pins { s3 with heap:=s3.heap.push { cls:=.type "slice",data:=.fields #[vl,vu,.none] } } σ H3 x v vl vu l u s3.heap.objs.size Q I4 r1 (Heap.IsSliceOf.new ..) pl pu q3
  show wpAny (model X.prog X.w) X.A (subscriptTail e (.Slice lo hi none p2) v (.ref s3.heap.objs.size)) (EP X pins σ Q) X.xe { s3 with heap:=s3.heap.push { cls:=.type "slice",data:=.fields #[vl,vu,.none] } }
  exact tail_any (ops:=[.ref s3.heap.objs.size,v]) ht hT hg (by with_unfolding_all rfl)
def cutV (xs:List V) (lo hi:Option Int):List V:=(xs.drop (HT.sIx xs.length 0 lo)).take (HT.sIx xs.length xs.length hi - HT.sIx xs.length 0 lo)
theorem cutV_length (xs:List V) (lo hi:Option Int):(cutV xs lo hi).length≤xs.length:=by
  unfold cutV
  rw [List.length_take,List.length_drop]
  lia
def rSlT (K:Fg):V→Option Int→Option Int→Hp→VK→Prop:=fun x lo hi H Q=>∃ a xs,x=.ref a∧SqT K H a xs∧
  ¬ (HT.sIx xs.length 0 lo=0∧HT.sIx xs.length xs.length hi=xs.length)∧∀ p,H p=none→Q (.ref p) (upd H p (.tup (cutV xs lo hi)))
theorem sl_tup:SlR X (rSlT X.K):=by
  intro pins s σ H x v vl vu lo hi sl Q I rx hs pl pu h
  obtain ⟨a,xs,rfl,hx,hw,q⟩:=h
  cases rx
  obtain ⟨its,r,ht,hz⟩:=I.tuple hx
  have hlen:its.toArray.size=xs.length:=by rw [List.size_toArray];exact r.length.symm
  refine ⟨"tuple",_,PyProof.Rows.slot_tuple_getitem.lookup,ht.typeIs,?_⟩
  refine HT.getItem_tuple_cut ht hs pl pu (by rw [hlen];exact hw) ?_ (by rw [hlen];exact hz)
  rw [hlen]
  refine ⟨.ref s.heap.objs.size,_,I.laid (t':=s.toks) (o:=.tup (cutV xs lo hi)) (fun b ob q=>Heap.get?_push_of_some _ q) (Nat.le_refl _) ?_,rfl,q _ (I.hok.fresh (Nat.le_refl _))⟩
  exact ⟨Nat.le_trans (cutV_length xs lo hi) hz,_,(r.drop (HT.sIx xs.length 0 lo)).take (HT.sIx xs.length xs.length hi - HT.sIx xs.length 0 lo),IsTupN.new _ _⟩
def rCatT (K:Fg):R2:=fun x y H Q=>∃ a b xs ys,x=.ref a∧y=.ref b∧SqT K H a xs∧SqT K H b ys∧xs≠[]∧xs.length + ys.length≤sizeLine∧
  (ys=[]→Q (.ref a) H)∧(ys≠[]→∀ p,H p=none→Q (.ref p) (upd H p (.tup (xs++ys))))
theorem Vals.nil_iff {xs:List V} {us:List Value} (r:Vals xs us):us=[]↔xs=[]:=by
  cases r with
  | nil=>simp
  | cons _ _=>simp
theorem op_catT:OpR X (binaryOp .Add) (rCatT X.K):=by
  intro pins s σ H x y v u Q I rx ry h
  obtain ⟨a,b,xs,ys,rfl,rfl,ha,hb,hx,hz,q1,q2⟩:=h
  cases rx
  cases ry
  obtain ⟨its,r1,p1,_⟩:=I.tuple ha
  obtain ⟨its2,r2,p2,_⟩:=I.tuple hb
  refine HT.cat_tup p1 p2 (fun z=>hx (r1.nil_iff.mp z)) (fun z=>⟨.ref a,H,I,rfl,q1 (r2.nil_iff.mp z)⟩) (fun z=>?_) (by rw [← r1.length,← r2.length];exact hz)
  refine ⟨.ref s.heap.objs.size,_,I.laid (t':=s.toks) (o:=.tup (xs++ys)) (fun b ob q=>Heap.get?_push_of_some _ q) (Nat.le_refl _) ?_,rfl,q2 (fun w=>z (r2.nil_iff.mpr w)) _ (I.hok.fresh (Nat.le_refl _))⟩
  exact ⟨by rw [List.length_append];exact hz,_,r1.append r2,IsTupN.new _ _⟩
end
def ixN (n:Nat) (i:Int):Option Nat:=if 0≤i then (if i < n then some i.toNat else none) else if -(n:Int)≤i then some (i + n).toNat else none
def atI {α:Type} (xs:List α) (i:Int):Option α:=(ixN xs.length i).bind fun j=>xs[j]?
theorem ixN_seq {n:Nat} {i:Int} {j:Nat} (h:ixN n i=some j):seqIndex? i n=some j∧j < n∧-(n:Int)≤i∧i < n:=by
  unfold ixN at h
  by_cases h0:0≤i
  · rw [if_pos h0] at h
    by_cases h1:i < n
    · rw [if_pos h1] at h
      have e:i.toNat=j:=Option.some.inj h
      exact ⟨by rw [seqIndex_of h0 h1,e],by lia,by lia,h1⟩
    · rw [if_neg h1] at h;cases h
  · rw [if_neg h0] at h
    by_cases h1:-(n:Int)≤i
    · rw [if_pos h1] at h
      have e:(i + n).toNat=j:=Option.some.inj h
      exact ⟨by rw [seqIndex_neg (by lia) h1,e],by lia,h1,by lia⟩
    · rw [if_neg h1] at h;cases h
theorem atI_get {α:Type} {xs:List α} {i:Int} {v:α} (h:atI xs i=some v):∃ j,seqIndex? i xs.length=some j∧xs[j]?=some v∧j < xs.length∧-(xs.length:Int)≤i∧i < xs.length:=by
  unfold atI at h
  cases e:ixN xs.length i with
  | none=>rw [e] at h;cases h
  | some j=>
    rw [e] at h
    obtain ⟨h1,h2,h3,h4⟩:=ixN_seq e
    exact ⟨j,h1,h,h2,h3,h4⟩
def PlainIx (b:Expr):Prop:=∀ o i,subscripted b false o i=operate [o,i] (getItem o i)
def IxR (X:Cx) (r:R2):Prop:=
  ∀ (value slice:Expr) (pins:List (Addr × Obj)) (s:Shared) (σ:St) (H:Hp) (x y:V) (v u:Value) (Q:VK),Inv X pins σ H s→RelV x v→RelV y u→r x y H Q→
    subscripted slice false v u=operate [v,u] (getItem v u)→wpAny (model X.prog X.w) X.A (subscriptTail value slice v u) (EP X pins σ Q) X.xe s
def MtR (X:Cx) (id:String) (r:V→List V→Hp→VK→Prop):Prop:=
  ∀ (pins:List (Addr × Obj)) (s:Shared) (σ:St) (H:Hp) (x:V) (xs:List V) (v:Value) (us:List Value) (Q:VK),Inv X pins σ H s→RelV x v→Vals xs us→r x xs H Q→
    wpAny (model X.prog X.w) X.A (call (.builtin id) (v::us)) (EP X pins σ Q) X.xe s
section
variable {X:Cx} {a b:Expr} {ta tb:TE} {pos:Pos}
theorem IxR.or {r r':R2} (h:IxR X r) (h':IxR X r'):IxR X (fun x y H Q=>r x y H Q∨r' x y H Q):=by
  intro value slice pins s σ H x y v u Q I rx ry q hs
  rcases q with q | q
  · exact h value slice pins s σ H x y v u Q I rx ry q hs
  · exact h' value slice pins s σ H x y v u Q I rx ry q hs
theorem pe_ix {r:R2} (hr:IxR X r) (ha:PE X a ta) (hb:PE X b tb) (hs:PlainIx b):PE X (.Subscript a b pos) (tOp r ta tb):=by
  intro pins s σ H Q I h
  exact Subscript_ (binT ha hb I h fun v u s2 x y H2 I2 rx ry q=>hr a b pins s2 σ H2 x y v u Q I2 rx ry q (hs _ _))
def rIxL (K:Fg):R2:=fun x y H Q=>∃ p xs i v,x=.ref p∧y=.int i∧SqL K H p xs∧atI xs i=some v∧Q v H
def rIxT (K:Fg):R2:=fun x y H Q=>∃ p xs i v,x=.ref p∧y=.int i∧SqT K H p xs∧atI xs i=some v∧Q v H
def rIxS:R2:=fun x y H Q=>∃ z i c,x=.str z∧y=.int i∧z.length≤sizeLine∧atI z.cps.toList i=some c∧Q (.str ⟨#[c]⟩) H
theorem ix_list:IxR X (rIxL X.K):=by
  intro value slice pins s σ H x y v u Q I rx ry h hs
  obtain ⟨p,xs,i,z,rfl,rfl,hq,he,q⟩:=h
  cases rx
  obtain ⟨t,rfl⟩:=ry
  obtain ⟨its,r,pl,hz⟩:=I.list hq
  obtain ⟨j,h1,h2,h3,h4,h5⟩:=atI_get he
  obtain ⟨w,ew,rw'⟩:=r.get h2
  have hl:=r.length
  have hn:=line63
  have fin:EP X pins σ Q w s:=⟨z,H,I,rw',q⟩
  by_cases h0:0≤i
  · have hj:i.toNat=j:=by
      rw [seqIndex_of h0 h5] at h1
      exact Option.some.inj h1
    exact item_listR pl.isList h0 (by lia) (by rw [hj];simpa using ew) fin hs
  · have hj:(i + (its.toArray.size:Int)).toNat=j:=by
      rw [seqIndex_neg (by lia) h4] at h1
      rw [List.size_toArray,← hl]
      exact Option.some.inj h1
    exact subscriptTail_builtinR (x:=w) pl.isList.typeIs slot_list_getitem.lookup
      (wpAny_getItem_list_neg (Q:=fun r s'=>r=w∧EP X pins σ Q r s') pl.isList (by lia) (by rw [List.size_toArray] <;> lia) (by lia) (by rw [hj];simpa using ew) ⟨rfl,fin⟩) hs
theorem ix_tup:IxR X (rIxT X.K):=by
  intro value slice pins s σ H x y v u Q I rx ry h hs
  obtain ⟨p,xs,i,z,rfl,rfl,hq,he,q⟩:=h
  cases rx
  obtain ⟨t,rfl⟩:=ry
  obtain ⟨its,r,pl,hz⟩:=I.tuple hq
  obtain ⟨j,h1,h2,h3,h4,h5⟩:=atI_get he
  obtain ⟨w,ew,rw'⟩:=r.get h2
  have hl:=r.length
  have hn:=line63
  have fin:EP X pins σ Q w s:=⟨z,H,I,rw',q⟩
  exact subscriptTail_builtinR (x:=w) pl.typeIs slot_tuple_getitem.lookup
    (getItem_tuple (j:=j) (Q:=fun r s'=>r=w∧EP X pins σ Q r s') pl (by lia) (by lia) (by rw [List.size_toArray,← hl];exact h1) (by simpa using ew) ⟨rfl,fin⟩) hs
theorem ix_str:IxR X rIxS:=by
  intro value slice pins s σ H x y v u Q I rx ry h hs
  obtain ⟨z,i,c,rfl,rfl,hz,he,q⟩:=h
  obtain ⟨t,rfl⟩:=rx
  obtain ⟨t',rfl⟩:=ry
  obtain ⟨j,h1,h2,h3,h4,h5⟩:=atI_get he
  have hl:z.cps.toList.length=z.length:=by simp [Str.length]
  rw [hl] at h1 h4 h5
  have hn:=line63
  exact tail_any (typeIs_str s z t) slot_str_getitem.lookup (getItem_str (c:=c) (by
    have e1:decide (i < -(2 ^ 63:Int))=false:=decide_eq_false (by lia)
    have e2:decide (i ≥ 2 ^ 63)=false:=decide_eq_false (by lia)
    rw [e1,e2,Bool.or_false]) (by rw [h1];simpa using h2) ⟨.str ⟨#[c]⟩,H,I.tok _,⟨_,rfl⟩,q⟩) hs
def rIx (K:Fg):R2:=fun x y H Q=>rIxL K x y H Q∨rIxT K x y H Q∨rIxS x y H Q
theorem ix_seq:IxR X (rIx X.K):=ix_list.or (ix_tup.or ix_str)
theorem mapSeq_set (its:List Value) (n j:Nat) (u:Value):Obj.mapSeq (·.setIfInBounds j u) { cls:=.type "list",data:=.seq its.toArray n }={ cls:=.type "list",data:=.seq (its.set j u).toArray n }:=by
  simp [Obj.mapSeq]
theorem Inv.lst {pins:List (Addr × Obj)} {σ:St} {H:Hp} {s:Shared} {p:Addr} {xs:List V} (I:Inv X pins σ H s) (h:H p=some (.lst xs)) :
    ∃ (its:List Value) (n:Nat),Vals xs its∧s.heap.get? p=some { cls:=.type "list",data:=.seq its.toArray n }∧xs.length≤sizeLine:=by
  obtain ⟨z,its,n,r,e⟩:=I.hok p _ h
  exact ⟨its,n,r,e,z⟩
theorem Inv.lstUpd {pins:List (Addr × Obj)} {σ:St} {H:Hp} {s:Shared} {p:Addr} {xs ys:List V} {its its':List Value} {n n':Nat} {f:Obj→Obj} (I:Inv X pins σ H s) (h:H p=some (.lst xs))
    (ho:s.heap.get? p=some { cls:=.type "list",data:=.seq its.toArray n }) (hf:f { cls:=.type "list",data:=.seq its.toArray n }={ cls:=.type "list",data:=.seq its'.toArray n' }) (r:Vals ys its') (hz:ys.length≤sizeLine) (t:Nat) :
    Inv X pins σ (upd H p (.lst ys)) { s with heap:=s.heap.update p f,toks:=t }:=by
  have e:(s.heap.update p f).get? p=some { cls:=.type "list",data:=.seq its'.toArray n' }:=by
    rw [Heap.get?_update_self f ho (by rw [hf] <;> rfl),hf]
  refine I.write (x:=p) (e:=p) (by rw [h];trivial) (.inl rfl) (fun b u hb q=>(Heap.get?_update_other _ _ (Ne.symm hb)).trans q) ⟨_,e⟩ ?_
  exact ⟨hz,its',n',r,e⟩
def rSetL:V→V→V→Hp→(Hp→Prop)→Prop:=fun o i v H Q=>∃ p xs k j,o=.ref p∧i=.int k∧H p=some (.lst xs)∧ixN xs.length k=some j∧Q (upd H p (.lst (xs.set j v)))
theorem set_list:PSet X rSetL:=by
  intro pins s σ H o i v ov iv u Q I ro ri rv h
  obtain ⟨p,xs,k,j,rfl,rfl,hp,hj,q⟩:=h
  cases ro
  obtain ⟨t,rfl⟩:=ri
  obtain ⟨its,n,r,ho,hz⟩:=I.lst hp
  obtain ⟨h1,h2,h3,h4⟩:=ixN_seq hj
  have hl:=r.length
  have hn:=line63
  have I':Inv X pins σ (upd H p (.lst (xs.set j v))) { s with heap:=s.heap.update p (Obj.mapSeq (·.setIfInBounds j u)) }:=
    I.lstUpd hp ho (mapSeq_set its n j u) (r.set rv j) (by rw [List.length_set];exact hz) s.toks
  by_cases h0:0≤k
  · have hk:k.toNat=j:=by
      rw [seqIndex_of h0 h4] at h1
      exact Option.some.inj h1
    exact PySem.W.ki_setAt ho h0 (by lia) (by rw [List.size_toArray,← hl];exact h4) (by rw [hk];exact ⟨_,I',q⟩)
  · have hk:(k + (its.toArray.size:Int)).toNat=j:=by
      rw [seqIndex_neg (by lia) h3] at h1
      rw [List.size_toArray,← hl]
      exact Option.some.inj h1
    exact PySem.W.ki_setBack ho (by lia) (by rw [List.size_toArray,← hl];exact h3) (by lia) (by rw [hk];exact ⟨_,I',q⟩)
theorem slice_bounds (lo hi:Option Int) (n:Nat):(sliceBounds lo hi none n).1=((HT.sIx n 0 lo:Nat):Int)∧(sliceBounds lo hi none n).2.1=((HT.sIx n n hi:Nat):Int)∧(sliceBounds lo hi none n).2.2=1:=by
  refine ⟨?_,?_,rfl⟩
  · cases lo with
    | none=>simp [sliceBounds,HT.sIx]
    | some i=>
      simp only [sliceBounds,HT.sIx,Option.getD_none,show (1:Int) > 0 by decide,if_true]
      by_cases h:i < 0
      · simp only [h,if_true] <;> lia
      · simp only [h,if_false] <;> lia
  · cases hi with
    | none=>simp [sliceBounds,HT.sIx]
    | some i=>
      simp only [sliceBounds,HT.sIx,Option.getD_none,show (1:Int) > 0 by decide,if_true]
      by_cases h:i < 0
      · simp only [h,if_true] <;> lia
      · simp only [h,if_false] <;> lia
theorem slicePick_cut (its:List Value) (lo hi:Option Int):slicePick its.toArray lo hi none=((its.drop (HT.sIx its.length 0 lo)).take (HT.sIx its.length its.length hi - HT.sIx its.length 0 lo)).toArray:=by
  obtain ⟨h1,h2,h3⟩:=slice_bounds lo hi its.toArray.size
  unfold slicePick
  rw [h1,h2,h3]
  simp only [sliceRange_one,pick_run,List.size_toArray] <;> rfl
def rSlL (K:Fg):V→Option Int→Option Int→Hp→VK→Prop:=fun x lo hi H Q=>∃ a xs,x=.ref a∧SqL K H a xs∧∀ p,H p=none→Q (.ref p) (upd H p (.lst (cutV xs lo hi)))
theorem sl_list:SlR X (rSlL X.K):=by
  intro pins s σ H x v vl vu lo hi sl Q I rx hs pl pu h
  obtain ⟨a,xs,rfl,hx,q⟩:=h
  cases rx
  obtain ⟨its,r,ht,hz⟩:=I.list hx
  have hlen:=r.length
  refine ⟨"list",_,slot_list_getitem.lookup,ht.isList.typeIs,?_⟩
  refine wpAny_getItem_list_slice ht.isList hs pl pu .none (by simp) ?_ (by rw [List.size_toArray] <;> lia)
  rw [slicePick_cut,← hlen]
  refine ⟨.ref s.heap.objs.size,_,I.laid (t':=s.toks) (o:=.lst (cutV xs lo hi)) (fun b ob q=>Heap.get?_push_of_some _ q) (Nat.le_refl _) ?_,rfl,q _ (I.hok.fresh (Nat.le_refl _))⟩
  exact ⟨Nat.le_trans (cutV_length xs lo hi) hz,_,0,(r.drop (HT.sIx xs.length 0 lo)).take (HT.sIx xs.length xs.length hi - HT.sIx xs.length 0 lo),Heap.get?_push_size _ rfl⟩
def flatV:V→Bool
  | .non=>true
  | .bl _=>true
  | .int _=>true
  | .str _=>true
  | _=>false
def eqV:V→V→Bool
  | .non,.non=>true
  | .bl a,.bl b=>a == b
  | .bl a,.int b=>(if a then 1 else 0) == b
  | .int a,.bl b=>a == (if b then 1 else 0)
  | .int a,.int b=>a == b
  | .str a,.str b=>a == b
  | _,_=>false
theorem eqAt_V {A:Around} {s:Shared} {y x:V} {u v:Value} (ry:RelV y u) (rx:RelV x v) (fy:flatV y=true) (fx:flatV x=true):SeqAt.EqAt A s u v (eqV y x):=by
  cases y with
  | non=>
    cases ry
    cases x with
    | non=>cases rx;exact SeqAt.EqAt.same _
    | bl b=>cases rx;exact SeqAt.EqAt.none_bool b
    | int b=>obtain ⟨t,rfl⟩:=rx;exact SeqAt.EqAt.none_int b t
    | str b=>obtain ⟨t,rfl⟩:=rx;exact SeqAt.EqAt.none_str b t
    | _=>exact absurd (show false=true from fx) Bool.false_ne_true
  | bl a=>
    cases ry
    cases x with
    | non=>cases rx;exact SeqAt.EqAt.bool_none a
    | bl b=>cases rx;exact SeqAt.EqAt.bool_bool a b
    | int b=>obtain ⟨t,rfl⟩:=rx;exact SeqAt.EqAt.bool_int a b t
    | str b=>obtain ⟨t,rfl⟩:=rx;exact SeqAt.EqAt.bool_str a b t
    | _=>exact absurd (show false=true from fx) Bool.false_ne_true
  | int a=>
    obtain ⟨t',rfl⟩:=ry
    cases x with
    | non=>cases rx;exact SeqAt.EqAt.int_none a t'
    | bl b=>cases rx;exact SeqAt.EqAt.int_bool a t' b
    | int b=>obtain ⟨t,rfl⟩:=rx;exact SeqAt.EqAt.int_int a t' b t
    | str b=>obtain ⟨t,rfl⟩:=rx;exact SeqAt.EqAt.int_str a t' b t
    | _=>exact absurd (show false=true from fx) Bool.false_ne_true
  | str a=>
    obtain ⟨t',rfl⟩:=ry
    cases x with
    | non=>cases rx;exact SeqAt.EqAt.str_none a t'
    | bl b=>cases rx;exact SeqAt.EqAt.str_bool a t' b
    | int b=>obtain ⟨t,rfl⟩:=rx;exact SeqAt.EqAt.str_int a t' b t
    | str b=>obtain ⟨t,rfl⟩:=rx;exact SeqAt.EqAt.str_str a t' b t
    | _=>exact absurd (show false=true from fx) Bool.false_ne_true
  | _=>exact absurd (show false=true from fy) Bool.false_ne_true
def eqU (x:V) (u:Value):Bool:=match u with
  | .none=>eqV .non x
  | .bool b=>eqV (.bl b) x
  | .int i _=>eqV (.int i) x
  | .str z _=>eqV (.str z) x
  | _=>false
theorem eqU_of {x y:V} {u:Value} (r:RelV y u) (f:flatV y=true):eqU x u=eqV y x:=by
  cases y with
  | non=>cases r;rfl
  | bl b=>cases r;rfl
  | int i=>obtain ⟨t,rfl⟩:=r;rfl
  | str z=>obtain ⟨t,rfl⟩:=r;rfl
  | _=>exact absurd (show false=true from f) Bool.false_ne_true
theorem any_eqU {x:V}:∀ {xs:List V} {us:List Value},Vals xs us→xs.all flatV=true→us.any (eqU x)=xs.any fun y=>eqV y x
  | _,_,.nil,_=>rfl
  | y::xs,u::us,.cons r t,f=>by
    rw [List.all_cons,Bool.and_eq_true] at f
    rw [List.any_cons,List.any_cons,eqU_of r f.1,any_eqU t f.2]
theorem mem_eqAt {A:Around} {s:Shared} {x:V} {v:Value} (rx:RelV x v) (fx:flatV x=true):∀ {xs:List V} {us:List Value},Vals xs us→xs.all flatV=true→∀ u∈us,SeqAt.EqAt A s u v (eqU x u)
  | _,_,.nil,_=>fun u hu=>by cases hu
  | y::xs,u::us,.cons r t,f=>fun u' hu=>by
    rw [List.all_cons,Bool.and_eq_true] at f
    rcases List.mem_cons.mp hu with rfl | hu
    · rw [eqU_of r f.1];exact eqAt_V r rx f.1 fx
    · exact mem_eqAt rx fx t f.2 u' hu
def inV (x:V) (xs:List V):Bool:=xs.any fun y=>eqV y x
def rIn (K:Fg) (neg:Bool):R2:=fun x y H Q=>∃ p xs,y=.ref p∧(SqL K H p xs∨SqT K H p xs)∧flatV x=true∧xs.all flatV=true∧Q (.bl (if neg then !inV x xs else inV x xs)) H
theorem op_in_seq:OpR X (compareOp .In) (rIn X.K false):=by
  intro pins s σ H x y v u Q I rx ry h
  obtain ⟨p,xs,rfl,hq,fx,fs,q⟩:=h
  cases ry
  rcases hq with hq | hq
  · obtain ⟨its,r,pl,hz⟩:=I.list hq
    refine SeqAt.in_listAt (eqU x) pl.isList (fun w hw=>mem_eqAt rx fx r fs w (by simpa using hw)) ⟨.bl _,H,I,rfl,?_⟩
    rw [show its.toArray.any (eqU x)=its.any (eqU x) by simp,any_eqU r fs]
    exact q
  · obtain ⟨its,r,pl,hz⟩:=I.tuple hq
    refine SeqAt.in_tupleAt (eqU x) pl (fun w hw=>mem_eqAt rx fx r fs w (by simpa using hw)) ⟨.bl _,H,I,rfl,?_⟩
    rw [show its.toArray.any (eqU x)=its.any (eqU x) by simp,any_eqU r fs]
    exact q
theorem op_notIn_seq:OpR X (compareOp .NotIn) (rIn X.K true):=by
  intro pins s σ H x y v u Q I rx ry h
  obtain ⟨p,xs,rfl,hq,fx,fs,q⟩:=h
  cases ry
  rcases hq with hq | hq
  · obtain ⟨its,r,pl,hz⟩:=I.list hq
    refine SeqAt.notIn_listAt (eqU x) pl.isList (fun w hw=>mem_eqAt rx fx r fs w (by simpa using hw)) ⟨.bl _,H,I,rfl,?_⟩
    rw [show its.toArray.any (eqU x)=its.any (eqU x) by simp,any_eqU r fs]
    exact q
  · obtain ⟨its,r,pl,hz⟩:=I.tuple hq
    refine SeqAt.notIn_tupleAt (eqU x) pl (fun w hw=>mem_eqAt rx fx r fs w (by simpa using hw)) ⟨.bl _,H,I,rfl,?_⟩
    rw [show its.toArray.any (eqU x)=its.any (eqU x) by simp,any_eqU r fs]
    exact q
theorem call_list_of:CallR X (.type "list") (fun xs H Q=>∃ p ys,xs=[.ref p]∧(SqL X.K H p ys∨SqT X.K H p ys)∧∀ l,H l=none→Q (.ref l) (upd H l (.lst ys))):=by
  intro pins s σ H xs us Q I r h
  obtain ⟨p,ys,rfl,hq,q⟩:=h
  obtain ⟨u,rfl,rx⟩:=vals1 r
  cases rx
  have fin:∀ (its:List Value),Vals ys its→ys.length≤sizeLine→∀ (h':Heap) (c':Nat),(∀ b o',s.heap.get? b=some o'→h'.get? b=some o')→
      h'.get? s.heap.objs.size=some { cls:=.type "list",dict:=none,data:=.seq its.toArray c',slots:=#[] }→EP X pins σ Q (.ref s.heap.objs.size) { s with heap:=h' }:=fun its r' hz h' c' kp e=>
    ⟨.ref s.heap.objs.size,_,I.laid (t':=s.toks) kp (Nat.le_refl _) (show ObjOk X.prog X.w _ h' _ (.lst ys) from ⟨hz,its,c',r',e⟩),rfl,q _ (I.hok.fresh (Nat.le_refl _))⟩
  rcases hq with hq | hq
  · obtain ⟨its,r',pl,hz⟩:=I.list hq
    have hlen:=r'.length
    obtain ⟨o,ho,hc,n,hd⟩:=pl.isList
    exact call_list_seq p (.inl rfl) ho hc hd (fun h' c' kp e=>fin its r' hz h' c' kp e) (by simp only [List.size_toArray] <;> lia)
  · obtain ⟨its,r',pl,hz⟩:=I.tuple hq
    have hlen:=r'.length
    obtain ⟨o,ho,hc,n,hd⟩:=pl
    exact call_list_seq p (.inr rfl) ho hc hd (fun h' c' kp e=>fin its r' hz h' c' kp e) (by simp only [List.size_toArray] <;> lia)
theorem call_tuple_of:CallR X (.type "tuple") (fun xs H Q=>∃ p ys,xs=[.ref p]∧((SqL X.K H p ys∧∀ l,H l=none→Q (.ref l) (upd H l (.tup ys)))∨(SqT X.K H p ys∧Q (.ref p) H))):=by
  intro pins s σ H xs us Q I r h
  obtain ⟨p,ys,rfl,h⟩:=h
  obtain ⟨u,rfl,rx⟩:=vals1 r
  cases rx
  rcases h with ⟨hq,q⟩ | ⟨hq,q⟩
  · obtain ⟨its,r',pl,hz⟩:=I.list hq
    have hlen:=r'.length
    refine call_tuple_list pl.isList (fun h' kp=>?_) (by simp only [List.size_toArray] <;> lia)
    have I1:Inv X pins σ H { s with heap:=h' }:=I.kept (t':=s.toks) kp
    have I2:Inv X pins σ (upd H h'.objs.size (.tup ys)) { s with heap:=h'.push { cls:=.type "tuple",data:=.seq its.toArray } }:=
      I1.laid (t':=s.toks) (fun b o e=>Heap.get?_push_of_some _ e) (Nat.le_refl _) (show ObjOk X.prog X.w _ _ _ (.tup ys) from ⟨hz,its,r',IsTupN.new _ _⟩)
    exact ⟨.ref h'.objs.size,_,I2,rfl,q _ (I1.hok.fresh (Nat.le_refl _))⟩
  · obtain ⟨its,r',pl,hz⟩:=I.tuple hq
    exact call_tuple_same pl ⟨.ref p,H,I,rfl,q⟩
def tyV (K:Fg) (T:String) (x:V) (H:Hp):Prop:=match x with
  | .str _=>T="str"
  | .int _=>T="int"
  | .ref p=>(T="list"∧∃ xs,SqL K H p xs)∨(T="tuple"∧∃ o,K.lookup p=some o∧o.cls=.type "tuple"∧o.dict=none)∨
      (T="dict"∧((∃ kvs,H p=some (.dK kvs))∨∃ kvs,H p=some (.dT kvs)))∨(T="set"∧∃ S n,H p=some (.set S n))
  | _=>False
theorem tyV_is {pins:List (Addr × Obj)} {σ:St} {H:Hp} {s:Shared} {T:String} {x:V} {v:Value} (I:Inv X pins σ H s) (r:RelV x v) (ty:tyV X.K T x H) :
    s.TypeIs v T∧∀ a,v=.ref a→∃ ob,s.heap.get? a=some ob∧ob.dict=none:=by
  cases x with
  | str z=>
    obtain ⟨t,rfl⟩:=r
    cases (show T="str" from ty)
    exact ⟨typeIs_str s z t,fun _ e=>nomatch e⟩
  | int i=>
    obtain ⟨t,rfl⟩:=r
    cases (show T="int" from ty)
    exact ⟨typeIs_int s i t,fun _ e=>nomatch e⟩
  | ref p=>
    cases r
    rcases ty with ⟨rfl,xs,hq⟩ | ⟨rfl,o,hk,hc,hd⟩ | ⟨rfl,hk⟩ | ⟨rfl,S,n,hk⟩
    · obtain ⟨its,_,pl,_⟩:=I.list hq
      refine ⟨pl.isList.typeIs,fun a e=>?_⟩
      cases e
      obtain ⟨o,n,e,c,hd,_⟩:=pl
      exact ⟨o,e,hd⟩
    · refine ⟨⟨o,I.kIn p o hk,hc⟩,fun a e=>?_⟩
      cases e
      exact ⟨o,I.kIn _ o hk,hd⟩
    · have z:∃ o,s.heap.get? p=some o∧o.ExactDict:=by
        rcases hk with ⟨kvs,hk⟩ | ⟨kvs,hk⟩
        · obtain ⟨_,_,_,_,o,_,_,e,ex,_⟩:=I.hok p _ hk
          exact ⟨o,e,ex⟩
        · obtain ⟨_,_,_,_,o,_,_,e,ex,_⟩:=I.hok p _ hk
          exact ⟨o,e,ex⟩
      obtain ⟨o,e,ex⟩:=z
      refine ⟨⟨o,e,ex.1⟩,fun a e2=>?_⟩
      cases e2
      exact ⟨o,e,ex.2.1⟩
    · obtain ⟨o,_,_,_,e,ex,_⟩:=I.hok p _ hk
      refine ⟨⟨o,e,ex.1⟩,fun a e2=>?_⟩
      cases e2
      exact ⟨o,e,ex.2.1⟩
  | _=>exact False.elim ty
def tBM0 (K:Fg) (T:String) (r:V→List V→Hp→VK→Prop) (to:TE):TE:=fun σ H Q=>to σ H fun x H1=>tyV K T x H1∧r x [] H1 Q
def tBM (K:Fg) (T:String) (r:V→List V→Hp→VK→Prop) (to:TE) (t:TA):TE:=fun σ H Q=>to σ H fun x H1=>tyV K T x H1∧t σ H1 fun xs H2=>r x xs H2 Q
variable {o e:Expr} {es:List Expr} {to:TE} {t:TA} {name:Str} {apos cpos:Pos} {T id:String} {r:V→List V→Hp→VK→Prop}
theorem pe_bm0 (pa:PlainAttrs T) (slot:Slot T name id) (hty:typeOf (.builtin id)=pure (.type "method_descriptor")) (hm:MtR X id r) (ho:PE X o to)
    (hbase:attributeBase o name X.env (eval o X.env)=eval o X.env:=by rfl) (hline:(apos.endLine == cpos.line)=true:=by rfl):PE X (.Call (.Attribute o name apos) [] [] cpos) (tBM0 X.K T r to):=by
  intro pins s σ H Q I h
  refine wpAny_Call_method0_late hbase hline (thn (ho pins s σ H _ I h) fun v s1 ⟨x,H1,I1,r1,ty,q1⟩=>?_)
  obtain ⟨h1,h2⟩:=tyV_is I1 r1 ty
  exact ⟨T,id,pa,slot,hty,h1,h2,Calls.callWith_builtin rfl (PySem.evalArgs_none (hm pins s1 σ H1 x [] v [] Q I1 r1 .nil q1))⟩
theorem pe_bm (pa:PlainAttrs T) (slot:Slot T name id) (hty:typeOf (.builtin id)=pure (.type "method_descriptor")) (hm:MtR X id r) (ho:PE X o to) (ha:PA X (e::es) t)
    (hbase:attributeBase o name X.env (eval o X.env)=eval o X.env:=by rfl)
    (hfew:((backTo cpos (starEach (e::es) X.env)).all (fun x=>!x.1) && (backToKw cpos (keywordEach [] X.env)).all (fun x=>x.1.isSome)
      && decide ((e::es).length + ([]:List Keyword).length + (if ([]:List Keyword).isEmpty then 0 else 1) < 30))=true:=by rfl)
    (hline:(apos.endLine == cpos.line)=true:=by rfl) (hs:starEach (e::es) X.env=(false,eval e X.env)::starEach es X.env:=by rfl) (hplain:(backTo cpos (starEach es X.env)).any (·.1)=false:=by rfl) :
    PE X (.Call (.Attribute o name apos) (e::es) [] cpos) (tBM X.K T r to t):=by
  intro pins s σ H Q I h
  refine wpAny_Call_method_late hbase hfew hline rfl (thn (ho pins s σ H _ I h) fun v s1 ⟨x,H1,I1,r1,ty,q1⟩=>?_)
  obtain ⟨h1,h2⟩:=tyV_is I1 r1 ty
  refine ⟨T,id,pa,slot,hty,h1,h2,?_⟩
  have hA:=ha cpos pins s1 σ H1 _ I1 q1
  rw [hs] at hA ⊢
  refine Calls.callWith_builtin (by show (false || (backTo cpos (starEach es X.env)).any (·.1))=false;rw [hplain] <;> rfl) (Calls.evalArgs_plain ?_)
  exact thn hA fun us s2 ⟨vs,H2,I2,r2,q2⟩=>hm pins s2 σ H2 x vs v us Q I2 r1 r2 q2
/- xs.append(e),list.index on a module's tuple .. are MtR facts of 06m -/
end
def MtM (X:Cx) (id:String) (r:V→List V→Hp→VK→Prop):Prop:=
  ∀ (pins:List (Addr × Obj)) (s:Shared) (σ:St) (H:Hp) (x:V) (xs:List V) (v:Value) (us:List Value) (Q:VK),Inv X pins σ H s→RelV x v→Vals xs us→r x xs H Q→
    wpAny (model X.prog X.w) X.A (call (.builtin id) (v::us)) (EP X pins σ Q) X.xe s
theorem Vals.one:∀ {x:V} {us:List Value},Vals [x] us→∃ u,us=[u]∧RelV x u
  | _,_,.cons r .nil=>⟨_,rfl,r⟩
theorem Vals.zero:∀ {us:List Value},Vals [] us→us=[]
  | _,.nil=>rfl
theorem Vals.dropLast {xs:List V} {us:List Value} (h:Vals xs us):Vals xs.dropLast us.dropLast:=by
  induction h with
  | nil=>exact .nil
  | cons r t ih=>
    cases t with
    | nil=>exact .nil
    | cons q t'=>exact .cons r ih
theorem Vals.rep {xs:List V} {us:List Value} (h:Vals xs us):∀ k:Nat,Vals (List.replicate k xs).flatten (List.replicate k us).flatten
  | 0=>.nil
  | k + 1=>by
    rw [List.replicate_succ,List.replicate_succ,List.flatten_cons,List.flatten_cons]
    exact Vals.append h (Vals.rep h k)
theorem erase_last {α:Type} (l:List α):l.eraseIdx (l.length - 1)=l.dropLast:=by
  induction l with
  | nil=>rfl
  | cons a r ih=>
    cases r with
    | nil=>rfl
    | cons b r=>
      have e:(a::b::r).length - 1=((b::r).length - 1) + 1:=by
        have h1:(a::b::r).length=r.length + 2:=rfl
        have h2:(b::r).length=r.length + 1:=rfl
        lia
      rw [e,List.eraseIdx_cons_succ,ih]
      all_goals rfl
theorem foldl_rep (its:List Value):∀ (k:Nat) (acc:List Value),
    List.foldl (fun x1 x2=>x1++x2) acc.toArray (List.replicate k its.toArray)=(acc++(List.replicate k its).flatten).toArray
  | 0,acc=>by simp
  | k + 1,acc=>by
    have e:acc.toArray++its.toArray=(acc++its).toArray:=by simp
    have e2:(acc++its)++(List.replicate k its).flatten=acc++(List.replicate (k + 1) its).flatten:=by
      rw [List.replicate_succ,List.flatten_cons,List.append_assoc]
    rw [← e2,← foldl_rep its k (acc++its),← e,List.replicate_succ,List.foldl_cons]
section
variable {X:Cx} {pins:List (Addr × Obj)} {σ:St} {H:Hp} {s:Shared} {l b:Addr} {xs ys zs:List V}
theorem Inv.lset {its its':List Value} {n:Nat} {f:Array Value→Array Value} {t':Nat} (I:Inv X pins σ H s) (hH:H l=some (.lst xs))
    (e:s.heap.get? l=some { cls:=.type "list",data:=.seq its.toArray n }) (hf:f its.toArray=its'.toArray) (hv:Vals ys its') (hz:ys.length≤sizeLine) :
    Inv X pins σ (upd H l (.lst ys)) { s with heap:=s.heap.update l (Obj.mapSeq f),toks:=t' }:=by
  have q:=PySem.IsL.update e f
  rw [hf] at q
  refine I.write (x:=l) (e:=l) (by rw [hH];exact trivial) (.inl rfl) (fun b' u hb hu=>(Heap.get?_update_other s.heap (Obj.mapSeq f) (Ne.symm hb)).trans hu) ⟨_,q⟩ ?_
  exact ⟨hz,its',_,hv,q⟩
theorem Inv.lnew {its:List Value} {t':Nat} (I:Inv X pins σ H s) (hv:Vals ys its) (hz:ys.length≤sizeLine) :
    Inv X pins σ (upd H s.heap.objs.size (.lst ys)) { s with heap:=s.heap.push { cls:=.type "list",data:=.seq its.toArray },toks:=t' }:=
  I.laid (fun _ _ q=>Heap.get?_push_of_some _ q) (Nat.le_refl _) ⟨hz,its,0,hv,Heap.get?_push_size _ rfl⟩
theorem Inv.fresh (I:Inv X pins σ H s):H s.heap.objs.size=none:=I.hok.fresh (Nat.le_refl _)
theorem Inv.lstM (I:Inv X pins σ H s) (hH:H l=some (.lst xs)):xs.length≤sizeLine∧∃ (its:List Value) (n:Nat),Vals xs its∧xs.length=its.length∧s.heap.get? l=some { cls:=.type "list",data:=.seq its.toArray n }:=by
  obtain ⟨z,its,n,r,e⟩:=I.hok l _ hH
  exact ⟨z,its,n,r,r.length,e⟩
theorem notLongL {n:Nat} (h:n≤sizeLine):Builtin.List.listTooLong n=false:=by
  unfold Builtin.List.listTooLong
  exact decide_eq_false (by lia)
end
section
variable {X:Cx}
def rAppend:V→List V→Hp→VK→Prop:=fun x vs H Q=>∃ l xs y,x=.ref l∧vs=[y]∧H l=some (.lst xs)∧xs.length < sizeLine∧Q .non (upd H l (.lst (xs++[y])))
theorem mt_append:MtM X "list.append" rAppend:=by
  intro pins s σ H x vs v us Q I rx rv h
  obtain ⟨l,xs,y,rfl,rfl,hH,hz,q⟩:=h
  cases rx
  obtain ⟨u,rfl,ru⟩:=rv.one
  obtain ⟨z,its,n,r,hl,e⟩:=I.lstM hH
  refine call_meets F.slot_list_append ⟨_,e,rfl⟩ F.entry_list_append (F.args_list_append_2 _ _) (PySem.list_append l its.toArray n u (by rw [List.size_toArray];lia)) ⟨e,?_⟩
  refine ⟨.non,_,I.lset (its':=its++[u]) hH e (by simp) (r.append (.cons ru .nil)) ?_,rfl,q⟩
  rw [List.length_append,List.length_singleton]
  lia
def rExtend:V→List V→Hp→VK→Prop:=fun x vs H Q=>∃ l b xs zs,x=.ref l∧vs=[.ref b]∧H l=some (.lst xs)∧H b=some (.lst zs)∧xs.length + zs.length≤sizeLine∧Q .non (upd H l (.lst (xs++zs)))
theorem mt_extend:MtM X "list.extend" rExtend:=by
  intro pins s σ H x vs v us Q I rx rv h
  obtain ⟨l,b,xs,zs,rfl,rfl,hH,hB,hz,q⟩:=h
  cases rx
  obtain ⟨u,rfl,ru⟩:=rv.one
  cases ru
  obtain ⟨z,its,n,r,hl,e⟩:=I.lstM hH
  obtain ⟨z2,its2,n2,r2,hl2,e2⟩:=I.lstM hB
  have hsz:its.toArray.size + its2.toArray.size≤sizeLine:=by rw [List.size_toArray,List.size_toArray];lia
  have hlong:¬ (!its.toArray.isEmpty && Builtin.List.listTooLong (its.toArray.size + its2.toArray.size))=true:=by
    rw [notLongL hsz,Bool.and_false]
    exact Bool.false_ne_true
  refine call_meets F.slot_list_extend ⟨_,e,rfl⟩ F.entry_list_extend (F.args_list_extend_2 _ _)
    (AutoSeq1.list_extend_list_list_0 l its.toArray n b its2.toArray n2 hlong (by rw [List.size_toArray];lia) (by lia)) ⟨e,e2,?_⟩
  refine ⟨.non,_,I.lset (its':=its++its2) hH e (by simp) (r.append r2) ?_,rfl,q⟩
  rw [List.length_append]
  lia
def rPop:V→List V→Hp→VK→Prop:=fun x vs H Q=>∃ l xs y,x=.ref l∧vs=[]∧H l=some (.lst xs)∧xs[xs.length - 1]?=some y∧Q y (upd H l (.lst xs.dropLast))
theorem mt_pop:MtM X "list.pop" rPop:=by
  intro pins s σ H x vs v us Q I rx rv h
  obtain ⟨l,xs,y,rfl,rfl,hH,hy,q⟩:=h
  cases rx
  have hus:=rv.zero
  subst hus
  obtain ⟨z,its,n,r,hl,e⟩:=I.lstM hH
  obtain ⟨u,hu,ru⟩:=r.get hy
  have hy':its.toArray[its.toArray.size - 1]?=some u:=by
    show its.toArray[its.length - 1]?=some u
    rw [← Array.getElem?_toList,← hl]
    exact hu
  refine call_meets F.slot_list_pop ⟨_,e,rfl⟩ F.entry_list_pop (F.args_list_pop_1 _) (MeetsSeq.list_pop_last l its.toArray n u hy' (by rw [List.size_toArray];lia)) ⟨e,?_⟩
  refine ⟨y,_,I.lset (its':=its.dropLast) hH e ?_ r.dropLast ?_,ru,q⟩
  · show its.toArray.eraseIdxIfInBounds (its.toArray.size - 1)=its.dropLast.toArray
    rw [List.size_toArray,List.eraseIdxIfInBounds_toArray,erase_last]
  · rw [List.length_dropLast]
    lia
def rCat:R2:=fun x y H Q=>∃ l b xs zs,x=.ref l∧y=.ref b∧H l=some (.lst xs)∧H b=some (.lst zs)∧xs.length + zs.length≤sizeLine∧∀ p,H p=none→Q (.ref p) (upd H p (.lst (xs++zs)))
theorem op_cat:OpR X (binaryOp .Add) rCat:=by
  intro pins s σ H x y v u Q I rx ry h
  obtain ⟨l,b,xs,zs,rfl,rfl,hH,hB,hz,q⟩:=h
  cases rx
  cases ry
  obtain ⟨z,its,n,r,hl,e⟩:=I.lstM hH
  obtain ⟨z2,its2,n2,r2,hl2,e2⟩:=I.lstM hB
  refine PySem.P.add_list e e2 ?_ (by rw [List.size_toArray,List.size_toArray];lia)
  have ea:its.toArray++its2.toArray=(its++its2).toArray:=by simp
  rw [ea]
  exact ⟨.ref _,_,I.lnew (t':=s.toks) (r.append r2) (by rw [List.length_append];lia),rfl,q _ I.fresh⟩
theorem len_rep {α:Type} (xs:List α) (k:Nat):(List.replicate k xs).flatten.length=k * xs.length:=by
  induction k with
  | zero=>simp
  | succ k ih=>rw [List.replicate_succ,List.flatten_cons,List.length_append,ih,Nat.succ_mul,Nat.add_comm]
end
section
variable {prog:Program} {w:World} {A:Around} {E:Value→Shared→Prop} {s:Shared}
set_option maxRecDepth 100000 in
end
section
variable {X:Cx}
end
end L2
namespace Att
open PySem PySem.W PySem.Calls PyProof.Rows
theorem ints_of_wellAll {P:Params} {h:Heap}:∀ (ns:List Int) (vs:List Value),WellAll P h vs (ns.map WData.int)→IntsAre vs ns:=by
  intro ns
  induction ns with
  | nil=>
    intro vs w
    rw [List.map_nil] at w
    cases w
    exact .nil
  | cons n ns ih=>
    intro vs w
    rw [List.map_cons] at w
    cases w with
    | cons a b=>
      cases a
      exact .cons _ _ (ih _ b)
theorem script_of {l:OpenLaw} {n:Nat} (hn:l.most=some n) {P:Params} {h:Heap} {args:List WData} {vals:List Value}
    (hpre:l.row.toRowW.claim.pre args=true) (hwl:WellAll P h vals args) :
    ∃ a vs ns,vals=[Value.ref a]∧args=[WData.list (ns.map WData.int)]∧h.get? a=some { cls:=.type "list",data:=.seq vs.toArray }∧IntsAre vs ns∧ns.length≤n:=by
  have hsh:WShape.hasAll [] args [.list .int]=true:=(pre_splitW hpre).1
  have hc:l.pre.holds [] { args:=args }=true:=(pre_splitW hpre).2
  obtain ⟨d,r,rfl,h1,h2⟩:=hasAllW_cons hsh
  obtain rfl:=hasAllW_nil h2
  obtain ⟨xs,rfl,h3⟩:=hasW_list h1
  obtain ⟨ns,rfl⟩:=items_int h3
  have hlen:ns.length≤n:=by
    unfold OpenLaw.pre at hc
    have h4:(WTm.not (.lt (.lit (.int (n:Int))) (.len (.arg 0)))).holds [] { args:=[.list (ns.map .int)] }=true:=by
      have h4:=(holds_andW hc).1
      rw [hn] at h4
      exact h4
    have h5:=condW_of h4 (w_not (w_lt w_lit (w_len_list (w_arg rfl))))
    rw [List.length_map] at h5
    refine Nat.le_of_not_lt fun q=>?_
    have q':(n:Int) < ((ns.length:Nat):Int):=by lia
    first
      | (rw [decide_eq_true q'] at h5;exact absurd h5 (by decide))
      | (simp at h5;lia)
  cases hwl with
  | cons w1 w2=>
    cases w2
    cases w1 with
    | list ho hall=>exact ⟨_,_,ns,rfl,rfl,ho,ints_of_wellAll ns _ hall,hlen⟩
theorem post_true (l:OpenLaw) (args:List WData):l.row.toRowW.claim.post args (.bool true) args=true:=
  postW_of (r:=l.row.toRowW) (X:=(true == true))
    (show WShape.has [] (.bool true) .bool=true by first | rfl | decide | simp [WShape.has,WShape.arms,WShape.armsAll])
    (show (WTm.eq .res (.lit (.bool true))).value [] { args:=args,res:=some (.bool true),after:=args }=some (.bool (true == true)) from w_eq_bool (w_res rfl) w_lit) rfl
theorem attach_call {l:OpenLaw} {n:Nat} {q:Program} {loose:List Str} {XP:(Str→Option Value)→Heap→Prop} {YP:World→Heap→Prop} {d:DefRec}
    (hn:l.most=some n) (hdf:d.params.defaults=[])
    (call:∀ (w:World) (s₀ s₁:Shared) (mg mb:Str→Option Value) (fa:Addr) (o:Obj) (pm cd doc:Value) (a:Addr) (vs:List Value) (ns:List Int),
      Ground q loose [] XP w s₀ mg mb s₁.heap→YP w s₁.heap→
      s₁.heap.get? fa=some o→o.data=.func (docDef d.name d.params d.body d.scope pm cd doc)→s₁.heap.CodeRec cd d.name→mg d.name=some (.ref fa)→
      s₁.heap.get? a=some { cls:=.type "list",data:=.seq vs.toArray }→IntsAre vs ns→ns.length≤n→s₁.gens=#[]→
      codeAny (model l.prog w) callerA (.call (.ref fa) ⟨[.ref a],[]⟩) (fun r s'=>r=.ok (.ret (.bool true))∧OldK s₁.heap s'.heap∧s'.os=s₁.os∧AllBare s'.gens) s₁) :
    WalkO q loose XP YP l.row.toRowW d [] (fun f vs=>PySem.call f vs):=by
  intro w s₀ s₁ mg mb G Y fa o pm cd doc dV kV ho hd hcd hD hmg hg args vals as hpre hlay hrd hwl hlo
  obtain rfl:dV=.none:=Dflts.none hD hdf
  obtain rfl:kV=.none:=Dflts.noKw hD
  obtain ⟨a,vs,ns,rfl,rfl,hobj,hints,hlen⟩:=script_of hn hpre hwl
  refine enter_call (codeAny_mono (call w s₀ s₁ mg mb fa o pm cd doc a vs ns G Y ho (fd_plain hd) hcd hmg hobj hints hlen hg) fun r s' hq=>?_)
  obtain ⟨rfl,h2,h3,h4⟩:=hq
  exact ⟨.inl ⟨.bool true,.bool true,[],rfl,fun _=>rfl,.bool true,post_true l _,fun _=>⟨List.Pairwise.nil,fun _ hm=>(nomatch hm)⟩⟩,h2,h3,h4⟩
section
variable {prog:Program} {w:World} {A:Around} {E:Value→Shared→Prop} {s:Shared} {K:Frag}
end
end Att
namespace L2
open PySem PySem.Spec PyProof.Rows
theorem vals_ints:∀ {vs:List Value} {ns:List Int},IntsAre vs ns→Vals (ns.map V.int) vs
  | _,_,.nil=>.nil
  | _,_,.cons n t h=>.cons ⟨t,rfl⟩ (vals_ints h)
def Only (H:Hp):Prop:=∀ b,H b=none∨∃ o xs,H b=some (.frz o (.lst xs))
theorem law_call {P:Program} {w:World} {K:Fg} {mg mb:Str→Option Value} {CX:CXT} {k:Nat} {fa a:Addr} {fd:FuncData} {x:Str} {sp:Sp} {s₁:Shared} {vs:List Value} {ns:List Int}
    (KX:K.In s₁.heap) (hns:s₁.heap.Ns mainGlobals mg) (hb:s₁.heap.Ns builtinsNs mb) (hbb:∀ x:Str,x≠"__name__"→mb x=bootBuiltins x) (hlim:s₁.heap.NoLimit) (hg:s₁.gens=#[])
    (ha:s₁.heap.get? a=some { cls:=.type "list",data:=.seq vs.toArray }) (hi:IntsAre vs ns) (hl:ns.length≤sizeLine) (hr:Room k callerA)
    (F:∀ base:Heap,K.In base→base.Ns mainGlobals mg→FnOk P w K mg base CX k fa fd [x] sp) (hbind:∀ (s:Shared) (u:Value),BindsTo s fd ⟨[u],[]⟩ [(x,u)])
    (hsp:∀ H:Hp,Only H→SqL K H a (ns.map V.int)→sp [.ref a] H (fun v _=>v=.bl true) fun _ _ _=>False)
    (hCX:∀ H e s',CX [] H s₁ (fun _ _ _=>False) e s'→False) :
    codeAny (model P w) callerA (.call (.ref fa) ⟨[.ref a],[]⟩) (fun r s'=>r=.ok (.ret (.bool true))∧OldK s₁.heap s'.heap∧s'.os=s₁.os∧AllBare s'.gens) s₁:=by
  have rv:=vals_ints hi
  have lenV:=hi.length
  have core:∀ H:Hp,Only H→SqL K H a (ns.map V.int)→HOk P w H s₁.heap→(∀ b,H b≠none→b=a)→(H a≠none→K.lookup a=none)→
      codeAny (model P w) callerA (.call (.ref fa) ⟨[.ref a],[]⟩) (fun r s'=>r=.ok (.ret (.bool true))∧OldK s₁.heap s'.heap∧s'.os=s₁.os∧AllBare s'.gens) s₁:=by
    intro H hO hS hok hA hK
    have base_of:∀ {b:Addr} {o:Obj},s₁.heap.get? b=some o→H b=none→(hidT s₁.heap H).get? b=some o:=fun e n=>hidT_get e n
    have noA:∀ {b:Addr} {o:Obj} {es:Array DictEntry} {ep:Nat},s₁.heap.get? b=some o→o.data=.dict es ep→H b=none:=fun {b o es ep} e d=>by
      cases q:H b with
      | none=>rfl
      | some u=>
        have e':b=a:=hA b (by rw [q];simp)
        subst e'
        rw [ha] at e;cases e
        have d':Data.seq vs.toArray _=Data.dict es ep:=d
        cases d'
    have nsK:∀ {b:Addr} {m:Str→Option Value},s₁.heap.Ns b m→(hidT s₁.heap H).Ns b m:=fun {b m} ⟨o,es,ep,e,d,r⟩=>⟨o,es,ep,base_of e (noA e d),d,r⟩
    have hKb:K.In (hidT s₁.heap H):=fun b o e=>base_of (KX b o e) (by
      cases q:H b with
      | none=>rfl
      | some u=>
        have e':b=a:=hA b (by rw [q];simp)
        subst e'
        rw [hK (by rw [q];simp)] at e;cases e)
    have hM:Mod K mg (hidT s₁.heap H):=⟨hKb,nsK hns,⟨mb,nsK hb,hbb⟩,let ⟨mc,h1,h2⟩:=hlim;⟨mc,nsK h1,h2⟩⟩
    have e0:Env0 P w K mg (hidT s₁.heap H) callerA [] s₁ H:=⟨rfl,hM,fun b o e=>of_hidT e,Nat.le_of_eq (hidT_size _ _),trivial,fun b hb=>absurd (show b∈([]:List Addr) from hb) (by simp),hok,.of_eq hg⟩
    refine codeAny_mono ((F _ hKb (nsK hns)).run callerA [] s₁ H ⟨[.ref a],[]⟩ [.ref a] [.ref a] _ _ hr e0 (hbind s₁ (.ref a)) (.cons rfl .nil) (hsp H hO hS)) fun r s' h=>?_
    cases r with
    | error e=>exact (hCX H e s' h).elim
    | ok fl=>
      cases fl with
      | next=>exact False.elim h
      | brk=>exact False.elim h
      | cont=>exact False.elim h
      | ret u=>
        obtain ⟨v,H',os,bare,un,hok',r',q⟩:=h
        have q':v=.bl true:=q
        subst q'
        obtain rfl:u=Value.bool true:=r'
        refine ⟨rfl,OldK.of_keep fun b o e=>?_,os,bare⟩
        cases q:H b with
        | none=>exact un.keep b o e q (by intro z;exact absurd (show b∈([]:List Addr) from z) (by simp)) (by simp)
        | some u=>
          rcases hO b with z | ⟨ob,xs,z⟩
          · rw [q] at z;cases z
          · have z2:=un.frzs b ob _ z
            obtain ⟨e1,_⟩:=hok b _ z
            obtain ⟨e2,_⟩:=hok' b _ z2
            rw [e] at e1;cases e1
            exact e2
  cases hk:K.lookup a with
  | some o=>
    have e:=KX a o hk
    rw [ha] at e
    cases e
    refine core (fun _=>none) (fun _=>.inl rfl) (.inr ⟨_,vs.toArray,_,hk,rfl,rfl,rfl,by rw [List.size_toArray,lenV];exact hl,by simpa using rv⟩) (fun b u z=>by have z':(none:Option HO)=some u:=z;cases z') (fun b z=>absurd rfl z) fun z=>absurd rfl z
  | none=>
    refine core (fun b=>if b=a then some (.frz { cls:=.type "list",data:=.seq vs.toArray } (.lst (ns.map V.int))) else none) (fun b=>?_) (.inl (.inr ⟨{ cls:=.type "list",data:=.seq vs.toArray },if_pos rfl⟩)) (fun b u z=>?_) (fun b z=>?_) fun _=>hk
    · by_cases hb:b=a
      · exact .inr ⟨_,_,if_pos hb⟩
      · exact .inl (if_neg hb)
    · by_cases hb:b=a
      · have z':=(if_pos hb).symm.trans z
        cases z'
        subst hb
        exact ⟨ha,by rw [List.length_map];exact hl,vs,_,rv,ha⟩
      · have z':=(if_neg hb).symm.trans z
        cases z'
    · by_cases hb:b=a
      · exact hb
      · exact absurd (if_neg hb) z
theorem walk_of {l:PySem.W.OpenLaw} {n k:Nat} {q:Program} {loose:List Str} {XP:(Str→Option Value)→Heap→Prop} {YP:World→Heap→Prop} {d:DefRec} {K:Params→Fg} {CX:World→CXT} {sp:World→Sp} {x:Str}
    (hn:l.most=some n) (hn2:n≤sizeLine) (hdf:d.params.defaults=[]) (hr:Room k callerA)
    (hY:∀ (w:World) (h:Heap),YP w h→(K w.params).In h)
    (F:∀ (w:World) (mg:Str→Option Value) (fa:Addr) (h:Heap),(K w.params).In h→h.Ns mainGlobals mg→mg d.name=some (.ref fa)→
      ∃ fd:FuncData,(∀ (s:Shared) (u:Value),BindsTo s fd ⟨[u],[]⟩ [(x,u)])∧
        ∀ base:Heap,(K w.params).In base→base.Ns mainGlobals mg→FnOk l.prog w (K w.params) mg base (CX w) k fa fd [x] (sp w))
    (hsp:∀ (w:World) (H:Hp) (a:Addr) (ns:List Int),ns.length≤n→Only H→SqL (K w.params) H a (ns.map V.int)→sp w [.ref a] H (fun v _=>v=.bl true) fun _ _ _=>False)
    (hCX:∀ (w:World) (H:Hp) (s:Shared) (e:Value) (s':Shared),CX w [] H s (fun _ _ _=>False) e s'→False) :
    PySem.W.WalkO q loose XP YP l.row.toRowW d [] (fun f vs=>PySem.call f vs):=by
  refine Att.attach_call hn hdf fun w s₀ s₁ mg mb fa o pm cd doc a vs ns G Y ho hd hcd hmg hobj hints hlen hg=>?_
  have KX:=hY w _ Y
  obtain ⟨fd,hb,hF⟩:=F w mg fa _ KX G.T.g hmg
  exact law_call KX G.T.g G.T.b G.T.builtins G.T.nolimit hg hobj hints (Nat.le_trans hlen hn2) hr hF hb (fun H hO hS=>hsp w H a ns hlen hO hS) fun H e s'=>hCX w H s₁ e s'
end L2
/- THE LAST THEOREM (shape;LID,My.* are yours):
   My.Adr: a structure of the addresses that your layer names (classes,functions);My.Txt K t: a structure (Prop) of the equations over K;
   My.txt_mk:{K} {implicit addresses ..} (e1:nsIn K mainGlobals "law"=some (some (.ref f))) (e2:K.lookup f=some ⟨oc,od,.func (fnOf "law" "law" params body scope dV kV doc pm an cdv ct),sl⟩) (e3:codeIn K cdv "law"=true) ..:∃ t,My.Txt K t
set_option maxRecDepth 100000 in
set_option maxHeartbeats 0 in
theorem PySem.Challenge.cw_LID_holds : PySem.Challenge.rw_LID.Holds := by
  w_on;o_law;k_head;(case hw=>w_witness2)
  k_fill
  refine L2.walk_of (l:=PySem.Challenge.rw_LID) (n:=63) (k:=40) (x:="script") (CX:=fun w=>..) (sp:=fun _=>My.sp_law) rfl (by decide) rfl ⟨rfl,by decide,by decide⟩ (fun w h Y=>PySem.W.kIn_of Y) ?F ?S ?C
  case F=>
    intro w mg fa h KX G hmg
    have T:∃ t,My.Txt (L2.KOf KX) t:=by
      dsimp only [L2.KOf]                          -- K must stand as «<heap const> w.params» for k_is
      refine' My.txt_mk ?e1 ?e2 ?e3 ..
      (case e1=>PySem.W.k_is)                    -- in the order: a name -> its address -> its object -> its parts
      (case e2=>PySem.W.k_is)
      ..
    obtain ⟨t,T⟩:=T
    have e0:=hmg.symm.trans (PySem.W.mg_of KX G T.law)
    cases e0                                       -- fa is the law's own address
    exact ⟨_,fun s u=>.of_eq rfl,fun base kb nb=>My.law_fn T kb nb⟩     -- if «.of_eq rfl» comes too early: refine' ⟨_,?b,fun base kb nb=>My.law_fn T kb nb⟩;exact fun s u=>.of_eq rfl
  case S=>exact fun w H a ns hl hO hS=>..
  case C=>exact ..
(the tactic k_is has no namespace: write k_is) -/
namespace L2
open PySem PySem.Spec PyProof.Rows
def defArgs (s:Stmt):Arguments:=match s with
  | .FunctionDef _ a _ _ _ _ _ _ _ _=>a
  | _=>{ posonlyargs:=[],args:=[],vararg:=none,kwonlyargs:=[],kw_defaults:=[],kwarg:=none,defaults:=[] }
def defBody (s:Stmt):List Stmt:=match s with
  | .FunctionDef _ _ b _ _ _ _ _ _ _=>b
  | _=>[]
def defScope (s:Stmt):Scope:=match s with
  | .FunctionDef _ _ _ _ _ _ sc _ _ _=>sc
  | _=>{ kind:=.function,names:=[],isGenerator:=false,isCoroutine:=false }
abbrev CX0:CXT:=fun _ _ _ _ _ _=>False
abbrev E0:XK:=fun _ _ _=>False
theorem pass0 {X:Cx}:Passes CX0 X E0:=fun _ _ _ _ _ _ _ h=>h.elim
structure Fun (K:Fg) (x qual:Str) (st:Stmt) (f:Addr) (fd:FuncData):Prop where
  ex:∃ (oc:Value) (od:Option Addr) (kV doc pm:Value) (an:Option Addr) (cdv ct:Value) (osl:Array (Option Value)),
    fd=PySem.W.fnOf x qual (defArgs st) (defBody st) (defScope st) .none kV doc pm an cdv ct∧K.lookup f=some ⟨oc,od,.func fd,osl⟩∧PySem.W.codeIn K cdv qual=true
  kp:PySem.W.keepIn K (.ref f)=true
section
variable {P:Program} {w:World} {K:Fg} {mg:Str→Option Value} {base:Heap}
theorem Fun.ok {x qual:Str} {st:Stmt} {f:Addr} {fd:FuncData} {N ps:List Str} {k:Nat} {sp:Sp} (F:Fun K x qual st f fd) (S:FnScope N ps (defScope st)) (len:∀ vs H Q E,sp vs H Q E→vs.length=ps.length)
    (hbody:∀ (cdv:Value) (A:Around) (outer:List Env) (s:Shared) (H:Hp) (vs:List V) (Q:VK) (E:XK),Room k (A.deeper (envOfC qual (defScope st) s.heap.objs.size f cdv))→sp vs H Q E→
      ∃ t,PSs (cxOf CX0 P w K mg base N qual (defScope st) f cdv A outer s H E).nox (defBody st) t∧t { nx:=fun _ H'=>Q .non H',rt:=Q } (start N vs) H):FnOk P w K mg base CX0 (k + 1) f fd ps sp:=by
  obtain ⟨oc,od,kV,doc,pm,an,cdv,ct,osl,rfl,lk,hcd⟩:=F.ex
  refine fn_of lk hcd S len fun A outer s H vs Q E hr hsp=>?_
  obtain ⟨t,h,q⟩:=hbody cdv A outer s H vs Q E hr hsp
  exact ⟨t,h.nox,q⟩
theorem Fun.binds {x qual:Str} {st:Stmt} {f:Addr} {fd:FuncData} {ps:List Str} (F:Fun K x qual st f fd)
    (h:∀ (kV doc pm:Value) (an:Option Addr) (cdv ct:Value) (us:List Value),us.length=ps.length→bindArgs (PySem.W.fnOf x qual (defArgs st) (defBody st) (defScope st) .none kV doc pm an cdv ct) ⟨us,[]⟩=pure (ps.zip us)):Binds K fd ps []:=by
  obtain ⟨oc,od,kV,doc,pm,an,cdv,ct,osl,rfl,lk,hcd⟩:=F.ex
  exact .all (h kV doc pm an cdv ct)
theorem fun_mk {x qual:Str} {st:Stmt} {f:Addr} {oc:Value} {od an:Option Addr} {osl:Array (Option Value)} {kV doc pm cdv ct:Value} (l:K.lookup f=some ⟨oc,od,.func (PySem.W.fnOf x qual (defArgs st) (defBody st) (defScope st) .none kV doc pm an cdv ct),osl⟩)
    (c:PySem.W.codeIn K cdv qual=true) (k:PySem.W.keepIn K (.ref f)=true):Fun K x qual st f (PySem.W.fnOf x qual (defArgs st) (defBody st) (defScope st) .none kV doc pm an cdv ct):=⟨⟨oc,od,kV,doc,pm,an,cdv,ct,osl,rfl,l,c⟩,k⟩
end
theorem hu_of {A:Around} {k:Nat} (hr:Room k A):A.units + 1 < cLine:=Nat.lt_of_le_of_lt (Nat.add_le_add_left (by decide:1≤64) _) hr.units
section
variable {X:Cx}
theorem pv (i:Nat) {x:Str} {pos:Pos} (hN:X.N[i]?=some x:=by rfl) (hv:Vis X.env.scope x:=by first | exact Or.inl rfl | exact Or.inr (Or.inl rfl) | exact Or.inr (Or.inr rfl)) (hd:(x == ("__debug__":Str))=false:=by decide)
    (hcd:(x == ("__classdict__":Str))=false:=by decide):PE X (.Name x pos) (tVar i):=pe_var hN hv hd hcd
end
theorem iteF {A B:Prop} (h:B):if false=true then A else B:=by
  rw [if_neg Bool.false_ne_true]
  exact h
theorem iteT {A B:Prop} (h:A):if true=true then A else B:=by
  rw [if_pos rfl]
  exact h
def Same (H H':Hp):Prop:=∀ b o,H b=some o→H' b=some o
theorem Same.refl (H:Hp):Same H H:=fun _ _ h=>h
theorem Same.trans {H H1 H2:Hp} (a:Same H H1) (b:Same H1 H2):Same H H2:=fun c o h=>b c o (a c o h)
theorem Same.free {H H':Hp} (e:Same H H') {l:Addr} (h:H' l=Option.none):H l=Option.none:=by
  cases q:H l with
  | none=>rfl
  | some o=>
    rw [e l o q] at h
    cases h
section
variable {prog:Program} {w:World} {A:Around} {R:Result→Shared→Prop} {s:Shared}
theorem compLoop_own {elt target iter:Expr} {ifs:List Expr} {scope:Scope} {pos:Pos} {it acc:Value} {env:Env} (I:Nat→Shared→Prop)
    (turn:∀ n s,I n s→wpAny (model prog w) A (pyNext it) (fun r s₁=>match r with
      | none=>R (.ok .next) s₁
      | some v=>wpAny (model prog w) A (letOwnedTupleGo target it v) (fun _ s₁=>wpAny (model prog w) A (assign target env v) (fun _ s₂=>
          wpAny (model prog w) A (forIn ifs true fun c r=>if r=true then do let ok ← isTrue c env (eval c env);pure (ForInStep.yield ok) else pure (ForInStep.yield r)) (fun ok s₃=>
            if ok=true then wpAny (model prog w) A (eval elt env) (fun x s₄=>
              wpAny (model prog w) A (call (.builtin "list.append") [acc,x]) (fun _ s₅=>∃ m,m < n∧I m s₅) (fun _ _=>False) s₄) (fun _ _=>False) s₃
            else ∃ m,m < n∧I m s₃) (fun _ _=>False) s₂) (fun _ _=>False) s₁) (fun _ _=>False) s₁) (fun _ _=>False) s)
    (n:Nat) (h:I n s) :
    codeAny (model prog w) A (.compLoop (.ListComp elt [⟨target,iter,ifs,0⟩] scope pos) 0 it acc env) R s:=by
  refine codeAny_loop rfl I (fun n s hI=>?_) n h
  show wpAny _ A ((compTurn (.ListComp elt [⟨target,iter,ifs,0⟩] scope pos) 0 it acc env).onRaise (fun x=>do noteFrame x env;theTreesLotGoes x)) _ _ s
  refine wpAny_noted ?_
  rw [compTurn_list]
  refine wpAny_bind (wpAny_standAt (wpAny_bind (wpAny_mono (turn n s hI) (fun r s₁ h₁=>?_) fun _ _ h'=>h'.elim)))
  cases r with
  | none=>exact wpAny_pure h₁
  | some v=>
    refine wpAny_bind (wpAny_mono h₁ (fun _ s₁' h₁'=>?_) fun _ _ h'=>h'.elim)
    refine wpAny_bind (wpAny_mono h₁' (fun _ s₂ h₂=>wpAny_bind (wpAny_mono h₂ (fun ok s₃ h₃=>?_) fun _ _ h'=>h'.elim)) fun _ _ h'=>h'.elim)
    cases ok with
    | false=>exact wpAny_pure ⟨rfl,h₃⟩
    | true=>
      exact wpAny_bind (wpAny_bind (wpAny_mono h₃ (fun x s₄ h₄=>wpAny_bind (wpAny_mono h₄ (fun _ s₅ h₅=>wpAny_pure (wpAny_pure ⟨rfl,h₅⟩)) fun _ _ h'=>h'.elim)) fun _ _ h'=>h'.elim))
end
theorem closure_go {env:Env} {f:Str × NameKind→List (Str × Addr)→Sem (ForInStep (List (Str × Addr)))}
    (hf:∀ n k cs,f (n,k) cs=if (k == NameKind.free)=true then (do let c ← cellOf env n;pure (.yield ((n,c)::cs))) else pure (.yield cs)) :
    ∀ (names:List (Str × NameKind)) (cs:List (Str × Addr)),(∀ x∈names,x.2=NameKind.free→∃ c,env.cells.lookup x.1=some c)→(∀ n c,cs.lookup n=some c→env.cells.lookup n=some c)→
      ∃ cl,(forIn names cs f:Sem (List (Str × Addr)))=pure cl∧(∀ n c,cl.lookup n=some c→env.cells.lookup n=some c)∧(∀ n,(cs.lookup n).isSome=true→(cl.lookup n).isSome=true)∧∀ x∈names,x.2=NameKind.free→(cl.lookup x.1).isSome=true
  | [],cs,_,h2=>⟨cs,rfl,h2,fun _ h=>h,fun _ h=>nomatch h⟩
  | (n,k)::r,cs,h1,h2=>by
    have h1r:∀ x∈r,x.2=NameKind.free→∃ c,env.cells.lookup x.1=some c:=fun x hx=>h1 x (List.mem_cons_of_mem _ hx)
    rw [List.forIn_cons,hf]
    by_cases hk:k=NameKind.free
    · subst hk
      obtain ⟨c,hc⟩:=h1 (n,NameKind.free) List.mem_cons_self rfl
      have h2':∀ m d,((n,c)::cs).lookup m=some d→env.cells.lookup m=some d:=fun m d hd=>by
        rw [List.lookup_cons] at hd
        cases e:(m == n) with
        | true=>
          rw [e] at hd
          have:m=n:=by simpa using e
          rw [this];cases hd;exact hc
        | false=>rw [e] at hd;exact h2 m d hd
      obtain ⟨cl,e1,e2,e3,e4⟩:=closure_go hf r ((n,c)::cs) h1r h2'
      refine ⟨cl,?_,e2,fun m hm=>e3 m ?_,fun x hx hk=>?_⟩
      · rw [← e1]
        have ec:cellOf env n=pure c:=by unfold cellOf;rw [hc]
        rw [ec]
        rfl
      · rw [List.lookup_cons]
        cases e:(m == n) with
        | true=>rfl
        | false=>exact hm
      · rcases List.mem_cons.mp hx with rfl | hx
        · exact e3 n (by rw [List.lookup_cons,beq_self_eq_true];rfl)
        · exact e4 x hx hk
    · have hb:(k == NameKind.free)=false:=by simpa using hk
      obtain ⟨cl,e1,e2,e3,e4⟩:=closure_go hf r cs h1r h2
      refine ⟨cl,?_,e2,e3,fun x hx hk'=>?_⟩
      · rw [← e1,hb]
        rfl
      · rcases List.mem_cons.mp hx with rfl | hx
        · exact absurd hk' hk
        · exact e4 x hx hk'
theorem closure_of {scope:Scope} {env:Env} (h1:∀ x∈scope.names,x.2=NameKind.free→∃ c,env.cells.lookup x.1=some c) :
    ∃ cl,closureFor scope env=pure cl∧(∀ n c,cl.lookup n=some c→env.cells.lookup n=some c)∧∀ x∈scope.names,x.2=NameKind.free→(cl.lookup x.1).isSome=true:=by
  obtain ⟨cl,e1,e2,_,e4⟩:=closure_go (env:=env) (f:=fun (x:Str × NameKind) cs=>if (x.2 == NameKind.free)=true then (do let c ← cellOf env x.1;pure (.yield ((x.1,c)::cs))) else pure (.yield cs)) (fun _ _ _=>rfl) scope.names [] h1 (fun _ _ h=>nomatch h)
  refine ⟨cl,Eq.trans (show closureFor scope env=((forIn scope.names ([]:List (Str × Addr)) fun (x:Str × NameKind) cs=>if (x.2 == NameKind.free)=true then (do let c ← cellOf env x.1;pure (.yield ((x.1,c)::cs))) else pure (.yield cs)) >>= fun cs=>pure cs) from rfl) ?_,e2,e4⟩
  rw [e1]
  all_goals rfl
theorem lookup_relabel {env:Env} {x:Str}:∀ (names:List (Str × NameKind)),
    (names.map fun (n,k)=>if (k == NameKind.free && env.scope.kind == .function && env.kindOf n == some .cell) then (n,NameKind.cell) else (n,k)).lookup x =
      (names.lookup x).map fun k=>if (k == NameKind.free && env.scope.kind == .function && env.kindOf x == some .cell) then NameKind.cell else k
  | []=>rfl
  | (n,k)::r=>by
    have ih:=lookup_relabel (env:=env) (x:=x) r
    show List.lookup x ((if (k == NameKind.free && env.scope.kind == .function && env.kindOf n == some .cell)=true then (n,NameKind.cell) else (n,k))::_)=_
    cases hx:x == n with
    | true=>
      have e:x=n:=by simpa using hx
      subst e
      by_cases hc:(k == NameKind.free && env.scope.kind == .function && env.kindOf x == some .cell)=true
      · rw [if_pos hc];simp only [List.lookup_cons,hx,Option.map_some,if_pos hc]
      · rw [if_neg hc];simp only [List.lookup_cons,hx,Option.map_some,if_neg hc]
    | false=>
      by_cases hc:(k == NameKind.free && env.scope.kind == .function && env.kindOf n == some .cell)=true
      · rw [if_pos hc];simp only [List.lookup_cons,hx];exact ih
      · rw [if_neg hc];simp only [List.lookup_cons,hx];exact ih
theorem rel_free {scope:Scope} {env:Env} {x:Str} (hcell:∀ y∈scope.names,y.2≠NameKind.cell) (h:(relabel scope env).names.lookup x=some .cell∨(relabel scope env).names.lookup x=some .free):scope.names.lookup x=some .free:=by
  have e:(relabel scope env).names.lookup x=_:=lookup_relabel (env:=env) (x:=x) scope.names
  rw [e] at h
  cases q:scope.names.lookup x with
  | none=>rw [q] at h;rcases h with h | h <;> cases h
  | some k=>
    rw [q] at h
    by_cases hk:k=NameKind.free
    · rw [hk]
    · have hb:(k == NameKind.free)=false:=by simpa using hk
      simp only [Option.map_some,hb,Bool.false_and,Bool.false_eq_true,if_false] at h
      rcases h with h | h
      · cases h;exact absurd rfl (hcell _ (PySem.mem_of_lookup q))
      · exact h
theorem rel_any {scope:Scope} {env:Env} {x:Str} (h:(relabel scope env).names.lookup x≠none):scope.names.lookup x≠none:=by
  have e:(relabel scope env).names.lookup x=_:=lookup_relabel (env:=env) (x:=x) scope.names
  intro q
  rw [e,q] at h
  exact h rfl
structure CompOk (sc:Scope) (N:List Str) (scope:Scope) (NY:List Str) (js:List Nat):Prop where
  kind:scope.kind=.function
  cell:∀ y∈scope.names,y.2≠NameKind.cell
  names:∀ x∈scope.names,x.2=NameKind.local→scope.names.lookup x.1=some .local
  free:∀ x∈scope.names,x.2=NameKind.free→sc.names.lookup x.1=some .cell∨sc.names.lookup x.1=some .free
  pre:NY.take N.length=N
  cap:∀ p∈N.zipIdx,js.contains p.2=true∨scope.names.lookup p.1=none∨scope.names.lookup p.1=some .free
def emS (js:List Nat) (k:Nat) (σ:St):St:=js.foldl (fun s j=>s.set j none) σ++List.replicate k none
theorem clear_len:∀ (js:List Nat) (σ:St),(js.foldl (fun s j=>s.set j none) σ).length=σ.length
  | [],_=>rfl
  | j::r,σ=>by rw [List.foldl_cons,clear_len r,List.length_set]
theorem clear_get:∀ (js:List Nat) (σ:St) (i:Nat) (v:V),(js.foldl (fun s j=>s.set j none) σ)[i]?=some (some v)→σ[i]?=some (some v)∧js.contains i=false
  | [],σ,i,v,h=>⟨h,rfl⟩
  | j::r,σ,i,v,h=>by
    rw [List.foldl_cons] at h
    obtain ⟨h1,h2⟩:=clear_get r _ i v h
    by_cases e:j=i
    · subst e
      by_cases hj:j < σ.length
      · rw [List.getElem?_set_self hj] at h1;cases h1
      · rw [List.getElem?_eq_none (by rw [List.length_set];lia)] at h1;cases h1
    · rw [List.getElem?_set_ne e] at h1
      refine ⟨h1,?_⟩
      rw [List.contains_cons,h2]
      have:(i == j)=false:=by simpa using fun z=>e z.symm
      rw [this];rfl
theorem emS_get {js:List Nat} {k:Nat} {σ:St} {i:Nat} {v:V} (h:(emS js k σ)[i]?=some (some v)):σ[i]?=some (some v)∧js.contains i=false:=by
  unfold emS at h
  by_cases hi:i < σ.length
  · rw [List.getElem?_append_left (by rw [clear_len];exact hi)] at h
    exact clear_get js σ i v h
  · rw [List.getElem?_append_right (by rw [clear_len];lia),List.getElem?_replicate] at h
    split at h <;> cases h
theorem emS_len {js:List Nat} {k:Nat} {σ:St}:(emS js k σ).length=σ.length + k:=by
  unfold emS
  rw [List.length_append,clear_len,List.length_replicate]
def cxComp (X:Cx) (NY:List Str) (scope:Scope) (cl:List (Str × Addr)) (C:Addr) (s₀:Shared) (H₀:Hp) (fp:List Addr):Cx:=
  { X with N:=NY,s₀:=s₀,H₀:=H₀,env:=compEnvC scope cl C X.env,outer:=X.stack,ex:=fp,fn:=fun _=>false,pn:=[],xe:=fun _ _=>False }
def PIfs (X:Cx) (ifs:List Expr) (t:TT):Prop:=
  ∀ (pins:List (Addr × Obj)) (s:Shared) (σ:St) (H:Hp) (Q:Bool→Hp→Prop),Inv X pins σ H s→t σ H Q→
    wpAny (model X.prog X.w) X.A (forIn ifs true fun c r=>if r=true then do let ok ← isTrue c X.env (eval c X.env);pure (ForInStep.yield ok) else pure (ForInStep.yield r)) (TP X pins σ Q) X.xe s
def tYes:TT:=fun _ H Q=>Q true H
theorem pif_nil {X:Cx}:PIfs X [] tYes:=fun _ _ _ H _ I h=>wpAny_tests_nil ⟨H,I,h⟩
theorem pif_one {X:Cx} {c:Expr} {t:TT} (h:PT X c t):PIfs X [c] t:=fun pins s σ H Q I q=>wpAny_tests_one (h pins s σ H Q I q)
def sApp (D:Addr) (tc:TT) (te:TE):TS:=fun E σ H=>tc σ H fun b H1=>if b=true then te σ H1 fun y H2=>∃ ys,H2 D=some (.lst ys)∧ys.length < sizeLine∧E.nx σ (upd H2 D (.lst (ys++[y]))) else E.nx σ H1
def tComp (js:List Nat) (k:Nat) (wi:TI) (g:TG) (tc:TT) (te:TE):TE:=fun σ H Q=>wi σ H fun J H1=>∀ D,H1 D=none→
  ∃ W:Nat→Nat→St→Hp→Prop,(∃ m,W 0 m (emS js k σ) (upd H1 D (.lst [])))∧∀ i m σ H,W i m σ H→
    (J.stop i H∧Q (.ref D) H)∨(J.go i H∧∃ N:St→Hp→Prop,(∀ σ' H',N σ' H'→∃ m',m' < m∧W (i + 1) m' σ' H')∧∀ x H',J.yld i H x H'→g x σ H' fun σ2 H2=>sApp D tc te { nx:=N,rt:=fun _ _=>False,ct:=N,bk:=fun _ H'=>Q (.ref D) H' } σ2 H2)
section
variable {X:Cx} {pins:List (Addr × Obj)} {σ:St} {H2:Hp} {s₂:Shared} {N NY:List Str} {sc scope:Scope} {cl:List (Str × Addr)} {C:Addr} {fp:List Addr} {js:List Nat} {k:Nat}
theorem comp_ok (I2:Inv X pins σ H2 s₂) (hf:∀ b∈fp,FpOk X pins H2 b) (hfl:∀ b∈fp,∃ o,s₂.heap.get? b=some o) (hkind:scope.kind=.function) (hcell:∀ y∈scope.names,y.2≠NameKind.cell)
    (hcl1:∀ n c,cl.lookup n=some c→X.env.cells.lookup n=some c) (hcl2:∀ x∈scope.names,x.2=NameKind.free→(cl.lookup x.1).isSome=true) (hC:s₂.heap.objs.size≤C) :
    (cxComp X NY scope cl C s₂ H2 fp).Ok where
  mod:=I2.ok.mod
  kind:=hkind
  glob:=I2.ok.glob
  blt:=I2.ok.blt
  above:=hC
  inj:=fun x y c h1 h2=>I2.ok.inj x y c (hcl1 x c h1) (hcl1 y c h2)
  has:=fun x hx=>by
    have e:scope.names.lookup x=some .free:=rel_free (env:=X.env) hcell hx
    exact Option.isSome_iff_exists.mp (hcl2 (x,.free) (PySem.mem_of_lookup e) rfl)
  cab:=fun _ _ h _=>nomatch h
  hd:=I2.ok.hd
  frames:=I2.ok.frames
  stk:=.inl rfl
  exf:=fun b hb=>by
    obtain ⟨o,ho⟩:=hfl b hb
    exact ⟨Nat.ne_of_lt (Nat.lt_of_lt_of_le (Heap.lt_size ho) hC),fun x c h=>(hf b hb).2.2.2.2.1 x c (hcl1 x c h)⟩
  bs:=I2.bs
  bsz:=Nat.le_trans I2.ok.bsz I2.sz
  noex:=fun b o e hb=>by
    rcases (hf b hb).2.2.2.1 with z | z
    · exact I2.ok.noex b o e z
    · exact absurd (Nat.lt_of_lt_of_le (Heap.lt_size e) (Nat.le_trans I2.ok.bsz z)) (Nat.lt_irrefl _)
  exfs:=fun b hb z=>by
    rcases List.mem_cons.mp (I2.stkSub b z) with e | e
    · exact (hf b hb).2.1 e
    · exact (hf b hb).2.2.1 e
  funs:=I2.stack
  frf:=I2.stkFree
variable {elt iter target:Expr} {ifs:List Expr} {pos:Pos} {it:Addr} {tn:Nat→Heap→Prop} {J:It} {g:TG} {tc:TT} {te:TE} {Q:VK} {RR:Value→Addr→Result→Shared→Prop} {E:Value→Shared→Prop}
theorem comp_block (ok:CompOk sc N scope NY js) (hsc:X.env.scope=sc) (hN:X.N=N) (hk:NY.length=N.length + k) (hc:X.calm=true) (I2:Inv X pins σ H2 s₂) (T:Turn X.prog X.w X.K target J fp it tn) (st2:tn 0 s₂.heap) (f2:∀ b∈fp,FpOk X pins H2 b)
    (hcl1:∀ n c,cl.lookup n=some c→X.env.cells.lookup n=some c) (hcl2:∀ x∈scope.names,x.2=NameKind.free→(cl.lookup x.1).isSome=true)
    (hg:∀ cl C s₀ H₀ fp,PG (cxComp X NY scope cl C s₀ H₀ fp) target g) (hi:∀ cl C s₀ H₀ fp,PIfs (cxComp X NY scope cl C s₀ H₀ fp) ifs tc) (he:∀ cl C s₀ H₀ fp,PE (cxComp X NY scope cl C s₀ H₀ fp) elt te)
    (loop:∀ D,H2 D=none→
      ∃ W:Nat→Nat→St→Hp→Prop,(∃ m,W 0 m (emS js k σ) (upd H2 D (.lst [])))∧∀ i m σ H,W i m σ H→
        (J.stop i H∧Q (.ref D) H)∨(J.go i H∧∃ N:St→Hp→Prop,(∀ σ' H',N σ' H'→∃ m',m' < m∧W (i + 1) m' σ' H')∧∀ x H',J.yld i H x H'→g x σ H' fun σ2 H2=>sApp D tc te { nx:=N,rt:=fun _ _=>False,ct:=N,bk:=fun _ H'=>Q (.ref D) H' } σ2 H2))
    (hRR:∀ D C H' s' m,s'.heap.Ns C m→Inv X pins σ H' s'→H' C=none→C≠X.env.locals→X.s₀.heap.objs.size≤C→(∀ x c,X.env.cells.lookup x=some c→c≠C)→(∀ p∈X.pn++pins,p.1≠C)→D≠C→Q (.ref D) H'→RR (.ref D) C (.ok .next) s') :
    wpAny (model X.prog X.w) X.A (newList []) (fun acc s₃=>wpAny (model X.prog X.w) X.A (newFunctionEnv scope X.env.globals cl [] X.env.qual none .none (some X.env)) (fun cenv s₄=>
      codeAny (model X.prog X.w) X.A (.compStart (.ListComp elt [⟨target,iter,ifs,0⟩] scope pos) 0 (.ref it) acc { cenv with scope:=relabel scope X.env }) (RR acc cenv.locals) s₄) E s₃) E s₂:=by
  refine wpAny_newObj_type (wpAny_newFunctionEnv ok.cell (by intro y hy;simp at hy) (fun h₁ hns₁ hsb₁=>?_) ok.kind)
  dsimp only at hns₁ hsb₁ ⊢
  generalize hG:s₂.heap.push { cls:=.type "list",dict:=none,data:=.seq ([]:List Value).toArray }=G at hns₁ hsb₁ ⊢
  have hC:G.objs.size=s₂.heap.objs.size + 1:=by rw [← hG,Heap.size_push]
  have hDC:s₂.heap.objs.size≠G.objs.size:=by rw [hC];exact Nat.ne_of_lt (Nat.lt_succ_self _)
  have hCle:s₂.heap.objs.size≤G.objs.size:=by rw [hC];exact Nat.le_succ _
  have below:∀ b,b < s₂.heap.objs.size→b≠G.objs.size:=fun b hb=>by rw [hC];exact Nat.ne_of_lt (Nat.lt_succ_of_lt hb)
  have old:∀ b o,s₂.heap.get? b=some o→h₁.get? b=some o:=fun b o e=>hsb₁.extBut b o (below b (Heap.lt_size e)) (Heap.get?_push_of_some _ (hG ▸ Heap.get?_push_of_some _ e))
  have hacc:h₁.get? s₂.heap.objs.size=some { cls:=.type "list",dict:=none,data:=.seq ([]:List Value).toArray }:=hsb₁.extBut _ _ hDC (Heap.get?_push_of_some _ (hG ▸ Heap.get?_push_size _ rfl))
  have hfl:∀ b∈fp,∃ o,s₂.heap.get? b=some o:=fun b hb=>let ⟨o,ho,_⟩:=T.obj 0 _ st2 b hb;⟨o,ho⟩
  have fD:H2 s₂.heap.objs.size=none:=I2.hok.fresh (Nat.le_refl _)
  have fC:H2 G.objs.size=none:=I2.hok.fresh hCle
  have I4:Inv (cxComp X NY scope cl G.objs.size s₂ H2 fp) [] (emS js k σ) (upd H2 s₂.heap.objs.size (.lst [])) { s₂ with heap:=h₁,toks:=s₂.toks + ([]:List (Str × Value)).length }:=by
    refine ⟨comp_ok I2 f2 hfl ok.kind ok.cell hcl1 hcl2 hCle,rfl,I2.bare,Un.laid old (Nat.le_refl _) fD,⟨_,hns₁,fun i y v h1 h2 h3=>?_⟩,fun x c h=>?_,?_,fun x c h=>?_,fun p hp=>absurd (show p∈([]:List (Addr × Obj)) from hp) (by simp),I2.hok.laid old (Nat.le_refl _) ⟨Nat.zero_le _,[],0,.nil,hacc⟩,?_⟩
    · obtain ⟨e1,e2⟩:=emS_get h2
      have hi:i < N.length:=by
        have:=(List.getElem?_eq_some_iff.mp e1).1
        rw [I2.len,hN] at this;exact this
      have hy:N[i]?=some y:=by
        rw [← ok.pre,List.getElem?_take_of_lt hi];exact h1
      have hz:(y,i)∈N.zipIdx:=by
        rw [List.mem_zipIdx_iff_getElem?];exact hy
      have nn:scope.names.lookup y≠none:=rel_any (env:=X.env) (x:=y) (by
        rcases h3 with z | z | z
        · intro q;rw [show (relabel scope X.env).names.lookup y=_ from z] at q;cases q
        · intro q;rw [show (relabel scope X.env).names.lookup y=_ from z] at q;cases q
        · intro q;rw [show (relabel scope X.env).names.lookup y=_ from z] at q;cases q)
      have hfr:scope.names.lookup y=some .free:=by
        rcases ok.cap (y,i) hz with z | z | z
        · rw [e2] at z;cases z
        · exact absurd z nn
        · exact z
      have hX:=ok.free (y,.free) (PySem.mem_of_lookup hfr) rfl
      rw [← hsc] at hX
      obtain ⟨m,hn,hl⟩:=I2.loc
      obtain ⟨u,ru,lk⟩:=hl i y v (by rw [hN];exact hy) e1 (by
        rcases hX with z | z
        · exact .inr (.inl z)
        · exact .inr (.inr z))
      refine ⟨u,ru,?_⟩
      rcases lk with ⟨lk,_⟩ | ⟨_,c,hc1,hc2⟩
      · have lk:X.env.scope.names.lookup y=some .local:=lk
        rcases hX with z | z <;> · rw [z] at lk;cases lk
      · have hs:=hcl2 (y,.free) (PySem.mem_of_lookup hfr) rfl
        obtain ⟨c',hc'⟩:=Option.isSome_iff_exists.mp hs
        have e3:=hcl1 y c' hc'
        rw [hc1] at e3;cases e3
        refine .inr ⟨?_,c,hc',hc2.keeps old⟩
        show (relabel scope X.env).names.lookup y=some .cell∨(relabel scope X.env).names.lookup y=some .free
        have e:(relabel scope X.env).names.lookup y=_:=lookup_relabel (env:=X.env) (x:=y) scope.names
        rw [e,hfr,Option.map_some]
        split
        · exact .inl rfl
        · exact .inr rfl
    · obtain ⟨v,q⟩:=I2.cell x c (hcl1 x c h)
      exact ⟨v,q.keeps old⟩
    · show upd H2 s₂.heap.objs.size (.lst []) G.objs.size=none
      rw [upd_ne (Ne.symm hDC)];exact fC
    · have q:=I2.freeC x c (hcl1 x c h)
      obtain ⟨v,o,ho,_⟩:=I2.cell x c (hcl1 x c h)
      show upd H2 s₂.heap.objs.size (.lst []) c=none
      rw [upd_ne (Nat.ne_of_lt (Heap.lt_size ho))];exact q
    · show (emS js k σ).length=NY.length
      rw [emS_len,I2.len,hN,hk]
  have st4:tn 0 h₁:=T.keep _ _ _ st2 fun b _ o e=>old b o e
  obtain ⟨W,⟨m0,w0⟩,turn⟩:=loop s₂.heap.objs.size fD
  have stat:∀ {H':Hp},(∀ b∈fp,H' b=none)→∀ b∈fp,FpOk (cxComp X NY scope cl G.objs.size s₂ H2 fp) [] H' b:=fun hn b hb=>by
    obtain ⟨o,ho⟩:=hfl b hb
    refine ⟨hn b hb,below b (Heap.lt_size ho),fun z=>?_,.inl hb,fun x c h=>(f2 b hb).2.2.2.2.1 x c (hcl1 x c h),fun p hp=>absurd (show p∈([]:List (Addr × Obj)) from hp) (by simp)⟩
    rcases List.mem_cons.mp (I2.stkSub b z) with e | e
    · exact (f2 b hb).2.1 e
    · exact (f2 b hb).2.2.1 e
  have go:∀ s₄:Shared,s₄={ s₂ with heap:=h₁,toks:=s₂.toks + ([]:List (Str × Value)).length }→
      codeAny (model X.prog X.w) X.A (.compLoop (.ListComp elt [⟨target,iter,ifs,0⟩] scope pos) 0 (.ref it) (.ref s₂.heap.objs.size) (compEnvC scope cl G.objs.size X.env)) (RR (.ref s₂.heap.objs.size) G.objs.size) s₄:=by
    rintro s₄ rfl
    refine compLoop_own (fun n s'=>∃ i σ' H',Inv (cxComp X NY scope cl G.objs.size s₂ H2 fp) [] σ' H' s'∧tn i s'.heap∧(∀ b∈fp,H' b=none)∧W i n σ' H') ?_ m0
      ⟨0,_,_,I4,st4,fun b hb=>by
        obtain ⟨o,ho⟩:=hfl b hb
        rw [upd_ne (Nat.ne_of_lt (Heap.lt_size ho))];exact (f2 b hb).1,w0⟩
    rintro n s3 ⟨i,σ3,H3,I3,st3,fr3,w3⟩
    rcases turn i n σ3 H3 w3 with ⟨stop,qn⟩ | ⟨go,Nx,hNx,step⟩
    · refine thn (T.done (cxComp X NY scope cl G.objs.size s₂ H2 fp) rfl rfl rfl hc i [] s3 σ3 H3 _ I3 (stat fr3) st3 stop) fun r s5 ⟨hr,I5⟩=>?_
      subst hr
      have IX:Inv X pins σ H3 s5:=I2.call' (ch:=fp) I5.os I5.base I5.hok I5.bare fun b hb=>⟨(f2 b hb).2.2.2.1,(f2 b hb).2.1,(f2 b hb).2.2.2.2.1,(f2 b hb).2.2.2.2.2⟩
      obtain ⟨m,hm,_⟩:=I5.loc
      refine hRR _ _ H3 s5 m hm IX I5.free (fun z=>?_) (Nat.le_trans I2.sz hCle) (fun x c h z=>?_) (fun p hp z=>?_) hDC qn
      · have:=I2.lt;rw [← z] at this;exact Nat.lt_irrefl _ (Nat.lt_of_lt_of_le this hCle)
      · obtain ⟨v,o,ho,_⟩:=I2.cell x c h
        have:=Heap.lt_size ho;rw [z] at this;exact Nat.lt_irrefl _ (Nat.lt_of_lt_of_le this hCle)
      · have:=Heap.lt_size (I2.pin p hp).1;rw [z] at this;exact Nat.lt_irrefl _ (Nat.lt_of_lt_of_le this hCle)
    · refine thn (T.item (cxComp X NY scope cl G.objs.size s₂ H2 fp) rfl rfl rfl hc i [] s3 σ3 H3 _ I3 (stat fr3) st3 go) fun r s5 ⟨u,hr,h5⟩=>?_
      subst hr
      refine thn h5 fun _ s6 ⟨x,H6,I6,r6,y6,st6,fr6⟩=>?_
      have I6':=I6.pinned (stat fr6) (T.obj _ _ st6)
      have again:∀ {σ7:St} {H7:Hp} {s7:Shared},Inv (cxComp X NY scope cl G.objs.size s₂ H2 fp) ([]++pinsAt fp s6.heap) σ7 H7 s7→Nx σ7 H7→∃ m,m < n∧∃ i σ' H',Inv (cxComp X NY scope cl G.objs.size s₂ H2 fp) [] σ' H' s7∧tn i s7.heap∧(∀ b∈fp,H' b=none)∧W i m σ' H':=fun {σ7 H7 s7} I7 n7=>by
        obtain ⟨m',hm,w7⟩:=hNx σ7 H7 n7
        refine ⟨m',hm,i + 1,σ7,H7,I7.unpinned,T.keep _ _ _ st6 fun b hb o e=>(I7.pin (b,o) (List.mem_append_right _ (List.mem_append_right _ (mem_pinsAt hb e)))).1,fun b hb=>?_,w7⟩
        obtain ⟨o,e,d⟩:=T.obj _ _ st6 b hb
        exact (I7.pin (b,o) (List.mem_append_right _ (List.mem_append_right _ (mem_pinsAt hb e)))).2.1
      refine thn (hg cl G.objs.size s₂ H2 fp _ s6 σ3 H6 x u _ I6' r6 (step x H6 y6)) fun _ s7 ⟨σ7,H7,I7,q7⟩=>?_
      refine thn (hi cl G.objs.size s₂ H2 fp _ s7 σ7 H7 _ I7 q7) fun ok s8 ⟨H8,I8,q8⟩=>?_
      cases ok with
      | false=>
        rw [if_neg Bool.false_ne_true] at q8 ⊢
        exact again I8 q8
      | true=>
        rw [if_pos rfl] at q8 ⊢
        refine thn (he cl G.objs.size s₂ H2 fp _ s8 σ7 H8 _ I8 q8) fun y s9 ⟨z,H9,I9,r9,ys,hD,hz,n9⟩=>?_
        refine thn (mt_append (X:=cxComp X NY scope cl G.objs.size s₂ H2 fp) _ s9 σ7 H9 (.ref s₂.heap.objs.size) [z] (.ref s₂.heap.objs.size) [y] (fun _ H'=>H'=upd H9 s₂.heap.objs.size (.lst (ys++[z]))) I9 rfl (.cons r9 .nil) ⟨_,ys,z,rfl,rfl,hD,hz,rfl⟩) fun _ s10 ⟨_,H10,I10,_,q10⟩=>?_
        subst q10
        exact again I10 n9
  exact codeAny_compStart_list (go _ rfl) (T.self _ 0 _ _ _ st4 (go _ rfl))
theorem pe_comp {wi:TI} (ok:CompOk sc N scope NY js) (hsc:X.env.scope=sc) (hN:X.N=N) (hk:NY.length=N.length + k) (hc:X.calm=true) (hit:PI X target iter wi)
    (hg:∀ cl C s₀ H₀ fp,PG (cxComp X NY scope cl C s₀ H₀ fp) target g) (hi:∀ cl C s₀ H₀ fp,PIfs (cxComp X NY scope cl C s₀ H₀ fp) ifs tc) (he:∀ cl C s₀ H₀ fp,PE (cxComp X NY scope cl C s₀ H₀ fp) elt te)
    (hs:∀ x,foldedSetIterable iter X.env x=pure x:=by intro _;rfl):PE X (.ListComp elt [⟨target,iter,ifs,0⟩] scope pos) (tComp js k wi g tc te):=by
  intro pins s σ H Q I h
  obtain ⟨cl,hclos,hcl1,hcl2⟩:=closure_of (scope:=scope) (env:=X.env) fun x hx hf=>I.ok.has x.1 (by
    have:=ok.free x hx hf
    rw [← hsc] at this
    exact this)
  rw [eval_ListComp]
  refine wpAny_comprehension_free (use:=none) rfl hs hclos ok.kind ok.names (thn (hit pins s σ H _ I h) fun xv s₁ h₁=>thn h₁ fun itv s₂ h₂=>?_)
  obtain ⟨it,fp,tn,J,H2,rfl,I2,T,st2,f2,loop⟩:=h₂
  refine comp_block (RR:=fun acc C=>compPost (model X.prog X.w) X.A X.xe none (EP X pins σ Q) acc C) (Q:=Q) ok hsc hN hk hc I2 T st2 f2 hcl1 hcl2 hg hi he loop ?_
  intro D C H' s' m hm IX fC c1 c2 c3 c4 _ q
  exact ⟨m,hm,fun h' hs'=>⟨.ref D,H',IX.turned (t':=s'.toks) (fun b o hb e=>(hs'.2 b hb).trans e) fC c1 (.inr c2) c3 c4,rfl,q⟩⟩
theorem ps_comp {wi:TI} {i:Nat} {y:Str} {py spos:Pos} (ok:CompOk sc N scope NY js) (hsc:X.env.scope=sc) (hN:X.N=N) (hk:NY.length=N.length + k) (hc:X.calm=true) (hit:PI X target iter wi)
    (hg:∀ cl C s₀ H₀ fp,PG (cxComp X NY scope cl C s₀ H₀ fp) target g) (hi:∀ cl C s₀ H₀ fp,PIfs (cxComp X NY scope cl C s₀ H₀ fp) ifs tc) (he:∀ cl C s₀ H₀ fp,PE (cxComp X NY scope cl C s₀ H₀ fp) elt te)
    (nd:X.N.Nodup) (hy:X.N[i]?=some y) (hl:Loc X.env.scope y) (hsw:swapsWith (.ListComp elt [⟨target,iter,ifs,0⟩] scope pos) (some (.Name y py)) spos.line X.env=pure true)
    (hs:∀ x,foldedSetIterable iter X.env x=pure x:=by intro _;rfl) (hf:X.fn y=true∨X.env.scope.names.lookup y=some .local:=by first | exact .inl rfl | exact .inr rfl | assumption) :
    PS X (.Assign [.Name y py] (.ListComp elt [⟨target,iter,ifs,0⟩] scope pos) spos) (tAsg (tComp js k wi g tc te) (gName i)):=by
  intro pins s σ H D I h
  obtain ⟨cl,hclos,hcl1,hcl2⟩:=closure_of (scope:=scope) (env:=X.env) fun x hx hf=>I.ok.has x.1 (by
    have:=ok.free x hx hf
    rw [← hsc] at this
    exact this)
  rw [exec_Assign_Name_used _ _ _ _ hsw]
  refine wpAny_bind (wpAny_standAt (wpAny_bind ?_))
  show wpAny _ X.A (do let _ ← comprehension (.ListComp elt [⟨target,iter,ifs,0⟩] scope pos) scope X.env _ (newList []) false (eval iter X.env) (some (assign (.Name y py) X.env))) _ _ s
  refine wpAny_bind (wpAny_mono (wpAny_comprehension_free (use:=some (assign (.Name y py) X.env)) (Q:=fun _ s'=>SP X pins D .next s') rfl hs hclos ok.kind ok.names
    (thn (hit pins s σ H _ I h) fun xv s₁ h₁=>thn h₁ fun itv s₂ h₂=>?_)) (fun _ s' hq=>wpAny_pure (wpAny_pure hq)) fun _ _ e=>e)
  obtain ⟨it,fp,tn,J,H2,rfl,I2,T,st2,f2,loop⟩:=h₂
  refine comp_block (RR:=fun acc C=>compPost (model X.prog X.w) X.A X.xe (some (assign (.Name y py) X.env)) (fun _ s'=>SP X pins D .next s') acc C) (Q:=fun x H1=>gName i x σ H1 D.nx) ok hsc hN hk hc I2 T st2 f2 hcl1 hcl2 hg hi he loop ?_
  intro Da C H' s' m hm IX fC c1 c2 c3 c4 _ q
  show wpAny _ X.A (assign (.Name y py) X.env (.ref Da)) _ _ _
  refine wpAny_assign_Name (store_ok2 IX nd hy hl (v:=.ref Da) rfl (fun s2 IY ⟨a,sb,ha⟩=>?_) hf)
  have hne:C≠a:=by
    rcases ha with rfl | ha
    · exact c1
    · exact fun z=>c3 y a ha z.symm
  exact ⟨m,hm.sameBut sb hne,fun h' hs'=>⟨_,H',IY.turned (t':=s2.toks) (fun b o hb e=>(hs'.2 b hb).trans e) fC c1 (.inr c2) c3 c4,q⟩⟩
end
section
variable {X:Cx} {pins:List (Addr × Obj)} {σ:St} {H:Hp} {s:Shared} {h':Heap}
theorem Inv.turnedL {t':Nat} {ch:List Addr} (I:Inv X pins σ H s) (k:∀ b o,b∉ch→s.heap.get? b=some o→h'.get? b=some o) (hf:∀ b∈ch,FpOk X pins H b) :
    Inv X pins σ H { s with heap:=h',toks:=t' }:=by
  have nit:∀ b u,H b=some u→b∉ch:=fun b u e z=>by rw [(hf b z).1] at e;cases e
  refine I.step (g':=s.gens) (d':=s.drawn) (ch:=ch) (fun b hb=>⟨(hf b hb).2.2.2.1,(hf b hb).2.1,(hf b hb).2.2.2.2.1,(hf b hb).2.2.2.2.2⟩) (fun b o _ _ hc e _=>k b o hc e) (fun b o _ _ hc e _=>⟨o.slots,k b o hc e⟩) (fun _ _ _ _ n=>n)
    (fun b o hc e=>⟨o,k b o hc e⟩) (fun _ _ e=>e) (fun _ _ _ e=>e) (fun b ps e=>⟨#[],by rw [e];simp⟩) (fun m hm=>?_) (fun b u e=>?_) I.bare
  · obtain ⟨o,es,ep,ho,r⟩:=hm
    exact ⟨o,es,ep,k _ o (fun z=>(hf _ z).2.1 rfl) ho,r⟩
  · refine (I.hok b u e).stay (fun c v hc q=>k c v ?_ q) (fun _ q=>q) fun _ _ q=>q
    rcases hc with z | z
    · rw [z];exact nit b u e
    · exact nit c _ z
theorem Inv.adopt {T:Addr} {o:HO} (I:Inv X pins σ H s) (hf:FpOk X pins H T) (new:ObjOk X.prog X.w (upd H T o) s.heap T o):Inv X pins σ (upd H T o) s:=by
  have nT:∀ b u,H b=some u→b≠T:=fun b u e z=>by rw [z,hf.1] at e;cases e
  refine I.step (h':=s.heap) (H':=upd H T o) (g':=s.gens) (d':=s.drawn) (t':=s.toks) (ch:=[T]) (fun b hb=>?_) (fun b _ _ _ _ e _=>e) (fun b ob _ _ _ e _=>⟨ob.slots,e⟩) (fun b ob hb _ n=>?_)
    (fun b ob _ e=>⟨ob,e⟩) (fun b xs e=>?_) (fun b ob u e=>?_) (fun b ps e=>⟨#[],?_⟩) (fun m hm=>hm) (fun b u e=>?_) I.bare
  · have e:b=T:=by simpa using hb
    subst e
    exact ⟨hf.2.2.2.1,hf.2.1,hf.2.2.2.2.1,hf.2.2.2.2.2⟩
  · rw [upd_ne (fun z=>hb (by simp [z]))];exact n
  · rw [upd_ne (nT b _ e)];exact e
  · rw [upd_ne (nT b _ e)];exact e
  · rw [upd_ne (nT b _ e),e];simp
  · by_cases hb:b=T
    · subst hb;rw [upd_same] at e;cases e;exact new
    · rw [upd_ne hb] at e
      exact (I.hok b u e).stay (fun c v _ q=>q) (fun c q=>by rw [upd_ne (nT c _ q)];exact q) fun c xs q=>by rw [upd_ne (nT c _ q)];exact q
end
def Ite (K:Fg) (a:Addr):It:=
  ⟨fun i H=>∃ xs x,SqL K H a xs∧xs[i]?=some x,fun i H x H'=>∃ p v,H p=none∧x=.ref p∧H'=upd H p (.tup [.int (i:Nat),v])∧∀ xs,SqL K H a xs→xs[i]?=some v,fun i H=>∃ xs,SqL K H a xs∧xs.length≤i⟩
def Itz (K:Fg) (a b:Addr):It:=
  ⟨fun i H=>∃ xs x ys y,SqL K H a xs∧xs[i]?=some x∧SqL K H b ys∧ys[i]?=some y,
   fun i H x H'=>∃ p v u,H p=none∧x=.ref p∧H'=upd H p (.tup [v,u])∧(∀ xs,SqL K H a xs→xs[i]?=some v)∧∀ ys,SqL K H b ys→ys[i]?=some u,
   fun i H=>∃ xs ys,SqL K H a xs∧SqL K H b ys∧(xs.length≤i∨ys.length≤i)⟩
theorem two_tup {X:Cx} {H:Hp} {h:Heap} {T:Addr} {x y:V} {u v:Value} {n:Nat} (e:h.get? T=some { cls:=.type "tuple",data:=.seq #[u,v] n }) (r1:RelV x u) (r2:RelV y v):ObjOk X.prog X.w H h T (.tup [x,y]):=
  ⟨show 2≤sizeLine by decide,[u,v],.cons r1 (.cons r2 .nil),⟨_,e,⟨rfl,rfl⟩,_,rfl⟩⟩
theorem ne_iter {h:Heap} {it a:Addr} {i:Nat} {l:Addr} {items:Array Value} (p:h.IsList a items) (q:h.IsListIter it l i):a≠it:=by
  intro e;subst e
  obtain ⟨o,e1,c1,_⟩:=p
  obtain ⟨o',e2,c2,_⟩:=q
  rw [e1] at e2;cases e2;rw [c1] at c2
  injection c2 with c3
  exact absurd c3 (by decide)
theorem turn_enum {P:Program} {w:World} {K:Fg} {elts:List Expr} {k:Nat} {pos:Pos} (a e it:Addr) (hne:e≠it) :
    Turn P w K (.Tuple elts k pos) (Ite K a) [e,it] e (fun i h=>(∃ old,IsEnum h e it (i:Nat) old)∧h.IsListIter it a i) where
  mem:=by simp
  obj:=fun i h st b hb=>by
    obtain ⟨⟨old,he⟩,⟨o,ho,c,d⟩⟩:=st
    rcases List.mem_cons.mp hb with rfl | hb
    · exact ⟨_,he,fun v z=>by have z':Data.fields _=Data.cell v:=z;cases z'⟩
    · rw [List.mem_singleton.mp hb]
      exact ⟨o,ho,fun v z=>by rw [d] at z;cases z⟩
  keep:=fun i h h' st k=>⟨let ⟨old,he⟩:=st.1;⟨old,k e (by simp) _ he⟩,st.2.at fun o q=>k it (by simp) o q⟩
  item:=by
    intro X hP hw hK hc i pins s σ H E I hf st hg
    subst hP hw hK
    obtain ⟨⟨old,he⟩,hit⟩:=st
    obtain ⟨xs,x,hq,hx⟩:=hg
    obtain ⟨its,rv,p,hz⟩:=I.list hq
    obtain ⟨u,hu,ru⟩:=rv.get hx
    have hlt:i < its.toArray.size:=by have:=(List.getElem?_eq_some_iff.mp hu).1;simpa using this
    have na:a≠it:=ne_iter p.isList hit
    have nb:e≠a:=by
      intro z;subst z
      obtain ⟨o,n,e1,c1,_⟩:=p
      rw [he] at e1;cases e1
      injection c1 with c3
      exact absurd c3 (by decide)
    have Dw:=Draws.list (prog:=X.prog) (w:=X.w) (A:=X.A.in1) (show X.A.in1.handled=none from I.ok.hd hc) it a na its.toArray
    refine wpAny_pyNext_enum_itemD Dw he ⟨hit,p.isList⟩ hlt hne (by simp [hne,nb]) fun y h1 tk hP ho st1 hT hsz hk=>?_
    have ey:y=u:=by
      have h1:its.toArray[i]?=some y:=hP
      have h2:its[i]?=some y:=by simpa using h1
      rw [hu] at h2;exact (Option.some.inj h2).symm
    subst ey
    refine ⟨_,rfl,?_⟩
    have fT:FpOk X pins H s.heap.objs.size:=I.fpOk (Nat.le_refl _) (I.hok.fresh (Nat.le_refl _))
    refine wpAny_letOwnedTupleGo_enum ho fun h2 he2 hs2=>?_
    have helt:e < s.heap.objs.size:=Heap.lt_size he
    have I1:Inv X pins σ H { s with heap:=h2,toks:=tk + 1 }:=I.turnedL (t':=tk + 1) (ch:=[e,it]) (fun b o hb q=>by
      have b1:b≠e:=fun z=>hb (by simp [z])
      have b2:b≠it:=fun z=>hb (by simp [z])
      exact (hs2.2 b b1).trans (hk b o b1 b2 q)) hf
    have gT:h2.get? s.heap.objs.size=some { cls:=.type "tuple",data:=.seq #[.int i tk,y] }:=(hs2.2 _ (Nat.ne_of_gt helt)).trans hT
    have I2:=I1.adopt (T:=s.heap.objs.size) (o:=.tup [.int (i:Nat),x]) fT (two_tup (X:=X) gT ⟨tk,rfl⟩ ru)
    refine ⟨.ref s.heap.objs.size,_,I2,rfl,⟨s.heap.objs.size,x,fT.1,rfl,rfl,fun ys hy=>by rw [I.list_inj hy hq];exact hx⟩,⟨⟨y,?_⟩,?_⟩,fun b hb=>?_⟩
    · have e2:(((i + 1:Nat):Nat):Int)=(i:Int) + 1:=by lia
      show IsEnum h2 e it (((i + 1:Nat):Nat):Int) y
      rw [e2];exact he2
    · obtain ⟨o,q1,q2⟩:=st1.1
      exact ⟨o,(hs2.2 it (Ne.symm hne)).trans q1,q2⟩
    · have nT:b≠s.heap.objs.size:=by
        rcases List.mem_cons.mp hb with rfl | hb
        · exact Nat.ne_of_lt helt
        · rw [List.mem_singleton.mp hb]
          obtain ⟨o,ho,_⟩:=hit
          exact Nat.ne_of_lt (Heap.lt_size ho)
      rw [upd_ne nT];exact (hf b hb).1
  done:=by
    intro X hP hw hK hc i pins s σ H E I hf st hg
    subst hP hw hK
    obtain ⟨⟨old,he⟩,hit⟩:=st
    obtain ⟨xs,hq,hx⟩:=hg
    obtain ⟨its,rv,p,hz⟩:=I.list hq
    have hl:=rv.length
    have hT:s.TypeIs (.ref e) "enumerate":=⟨_,he,rfl⟩
    unfold pyNext
    refine wpAny_bind (wpAny_attempt (wpAny_callSpecial?_slot (name:=Str.ofString "__next__") hT F.slot_enumerate_next
      (wpAny_call_entry F.slot_enumerate_next hT F.entry_enumerate_next ?_ (F.args_enumerate_next_1 _))))
    show wpAny _ _ (field (.ref e) 2 >>= _) _ _ _
    refine wpAny_bind (wpAny_field he rfl (x:=.ref it) rfl ?_)
    refine wpAny_bind (wpAny_nextOf_list_end (show X.A.in1.handled=none from I.ok.hd hc) hit p.isList (by simp;lia) fun h1 x1 eb hx1=>?_)
    obtain ⟨o,ho,hcl⟩:=hx1
    refine wpAny_bind (wpAny_isInstance (T:="StopIteration") (b:=true) ⟨o,ho,hcl⟩ isSubtype_stop ?_)
    exact wpAny_pure ⟨rfl,I.turnedL (t':=s.toks) (ch:=[e,it]) (fun b ob hb q=>eb b ob (fun z=>hb (by simp [z])) q) hf⟩
  self:=fun _ _ _ _ _ st h=>let ⟨_,he⟩:=st.1;wpAny_pyIter_enum he h
section
variable {X:Cx} {elts:List Expr} {k:Nat} {tpos:Pos}
def iEnum (K:Fg) (tl:TA):TI:=fun σ H R=>tl σ H fun vs H1=>∃ a,vs=[.ref a]∧(∃ xs,SqL K H1 a xs)∧R (Ite K a) H1
theorem pi_enum {a:Expr} {ta:TA} {p pos:Pos} (hg:Gl X "enumerate") (hm:X.mg "enumerate"=none) (ha:PA X [a] ta) (hs:starEach [a] X.env=[(false,eval a X.env)]:=by rfl) :
    PI X (.Tuple elts k tpos) (.Call (.Name "enumerate" p) [a] [] pos) (iEnum X.K ta):=by
  intro pins s σ H R I h
  refine Call_ (ld_blt I hg hm boot_enumerate (PyProof.Rows.callWith_type1 (thn (ha pos pins s σ H _ I h) fun us s1 ⟨vs,H1,I1,r1,q1⟩=>?_) hs rfl))
  obtain ⟨l,e,⟨xs,hq⟩,q⟩:=q1
  subst e
  cases r1 with
  | cons r rr=>
    cases rr
    cases r
    obtain ⟨its,rv,pl,hz⟩:=I1.list hq
    refine call_enumerate_list pl.isList fun h1 he hit hsz hk=>?_
    refine wpAny_pyIter_enum he ?_
    have I2:Inv X pins σ H1 { s1 with heap:=h1 }:=I1.kept (t':=s1.toks) hk
    refine ⟨s1.heap.objs.size + 1,[s1.heap.objs.size + 1,s1.heap.objs.size],_,_,H1,rfl,I2,turn_enum l _ _ (Nat.succ_ne_self _),⟨⟨.none,he⟩,hit⟩,fun b hb=>?_,q⟩
    have hb':s1.heap.objs.size≤b:=by
      rcases List.mem_cons.mp hb with rfl | hb
      · lia
      · rw [List.mem_singleton.mp hb];exact Nat.le_refl _
    exact I1.fpOk hb' (I1.hok.fresh hb')
end
theorem turn_zip {P:Program} {w:World} {K:Fg} {elts:List Expr} {k:Nat} {pos:Pos} (z TI TO i1 i2 l1 l2:Addr) (D:ZipApart z TI TO i1 i2 l1 l2) :
    Turn P w K (.Tuple elts k pos) (Itz K l1 l2) [z,TI,TO,i1,i2] z (fun i h=>IsZip h z TI TO .none∧IsPair h TI (.ref i1) (.ref i2)∧(∃ a b,IsPair h TO a b)∧h.IsListIter i1 l1 i∧h.IsListIter i2 l2 i) where
  mem:=by simp
  obj:=fun i h st b hb=>by
    obtain ⟨hz,hTI,⟨a',b',hTO⟩,⟨o1,e1,c1,d1⟩,⟨o2,e2,c2,d2⟩⟩:=st
    simp only [List.mem_cons,List.not_mem_nil,or_false] at hb
    rcases hb with rfl | rfl | rfl | rfl | rfl
    · exact ⟨_,hz,fun v q=>by have q':Data.fields _=Data.cell v:=q;cases q'⟩
    · exact ⟨_,hTI,fun v q=>by have q':Data.seq _ _=Data.cell v:=q;cases q'⟩
    · exact ⟨_,hTO,fun v q=>by have q':Data.seq _ _=Data.cell v:=q;cases q'⟩
    · exact ⟨o1,e1,fun v q=>by rw [d1] at q;cases q⟩
    · exact ⟨o2,e2,fun v q=>by rw [d2] at q;cases q⟩
  keep:=fun i h h' st k=>by
    obtain ⟨hz,hTI,⟨a',b',hTO⟩,h1,h2⟩:=st
    exact ⟨k z (by simp) _ hz,k TI (by simp) _ hTI,⟨a',b',k TO (by simp) _ hTO⟩,h1.at fun o q=>k i1 (by simp) o q,h2.at fun o q=>k i2 (by simp) o q⟩
  item:=by
    intro X hP hw hK hc i pins s σ H E I hf st hg
    subst hP hw hK
    obtain ⟨hz,hTI,⟨a',b',hTO⟩,h1,h2⟩:=st
    obtain ⟨xs,x,ys,y,hq1,hx,hq2,hy⟩:=hg
    obtain ⟨its1,rv1,p1,_⟩:=I.list hq1
    obtain ⟨its2,rv2,p2,_⟩:=I.list hq2
    obtain ⟨u,hu,ru⟩:=rv1.get hx
    obtain ⟨v,hv,rv⟩:=rv2.get hy
    refine wpAny_pyNext_zip_item D hz hTI hTO h1 h2 p1.isList p2.isList (x:=u) (y:=v) (by simpa using hu) (by simpa using hv) fun h3 a1 a2 a3 a4 a5 a6 hk=>?_
    refine ⟨_,rfl,?_⟩
    have fT:FpOk X pins H s.heap.objs.size:=I.fpOk (Nat.le_refl _) (I.hok.fresh (Nat.le_refl _))
    have lt:∀ {c o},s.heap.get? c=some o→c≠s.heap.objs.size:=fun e=>Nat.ne_of_lt (Heap.lt_size e)
    refine wpAny_letOwnedTupleGo_zip a1 fun h4 hz4 hs4=>?_
    have I1:Inv X pins σ H { s with heap:=h4,toks:=s.toks }:=I.turnedL (t':=s.toks) (ch:=[z,TI,TO,i1,i2]) (fun b o hb q=>by
      have b1:b≠z:=fun e=>hb (by simp [e])
      exact (hs4.2 b b1).trans (hk b o b1 (fun e=>hb (by simp [e])) (fun e=>hb (by simp [e])) (fun e=>hb (by simp [e])) q)) hf
    have gT:h4.get? s.heap.objs.size=some { cls:=.type "tuple",data:=.seq #[u,v] }:=(hs4.2 _ (Ne.symm (lt hz))).trans a5
    have I2:=I1.adopt (T:=s.heap.objs.size) (o:=.tup [x,y]) fT (two_tup (X:=X) gT ru rv)
    have ext:∀ c o,c≠z→h3.get? c=some o→h4.get? c=some o:=fun c o hc q=>(hs4.2 c hc).trans q
    refine ⟨.ref s.heap.objs.size,_,I2,rfl,⟨s.heap.objs.size,x,y,fT.1,rfl,rfl,fun zs hz=>by rw [I.list_inj hz hq1];exact hx,fun zs hz=>by rw [I.list_inj hz hq2];exact hy⟩,
      ⟨hz4,ext _ _ D.TIz (hk _ _ D.TIz D.TITO D.TIi1 D.TIi2 hTI),⟨_,_,ext _ _ D.TOz a2⟩,a3.at fun o q=>ext _ o D.i1z q,a4.at fun o q=>ext _ o D.i2z q⟩,fun b hb=>?_⟩
    have nT:b≠s.heap.objs.size:=by
      obtain ⟨o1,e1,_⟩:=h1
      obtain ⟨o2,e2,_⟩:=h2
      simp only [List.mem_cons,List.not_mem_nil,or_false] at hb
      rcases hb with rfl | rfl | rfl | rfl | rfl
      · exact lt hz
      · exact lt hTI
      · exact lt hTO
      · exact lt e1
      · exact lt e2
    rw [upd_ne nT];exact (hf b hb).1
  done:=by
    intro X hP hw hK hc i pins s σ H E I hf st hg
    subst hP hw hK
    obtain ⟨hz,hTI,⟨a',b',hTO⟩,h1,h2⟩:=st
    obtain ⟨xs,ys,hq1,hq2,hend⟩:=hg
    obtain ⟨its1,rv1,p1,_⟩:=I.list hq1
    obtain ⟨its2,rv2,p2,_⟩:=I.list hq2
    have l1':=rv1.length
    have l2':=rv2.length
    refine wpAny_pyNext_zip_end (I.ok.hd hc) D hz hTI hTO h1 h2 p1.isList p2.isList (hend.imp (fun h=>by simp;lia) fun h=>by simp;lia) fun h3 hk=>⟨rfl,?_⟩
    exact I.turnedL (t':=s.toks) (ch:=[z,TI,TO,i1,i2]) (fun b o hb q=>hk b o (fun e=>hb (by simp [e])) (fun e=>hb (by simp [e])) (fun e=>hb (by simp [e])) (fun e=>hb (by simp [e])) q) hf
  self:=fun _ _ _ _ _ st h=>wpAny_pyIter_zip st.1 h
section
variable {X:Cx} {elts:List Expr} {k:Nat} {tpos:Pos}
def iZip (K:Fg) (tl:TA):TI:=fun σ H R=>tl σ H fun vs H1=>∃ a b,vs=[.ref a,.ref b]∧(∃ xs,SqL K H1 a xs)∧(∃ xs,SqL K H1 b xs)∧R (Itz K a b) H1
theorem pi_zip {a b:Expr} {ta:TA} {p pos:Pos} (hg:Gl X "zip") (hm:X.mg "zip"=none) (ha:PA X [a,b] ta) (hs:starEach [a,b] X.env=[(false,eval a X.env),(false,eval b X.env)]:=by rfl) (hs2:starEach [b] X.env=[(false,eval b X.env)]:=by rfl) :
    PI X (.Tuple elts k tpos) (.Call (.Name "zip" p) [a,b] [] pos) (iZip X.K ta):=by
  intro pins s σ H R I h
  refine Call_ (ld_blt I hg hm boot_zip (PyProof.Rows.callWith_type1 (thn (ha pos pins s σ H _ I h) fun us s1 ⟨vs,H1,I1,r1,q1⟩=>?_) (by rw [hs,hs2]) (by rw [hs2];rfl)))
  obtain ⟨l1,l2,e,⟨xs,hq1⟩,⟨ys,hq2⟩,q⟩:=q1
  subst e
  cases r1 with
  | cons r rr=>
    cases rr with
    | cons r' rr=>
      cases rr
      cases r
      cases r'
      obtain ⟨its1,rv1,p1,_⟩:=I1.list hq1
      obtain ⟨its2,rv2,p2,_⟩:=I1.list hq2
      have b1:l1 < s1.heap.objs.size:=by obtain ⟨o,e,_⟩:=p1.isList;exact Heap.lt_size e
      have b2:l2 < s1.heap.objs.size:=by obtain ⟨o,e,_⟩:=p2.isList;exact Heap.lt_size e
      refine call_zip_2 p1.isList p2.isList fun h1 hz hTI hTO hi1 hi2 hsz hk=>?_
      refine wpAny_pyIter_zip hz ?_
      have I2:Inv X pins σ H1 { s1 with heap:=h1 }:=I1.kept (t':=s1.toks) hk
      refine ⟨_,_,_,_,H1,rfl,I2,turn_zip _ _ _ _ _ l1 l2 (zipApart_new b1 b2),⟨hz,hTI,⟨_,_,hTO⟩,hi1,hi2⟩,fun b hb=>?_,q⟩
      have hb':s1.heap.objs.size≤b:=by
        simp only [List.mem_cons,List.not_mem_nil,or_false] at hb
        rcases hb with rfl | rfl | rfl | rfl | rfl <;> lia
      exact I1.fpOk hb' (I1.hok.fresh hb')
end
theorem for_enum {K:Fg} {a:Addr} {xs:List V} {g:TG} {tb:TS} {D:Ends} {σ:St} {H:Hp} (Pv:Nat→St→Hp→Prop) (h0:Pv 0 σ H) (hl:∀ i σ H,i≤xs.length→Pv i σ H→SqL K H a xs)
    (hs:∀ i x σ H p,xs[i]?=some x→H p=none→Pv i σ H→g (.ref p) σ (upd H p (.tup [.int (i:Nat),x])) fun σ2 H2=>tb { D with nx:=Pv (i + 1),ct:=Pv (i + 1),bk:=D.nx } σ2 H2) (hd:∀ σ H,Pv xs.length σ H→D.nx σ H) :
    ∃ W:Nat→Nat→St→Hp→Prop,(∃ m,W 0 m σ H)∧∀ i m σ H,W i m σ H→
      ((Ite K a).stop i H∧D.nx σ H)∨((Ite K a).go i H∧∃ N:St→Hp→Prop,(∀ σ' H',N σ' H'→∃ m',m' < m∧W (i + 1) m' σ' H')∧∀ x H',(Ite K a).yld i H x H'→g x σ H' fun σ2 H2=>tb { D with nx:=N,ct:=N,bk:=D.nx } σ2 H2):=by
  refine ⟨fun i m σ H=>m=xs.length - i∧i≤xs.length∧Pv i σ H,⟨xs.length,by simp,Nat.zero_le _,h0⟩,?_⟩
  rintro i m σ H ⟨rfl,hi,p⟩
  have q:=hl i σ H hi p
  by_cases hlt:i < xs.length
  · refine .inr ⟨⟨xs,xs[i],q,by simp [hlt]⟩,Pv (i + 1),fun σ' H' p'=>⟨xs.length - (i + 1),by lia,rfl,hlt,p'⟩,fun x H' y=>?_⟩
    obtain ⟨pp,v,e1,rfl,rfl,y⟩:=y
    exact hs i v σ H pp (y xs q) e1 p
  · have e:i=xs.length:=by lia
    subst e
    exact .inl ⟨⟨xs,q,Nat.le_refl _⟩,hd σ H p⟩
theorem for_zip {K:Fg} {a b:Addr} {xs ys:List V} {g:TG} {tb:TS} {D:Ends} {σ:St} {H:Hp} (el:xs.length=ys.length) (Pv:Nat→St→Hp→Prop) (h0:Pv 0 σ H) (hl:∀ i σ H,i≤xs.length→Pv i σ H→SqL K H a xs∧SqL K H b ys)
    (hs:∀ i x y σ H p,xs[i]?=some x→ys[i]?=some y→H p=none→Pv i σ H→g (.ref p) σ (upd H p (.tup [x,y])) fun σ2 H2=>tb { D with nx:=Pv (i + 1),ct:=Pv (i + 1),bk:=D.nx } σ2 H2) (hd:∀ σ H,Pv xs.length σ H→D.nx σ H) :
    ∃ W:Nat→Nat→St→Hp→Prop,(∃ m,W 0 m σ H)∧∀ i m σ H,W i m σ H→
      ((Itz K a b).stop i H∧D.nx σ H)∨((Itz K a b).go i H∧∃ N:St→Hp→Prop,(∀ σ' H',N σ' H'→∃ m',m' < m∧W (i + 1) m' σ' H')∧∀ x H',(Itz K a b).yld i H x H'→g x σ H' fun σ2 H2=>tb { D with nx:=N,ct:=N,bk:=D.nx } σ2 H2):=by
  refine ⟨fun i m σ H=>m=xs.length - i∧i≤xs.length∧Pv i σ H,⟨xs.length,by simp,Nat.zero_le _,h0⟩,?_⟩
  rintro i m σ H ⟨rfl,hi,p⟩
  obtain ⟨q1,q2⟩:=hl i σ H hi p
  by_cases hlt:i < xs.length
  · have hlt2:i < ys.length:=by lia
    refine .inr ⟨⟨xs,xs[i],ys,ys[i],q1,by simp [hlt],q2,by simp [hlt2]⟩,Pv (i + 1),fun σ' H' p'=>⟨xs.length - (i + 1),by lia,rfl,hlt,p'⟩,fun x H' y=>?_⟩
    obtain ⟨pp,v,u,e1,rfl,rfl,y1,y2⟩:=y
    exact hs i v u σ H pp (y1 xs q1) (y2 ys q2) e1 p
  · have e:i=xs.length:=by lia
    subst e
    exact .inl ⟨⟨xs,ys,q1,q2,.inl (Nat.le_refl _)⟩,hd σ H p⟩
end L2
namespace PySem
open Sem (wp)
open Builtin MeetsSeq MeetsSeq2 MeetsSeq3
theorem noFill_tuple_mul:fillsNumberSlot (.type "tuple") "mul"=pure false:=
  fillsNumberSlot_seq (id:="tuple.__mul__") (r:=some (.builtin "tuple.__rmul__")) F.slot_tuple_mul.lookup (by decide +kernel) F.slot_tuple_rmul.lookup (by decide +kernel)
theorem repeat_tuple:seqRepeat? (.type "tuple")=pure (some (.builtin "tuple.__mul__")):=by
  unfold seqRepeat?
  rw [seqSlot_of (T:="tuple") (name:="__mul__") (id:="tuple.__mul__") F.slot_tuple_mul.lookup (by decide +kernel),seqSlot_of (T:="tuple") (name:="__rmul__") (id:="tuple.__rmul__") F.slot_tuple_rmul.lookup (by decide +kernel)]
  rfl
theorem int_rmul_tuple (a:Int) (t:Tok) (l:Addr) (items:Array Value) (n:Nat) (dd:Option Addr) (sl:Array (Option Value)) :
    Meets (Builtin.«int.__rmul__» ⟨[.int a t,.ref l],[]⟩) (fun _ R s=>s.heap.get? l=some { cls:=.type "tuple",dict:=dd,data:=.seq items n,slots:=sl }∧R (.ok (.ret Value.notImplemented)) s):=
  .of_wp fun prog w A R s h=>by obtain ⟨hp,g,d,tk,os⟩:=s;obtain ⟨hl,h⟩:=h;wp_walk;exact ⟨_,rfl,h⟩
theorem tuple_mul_many (l:Addr) (items:Array Value) (n:Nat) (dd:Option Addr) (sl:Array (Option Value)) (x:Int) (u:Tok) (hlo:-(2 ^ 63)≤x) (hhi:x < 2 ^ 63) (he:items.isEmpty=false) (h1:¬ x=1) (hp:0 < x) (hsz:items.size * x.toNat≤sizeLine) :
    Meets (Builtin.«tuple.__mul__» ⟨[.ref l,.int x u],[]⟩) (fun _ R s=>s.heap.get? l=some { cls:=.type "tuple",dict:=dd,data:=.seq items n,slots:=sl }∧
      R (.ok (.ret (Value.ref s.heap.objs.size))) { s with heap:=s.heap.push { cls:=Value.type "tuple",data:=Data.seq (List.foldl (fun x1 x2=>x1++x2) #[] (List.replicate x.toNat items)) },toks:=s.toks }):=
  .of_wp fun prog w A R s h=>by
    obtain ⟨hp,g,d,tk,os⟩:=s;obtain ⟨hl,h⟩:=h
    have z1:(decide (x < -(2 ^ 63)) || decide (x ≥ 2 ^ 63))=false:=by simp;lia
    have z2:(items.isEmpty || x == 1)=false:=by simp [he,h1]
    have z3:(decide (x≤0) || items.isEmpty)=false:=by simp [he];lia
    have ex:(items.size:Int) * x=((items.size * x.toNat:Nat):Int):=by
      rw [Int.natCast_mul];congr 1;lia
    have z4:¬ ((items.size:Int) * x > (2 ^ 63 - 1) / 8):=by
      rw [ex]
      have:(sizeLine:Nat)≤(2 ^ 63 - 1) / 8:=by decide
      lia
    have z5:Tuple.tupleTooMany ((items.size:Int) * x)=false:=by
      unfold Tuple.tupleTooMany
      rw [ex]
      exact decide_eq_false (by lia)
    have z6:(List.foldl (fun (x1 x2:Array Value)=>x1++x2) #[] (List.replicate x.toNat items)).size≤sizeLine:=by
      have e:=AutoListH.size_joined items x.toNat #[]
      rw [e,Nat.mul_comm]
      simpa using hsz
    wp_walk
    refine wpAny_ite_false (by rw [z1];rfl) ?_
    wp_walk using AutoSeq1.wpAny_loadPart' hl
    refine wpAny_ite_false (decide_eq_false z4) ?_
    wp_walk
    refine wpAny_ite_false (by rw [z5];rfl) ?_
    wp_walk
    exact ⟨_,rfl,h⟩
theorem tuple_mul_one (l:Addr) (items:Array Value) (n:Nat) (dd:Option Addr) (sl:Array (Option Value)) (u:Tok) :
    Meets (Builtin.«tuple.__mul__» ⟨[.ref l,.int 1 u],[]⟩) (fun _ R s=>s.heap.get? l=some { cls:=.type "tuple",dict:=dd,data:=.seq items n,slots:=sl }∧R (.ok (.ret (Value.ref l))) s):=
  .of_wp fun prog w A R s h=>by
    obtain ⟨hp,g,d,tk,os⟩:=s;obtain ⟨hl,h⟩:=h
    have z2:(items.isEmpty || (1:Int) == 1)=true:=by simp
    wp_walk using AutoSeq1.wpAny_loadPart' hl
    first | exact ⟨_,rfl,h⟩ | trace_state
theorem tuple_mul_none (l:Addr) (items:Array Value) (n:Nat) (dd:Option Addr) (sl:Array (Option Value)) (u:Tok) (he:items.isEmpty=false) :
    Meets (Builtin.«tuple.__mul__» ⟨[.ref l,.int 0 u],[]⟩) (fun _ R s=>s.heap.get? l=some { cls:=.type "tuple",dict:=dd,data:=.seq items n,slots:=sl }∧
      R (.ok (.ret (Value.ref s.heap.objs.size))) { s with heap:=s.heap.push { cls:=Value.type "tuple",data:=Data.seq #[] },toks:=s.toks }):=
  .of_wp fun prog w A R s h=>by
    obtain ⟨hp,g,d,tk,os⟩:=s;obtain ⟨hl,h⟩:=h
    have z2:(items.isEmpty || (0:Int) == 1)=false:=by simp [he]
    have z3:(decide ((0:Int)≤0) || items.isEmpty)=true:=by simp
    wp_walk using AutoSeq1.wpAny_loadPart' hl
    first | exact ⟨_,rfl,h⟩ | trace_state
end PySem
namespace L2
open PySem PySem.Spec PyProof.Rows
section
variable {X:Cx}
def rRepT (K:Fg):R2:=fun x y H Q=>∃ (l:Addr) (k:Nat) (xs:List V),x=.ref l∧y=.int (k:Nat)∧SqT K H l xs∧xs≠[]∧xs.length * k≤sizeLine∧(k=1→Q (.ref l) H)∧
  (k≠1→∀ p,H p=none→Q (.ref p) (upd H p (.tup (List.replicate k xs).flatten)))
theorem op_repT:OpR X (binaryOp .Mult) (rRepT X.K):=by
  intro pins s σ H x y v u Q I rx ry h
  obtain ⟨l,k,xs,rfl,rfl,hq,hne,hz,q1,q2⟩:=h
  cases rx
  obtain ⟨t,rfl⟩:=ry
  obtain ⟨its,r,⟨⟨cls,dd,data,sl⟩,e,hc,n,hd⟩,hl⟩:=I.tuple hq
  simp only at hc hd
  subst hc hd
  have hlen:=r.length
  have he:its.toArray.isEmpty=false:=by
    cases its with
    | nil=>simp at hlen;exact absurd hlen hne
    | cons a r'=>rfl
  have hs:its.toArray.size * k≤sizeLine:=by rw [List.size_toArray,← hlen];exact hz
  have road:wpAny (model X.prog X.w) X.A (call (.builtin "tuple.__mul__") [.ref l,.int (k:Nat) t]) (EP X pins σ Q) X.xe s→wpAny (model X.prog X.w) X.A (binaryOp .Mult (.ref l) (.int (k:Nat) t)) (EP X pins σ Q) X.xe s:=fun hcall=>
    wpAny_binaryOp_repeat_ref (T:="tuple") (U:="int") (by decide) ⟨_,e,rfl⟩ (fun s'=>typeIs_int s' k t) noFill_tuple_mul F.fills_int_mul F.slot_int_rmul repeat_tuple F.slot_int_index.lookup
      (call_meets F.slot_int_rmul (typeIs_int s k t) F.entry_int_rmul (F.args_int_rmul_2 _ _) (int_rmul_tuple k t l its.toArray n dd sl) ⟨e,rfl,⟨_,e,rfl⟩,hcall⟩)
  refine road ?_
  by_cases h1:k=1
  · subst h1
    exact call_meets F.slot_tuple_mul ⟨_,e,rfl⟩ F.entry_tuple_mul (F.args_tuple_mul_2 _ _) (tuple_mul_one l its.toArray n dd sl t) ⟨e,⟨.ref l,H,I,rfl,q1 rfl⟩⟩
  · have hn:H s.heap.objs.size=none:=I.hok.fresh (Nat.le_refl _)
    by_cases h0:k=0
    · subst h0
      refine call_meets F.slot_tuple_mul ⟨_,e,rfl⟩ F.entry_tuple_mul (F.args_tuple_mul_2 _ _) (tuple_mul_none l its.toArray n dd sl t he) ⟨e,⟨.ref s.heap.objs.size,_,?_,rfl,q2 h1 _ hn⟩⟩
      exact I.laid (t':=s.toks) (fun b o e=>Heap.get?_push_of_some _ e) (Nat.le_refl _) ⟨Nat.zero_le _,[],.nil,⟨_,Heap.get?_push_size _ rfl,⟨rfl,rfl⟩,_,rfl⟩⟩
    · have hk64:(k:Int) < 2 ^ 63:=by
        have h3:1≤its.toArray.size:=by
          cases its with
          | nil=>simp at he
          | cons a r'=>simp
        have h4:k≤its.toArray.size * k:=Nat.le_mul_of_pos_left k h3
        have h5:(sizeLine:Nat) < 2 ^ 63:=by decide
        lia
      refine call_meets F.slot_tuple_mul ⟨_,e,rfl⟩ F.entry_tuple_mul (F.args_tuple_mul_2 _ _) (tuple_mul_many l its.toArray n dd sl k t (by lia) hk64 he (by lia) (by lia) (by simpa using hs)) ⟨e,?_⟩
      have f0:=foldl_rep its k []
      rw [List.nil_append] at f0
      have ek:((k:Nat):Int).toNat=k:=by simp
      rw [ek,f0]
      refine ⟨.ref s.heap.objs.size,_,?_,rfl,q2 h1 _ hn⟩
      refine I.laid (t':=s.toks) (fun b o e=>Heap.get?_push_of_some _ e) (Nat.le_refl _) ⟨?_,(List.replicate k its).flatten,r.rep k,⟨_,Heap.get?_push_size _ rfl,⟨rfl,rfl⟩,_,rfl⟩⟩
      rw [len_rep,Nat.mul_comm];exact hz
theorem call_divmodW:CallR X (.builtin "divmod") (fun xs H Q=>∃ i j,xs=[.int i,.int j]∧(0 < j∧j < 2 ^ 64)∧∀ p,H p=none→Q (.ref p) (upd H p (.tup [.int (i / j),.int (i % j)]))):=by
  intro pins s σ H xs us Q I r h
  obtain ⟨i,j,rfl,⟨h1,h2⟩,q⟩:=h
  obtain ⟨u,w',rfl,⟨t,rfl⟩,⟨t',rfl⟩⟩:=vals2 r
  have hb:j.natAbs.log2 < 9000:=by
    have h3:j.natAbs.log2 < 64:=(Nat.log2_lt (by lia)).mpr (by lia)
    lia
  refine divmod_int (by lia) ?_ (.inl (PyProof.noPylong_of_log2 hb))
  rw [Int.fdiv_eq_ediv_of_nonneg i (by lia),Int.fmod_eq_emod_of_nonneg i (by lia)]
  have hn:H s.heap.objs.size=none:=I.hok.fresh (Nat.le_refl _)
  refine ⟨.ref s.heap.objs.size,_,?_,rfl,q _ hn⟩
  refine I.laid (fun b o e=>Heap.get?_push_of_some _ e) (Nat.le_refl _) ⟨by simp only [List.length_cons,List.length_nil];rw [sizeLine_eq];decide,[.int (i / j) s.toks,.int (i % j) (s.toks + 1)],.cons ⟨_,rfl⟩ (.cons ⟨_,rfl⟩ .nil),?_⟩
  exact ⟨_,Heap.get?_push_size s.heap rfl,⟨rfl,rfl⟩,0,rfl⟩
inductive IsiV (K:Fg) (H:Hp):V→String→Bool→Prop where
  | int_int (i:Int):IsiV K H (.int i) "int" true
  | int_bool (i:Int):IsiV K H (.int i) "bool" false
  | int_tuple (i:Int):IsiV K H (.int i) "tuple" false
  | str_tuple (x:Str):IsiV K H (.str x) "tuple" false
  | tup_tuple {a:Addr} {xs:List V} (h:SqT K H a xs):IsiV K H (.ref a) "tuple" true
  | lst_list {a:Addr} {xs:List V} (h:SqL K H a xs):IsiV K H (.ref a) "list" true
  | str_str (x:Str):IsiV K H (.str x) "str" true
  | bl_bool (b:Bool):IsiV K H (.bl b) "bool" true
theorem call_isi:CallR X (.builtin "isinstance") (fun xs H Q=>∃ x T b,xs=[x,.ty T]∧IsiV X.K H x T b∧Q (.bl b) H):=by
  intro pins s σ H xs us Q I r h
  obtain ⟨x,T,b,rfl,hi,q⟩:=h
  obtain ⟨u,w',rfl,r1,r2⟩:=vals2 r
  cases r2
  cases hi with
  | int_int i=>obtain ⟨t,rfl⟩:=r1;exact IsiPair.int_int ⟨.bl true,H,I,rfl,q⟩
  | int_bool i=>obtain ⟨t,rfl⟩:=r1;exact IsiPair.int_bool ⟨.bl false,H,I.tok _,rfl,q⟩
  | int_tuple i=>obtain ⟨t,rfl⟩:=r1;exact IsiPair.int_tuple ⟨.bl false,H,I.tok _,rfl,q⟩
  | str_tuple z=>obtain ⟨t,rfl⟩:=r1;exact IsiPair.str_tuple ⟨.bl false,H,I.tok _,rfl,q⟩
  | tup_tuple hs=>
    cases r1
    obtain ⟨its,rv,⟨o,e,hc,_⟩,hz⟩:=I.tuple hs
    exact IsiPair.tuple_tuple e hc ⟨.bl true,H,I,rfl,q⟩
  | lst_list hs=>
    cases r1
    obtain ⟨its,rv,pl,hz⟩:=I.list hs
    obtain ⟨o,e,hc,_⟩:=pl.isList
    exact IsiPair.list_list e hc ⟨.bl true,H,I,rfl,q⟩
  | str_str z=>obtain ⟨t,rfl⟩:=r1;exact IsiPair.str_str ⟨.bl true,H,I,rfl,q⟩
  | bl_bool z=>cases r1;exact IsiPair.bool_bool ⟨.bl true,H,I,rfl,q⟩
theorem all_ix (bs:List Bool):(List.range bs.length).all (fun i=>(bs[i]?).getD false)=bs.all id:=by
  rw [Bool.eq_iff_iff,List.all_eq_true,List.all_eq_true]
  constructor
  · intro h b hb
    obtain ⟨i,hi,e⟩:=List.mem_iff_getElem.mp hb
    have:=h i (List.mem_range.mpr hi)
    rw [List.getElem?_eq_getElem hi,Option.getD_some,e] at this
    exact this
  · intro h i hi
    have hi:=List.mem_range.mp hi
    rw [List.getElem?_eq_getElem hi,Option.getD_some]
    exact h _ (List.getElem_mem hi)
theorem call_sum_int (hc:X.calm=true):CallR X (.builtin "sum") (fun xs H Q=>∃ (p:Addr) (ns:List Int),xs=[.ref p]∧SqL X.K H p (ns.map V.int)∧∀ z:Int,Q (.int z) H):=by
  intro pins s σ H xs us Q I r h
  obtain ⟨p,ns,rfl,hq,q⟩:=h
  obtain ⟨u,rfl,rx⟩:=vals1 r
  cases rx
  obtain ⟨its,rv,pl,hz⟩:=I.list hq
  have intsOf:∀ (ns:List Int) (its:List Value),Vals (ns.map V.int) its→∃ xs:List (Int × Tok),its=xs.map fun p=>Value.int p.1 p.2:=by
    intro ns
    induction ns with
    | nil=>intro its r;cases r;exact ⟨[],rfl⟩
    | cons n ns ih=>
      intro its r
      cases r with
      | cons r rr=>
        obtain ⟨xs,rfl⟩:=ih _ rr
        obtain ⟨t,rfl⟩:=r
        exact ⟨(n,t)::xs,rfl⟩
  obtain ⟨xs,rfl⟩:=intsOf ns its rv
  refine sum_intListG (xs:=xs.toArray) (I.ok.hd hc) ?_ fun h' tk t' hk=>⟨.int _,H,I.kept hk,⟨t',rfl⟩,q _⟩
  have e:=pl.isList
  simpa [intItems] using e
end
section
variable {X:Cx}
theorem strs_are:∀ {ys:List Str} {us:List Value},Vals (ys.map V.str) us→StrsAre us ys
  | [],_,r=>by cases r;exact .nil
  | y::ys,_,r=>by
    cases r with
    | cons r rr=>
      obtain ⟨t,rfl⟩:=r
      exact .cons _ _ (strs_are rr)
def rJoin (K:Fg):V→List V→Hp→VK→Prop:=fun x vs H Q=>∃ (sep:Str) (p:Addr) (ys:List Str),x=.str sep∧vs=[.ref p]∧SqL K H p (ys.map V.str)∧(ys.map (·.length)).sum + ys.length * sep.length≤16777216∧Q (.str (Txt.join sep ys)) H
theorem mt_join:MtR X "str.join" (rJoin X.K):=by
  intro pins s σ H x vs v us Q I rx rv h
  obtain ⟨sep,p,ys,rfl,rfl,hq,hz,q⟩:=h
  obtain ⟨t,rfl⟩:=rx
  obtain ⟨u,rfl,ru⟩:=rv.one
  cases ru
  obtain ⟨its,r,pl,_⟩:=I.list hq
  exact join_list pl.isList (by simpa using strs_are r) hz fun t' k=>⟨.str _,H,I.tok k,⟨t',rfl⟩,q⟩
end
section
variable {X:Cx}
def eqVs (xs ys:List V):Bool:=(List.range (min xs.length ys.length)).all (fun j=>eqV ((xs[j]?).getD .non) ((ys[j]?).getD .non)) && xs.length == ys.length
def rEqT (K:Fg) (neg:Bool):R2:=fun x y H Q=>∃ p q xs ys,x=.ref p∧y=.ref q∧SqT K H p xs∧SqT K H q ys∧xs.all flatV=true∧ys.all flatV=true∧Q (.bl (if neg then !eqVs xs ys else eqVs xs ys)) H
theorem at_eq {A:Around} {s:Shared} {xs ys:List V} {us vs:List Value} (r1:Vals xs us) (r2:Vals ys vs) (f1:xs.all flatV=true) (f2:ys.all flatV=true) :
    ∀ j (h1:j < us.toArray.size) (h2:j < vs.toArray.size),SeqAt.EqAt A s us.toArray[j] vs.toArray[j] (eqV ((xs[j]?).getD .non) ((ys[j]?).getD .non)):=by
  intro j h1 h2
  have l1:=r1.length
  have l2:=r2.length
  rw [List.size_toArray] at h1 h2
  have j1:j < xs.length:=by lia
  have j2:j < ys.length:=by lia
  obtain ⟨u,hu,ru⟩:=r1.get (List.getElem?_eq_getElem j1)
  obtain ⟨v,hv,rv⟩:=r2.get (List.getElem?_eq_getElem j2)
  have eu:us.toArray[j]=u:=by
    have:=List.getElem?_eq_getElem h1
    rw [hu] at this
    simpa using (Option.some.inj this).symm
  have ev:vs.toArray[j]=v:=by
    have:=List.getElem?_eq_getElem h2
    rw [hv] at this
    simpa using (Option.some.inj this).symm
  rw [eu,ev,List.getElem?_eq_getElem j1,List.getElem?_eq_getElem j2,Option.getD_some,Option.getD_some]
  exact eqAt_V ru rv (List.all_eq_true.mp f1 _ (List.getElem_mem j1)) (List.all_eq_true.mp f2 _ (List.getElem_mem j2))
theorem op_eqT (hu:X.A.units < cLine):OpR X (compareOp .Eq) (rEqT X.K false):=by
  intro pins s σ H x y v u Q I rx ry h
  obtain ⟨p,q,xs,ys,rfl,rfl,h1,h2,f1,f2,qq⟩:=h
  cases rx
  cases ry
  obtain ⟨us,r1,t1,_⟩:=I.tuple h1
  obtain ⟨vs,r2,t2,_⟩:=I.tuple h2
  refine SeqAt.eq_tupleAt (show s.heap.IsTuple p us.toArray from t1) (show s.heap.IsTuple q vs.toArray from t2) hu (at_eq r1 r2 f1 f2) ⟨.bl (eqVs xs ys),H,I,?_,qq⟩
  show Value.bool _=Value.bool _
  unfold eqVs
  rw [List.size_toArray,List.size_toArray,r1.length,r2.length]
def rEqTS (K:Fg):R2:=fun x y H Q=>∃ p xs z,x=.ref p∧y=.str z∧SqT K H p xs∧Q (.bl false) H
theorem op_eqTS (hu:X.A.units < cLine):OpR X (compareOp .Eq) (rEqTS X.K):=by
  intro pins s σ H x y v u Q I rx ry h
  obtain ⟨p,xs,z,rfl,rfl,h1,qq⟩:=h
  cases rx
  obtain ⟨t,rfl⟩:=ry
  obtain ⟨us,r1,t1,_⟩:=I.tuple h1
  exact SeqAt.RcAt.tuple_str z t (show s.heap.IsTuple p us.toArray from t1) hu X.prog X.w X.xe _ ⟨.bl false,H,I,rfl,qq⟩
theorem op_neT (hu:X.A.units < cLine):OpR X (compareOp .NotEq) (rEqT X.K true):=by
  intro pins s σ H x y v u Q I rx ry h
  obtain ⟨p,q,xs,ys,rfl,rfl,h1,h2,f1,f2,qq⟩:=h
  cases rx
  cases ry
  obtain ⟨us,r1,t1,_⟩:=I.tuple h1
  obtain ⟨vs,r2,t2,_⟩:=I.tuple h2
  refine SeqAt.RcNeAt.tuples (show s.heap.IsTuple p us.toArray from t1) (show s.heap.IsTuple q vs.toArray from t2) hu (at_eq r1 r2 f1 f2) X.prog X.w X.xe _ ⟨.bl (!eqVs xs ys),H,I,?_,qq⟩
  show Value.bool _=Value.bool _
  unfold eqVs
  rw [List.size_toArray,List.size_toArray,r1.length,r2.length]
end
section
variable {X:Cx}
def rEqL (K:Fg) (neg:Bool):R2:=fun x y H Q=>∃ p q xs ys,x=.ref p∧y=.ref q∧SqL K H p xs∧SqL K H q ys∧xs.all flatV=true∧ys.all flatV=true∧Q (.bl (if neg then !eqVs xs ys else eqVs xs ys)) H
theorem eqVs_len {xs ys:List V} (h:xs.length=ys.length):eqVs xs ys=(List.range xs.length).all (fun j=>eqV ((xs[j]?).getD .non) ((ys[j]?).getD .non)):=by
  unfold eqVs;rw [← h,Nat.min_self];simp
theorem eqVs_ne {xs ys:List V} (h:¬ xs.length=ys.length):eqVs xs ys=false:=by
  unfold eqVs;rw [Bool.and_eq_false_iff];right;simpa using h
theorem op_eqL (hu:X.A.units < cLine):OpR X (compareOp .Eq) (rEqL X.K false):=by
  intro pins s σ H x y v u Q I rx ry h
  obtain ⟨p,q,xs,ys,rfl,rfl,h1,h2,f1,f2,qq⟩:=h
  cases rx
  cases ry
  obtain ⟨us,r1,t1,_⟩:=I.list h1
  obtain ⟨vs,r2,t2,_⟩:=I.list h2
  have l1:=r1.length
  have l2:=r2.length
  by_cases c:xs.length=ys.length
  · refine SeqAt.eq_listAt t1.isList t2.isList (by rw [List.size_toArray,List.size_toArray];lia) hu (at_eq r1 r2 f1 f2) ⟨.bl (eqVs xs ys),H,I,?_,qq⟩
    show Value.bool _=Value.bool _
    rw [eqVs_len c,List.size_toArray,l1]
  · refine SeqAt.eq_list_lengthsAt t1.isList t2.isList (by rw [List.size_toArray,List.size_toArray];simp;lia) hu ⟨.bl (eqVs xs ys),H,I,?_,qq⟩
    show Value.bool _=Value.bool _
    rw [eqVs_ne c]
theorem op_neL (hu:X.A.units < cLine):OpR X (compareOp .NotEq) (rEqL X.K true):=by
  intro pins s σ H x y v u Q I rx ry h
  obtain ⟨p,q,xs,ys,rfl,rfl,h1,h2,f1,f2,qq⟩:=h
  cases rx
  cases ry
  obtain ⟨us,r1,t1,_⟩:=I.list h1
  obtain ⟨vs,r2,t2,_⟩:=I.list h2
  have l1:=r1.length
  have l2:=r2.length
  by_cases c:xs.length=ys.length
  · refine SeqAt.RcNeAt.lists t1.isList t2.isList (by rw [List.size_toArray,List.size_toArray];lia) hu (at_eq r1 r2 f1 f2) X.prog X.w X.xe _ ⟨.bl (!eqVs xs ys),H,I,?_,qq⟩
    show Value.bool _=Value.bool _
    rw [eqVs_len c,List.size_toArray,l1]
  · refine SeqAt.RcNeAt.lists_lengths t1.isList t2.isList (by rw [List.size_toArray,List.size_toArray];simp;lia) hu X.prog X.w X.xe _ ⟨.bl (!eqVs xs ys),H,I,?_,qq⟩
    show Value.bool _=Value.bool _
    rw [eqVs_ne c];rfl
end
section
variable {prog:Program} {w:World} {A:Around} {E:Value→Shared→Prop}
theorem draw_listU {it t:Addr} {items:Array Value} (hne:t≠it):∀ (n i:Nat) (s:Shared) (Q:List Value→Shared→Prop),s.heap.IsListIter it t i→s.heap.IsList t items→i + n≤items.size→
    (∀ h':Heap,h'.IsListIter it t (i + n)→Heap.SameBut it s.heap h'→Q ((items.toList.drop i).take n) { s with heap:=h' })→wpAny (model prog w) A (draw (.ref it) n) Q E s
  | 0,i,s,Q,hit,_,_,hQ=>by
    show wpAny _ _ (pure []) Q E s
    exact wpAny_pure (by simpa using hQ s.heap hit (Heap.SameBut.refl ..))
  | n + 1,i,s,Q,hit,ht,hle,hQ=>by
    have hlt:i < items.size:=by lia
    show wpAny _ _ (pyNext (.ref it) >>= _) Q E s
    refine wpAny_bind (wpAny_pyNext_list_item hit ht (x:=items[i]) (by simp [hlt]) fun h₁ hit₁ hs₁=>?_)
    refine wpAny_bind (wpAny_holding (draw_listU hne n (i + 1) _ _ hit₁ (ht.extBut hs₁.extBut hne) (by lia) fun h₂ hit₂ hs₂=>wpAny_pure ?_))
    have hd:items.toList.drop i=items[i]::items.toList.drop (i + 1):=by simp [List.drop_eq_getElem_cons,hlt]
    have:=hQ h₂ (by rw [show i + (n + 1)=i + 1 + n by lia];exact hit₂) (hs₁.trans hs₂)
    rw [hd,List.take_succ_cons] at this
    exact this
theorem unpackItems_listU {s:Shared} {t:Addr} {items:Array Value} {Q:List Value→Shared→Prop} (hh:A.handled=none) (ht:s.heap.IsList t items)
    (hQ:∀ h':Heap,Heap.ExtBut s.heap.objs.size s.heap h'→Q items.toList { s with heap:=h' }):wpAny (model prog w) A (unpackItems (.ref t) items.size none) Q E s:=by
  have hlt:t≠s.heap.objs.size:=by obtain ⟨o,ho,_⟩:=ht;exact Nat.ne_of_lt (Heap.lt_size ho)
  unfold unpackItems
  refine wpAny_bind ?_
  · unfold notIterableAtAll
    refine wpAny_bind (wpAny_specialOf ht.typeIs slot_list_iter.lookup ?_)
    refine wpAny_pure ?_
    simp only [Bool.false_eq_true,if_false]
    refine wpAny_bind (wpAny_holding (wpAny_pyIter_list ht ?_))
    refine wpAny_bind (wpAny_holding (draw_listU hlt items.size 0 _ _ ⟨_,Heap.get?_push_size _ rfl,rfl,rfl⟩ (ht.push _) (by lia) fun h₁ hit₁ hs₁=>?_))
    have hall:List.take items.size (List.drop 0 items.toList)=items.toList:=by
      rw [List.drop_zero];exact List.take_of_length_le (by simp)
    rw [hall]
    rw [if_neg (by simp)]
    have ht₁:h₁.IsList t items:=(ht.push _).extBut hs₁.extBut hlt
    refine wpAny_bind (wpAny_holding (wpAny_pyNext_list_end hh hit₁ ht₁ (by simp) fun h₂ he₂=>?_))
    simp only [Option.isSome_none,Bool.false_eq_true,if_false]
    refine wpAny_pure (hQ h₂ fun b o hb e=>he₂ b o hb (hs₁.extBut b o hb (Heap.get?_push_of_some _ e)))
end
section
variable {X:Cx} {pos:Pos}
def gTupL (K:Fg) (n:Nat) (t:TGs):TG:=fun v σ H Q=>∃ a xs,v=.ref a∧SqL K H a xs∧xs.length=n∧t xs σ H Q
theorem pg_tupL {es:List Expr} {k:Nat} {t:TGs} {n:Nat} (hc:X.calm=true) (h:PGs X es t)
    (hn:(assignEach es X.env).length=n:=by rfl) (hst:(assignEach es X.env).findIdx? (·.1)=none:=by rfl):PG X (.Tuple es k pos) (gTupL X.K n t):=by
  intro pins s σ H v u Q I r hw
  obtain ⟨a,xs,e1,hq,hl,hw⟩:=hw
  subst e1
  cases r
  obtain ⟨its,rv,ht,hz⟩:=I.list hq
  rw [assign_Tuple]
  refine wpAny_bind (wpAny_standAt ?_)
  unfold unpack
  have e:(assignEach es X.env).length=its.toArray.size:=by simp [hn,← hl,rv.length]
  rw [e,hst]
  refine wpAny_bind (wpAny_holding (unpackItems_listU (I.ok.hd hc) ht.isList fun h' hx=>?_))
  have I1:Inv X pins σ H { s with heap:=h' }:=I.kept (t':=s.toks) fun b o e=>hx b o (Nat.ne_of_lt (Heap.lt_size e)) e
  exact h pins _ σ H xs _ Q I1 (by simpa using rv) hw
end
def rStr2:R2:=fun x y H Q=>∃ i j,x=.str i∧y=.str j∧i.length + j.length≤sizeLine∧Q (.str (i++j)) H
def rPlus (K:Fg):R2:=fun x y H Q=>rI0 (fun i j=>.int (i + j)) x y H Q∨(rStr2 x y H Q∨(rCat x y H Q∨rCatT K x y H Q))
def rSub2:R2:=rI0 fun i j=>.int (i - j)
def rTimes (K:Fg):R2:=fun x y H Q=>rI CMul (fun i j=>.int (i * j)) x y H Q∨rRepT K x y H Q
def rMod2:R2:=rI (fun _ j=>0 < j) fun i j=>.int (i % j)
def rFdiv2:R2:=rI CDiv fun i j=>.int (i / j)
def rPow2:R2:=rI CPow fun i j=>.int (i ^ j.toNat)
def rEqG (K:Fg):R2:=fun x y H Q=>rEq x y H Q∨(rEqT K false x y H Q∨(rEqTS K x y H Q∨rEqL K false x y H Q))
def rNeG (K:Fg):R2:=fun x y H Q=>rNe x y H Q∨(rEqT K true x y H Q∨rEqL K true x y H Q)
def rLt2:R2:=rI0 fun i j=>.bl (decide (i < j))
def rGt2:R2:=rI0 fun i j=>.bl (decide (j < i))
def rIsN:R2:=fun x y H Q=>y=.non∧Q (.bl (decide (x=.non))) H
def rNeg:V→Hp→VK→Prop:=rU fun i=>.int (-i)
def rSl (K:Fg):V→Option Int→Option Int→Hp→VK→Prop:=fun x lo hi H Q=>rSlL K x lo hi H Q∨rSlT K x lo hi H Q
def rLen (K:Fg):List V→Hp→VK→Prop:=fun xs H Q=>∃ x n,xs=[x]∧LenV K x H n∧Q (.int n) H
def rDivmod:List V→Hp→VK→Prop:=fun xs H Q=>∃ i j,xs=[.int i,.int j]∧(0 < j∧j < 2 ^ 64)∧∀ p,H p=none→Q (.ref p) (upd H p (.tup [.int (i / j),.int (i % j)]))
def rMax2:List V→Hp→VK→Prop:=fun xs H Q=>∃ i j,xs=[.int i,.int j]∧Q (.int (if j > i then j else i)) H
def rMin2:List V→Hp→VK→Prop:=fun xs H Q=>∃ i j,xs=[.int i,.int j]∧Q (.int (if j < i then j else i)) H
def rSum (K:Fg):List V→Hp→VK→Prop:=fun xs H Q=>∃ (p:Addr) (ns:List Int),xs=[.ref p]∧SqL K H p (ns.map V.int)∧∀ z:Int,Q (.int z) H
def rIsi (K:Fg):List V→Hp→VK→Prop:=fun xs H Q=>∃ x T b,xs=[x,.ty T]∧IsiV K H x T b∧Q (.bl b) H
def rInt1:List V→Hp→VK→Prop:=fun xs H Q=>(∃ i,xs=[.int i]∧Q (.int i) H)∨∃ k,xs=[.bl k]∧Q (.int (if k then 1 else 0)) H
def rListOf (K:Fg):List V→Hp→VK→Prop:=fun xs H Q=>∃ p ys,xs=[.ref p]∧(SqL K H p ys∨SqT K H p ys)∧∀ l,H l=none→Q (.ref l) (upd H l (.lst ys))
def rTupleOf (K:Fg):List V→Hp→VK→Prop:=fun xs H Q=>∃ p ys,xs=[.ref p]∧((SqL K H p ys∧∀ l,H l=none→Q (.ref l) (upd H l (.tup ys)))∨(SqT K H p ys∧Q (.ref p) H))
def iSeq (K:Fg) (tl:TE):TI:=fun σ H R=>iList K tl σ H R∨iTup K tl σ H R
section
variable {X:Cx}
theorem op_plus:OpR X (binaryOp .Add) (rPlus X.K):=op_add.or (op_add_str.or (op_cat.or op_catT))
theorem op_times:OpR X (binaryOp .Mult) (rTimes X.K):=op_mul.or op_repT
theorem op_eqG (hu:X.A.units < cLine):OpR X (compareOp .Eq) (rEqG X.K):=op_eq.or ((op_eqT hu).or ((op_eqTS hu).or (op_eqL hu)))
theorem op_neG (hu:X.A.units < cLine):OpR X (compareOp .NotEq) (rNeG X.K):=op_ne.or ((op_neT hu).or (op_neL hu))
theorem sl_seq:SlR X (rSl X.K):=sl_list.or sl_tup
theorem pi_seq {tg l:Expr} {tl:TE} (hl:PE X l tl):PI X tg l (iSeq X.K tl):=by
  intro pins s σ H R I h
  rcases h with h | h
  · exact pi_list hl pins s σ H R I h
  · exact pi_tup hl pins s σ H R I h
end
structure Callee (P:Program) (w:World) (K:Fg) (mg:Str→Option Value) (base:Heap) (x:Str) (ps:List Str) (k:Nat) (sp:Sp):Prop where
  ex:∃ (f:Addr) (fd:FuncData),mg x=some (.ref f)∧PySem.W.keepIn K (.ref f)=true∧Binds K fd ps []∧FnOk P w K mg base CX0 k f fd ps sp
theorem pe_fn {X:Cx} {x:Str} {ps:List Str} {k:Nat} {sp:Sp} {e:Expr} {es:List Expr} {t:TA} {p pos:Pos} (c:Callee X.prog X.w X.K X.mg X.base x ps k sp) (hr:Room k X.A) (hg:Gl X x) (ha:PA X (e::es) t)
    (hdb:(x == ("__debug__":Str))=false:=by decide) (he:starEach (e::es) X.env=(false,eval e X.env)::starEach es X.env:=by rfl) (hpl:(backTo pos (starEach es X.env)).any (·.1)=false:=by rfl) :
    PE X (.Call (.Name x p) (e::es) [] pos) (tCall sp [] E0 t):=by
  obtain ⟨f,fd,hm,hk,hb,F⟩:=c.ex
  exact pe_call F hr hg hm hk hb .nil pass0 ha hdb he hpl
structure Blt (mg:Str→Option Value):Prop where
  len_:mg "len"=none
  range_:mg "range"=none
  divmod_:mg "divmod"=none
  max_:mg "max"=none
  min_:mg "min"=none
  sum_:mg "sum"=none
  all_:mg "all"=none
  isinstance_:mg "isinstance"=none
  int_:mg "int"=none
  bool_:mg "bool"=none
  list_:mg "list"=none
  tuple_:mg "tuple"=none
  enumerate_:mg "enumerate"=none
  zip_:mg "zip"=none
  sorted_:mg "sorted"=none
  set_:mg "set"=none
  dict_:mg "dict"=none
  str_:mg "str"=none
  any_:mg "any"=none
  reversed_:mg "reversed"=none
  abs_:mg "abs"=none
def But (a:Addr) (H H':Hp):Prop:=∀ b o,b≠a→H b=some o→H' b=some o
theorem But.refl (a:Addr) (H:Hp):But a H H:=fun _ _ _ h=>h
theorem But.trans {a:Addr} {H H1 H2:Hp} (x:But a H H1) (y:But a H1 H2):But a H H2:=fun c o n h=>y c o n (x c o n h)
theorem Same.but {a:Addr} {H H':Hp} (x:Same H H'):But a H H':=fun b o _ h=>x b o h
theorem But.upd_at {a:Addr} {H:Hp} {o:HO}:But a H (upd H a o):=fun b u n h=>by rw [upd_ne n];exact h
theorem But.new {a p:Addr} {H H1:Hp} {o:HO} (x:But a H H1) (hp:H1 p=none):But a H (upd H1 p o):=fun b u n h=>by
  rw [upd_ne (ne_of_none (x b u n h) hp)];exact x b u n h
theorem Same.new {p:Addr} {H H1:Hp} {o:HO} (x:Same H H1) (hp:H1 p=none):Same H (upd H1 p o):=fun b u h=>by
  rw [upd_ne (ne_of_none (x b u h) hp)];exact x b u h
theorem But.free {a p:Addr} {H H':Hp} (x:But a H H') (n:p≠a) (h:H' p=none):H p=none:=by
  cases q:H p with
  | none=>rfl
  | some o=>rw [x p o n q] at h;cases h
theorem comp_range {js:List Nat} {k:Nat} {lo:Int} {n:Nat} {g:TG} {tc:TT} {te:TE} {R:Hp→Prop} {σ:St} {H:Hp} {D:Addr} (Pv:Nat→St→Hp→Prop) (h0:Pv 0 (emS js k σ) (upd H D (.lst [])))
    (hs:∀ i σ H,i < n→Pv i σ H→g (.int (lo + i)) σ H fun σ2 H2=>sApp D tc te { nx:=Pv (i + 1),rt:=fun _ _=>False,ct:=Pv (i + 1),bk:=fun _ H'=>R H' } σ2 H2) (hd:∀ σ H,Pv n σ H→R H) :
    ∃ W:Nat→Nat→St→Hp→Prop,(∃ m,W 0 m (emS js k σ) (upd H D (.lst [])))∧∀ i m σ H,W i m σ H→
      ((Itr lo n).stop i H∧R H)∨((Itr lo n).go i H∧∃ N:St→Hp→Prop,(∀ σ' H',N σ' H'→∃ m',m' < m∧W (i + 1) m' σ' H')∧∀ x H',(Itr lo n).yld i H x H'→g x σ H' fun σ2 H2=>sApp D tc te { nx:=N,rt:=fun _ _=>False,ct:=N,bk:=fun _ H'=>R H' } σ2 H2):=
  for_range (D:={ nx:=fun _ H'=>R H',rt:=fun _ _=>False }) Pv h0 hs hd
theorem comp_list {js:List Nat} {k:Nat} {K:Fg} {a:Addr} {xs:List V} {g:TG} {tc:TT} {te:TE} {R:Hp→Prop} {σ:St} {H:Hp} {D:Addr} (Pv:Nat→St→Hp→Prop) (h0:Pv 0 (emS js k σ) (upd H D (.lst []))) (hl:∀ i σ H,i≤xs.length→Pv i σ H→SqL K H a xs)
    (hs:∀ i x σ H,xs[i]?=some x→Pv i σ H→g x σ H fun σ2 H2=>sApp D tc te { nx:=Pv (i + 1),rt:=fun _ _=>False,ct:=Pv (i + 1),bk:=fun _ H'=>R H' } σ2 H2) (hd:∀ σ H,Pv xs.length σ H→R H) :
    ∃ W:Nat→Nat→St→Hp→Prop,(∃ m,W 0 m (emS js k σ) (upd H D (.lst [])))∧∀ i m σ H,W i m σ H→
      ((Itl K a).stop i H∧R H)∨((Itl K a).go i H∧∃ N:St→Hp→Prop,(∀ σ' H',N σ' H'→∃ m',m' < m∧W (i + 1) m' σ' H')∧∀ x H',(Itl K a).yld i H x H'→g x σ H' fun σ2 H2=>sApp D tc te { nx:=N,rt:=fun _ _=>False,ct:=N,bk:=fun _ H'=>R H' } σ2 H2):=
  for_list (D:={ nx:=fun _ H'=>R H',rt:=fun _ _=>False }) Pv h0 hl hs hd
theorem comp_tup {js:List Nat} {k:Nat} {K:Fg} {a:Addr} {xs:List V} {g:TG} {tc:TT} {te:TE} {R:Hp→Prop} {σ:St} {H:Hp} {D:Addr} (Pv:Nat→St→Hp→Prop) (h0:Pv 0 (emS js k σ) (upd H D (.lst []))) (hl:∀ i σ H,i≤xs.length→Pv i σ H→SqT K H a xs)
    (hs:∀ i x σ H,xs[i]?=some x→Pv i σ H→g x σ H fun σ2 H2=>sApp D tc te { nx:=Pv (i + 1),rt:=fun _ _=>False,ct:=Pv (i + 1),bk:=fun _ H'=>R H' } σ2 H2) (hd:∀ σ H,Pv xs.length σ H→R H) :
    ∃ W:Nat→Nat→St→Hp→Prop,(∃ m,W 0 m (emS js k σ) (upd H D (.lst [])))∧∀ i m σ H,W i m σ H→
      ((Itt K a).stop i H∧R H)∨((Itt K a).go i H∧∃ N:St→Hp→Prop,(∀ σ' H',N σ' H'→∃ m',m' < m∧W (i + 1) m' σ' H')∧∀ x H',(Itt K a).yld i H x H'→g x σ H' fun σ2 H2=>sApp D tc te { nx:=N,rt:=fun _ _=>False,ct:=N,bk:=fun _ H'=>R H' } σ2 H2):=
  for_tup (D:={ nx:=fun _ H'=>R H',rt:=fun _ _=>False }) Pv h0 hl hs hd
theorem But.through {a l:Addr} {H H1 H2:Hp} {o:HO} (x:But a H H1) (hl:H1 l=none) (y:But l (upd H1 l o) H2):But a H H2:=fun b u n h=>by
  have h1:=x b u n h
  have nl:b≠l:=ne_of_none h1 hl
  exact y b u nl (by rw [upd_ne nl];exact h1)
end L2
end
section
namespace Bg
open PySem L2
inductive BRow where
  | num (x:Str) (z:Int)
  | op (x s a b:Str)
  | call (x:Str) (k:Nat) (as:List Str)
  | say (a:Str)
  | jump (to:Nat)
  | test (a:Str) (to:Nat)
  | give (a:Str)
structure BPart where
  name:Str
  params:List Str
  rows:List BRow
def word:BRow→Str
  | .num _ _=>"num" | .op _ _ _ _=>"op" | .call _ _ _=>"call" | .say _=>"say" | .jump _=>"jump" | .test _ _=>"test" | .give _=>"give"
def RowAt (H:Hp) (v:V):BRow→Prop
  | .num x z=>∃ p,v=.ref p∧H p=some (.tup [.str "num",.str x,.int z])
  | .op x s a b=>∃ p,v=.ref p∧H p=some (.tup [.str "op",.str x,.str s,.str a,.str b])
  | .call x k as=>∃ p q,v=.ref p∧H p=some (.tup [.str "call",.str x,.int (k:Nat),.ref q])∧H q=some (.tup (as.map V.str))
  | .say a=>∃ p,v=.ref p∧H p=some (.tup [.str "say",.str a])
  | .jump to=>∃ p,v=.ref p∧H p=some (.tup [.str "jump",.int (to:Nat)])
  | .test a to=>∃ p,v=.ref p∧H p=some (.tup [.str "test",.str a,.int (to:Nat)])
  | .give a=>∃ p,v=.ref p∧H p=some (.tup [.str "give",.str a])
def Tp (H H':Hp):Prop:=∀ p xs,H p=some (.tup xs)→H' p=some (.tup xs)
theorem Tp.refl (H:Hp):Tp H H:=fun _ _ h=>h
theorem Tp.trans {H H1 H2:Hp} (x:Tp H H1) (y:Tp H1 H2):Tp H H2:=fun p xs h=>y p xs (x p xs h)
theorem Tp.of_same {H H':Hp} (x:Same H H'):Tp H H':=fun p xs h=>x p _ h
theorem Tp.of_but {a:Addr} {ys:List V} {H H':Hp} (x:But a H H') (ha:H a=some (.lst ys)):Tp H H':=fun p xs h=>x p _ (by rintro rfl;rw [h] at ha;cases ha) h
theorem Tp.new {p:Addr} {H H1:Hp} {o:HO} (x:Tp H H1) (hp:H1 p=none):Tp H (upd H1 p o):=fun b xs h=>by
  rw [upd_ne (ne_of_none (x b xs h) hp)];exact x b xs h
theorem Tp.lst {p:Addr} {H H1:Hp} {ys:List V} {o:HO} (x:Tp H H1) (hp:H1 p=some (.lst ys)):Tp H (upd H1 p o):=fun b xs h=>by
  have h1:=x b xs h
  rw [upd_ne (by rintro rfl;rw [h1] at hp;cases hp)];exact h1
theorem RowAt.mono {H H':Hp} {v:V} {r:BRow} (h:RowAt H v r) (t:Tp H H'):RowAt H' v r:=by
  cases r with
  | num x z=>obtain ⟨p,e,h⟩:=h;exact ⟨p,e,t _ _ h⟩
  | op x s a b=>obtain ⟨p,e,h⟩:=h;exact ⟨p,e,t _ _ h⟩
  | call x k as=>obtain ⟨p,q,e,h,h'⟩:=h;exact ⟨p,q,e,t _ _ h,t _ _ h'⟩
  | say a=>obtain ⟨p,e,h⟩:=h;exact ⟨p,e,t _ _ h⟩
  | jump to=>obtain ⟨p,e,h⟩:=h;exact ⟨p,e,t _ _ h⟩
  | test a to=>obtain ⟨p,e,h⟩:=h;exact ⟨p,e,t _ _ h⟩
  | give a=>obtain ⟨p,e,h⟩:=h;exact ⟨p,e,t _ _ h⟩
theorem RowAt.ref {H:Hp} {v:V} {r:BRow} (h:RowAt H v r):∃ p xs,v=.ref p∧H p=some (.tup (.str (word r)::xs)):=by
  cases r with
  | num x z=>obtain ⟨p,e,h⟩:=h;exact ⟨p,_,e,h⟩
  | op x s a b=>obtain ⟨p,e,h⟩:=h;exact ⟨p,_,e,h⟩
  | call x k as=>obtain ⟨p,q,e,h,h'⟩:=h;exact ⟨p,_,e,h⟩
  | say a=>obtain ⟨p,e,h⟩:=h;exact ⟨p,_,e,h⟩
  | jump to=>obtain ⟨p,e,h⟩:=h;exact ⟨p,_,e,h⟩
  | test a to=>obtain ⟨p,e,h⟩:=h;exact ⟨p,_,e,h⟩
  | give a=>obtain ⟨p,e,h⟩:=h;exact ⟨p,_,e,h⟩
structure AllAt {α:Type} (R:V→α→Prop) (vs:List V) (rs:List α):Prop where
  len:vs.length=rs.length
  at_:∀ (i:Nat) v r,vs[i]?=some v→rs[i]?=some r→R v r
theorem AllAt.nil {α:Type} {R:V→α→Prop}:AllAt R [] []:=⟨rfl,fun i v r h=>by simp at h⟩
theorem AllAt.imp {α:Type} {R R':V→α→Prop} {vs:List V} {rs:List α} (h:AllAt R vs rs) (f:∀ v r,R v r→R' v r):AllAt R' vs rs:=⟨h.len,fun i v r a b=>f v r (h.at_ i v r a b)⟩
theorem AllAt.snoc {α:Type} {R:V→α→Prop} {vs:List V} {rs:List α} {v:V} {r:α} (h:AllAt R vs rs) (q:R v r):AllAt R (vs++[v]) (rs++[r]):=by
  refine ⟨by simp [h.len],fun i w t a b=>?_⟩
  by_cases hi:i < vs.length
  · rw [List.getElem?_append_left hi] at a
    rw [List.getElem?_append_left (by rw [← h.len];exact hi)] at b
    exact h.at_ i w t a b
  · rw [List.getElem?_append_right (by omega)] at a
    rw [List.getElem?_append_right (by rw [← h.len];omega)] at b
    have e:i - vs.length=0:=by
      have:=(List.getElem?_eq_some_iff.mp a).1
      simp at this;omega
    rw [e] at a
    rw [← h.len,e] at b
    simp at a b
    rw [← a,← b];exact q
theorem AllAt.set {α:Type} {R:V→α→Prop} {vs:List V} {rs:List α} {j:Nat} {v:V} {r:α} (h:AllAt R vs rs) (q:R v r):AllAt R (vs.set j v) (rs.set j r):=by
  refine ⟨by simp [h.len],fun i w t a b=>?_⟩
  by_cases e:j=i
  · subst e
    have hj:j < vs.length:=by have:=(List.getElem?_eq_some_iff.mp a).1;rw [List.length_set] at this;exact this
    rw [List.getElem?_set_self hj] at a
    rw [List.getElem?_set_self (by rw [← h.len];exact hj)] at b
    cases a;cases b;exact q
  · rw [List.getElem?_set_ne e] at a b
    exact h.at_ i w t a b
theorem AllAt.get {α:Type} {R:V→α→Prop} {vs:List V} {rs:List α} (h:AllAt R vs rs) {i:Nat} (hi:i < rs.length):∃ v r,vs[i]?=some v∧rs[i]?=some r∧R v r:=by
  have h1:i < vs.length:=by rw [h.len];exact hi
  exact ⟨vs[i],rs[i],List.getElem?_eq_getElem h1,List.getElem?_eq_getElem hi,h.at_ i _ _ (List.getElem?_eq_getElem h1) (List.getElem?_eq_getElem hi)⟩
theorem AllAt.of_v {α:Type} {R:V→α→Prop} {vs:List V} {rs:List α} (h:AllAt R vs rs) {i:Nat} {v:V} (e:vs[i]?=some v):∃ r,rs[i]?=some r∧R v r:=by
  have h1:=(List.getElem?_eq_some_iff.mp e).1
  obtain ⟨v',r,e1,e2,q⟩:=h.get (i:=i) (by rw [← h.len];exact h1)
  rw [e] at e1;cases e1
  exact ⟨r,e2,q⟩
def PartAt (H:Hp) (v:V) (b:BPart):Prop:=∃ p q r rs,v=.ref p∧H p=some (.tup [.str b.name,.ref q,.ref r])∧H q=some (.tup (b.params.map V.str))∧H r=some (.tup rs)∧AllAt (RowAt H) rs b.rows
theorem PartAt.mono {H H':Hp} {v:V} {b:BPart} (h:PartAt H v b) (t:Tp H H'):PartAt H' v b:=by
  obtain ⟨p,q,r,rs,e,h1,h2,h3,h4⟩:=h
  exact ⟨p,q,r,rs,e,t _ _ h1,t _ _ h2,t _ _ h3,h4.imp fun _ _ z=>z.mono t⟩
def ScrAt (K:Fg) (H:Hp) (a:Addr) (ns:List Int):Prop:=
  (∃ o,H a=some (.frz o (.lst (ns.map V.int))))∨∃ (o:Obj) (its:Array Value) (n:Nat),K.lookup a=some o∧o.cls=.type "list"∧o.dict=none∧o.data=.seq its n∧its.size≤sizeLine∧Vals (ns.map V.int) its.toList
theorem ScrAt.sq {K:Fg} {H:Hp} {a:Addr} {ns:List Int} (h:ScrAt K H a ns):SqL K H a (ns.map V.int):=by
  rcases h with ⟨o,h⟩ | h
  · exact .inl (.inr ⟨o,h⟩)
  · exact .inr h
def Fz (H H':Hp):Prop:=∀ p o u,H p=some (.frz o u)→H' p=some (.frz o u)
theorem Fz.of_but {a:Addr} {ys:List V} {H H':Hp} (x:But a H H') (ha:H a=some (.lst ys)):Fz H H':=fun p o u h=>x p _ (by rintro rfl;rw [h] at ha;cases ha) h
theorem Fz.of_same {H H':Hp} (x:Same H H'):Fz H H':=fun p o u h=>x p _ h
theorem ScrAt.mono {K:Fg} {H H':Hp} {a:Addr} {ns:List Int} (h:ScrAt K H a ns) (f:Fz H H'):ScrAt K H' a ns:=by
  rcases h with ⟨o,h⟩ | h
  · exact .inl ⟨o,f _ _ _ h⟩
  · exact .inr h
def Stt (K:Fg) (H:Hp) (st:Addr) (k:Nat):Prop:=∃ scr ns c,H st=some (.lst [.ref scr,.int (k:Nat),.int c])∧ScrAt K H scr ns∧ns.length≤63
theorem Stt.lst {K:Fg} {H:Hp} {st:Addr} {k:Nat} (h:Stt K H st k):∃ ys,H st=some (.lst ys):=by
  obtain ⟨scr,ns,c,e,_⟩:=h;exact ⟨_,e⟩
theorem Stt.mono {K:Fg} {H H':Hp} {a st:Addr} {k:Nat} {ys:List V} (h:Stt K H st k) (x:But a H H') (ha:H a=some (.lst ys)) (n:st≠a):Stt K H' st k:=by
  obtain ⟨scr,ns,c,e,q,l⟩:=h
  exact ⟨scr,ns,c,x _ _ n e,q.mono (.of_but x ha),l⟩
theorem Stt.same {K:Fg} {H H':Hp} {st:Addr} {k:Nat} (h:Stt K H st k) (x:Same H H'):Stt K H' st k:=by
  obtain ⟨scr,ns,c,e,q,l⟩:=h
  exact ⟨scr,ns,c,x _ _ e,q.mono (.of_same x),l⟩
theorem Stt.new {K:Fg} {H:Hp} {st p:Addr} {o:HO} {k:Nat} (h:Stt K H st k) (hp:H p=none):Stt K (upd H p o) st k:=h.same ((Same.refl H).new hp)
def sp_draw (K:Fg):Sp:=fun vs H Q _=>∃ (st:Addr) (m:Int) (k:Nat),vs=[.ref st,.int m]∧Stt K H st k∧k≤1000000∧0 < m∧m < 2 ^ 64∧
  ∀ (d:Int) (H':Hp),0≤d→d < m→Stt K H' st (k + 1)→But st H H'→Q (.int d) H'
def resv:List Str:=["part","call","say","jump","test","give"]
structure Nm (y:Str):Prop where
  l1:1≤y.length
  l8:y.length≤8
  abc:∀ c∈y.cps.toList,97≤c∧c≤122
  no:y∉resv
theorem Nm.ne {y:Str} (h:Nm y):y≠"":=by
  rintro rfl
  exact absurd h.l1 (by decide +kernel)
def sp_names (K:Fg):Sp:=fun vs H Q _=>∃ (st:Addr) (n k:Nat),vs=[.ref st,.int (n:Nat)]∧Stt K H st k∧k≤900000∧n≤20∧
  ∀ (l:Addr) (ys:List Str) (k':Nat) (H':Hp),H l=none→ys.length=n→ys.Nodup→(∀ y∈ys,Nm y)→H' l=some (.lst (ys.map V.str))→Stt K H' st k'→k'≤k + 11→But st H H'→Q (.ref l) H'
def sp_worth (K:Fg):Sp:=fun vs H Q _=>∃ (st:Addr) (k:Nat),vs=[.ref st]∧Stt K H st k∧k≤900000∧
  ∀ (z:Int) (k':Nat) (H':Hp),0≤z→z < 2 ^ 64→Stt K H' st k'→k'≤k + 4→But st H H'→Q (.int z) H'
def signs:List Str:=["+","-","*","<","="]
def Rough (ys:List Str) (cs:List Nat) (n:Nat):BRow→Prop
  | .num x z=>x∈ys∧0≤z∧z < 2 ^ 64
  | .op x s a b=>x∈ys∧s∈signs∧a=""∧b=""
  | .call x k as=>x∈ys∧∃ c,cs[k]?=some c∧as=List.replicate c ("":Str)
  | .say a=>a=""
  | .jump to=>to < n
  | .test a to=>a=""∧to < n
  | .give a=>a=""
def intsV (ns:List Nat):List V:=ns.map fun n=>V.int (n:Nat)
def sp_rough_row (K:Fg):Sp:=fun vs H Q _=>∃ (st nm cn:Addr) (n k:Nat) (ys:List Str) (cs:List Nat),vs=[.ref st,.ref nm,.int (n:Nat),.ref cn]∧Stt K H st k∧k≤800000∧H nm=some (.lst (ys.map V.str))∧ys≠[]∧ys.length≤100∧
  1≤n∧n≤1000∧H cn=some (.lst (intsV cs))∧cs≠[]∧cs.length≤100∧(∀ c∈cs,c≤4)∧nm≠st∧cn≠st∧
  ∀ (v:V) (r:BRow) (k':Nat) (H':Hp),RowAt H' v r→Rough ys cs n r→Stt K H' st k'→k'≤k + 8→But st H H'→Q v H'
def leadsL (n:Nat):BRow→List Nat
  | .jump to=>[to]
  | .test _ to=>[n + 1,to]
  | .give _=>[]
  | _=>[n + 1]
def sp_leads (K:Fg):Sp:=fun vs H Q _=>∃ (rl:Addr) (n:Nat) (rvs:List V) (v:V) (r:BRow),vs=[.ref rl,.int (n:Nat)]∧(H rl=some (.lst rvs)∨H rl=some (.tup rvs))∧rvs[n]?=some v∧RowAt H v r∧∀ l,H l=none→Q (.ref l) (upd H l (.lst (intsV (leadsL n r))))
def setsOf:BRow→V
  | .num x _=>.str x
  | .op x _ _ _=>.str x
  | .call x _ _=>.str x
  | _=>.non
def isEnd:BRow→Bool
  | .jump _=>true
  | .give _=>true
  | _=>false
def isNum:BRow→Bool
  | .num _ _=>true
  | _=>false
structure RowsOk (ys:List Str) (cs:List Nat) (rs:List BRow):Prop where
  pos:rs≠[]
  few:rs.length≤100
  rough:∀ r∈rs,Rough ys cs rs.length r
def stp (rs:List BRow) (n:Nat):Nat:=match rs[n]? with
  | some (.jump t)=>t
  | _=>n
def runJ (rs:List BRow):Nat→Nat→Nat
  | 0,n=>n
  | k + 1,n=>runJ rs k (stp rs n)
def isJump:BRow→Bool
  | .jump _=>true
  | _=>false
def NoRing (rs:List BRow):Prop:=∀ n,n < rs.length→∀ r,rs[runJ rs rs.length n]?=some r→isJump r=false
def sp_mended (K:Fg):Sp:=fun vs H Q _=>∃ (rl nm:Addr) (bare:Bool) (rvs:List V) (rs:List BRow) (ys:List Str) (R:BRow→Prop),vs=[.ref rl,.ref nm,.bl bare]∧H rl=some (.lst rvs)∧AllAt (RowAt H) rvs rs∧rs≠[]∧rs.length≤100∧(∀ r∈rs,R r)∧R (.say "")∧R (.give "")∧(∀ t,R (.jump t)→t < rs.length)∧H nm=some (.lst (ys.map V.str))∧ys≠[]∧(∀ y∈ys,bare=true→R (.num y 3))∧nm≠rl∧
  (bare=true→2≤rs.length)∧∀ (rvs':List V) (rs':List BRow) (H':Hp),H' rl=some (.lst rvs')→AllAt (RowAt H') rvs' rs'→rs'.length=rs.length→(∀ r∈rs',R r)→(rs'.getLast?.map isEnd=some true)→(bare=true→rs'.head?.map isNum=some true)→NoRing rs'→But rl H H'→Q (.ref rl) H'
def TxtsAt (H:Hp) (v:V) (ks:List Str):Prop:=∃ a,v=.ref a∧H a=some (.lst (ks.map V.str))
structure Known (ps:List Str) (rs:List BRow) (kss:List (List Str)):Prop where
  zero:∀ ks,kss[0]?=some ks→∀ y∈ks,y∈ps
  on:∀ (n m:Nat) r ks km,rs[n]?=some r→m∈leadsL n r→kss[n]?=some ks→kss[m]?=some km→∀ y∈km,y∈ks∨setsOf r=.str y
def sp_set_names (K:Fg):Sp:=fun vs H Q _=>∃ (rl nm pr:Addr) (rvs:List V) (rs:List BRow) (ys ps:List Str) (cs:List Nat),vs=[.ref rl,.ref nm,.ref pr]∧H rl=some (.lst rvs)∧AllAt (RowAt H) rvs rs∧RowsOk ys cs rs∧(rs.getLast?.map isEnd=some true)∧
  H nm=some (.lst (ys.map V.str))∧ys.length≤100∧H pr=some (.lst (ps.map V.str))∧ps.length≤100∧(∀ y∈ps,y∈ys)∧(ps=[]→rs.head?.map isNum=some true)∧
  ∀ (kl:Addr) (refs:List V) (kss:List (List Str)) (H':Hp),H kl=none→H' kl=some (.lst refs)→AllAt (TxtsAt H') refs kss→kss.length=rs.length→(∀ (i:Nat) ks,kss[i]?=some ks→ks.length≤100∧(∀ y∈ks,y∈ys)∧(ks≠[]∨(i=0∧ps=[])))→Known ps rs kss→Same H H'→Q (.ref kl) H'
def FillOf (ks:List Str):BRow→BRow→Prop
  | .num x z,r=>r=.num x z
  | .op x s _ _,r=>∃ a b,r=.op x s a b∧a∈ks∧b∈ks
  | .call x k as,r=>∃ bs:List Str,r=.call x k bs∧bs.length=as.length∧∀ b∈bs,b∈ks
  | .say _,r=>∃ a,r=.say a∧a∈ks
  | .jump to,r=>r=.jump to
  | .test _ to,r=>∃ a,r=.test a to∧a∈ks
  | .give _,r=>∃ a,r=.give a∧a∈ks
def sp_filled (K:Fg):Sp:=fun vs H Q _=>∃ (st rl kl:Addr) (k:Nat) (rvs refs:List V) (rs:List BRow) (kss:List (List Str)) (ys:List Str) (cs:List Nat),vs=[.ref st,.ref rl,.ref kl]∧Stt K H st k∧k≤700000∧H rl=some (.lst rvs)∧AllAt (RowAt H) rvs rs∧RowsOk ys cs rs∧(∀ y∈ys,y≠"")∧(∀ c∈cs,c≤4)∧
  H kl=some (.lst refs)∧AllAt (TxtsAt H) refs kss∧kss.length=rs.length∧(∀ (i:Nat) ks,kss[i]?=some ks→ks.length≤100)∧(∀ (i:Nat) ks r,kss[i]?=some ks→rs[i]?=some r→ks≠[]∨isNum r=true)∧(∀ a∈refs,a≠.ref st)∧rl≠st∧kl≠st∧
  ∀ (p:Addr) (rvs':List V) (rs':List BRow) (k':Nat) (H':Hp),H' p=some (.tup rvs')→AllAt (RowAt H') rvs' rs'→rs'.length=rs.length→(∀ (i:Nat) ks r r',kss[i]?=some ks→rs[i]?=some r→rs'[i]?=some r'→FillOf ks r r')→Stt K H' st k'→k'≤k + 5 * rs.length→But st H H'→Q (.ref p) H'
def readsOf:BRow→List Str
  | .op _ _ a b=>[a,b]
  | .call _ _ as=>as
  | .say a=>[a]
  | .test a _=>[a]
  | .give a=>[a]
  | _=>[]
def RowOk (ys:List Str) (cs:List Nat) (n:Nat):BRow→Prop
  | .num x z=>x∈ys∧0≤z∧z < 2 ^ 64
  | .op x s a b=>x∈ys∧s∈signs∧a∈ys∧b∈ys
  | .call x k as=>x∈ys∧cs[k]?=some as.length∧∀ a∈as,a∈ys
  | .say a=>a∈ys
  | .jump to=>to < n
  | .test a to=>a∈ys∧to < n
  | .give a=>a∈ys
structure PartOk (ys:List Str) (cs:List Nat) (b:BPart):Prop where
  pnd:b.params.Nodup
  pin:∀ y∈b.params,y∈ys
  pos:b.rows≠[]
  few:b.rows.length≤60
  rows:∀ r∈b.rows,RowOk ys cs b.rows.length r
  last:b.rows.getLast?.map isEnd=some true
  ring:NoRing b.rows
  known:∃ kss,kss.length=b.rows.length∧Known b.params b.rows kss∧∀ (n:Nat) r ks,b.rows[n]?=some r→kss[n]?=some ks→∀ y∈readsOf r,y∈ks
structure ProgOk (ys:List Str) (cs:List Nat) (bs:List BPart):Prop where
  ynd:ys.Nodup
  ynm:∀ y∈ys,Nm y
  y2:2≤ys.length
  y6:ys.length≤6
  pos:1≤bs.length
  few:bs.length≤5
  nnd:(bs.map (·.name)).Nodup
  nnm:∀ b∈bs,Nm b.name
  cnt:bs.map (·.params.length)=cs
  c4:∀ c∈cs,c≤4
  part:∀ b∈bs,PartOk ys cs b
def sp_part (K:Fg):Sp:=fun vs H Q _=>∃ (st nm pr cn:Addr) (wd:Str) (m k:Nat) (ys ps:List Str) (cs:List Nat),vs=[.ref st,.str wd,.ref nm,.ref pr,.ref cn,.int (m:Nat)]∧Stt K H st k∧k≤600000∧H nm=some (.lst (ys.map V.str))∧ys≠[]∧ys.length≤100∧(∀ y∈ys,y≠"")∧
  H pr=some (.lst (ps.map V.str))∧ps.length≤100∧ps.Nodup∧(∀ y∈ps,y∈ys)∧H cn=some (.lst (intsV cs))∧cs≠[]∧cs.length≤100∧(∀ c∈cs,c≤4)∧1≤m∧m≤50∧nm≠st∧pr≠st∧cn≠st∧
  ∀ (v:V) (b:BPart) (k':Nat) (H':Hp),PartAt H' v b→b.name=wd→b.params=ps→PartOk ys cs b→b.rows.length≤m + 1→Stt K H' st k'→k'≤k + 1000→But st H H'→Q v H'
def sp_program (K:Fg):Sp:=fun vs H Q _=>∃ (st:Addr) (m k:Nat),vs=[.ref st,.int (m:Nat)]∧Stt K H st k∧k≤500000∧1≤m∧m≤50∧
  ∀ (p:Addr) (pvs:List V) (bs:List BPart) (ys:List Str) (cs:List Nat) (k':Nat) (H':Hp),H' p=some (.tup pvs)→AllAt (PartAt H') pvs bs→ProgOk ys cs bs→(∀ b∈bs,b.rows.length≤m + 1)→Stt K H' st k'→k'≤k + 10000→But st H H'→Q (.ref p) H'
def goalOf:BRow→V
  | .jump to=>.int (to:Nat)
  | .test _ to=>.int (to:Nat)
  | _=>.non
def spReads:Sp:=fun vs H Q _=>∃ v r,vs=[v]∧RowAt H v r∧∀ (p:Addr) (H':Hp),H' p=some (.tup ((readsOf r).map V.str))→Same H H'→Q (.ref p) H'
abbrev sp_p_reads (_:Fg):Sp:=spReads
def sp_p_sets (_:Fg):Sp:=fun vs H Q _=>∃ v r,vs=[v]∧RowAt H v r∧∀ (H':Hp),Same H H'→Q (setsOf r) H'
def sp_p_goal (_:Fg):Sp:=fun vs H Q _=>∃ v r,vs=[v]∧RowAt H v r∧Q (goalOf r) H
def spNext:Sp:=fun vs H Q _=>∃ (rt:Addr) (n:Nat) (rvs:List V) (v:V) (r:BRow),vs=[.ref rt,.int (n:Nat)]∧H rt=some (.tup rvs)∧rvs[n]?=some v∧RowAt H v r∧∀ (p:Addr) (H':Hp),H' p=some (.tup (intsV (leadsL n r)))→Same H H'→Q (.ref p) H'
abbrev sp_p_leads (_:Fg):Sp:=spNext
def sp_law (K:Fg):Sp:=fun vs H Q _=>∃ (scr:Addr) (ns:List Int),vs=[.ref scr]∧ScrAt K H scr ns∧ns.length≤63∧∀ H',Q (.bl true) H'
abbrev k_draw:Nat:=0
abbrev K_draw:Nat:=1
abbrev k_names:Nat:=1
abbrev K_names:Nat:=2
abbrev k_worth:Nat:=1
abbrev K_worth:Nat:=2
abbrev k_rough_row:Nat:=2
abbrev K_rough_row:Nat:=3
abbrev k_leads:Nat:=0
abbrev K_leads:Nat:=1
abbrev k_mended:Nat:=0
abbrev K_mended:Nat:=1
abbrev k_set_names:Nat:=1
abbrev K_set_names:Nat:=2
abbrev k_filled:Nat:=1
abbrev K_filled:Nat:=2
abbrev k_part:Nat:=3
abbrev K_part:Nat:=4
abbrev k_program:Nat:=4
abbrev K_program:Nat:=5
abbrev k_p_reads:Nat:=0
abbrev K_p_reads:Nat:=1
abbrev k_p_sets:Nat:=0
abbrev K_p_sets:Nat:=1
abbrev k_p_goal:Nat:=0
abbrev K_p_goal:Nat:=1
abbrev k_p_leads:Nat:=1
abbrev K_p_leads:Nat:=2
theorem if_dec {c:Prop} [Decidable c] {A B:Prop} (h1:c→A) (h2:¬ c→B):if decide c=true then A else B:=by
  by_cases h:c
  · rw [decide_eq_true h];exact iteT (h1 h)
  · rw [decide_eq_false h];exact iteF (h2 h)
theorem if_not {c:Prop} [Decidable c] {A B:Prop} (h1:¬ c→A) (h2:c→B):if (!decide c)=true then A else B:=by
  by_cases h:c
  · rw [decide_eq_true h];exact iteF (h2 h)
  · rw [decide_eq_false h];exact iteT (h1 h)
theorem if_bl {b:Bool} {A B:Prop} (h1:b=true→A) (h2:b=false→B):if b=true then A else B:=by
  cases b with
  | true=>exact iteT (h1 rfl)
  | false=>exact iteF (h2 rfl)
theorem atI_of {α:Type} {xs:List α} {i:Int} {v:α} (h0:0≤i) (e:xs[i.toNat]?=some v):atI xs i=some v:=by
  have h1:=(List.getElem?_eq_some_iff.mp e).1
  unfold atI ixN
  rw [if_pos h0,if_pos (by lia)]
  exact e
theorem ixL {K:Fg} {p:Addr} {xs:List V} {i:Int} {v:V} {H:Hp} {Q:VK} (h:SqL K H p xs) (h0:0≤i) (e:xs[i.toNat]?=some v) (q:Q v H):rIx K (.ref p) (.int i) H Q:=
  .inl ⟨p,xs,i,v,rfl,rfl,h,atI_of h0 e,q⟩
theorem ixT {K:Fg} {p:Addr} {xs:List V} {i:Int} {v:V} {H:Hp} {Q:VK} (h:H p=some (.tup xs)) (h0:0≤i) (e:xs[i.toNat]?=some v) (q:Q v H):rIx K (.ref p) (.int i) H Q:=
  .inr (.inl ⟨p,xs,i,v,rfl,rfl,SqT.of h,atI_of h0 e,q⟩)
theorem ixS {K:Fg} {z:Str} {i:Int} {c:Nat} {H:Hp} {Q:VK} (hz:z.length≤sizeLine) (h0:0≤i) (e:z.cps.toList[i.toNat]?=some c) (q:Q (.str ⟨#[c]⟩) H):rIx K (.str z) (.int i) H Q:=
  .inr (.inr ⟨z,i,c,rfl,rfl,hz,atI_of h0 e,q⟩)
theorem setL {p:Addr} {xs:List V} {i:Int} {v:V} {H:Hp} {Q:Hp→Prop} (h:H p=some (.lst xs)) (h0:0≤i) (h1:i.toNat < xs.length) (q:Q (upd H p (.lst (xs.set i.toNat v)))):rSetL (.ref p) (.int i) v H Q:=by
  refine ⟨p,xs,i,i.toNat,rfl,rfl,h,?_,q⟩
  unfold ixN
  rw [if_pos h0,if_pos (by lia)]
theorem smallL {n:Nat} (h:n≤100000):n < sizeLine:=Nat.lt_of_le_of_lt h (by decide)
theorem intsV_get {ns:List Nat} {i:Nat} {n:Nat} (h:ns[i]?=some n):(intsV ns)[i]?=some (.int (n:Nat)):=by
  unfold intsV;rw [List.getElem?_map,h];rfl
theorem intsV_len (ns:List Nat):(intsV ns).length=ns.length:=by unfold intsV;rw [List.length_map]
theorem strs_get {ys:List Str} {i:Nat} {y:Str} (h:ys[i]?=some y):(ys.map V.str)[i]?=some (.str y):=by rw [List.getElem?_map,h];rfl
theorem ne_lst_tup {H:Hp} {a b:Addr} {xs ys:List V} (h:H a=some (.lst xs)) (h':H b=some (.tup ys)):a≠b:=ne_of h h' (by intro z;cases z)
theorem app_yes {D:Addr} {te:TE} {E:Ends} {σ:St} {H:Hp} (h:te σ H fun y H2=>∃ ys,H2 D=some (.lst ys)∧ys.length < sizeLine∧E.nx σ (upd H2 D (.lst (ys++[y])))):sApp D tYes te E σ H:=by
  unfold sApp tYes
  dsimp only
  rw [if_pos rfl]
  exact h
theorem no {x y:V} {A B:Prop} (h:¬ x=y) (q:B):if decide (x=y)=true then A else B:=if_dec (fun z=>absurd z h) fun _=>q
theorem yes {x:V} {A B:Prop} (q:A):if decide (x=x)=true then A else B:=if_dec (fun _=>q) fun z=>absurd rfl z
theorem if_t {b:Bool} {A B:Prop} (e:b=true) (q:A):if b=true then A else B:=by rw [e];exact iteT q
theorem if_f {b:Bool} {A B:Prop} (e:b=false) (q:B):if b=true then A else B:=by rw [e];exact iteF q
theorem cut_take (xs:List V) (c:Nat):cutV xs none (some (c:Int))=xs.take c:=by
  unfold cutV
  rw [HT.sIx_none,HT.sIx_nat,List.drop_zero,Nat.sub_zero,← List.take_eq_take_min]
theorem cut_drop (xs:List V) (c:Nat):cutV xs (some (c:Int)) none=xs.drop c:=by
  unfold cutV
  rw [HT.sIx_none,HT.sIx_nat]
  by_cases h:c≤xs.length
  · rw [Nat.min_eq_left h];exact List.take_of_length_le (by rw [List.length_drop];lia)
  · rw [Nat.min_eq_right (by lia),List.drop_length,List.drop_of_length_le (by lia),List.take_nil]
theorem flat_strs (ys:List Str):(ys.map V.str).all flatV=true:=by
  rw [List.all_eq_true]
  intro v hv
  obtain ⟨y,_,rfl⟩:=List.mem_map.mp hv
  rfl
theorem inV_strs (y:Str) (ls:List Str):inV (.str y) (ls.map V.str)=decide (y∈ls):=by
  unfold inV
  rw [List.any_map,Bool.eq_iff_iff,List.any_eq_true,decide_eq_true_eq]
  constructor
  · rintro ⟨z,hz,e⟩
    have e':(z == y)=true:=e
    have:z=y:=by simpa using e'
    rw [← this];exact hz
  · intro h
    exact ⟨y,h,by show (y == y)=true;simp⟩
theorem But.past {a l:Addr} {H H1 H2:Hp} (x:But a H H1) (hl:H l=none) (y:But l H1 H2):But a H H2:=fun c u n h=>y c u (ne_of_none h hl) (x c u n h)
end Bg
end
section
namespace Bg
open PySem PySem.Spec PyProof.Rows L2
abbrev PS_draw:List Str:=["_law_state","_law_many"]
abbrev N_draw:List Str:=["_law_state","_law_many","_law_script","_law_k","_law_digit","_law_cell"]
def t_draw_1 (K:Fg):TS:=(tRet (tOp (rMod2) (tOp (rMod2) (tOp (rTimes K) (tVar 5) (tVar 5)) (tC (.int 1999999973))) (tVar 1)))
def t_draw_2 (K:Fg):TS:=(tSeq (tAsg (tOp (rMod2) (tOp (rTimes K) (tVar 5) (tVar 5)) (tC (.int 2147483587))) (gName 5)) (t_draw_1 K))
def t_draw_3 (K:Fg):TS:=(tSeq (tAsg (tOp (rMod2) (tOp (rTimes K) (tOp (rMod2) (tVar 5) (tC (.int 2147483629))) (tOp (rPlus K) (tVar 3) (tC (.int 3)))) (tC (.int 2147483629))) (gName 5)) (t_draw_2 K))
def t_draw_4 (K:Fg):TS:=(tSeq (tIfS (tTest (tOp (rGt2) (tCB (rLen K) (tCons (tVar 2) tNil)) (tC (.int 0)))) (tAsg (tOp (rPlus K) (tVar 5) (tOp (rTimes K) (tOp (rIx K) (tVar 2) (tOp (rMod2) (tOp (rTimes K) (tVar 3) (tC (.int 7))) (tCB (rLen K) (tCons (tVar 2) tNil)))) (tOp (rPlus K) (tC (.int 48271)) (tVar 3)))) (gName 5)) tNext) (t_draw_3 K))
def t_draw_5 (K:Fg):TS:=(tSeq (tAsg (tOp (rPlus K) (tOp (rTimes K) (tVar 3) (tC (.int 7919))) (tC (.int 5))) (gName 5)) (t_draw_4 K))
def t_draw_6 (K:Fg):TS:=(tRet (tVar 4))
def t_draw_7 (K:Fg):TS:=(tIfS (tTest (tOp ((rIn K true)) (tOp (rIx K) (tVar 0) (tC (.int 2))) (tTup (tCons (tC (.int 0)) (tCons (tUn rNeg (tC (.int 1))) tNil))))) (tSeq (tAsg (tCB (rDivmod) (tCons (tOp (rIx K) (tVar 0) (tC (.int 2))) (tCons (tVar 1) tNil))) (gTup K 2 (gCons (gSub (tVar 0) (tC (.int 2)) rSetL) (gCons (gName 4) gNil)))) (t_draw_6 K)) tNext)
def t_draw_8 (K:Fg):TS:=(tSeq (tIfS (tAnd (tTest (tOp (rLt2) (tOp (rPlus K) (tOp (rFdiv2) (tVar 3) (tC (.int 12))) (tC (.int 1))) (tCB (rLen K) (tCons (tVar 2) tNil)))) (tTest (tOp (rEqG K) (tOp (rMod2) (tOp (rIx K) (tVar 2) (tC (.int 0))) (tC (.int 2))) (tC (.int 1))))) (tSeq (tIfS (tTest (tOp (rEqG K) (tOp (rMod2) (tVar 3) (tC (.int 12))) (tC (.int 0)))) (tAsg (tOp (rIx K) (tVar 2) (tOp (rPlus K) (tOp (rFdiv2) (tVar 3) (tC (.int 12))) (tC (.int 1)))) (gSub (tVar 0) (tC (.int 2)) rSetL)) tNext) (t_draw_7 K)) (tIfS (tTest (tOp (rLt2) (tVar 3) (tCB (rLen K) (tCons (tVar 2) tNil)))) (tRet (tOp (rMod2) (tOp (rIx K) (tVar 2) (tVar 3)) (tVar 1))) tNext)) (t_draw_5 K))
def t_draw_9 (K:Fg):TS:=(tSeq (tAsg (tOp (rPlus K) (tVar 3) (tC (.int 1))) (gSub (tVar 0) (tC (.int 1)) rSetL)) (t_draw_8 K))
def t_draw (K:Fg):TS:=(tSeq (tAsg (tSl (rSl K) (tVar 0) tNoPart (tPart (tC (.int 2)))) (gTupL K 2 (gCons (gName 2) (gCons (gName 3) gNil)))) (t_draw_9 K))
abbrev PS_names:List Str:=["_law_state","_law_many"]
abbrev N_names:List Str:=["_law_state","_law_many","_law_letters","_law_size","_law_at","_law_first","_law_base","_law_found","_law_k","_law_some","_law_name"]
def t_names_1 (K:Fg):TS:=(tRet (tVar 7))
def t_names_2 (K:Fg):TS:=(tDrop (tBM K "list" rAppend (tVar 7) (tCons (tVar 10) tNil)))
def t_names_3 (K:Fg):TS:=(tSeq (tIfS (tOr (tTest (tOp ((rIn K false)) (tVar 10) (tTup (tCons (tC (.str "part")) (tCons (tC (.str "call")) (tCons (tC (.str "say")) (tCons (tC (.str "jump")) (tCons (tC (.str "test")) (tCons (tC (.str "give")) tNil))))))))) (tAnd (tTest (tOp (rLt2) (tVar 3) (tC (.int 8)))) (tTest (tOp (rEqG K) (tOp (rMod2) (tOp (rPlus K) (tVar 3) (tVar 8)) (tC (.int 3))) (tC (.int 1)))))) (tAsg (tOp (rPlus K) (tVar 10) (tC (.str "x"))) (gName 10)) tNext) (t_names_2 K))
def t_names_4 (K:Fg):TS:=(tSeq (tAsg (tBM K "str" (rJoin K) (tC (.str "")) (tCons (tVar 9) tNil)) (gName 10)) (t_names_3 K))
def t_names_5 (K:Fg):TS:=(tSeq (tAsg (tOp (rPlus K) (tOp (rPlus K) (tSl (rSl K) (tVar 6) tNoPart (tPart (tVar 4))) (tLst (tCons (tOp (rIx K) (tVar 2) (tOp (rMod2) (tOp (rPlus K) (tVar 5) (tOp (rTimes K) (tC (.int 5)) (tVar 8))) (tC (.int 26)))) tNil))) (tSl (rSl K) (tVar 6) (tPart (tOp (rPlus K) (tVar 4) (tC (.int 1)))) tNoPart)) (gName 9)) (t_names_4 K))
def t_names_6 (K:Fg):TS:=(tSeq (tFor (iRng1 (tCons (tVar 1) tNil)) (gName 8) (t_names_5 K)) (t_names_1 K))
def t_names_7 (K:Fg):TS:=(tSeq (tAsg (tLst tNil) (gName 7)) (t_names_6 K))
def t_names_8 (K:Fg):TS:=(tSeq (tAsg (tComp [] 1 (iRng1 (tCons (tVar 3) tNil)) (gName 11) tYes (tOp (rIx K) (tVar 2) (tOp (rMod2) (tOp (rPlus K) (tVar 5) (tOp (rTimes K) (tOp (rTimes K) (tC (.int 7)) (tVar 11)) (tCall (sp_draw K) [] E0 (tCons (tVar 0) (tCons (tC (.int 4)) tNil))))) (tC (.int 26))))) (gName 6)) (t_names_7 K))
def t_names_9 (K:Fg):TS:=(tSeq (tAsg (tCall (sp_draw K) [] E0 (tCons (tVar 0) (tCons (tC (.int 26)) tNil))) (gName 5)) (t_names_8 K))
def t_names_10 (K:Fg):TS:=(tSeq (tAsg (tCall (sp_draw K) [] E0 (tCons (tVar 0) (tCons (tVar 3) tNil))) (gName 4)) (t_names_9 K))
def t_names_11 (K:Fg):TS:=(tSeq (tAsg (tOp (rPlus K) (tC (.int 1)) (tCall (sp_draw K) [] E0 (tCons (tVar 0) (tCons (tC (.int 8)) tNil)))) (gName 3)) (t_names_10 K))
def t_names (K:Fg):TS:=(tSeq (tAsg (tC (.str "abcdefghijklmnopqrstuvwxyz")) (gName 2)) (t_names_11 K))
abbrev PS_worth:List Str:=["_law_state"]
abbrev N_worth:List Str:=["_law_state"]
def t_worth_1 (K:Fg):TS:=(tRet (tOp (rIx K) (tLst (tCons (tC (.int 0)) (tCons (tC (.int 1)) (tCons (tOp (rSub2) (tOp (rSub2) (tOp (rPow2) (tC (.int 2)) (tC (.int 64))) (tC (.int 1))) (tCall (sp_draw K) [] E0 (tCons (tVar 0) (tCons (tC (.int 3)) tNil)))) (tCons (tCall (sp_draw K) [] E0 (tCons (tVar 0) (tCons (tC (.int 12)) tNil))) tNil))))) (tCall (sp_draw K) [] E0 (tCons (tVar 0) (tCons (tC (.int 4)) tNil)))))
def t_worth (K:Fg):TS:=(tSeq (tIfS (tTest (tOp (rEqG K) (tCall (sp_draw K) [] E0 (tCons (tVar 0) (tCons (tC (.int 2)) tNil))) (tC (.int 0)))) (tRet (tOp (rPlus K) (tOp (rTimes K) (tCall (sp_draw K) [] E0 (tCons (tVar 0) (tCons (tOp (rPow2) (tC (.int 2)) (tC (.int 31))) tNil))) (tOp (rPow2) (tC (.int 2)) (tC (.int 33)))) (tCall (sp_draw K) [] E0 (tCons (tVar 0) (tCons (tOp (rPow2) (tC (.int 2)) (tC (.int 31))) tNil))))) tNext) (t_worth_1 K))
abbrev PS_rough_row:List Str:=["_law_state","_law_names_here","_law_many","_law_counts"]
abbrev N_rough_row:List Str:=["_law_state","_law_names_here","_law_many","_law_counts","_law_x","_law_sort","_law_k"]
def t_rough_row_1 (K:Fg):TS:=(tRet (tOp (rIx K) (tLst (tCons (tTup (tCons (tC (.str "jump")) (tCons (tCall (sp_draw K) [] E0 (tCons (tVar 0) (tCons (tVar 2) tNil))) tNil))) (tCons (tTup (tCons (tC (.str "give")) (tCons (tC (.str "")) tNil))) tNil))) (tOp (rSub2) (tVar 5) (tC (.int 10)))))
def t_rough_row_2 (K:Fg):TS:=(tSeq (tIfS (tTest (tOp (rLt2) (tVar 5) (tC (.int 10)))) (tRet (tTup (tCons (tC (.str "test")) (tCons (tC (.str "")) (tCons (tCall (sp_draw K) [] E0 (tCons (tVar 0) (tCons (tVar 2) tNil))) tNil))))) tNext) (t_rough_row_1 K))
def t_rough_row_3 (K:Fg):TS:=(tSeq (tIfS (tTest (tOp (rLt2) (tVar 5) (tC (.int 8)))) (tRet (tTup (tCons (tC (.str "say")) (tCons (tC (.str "")) tNil)))) tNext) (t_rough_row_2 K))
def t_rough_row_4 (K:Fg):TS:=(tRet (tTup (tCons (tC (.str "call")) (tCons (tVar 4) (tCons (tVar 6) (tCons (tOp (rTimes K) (tTup (tCons (tC (.str "")) tNil)) (tOp (rIx K) (tVar 3) (tVar 6))) tNil))))))
def t_rough_row_5 (K:Fg):TS:=(tSeq (tIfS (tTest (tOp (rEqG K) (tVar 5) (tC (.int 6)))) (tSeq (tAsg (tCall (sp_draw K) [] E0 (tCons (tVar 0) (tCons (tCB (rLen K) (tCons (tVar 3) tNil)) tNil))) (gName 6)) (t_rough_row_4 K)) tNext) (t_rough_row_3 K))
def t_rough_row_6 (K:Fg):TS:=(tSeq (tIfS (tTest (tOp (rLt2) (tVar 5) (tC (.int 6)))) (tRet (tTup (tCons (tC (.str "op")) (tCons (tVar 4) (tCons (tOp (rIx K) (tC (.str "+-*<=")) (tCall (sp_draw K) [] E0 (tCons (tVar 0) (tCons (tC (.int 5)) tNil)))) (tCons (tC (.str "")) (tCons (tC (.str "")) tNil))))))) tNext) (t_rough_row_5 K))
def t_rough_row_7 (K:Fg):TS:=(tSeq (tIfS (tTest (tOp (rLt2) (tVar 5) (tC (.int 2)))) (tRet (tTup (tCons (tC (.str "num")) (tCons (tVar 4) (tCons (tCall (sp_worth K) [] E0 (tCons (tVar 0) tNil)) tNil))))) tNext) (t_rough_row_6 K))
def t_rough_row_8 (K:Fg):TS:=(tSeq (tAsg (tCall (sp_draw K) [] E0 (tCons (tVar 0) (tCons (tC (.int 12)) tNil))) (gName 5)) (t_rough_row_7 K))
def t_rough_row (K:Fg):TS:=(tSeq (tAsg (tOp (rIx K) (tVar 1) (tCall (sp_draw K) [] E0 (tCons (tVar 0) (tCons (tCB (rLen K) (tCons (tVar 1) tNil)) tNil)))) (gName 4)) (t_rough_row_8 K))
abbrev PS_leads:List Str:=["_law_rows","_law_n"]
abbrev N_leads:List Str:=["_law_rows","_law_n"]
def t_leads_1 (K:Fg):TS:=(tRet (tLst (tCons (tOp (rPlus K) (tVar 1) (tC (.int 1))) tNil)))
def t_leads_2 (K:Fg):TS:=(tSeq (tIfS (tTest (tOp (rEqG K) (tOp (rIx K) (tOp (rIx K) (tVar 0) (tVar 1)) (tC (.int 0))) (tC (.str "give")))) (tRet (tLst tNil)) tNext) (t_leads_1 K))
def t_leads_3 (K:Fg):TS:=(tSeq (tIfS (tTest (tOp (rEqG K) (tOp (rIx K) (tOp (rIx K) (tVar 0) (tVar 1)) (tC (.int 0))) (tC (.str "test")))) (tRet (tLst (tCons (tOp (rPlus K) (tVar 1) (tC (.int 1))) (tCons (tOp (rIx K) (tOp (rIx K) (tVar 0) (tVar 1)) (tC (.int 2))) tNil)))) tNext) (t_leads_2 K))
def t_leads (K:Fg):TS:=(tSeq (tIfS (tTest (tOp (rEqG K) (tOp (rIx K) (tOp (rIx K) (tVar 0) (tVar 1)) (tC (.int 0))) (tC (.str "jump")))) (tRet (tLst (tCons (tOp (rIx K) (tOp (rIx K) (tVar 0) (tVar 1)) (tC (.int 1))) tNil))) tNext) (t_leads_3 K))
abbrev PS_mended:List Str:=["_law_rows","_law_names_here","_law_bare"]
abbrev N_mended:List Str:=["_law_rows","_law_names_here","_law_bare","_law_last","_law_n","_law_to","_law_turn"]
def t_mended_1 (K:Fg):TS:=(tRet (tVar 0))
def t_mended_2 (K:Fg):TS:=(tIfS (tTest (tOp (rEqG K) (tOp (rIx K) (tOp (rIx K) (tVar 0) (tVar 5)) (tC (.int 0))) (tC (.str "jump")))) (tAsg (tOp (rIx K) (tLst (tCons (tTup (tCons (tC (.str "say")) (tCons (tC (.str "")) tNil))) (tCons (tTup (tCons (tC (.str "give")) (tCons (tC (.str "")) tNil))) tNil))) (tCB (rInt1) (tCons (tOp (rEqG K) (tVar 4) (tVar 3)) tNil))) (gSub (tVar 0) (tVar 4) rSetL)) tNext)
def t_mended_3 (K:Fg):TS:=(tIfS (tTest (tOp (rEqG K) (tOp (rIx K) (tOp (rIx K) (tVar 0) (tVar 5)) (tC (.int 0))) (tC (.str "jump")))) (tAsg (tOp (rIx K) (tOp (rIx K) (tVar 0) (tVar 5)) (tC (.int 1))) (gName 5)) tNext)
def t_mended_4 (K:Fg):TS:=(tSeq (tFor (iSeq K (tVar 0)) (gName 6) (t_mended_3 K)) (t_mended_2 K))
def t_mended_5 (K:Fg):TS:=(tSeq (tAsg (tVar 4) (gName 5)) (t_mended_4 K))
def t_mended_6 (K:Fg):TS:=(tSeq (tFor (iRng1 (tCons (tCB (rLen K) (tCons (tVar 0) tNil)) tNil)) (gName 4) (t_mended_5 K)) (t_mended_1 K))
def t_mended_7 (K:Fg):TS:=(tSeq (tIfS (tAnd (tB (tVar 2)) (tAnd (tTest (tOp (rNeG K) (tOp (rIx K) (tOp (rIx K) (tVar 0) (tC (.int 0))) (tC (.int 0))) (tC (.str "num")))) (tTest (tOp (rGt2) (tVar 3) (tC (.int 0)))))) (tAsg (tTup (tCons (tC (.str "num")) (tCons (tOp (rIx K) (tVar 1) (tC (.int 0))) (tCons (tC (.int 3)) tNil)))) (gSub (tVar 0) (tC (.int 0)) rSetL)) tNext) (t_mended_6 K))
def t_mended_8 (K:Fg):TS:=(tSeq (tIfS (tTest (tOp ((rIn K true)) (tOp (rIx K) (tOp (rIx K) (tVar 0) (tVar 3)) (tC (.int 0))) (tTup (tCons (tC (.str "jump")) (tCons (tC (.str "give")) tNil))))) (tAsg (tTup (tCons (tC (.str "give")) (tCons (tC (.str "")) tNil))) (gSub (tVar 0) (tVar 3) rSetL)) tNext) (t_mended_7 K))
def t_mended (K:Fg):TS:=(tSeq (tAsg (tOp (rSub2) (tCB (rLen K) (tCons (tVar 0) tNil)) (tC (.int 1))) (gName 3)) (t_mended_8 K))
abbrev PS_set_names:List Str:=["_law_rows","_law_names_here","_law_params"]
abbrev N_set_names:List Str:=["_law_rows","_law_names_here","_law_params","_law_known","_law_more","_law_n","_law_left","_law_m","_law_kept"]
def t_set_names_1 (K:Fg):TS:=(tRet (tVar 3))
def t_set_names_2 (K:Fg):TS:=(tAsg (tC (.bl true)) (gName 4))
def t_set_names_3 (K:Fg):TS:=(tIfS (tTest (tOp (rLt2) (tCB (rLen K) (tCons (tVar 8) tNil)) (tCB (rLen K) (tCons (tOp (rIx K) (tVar 3) (tVar 7)) tNil)))) (tSeq (tAsg (tVar 8) (gSub (tVar 3) (tVar 7) rSetL)) (t_set_names_2 K)) tNext)
def t_set_names_4 (K:Fg):TS:=(tSeq (tAsg (tComp [] 1 (iSeq K (tOp (rIx K) (tVar 3) (tVar 7))) (gName 9) (tTest (tOp ((rIn K false)) (tVar 9) (tVar 6))) (tVar 9)) (gName 8)) (t_set_names_3 K))
def t_set_names_5 (K:Fg):TS:=(tFor (iSeq K (tCall (sp_leads K) [] E0 (tCons (tVar 0) (tCons (tVar 5) tNil)))) (gName 7) (t_set_names_4 K))
def t_set_names_6 (K:Fg):TS:=(tSeq (tIfS (tTest (tOp ((rIn K false)) (tOp (rIx K) (tOp (rIx K) (tVar 0) (tVar 5)) (tC (.int 0))) (tTup (tCons (tC (.str "num")) (tCons (tC (.str "op")) (tCons (tC (.str "call")) tNil)))))) (tAsg (tOp (rPlus K) (tVar 6) (tLst (tCons (tOp (rIx K) (tOp (rIx K) (tVar 0) (tVar 5)) (tC (.int 1))) tNil))) (gName 6)) tNext) (t_set_names_5 K))
def t_set_names_7 (K:Fg):TS:=(tSeq (tAsg (tOp (rIx K) (tVar 3) (tVar 5)) (gName 6)) (t_set_names_6 K))
def t_set_names_8 (K:Fg):TS:=(tFor (iRng1 (tCons (tCB (rLen K) (tCons (tVar 0) tNil)) tNil)) (gName 5) (t_set_names_7 K))
def t_set_names_9 (K:Fg):TS:=(tSeq (tAsg (tC (.bl false)) (gName 4)) (t_set_names_8 K))
def t_set_names_10 (K:Fg):TS:=(tSeq (tWhile (tB (tVar 4)) (t_set_names_9 K)) (t_set_names_1 K))
def t_set_names_11 (K:Fg):TS:=(tSeq (tAsg (tC (.bl true)) (gName 4)) (t_set_names_10 K))
def t_set_names_12 (K:Fg):TS:=(tSeq (tAsg (tCB (rListOf K) (tCons (tVar 2) tNil)) (gSub (tVar 3) (tC (.int 0)) rSetL)) (t_set_names_11 K))
def t_set_names (K:Fg):TS:=(tSeq (tAsg (tComp [] 1 (iSeq K (tVar 0)) (gName 9) tYes (tCB (rListOf K) (tCons (tVar 1) tNil))) (gName 3)) (t_set_names_12 K))
abbrev PS_filled:List Str:=["_law_state","_law_rows","_law_known"]
abbrev N_filled:List Str:=["_law_state","_law_rows","_law_known","_law_found","_law_n","_law_row","_law_some","_law_thing"]
def t_filled_1 (K:Fg):TS:=(tRet (tCB (rTupleOf K) (tCons (tVar 3) tNil)))
def t_filled_2 (K:Fg):TS:=(tDrop (tBM K "list" rAppend (tVar 3) (tCons (tOp (rPlus K) (tTup (tCons (tOp (rIx K) (tVar 5) (tC (.int 0))) tNil)) (tCB (rTupleOf K) (tCons (tVar 6) tNil))) tNil)))
def t_filled_3 (K:Fg):TS:=(tDrop (tBM K "list" rAppend (tVar 6) (tCons (tVar 7) tNil)))
def t_filled_4 (K:Fg):TS:=(tSeq (tIfS (tTest (tOp (rEqG K) (tVar 7) (tC (.str "")))) (tAsg (tOp (rIx K) (tOp (rIx K) (tVar 2) (tVar 4)) (tCall (sp_draw K) [] E0 (tCons (tVar 0) (tCons (tCB (rLen K) (tCons (tOp (rIx K) (tVar 2) (tVar 4)) tNil)) tNil)))) (gName 7)) (tIfS (tB (tCB (rIsi K) (tCons (tVar 7) (tCons (tC (.ty "tuple")) tNil)))) (tAsg (tCB (rTupleOf K) (tCons (tComp [] 1 (iSeq K (tVar 7)) (gName 8) tYes (tOp (rIx K) (tOp (rIx K) (tVar 2) (tVar 4)) (tCall (sp_draw K) [] E0 (tCons (tVar 0) (tCons (tCB (rLen K) (tCons (tOp (rIx K) (tVar 2) (tVar 4)) tNil)) tNil))))) tNil)) (gName 7)) tNext)) (t_filled_3 K))
def t_filled_5 (K:Fg):TS:=(tSeq (tFor (iSeq K (tSl (rSl K) (tVar 5) (tPart (tC (.int 1))) tNoPart)) (gName 7) (t_filled_4 K)) (t_filled_2 K))
def t_filled_6 (K:Fg):TS:=(tSeq (tAsg (tLst tNil) (gName 6)) (t_filled_5 K))
def t_filled_7 (K:Fg):TS:=(tSeq (tFor (iEnum K (tCons (tVar 1) tNil)) (gTup K 2 (gCons (gName 4) (gCons (gName 5) gNil))) (t_filled_6 K)) (t_filled_1 K))
def t_filled (K:Fg):TS:=(tSeq (tAsg (tLst tNil) (gName 3)) (t_filled_7 K))
abbrev PS_part:List Str:=["_law_state","_law_word","_law_names_here","_law_params","_law_counts","_law_most"]
abbrev N_part:List Str:=["_law_state","_law_word","_law_names_here","_law_params","_law_counts","_law_most","_law_many","_law_rows","_law_known"]
def t_part_1 (K:Fg):TS:=(tRet (tTup (tCons (tVar 1) (tCons (tCB (rTupleOf K) (tCons (tVar 3) tNil)) (tCons (tCall (sp_filled K) [] E0 (tCons (tVar 0) (tCons (tVar 7) (tCons (tVar 8) tNil)))) tNil)))))
def t_part_2 (K:Fg):TS:=(tSeq (tAsg (tCall (sp_set_names K) [] E0 (tCons (tVar 7) (tCons (tVar 2) (tCons (tVar 3) tNil)))) (gName 8)) (t_part_1 K))
def t_part_3 (K:Fg):TS:=(tSeq (tAsg (tCall (sp_mended K) [] E0 (tCons (tVar 7) (tCons (tVar 2) (tCons (tOp (rEqG K) (tCB (rLen K) (tCons (tVar 3) tNil)) (tC (.int 0))) tNil)))) (gName 7)) (t_part_2 K))
def t_part_4 (K:Fg):TS:=(tSeq (tAsg (tComp [] 1 (iRng1 (tCons (tVar 6) tNil)) (gName 9) tYes (tCall (sp_rough_row K) [] E0 (tCons (tVar 0) (tCons (tVar 2) (tCons (tVar 6) (tCons (tVar 4) tNil)))))) (gName 7)) (t_part_3 K))
def t_part (K:Fg):TS:=(tSeq (tAsg (tCB (rMax2) (tCons (tOp (rPlus K) (tC (.int 1)) (tCB (rInt1) (tCons (tOp (rEqG K) (tCB (rLen K) (tCons (tVar 3) tNil)) (tC (.int 0))) tNil))) (tCons (tOp (rPlus K) (tC (.int 1)) (tCall (sp_draw K) [] E0 (tCons (tVar 0) (tCons (tVar 5) tNil)))) tNil))) (gName 6)) (t_part_4 K))
abbrev PS_program:List Str:=["_law_state","_law_most"]
abbrev N_program:List Str:=["_law_state","_law_most","_law_five","_law_words","_law_names_here","_law_counts","_law_found","_law_word","_law_many","_law_turn","_law_params"]
def t_program_1 (K:Fg):TS:=(tRet (tCB (rTupleOf K) (tCons (tVar 6) tNil)))
def t_program_2 (K:Fg):TS:=(tDrop (tBM K "list" rAppend (tVar 6) (tCons (tCall (sp_part K) [] E0 (tCons (tVar 0) (tCons (tVar 7) (tCons (tVar 4) (tCons (tVar 10) (tCons (tVar 5) (tCons (tVar 1) tNil))))))) tNil)))
def t_program_3 (K:Fg):TS:=(tSeq (tAsg (tSl (rSl K) (tOp (rPlus K) (tSl (rSl K) (tVar 4) (tPart (tVar 9)) tNoPart) (tSl (rSl K) (tVar 4) tNoPart (tPart (tVar 9)))) tNoPart (tPart (tVar 8))) (gName 10)) (t_program_2 K))
def t_program_4 (K:Fg):TS:=(tSeq (tAsg (tCall (sp_draw K) [] E0 (tCons (tVar 0) (tCons (tCB (rLen K) (tCons (tVar 4) tNil)) tNil))) (gName 9)) (t_program_3 K))
def t_program_5 (K:Fg):TS:=(tSeq (tFor (iZip K (tCons (tVar 3) (tCons (tVar 5) tNil))) (gTup K 2 (gCons (gName 7) (gCons (gName 8) gNil))) (t_program_4 K)) (t_program_1 K))
def t_program_6 (K:Fg):TS:=(tSeq (tAsg (tLst tNil) (gName 6)) (t_program_5 K))
def t_program_7 (K:Fg):TS:=(tSeq (tAsg (tComp [7] 0 (iSeq K (tVar 3)) (gName 7) tYes (tCall (sp_draw K) [] E0 (tCons (tVar 0) (tCons (tOp (rPlus K) (tCB (rMin2) (tCons (tC (.int 4)) (tCons (tCB (rLen K) (tCons (tVar 4) tNil)) tNil))) (tC (.int 1))) tNil)))) (gName 5)) (t_program_6 K))
def t_program_8 (K:Fg):TS:=(tSeq (tAsg (tCall (sp_names K) [] E0 (tCons (tVar 0) (tCons (tOp (rPlus K) (tC (.int 2)) (tCall (sp_draw K) [] E0 (tCons (tVar 0) (tCons (tC (.int 5)) tNil)))) tNil))) (gName 4)) (t_program_7 K))
def t_program_9 (K:Fg):TS:=(tSeq (tAsg (tSl (rSl K) (tCall (sp_names K) [] E0 (tCons (tVar 0) (tCons (tC (.int 5)) tNil))) tNoPart (tPart (tOp (rIx K) (tLst (tCons (tOp (rPlus K) (tC (.int 1)) (tCall (sp_draw K) [] E0 (tCons (tVar 0) (tCons (tC (.int 3)) tNil)))) (tCons (tC (.int 5)) tNil))) (tVar 2)))) (gName 3)) (t_program_8 K))
def t_program (K:Fg):TS:=(tSeq (tAsg (tCB (rInt1) (tCons (tOp (rEqG K) (tOp (rMod2) (tOp (rFdiv2) (tCB (rSum K) (tCons (tSl (rSl K) (tOp (rIx K) (tVar 0) (tC (.int 0))) tNoPart (tPart (tC (.int 1)))) tNil)) (tC (.int 4))) (tC (.int 16))) (tC (.int 5))) tNil)) (gName 2)) (t_program_9 K))
end Bg
end
section
namespace Bg
open PySem L2
abbrev abc:Str:="abcdefghijklmnopqrstuvwxyz"
theorem abc_len:abc.length≤sizeLine:=by decide +kernel
def one (c:Nat):Str:=⟨#[c]⟩
theorem codes_join0:∀ cs:List Nat,(Txt.join "" (cs.map one)).cps.toList=cs
  | []=>by decide +kernel
  | c::r=>by
    unfold Txt.join
    rw [StrLaws.glued_eq_join]
    induction r generalizing c with
    | nil=>rfl
    | cons d r ih=>
      show (one c++("":Str)++Str.join "" ((d::r).map one)).cps.toList=_
      have e:(one c++("":Str)++Str.join "" ((d::r).map one)).cps.toList=(one c).cps.toList++("":Str).cps.toList++(Str.join "" ((d::r).map one)).cps.toList:=by
        show ((one c).cps++("":Str).cps++(Str.join "" ((d::r).map one)).cps).toList=_
        rw [Array.toList_append,Array.toList_append]
      rw [e,ih d]
      rfl
theorem len_codes (y:Str):y.length=y.cps.toList.length:=by
  show y.cps.size=_
  rw [Array.length_toList]
theorem abc_code:∀ j:Nat,j < 26→abc.cps.toList[j]?=some (97 + j):=by decide +kernel
theorem resv_len:∀ y∈resv,y.length≤4:=by decide +kernel
theorem resv_last:∀ y∈resv,y.cps.toList.getLast?≠some 120:=by decide +kernel
theorem codes_x (y:Str):(y++"x").cps.toList=y.cps.toList++[120]:=by
  show (y.cps++("x":Str).cps).toList=_
  rw [Array.toList_append]
  rfl
theorem nm_plain {y:Str} {cs:List Nat} (h:y.cps.toList=cs) (l1:1≤cs.length) (l8:cs.length≤8) (a:∀ c∈cs,97≤c∧c≤122) (n:y∉resv):Nm y:=
  ⟨by rw [len_codes,h];exact l1,by rw [len_codes,h];exact l8,by rw [h];exact a,n⟩
theorem nm_x {y:Str} {cs:List Nat} (h:y.cps.toList=cs) (l8:cs.length≤7) (a:∀ c∈cs,97≤c∧c≤122):Nm (y++"x"):=by
  have e:=codes_x y
  rw [h] at e
  refine ⟨by rw [len_codes,e,List.length_append];simp,by rw [len_codes,e,List.length_append];simp;lia,fun c hc=>?_,fun hm=>?_⟩
  · rw [e] at hc
    rcases List.mem_append.mp hc with z | z
    · exact a c z
    · rw [List.mem_singleton.mp z];decide
  · have:=resv_last _ hm
    rw [e,List.getLast?_append] at this
    exact this rfl
def NmP (st b l:Addr) (n sz at':Nat) (f:Int) (H4:Hp) (i:Nat):St→Hp→Prop:=fun σ' H'=>∃ (ys:List Str) (o1 o2 o3:Option V),σ'=[some (.ref st),some (.int (n:Nat)),some (.str abc),some (.int (sz:Nat)),some (.int (at':Nat)),some (.int f),some (.ref b),some (.ref l),o1,o2,o3]∧H' l=some (.lst (ys.map V.str))∧ys.length=i∧(∀ y∈ys,Nm y)∧(∀ (j:Nat) y,ys[j]?=some y→y.cps.toList[at']?=some (97 + ((f + 5 * (j:Int)) % 26).toNat))∧But l (upd H4 l (.lst [])) H'
theorem r_names {K:Fg} {vs:List V} {H:Hp} {Q:VK} {E:XK} (h:sp_names K vs H Q E):t_names K { nx:=fun _ H'=>Q .non H',rt:=Q } (start N_names vs) H:=by
  obtain ⟨st,n,k,rfl,S,hk,hn,q⟩:=h
  refine ⟨_,rfl,st,8,k,rfl,S,by lia,by decide,by decide,fun d H1 d0 d1 S1 B1=>.inl ⟨_,_,rfl,rfl,?_⟩⟩
  obtain ⟨sz,hsz,z1,z8⟩:∃ sz:Nat,(1:Int) + d=(sz:Int)∧1≤sz∧sz≤8:=⟨(1 + d).toNat,by lia,by lia,by lia⟩
  show t_names_10 K _ [some (.ref st),some (.int (n:Nat)),some (.str abc),some (.int ((1:Int) + d)),none,none,none,none,none,none,none] H1
  rw [hsz]
  refine ⟨_,rfl,_,rfl,st,_,k + 1,rfl,S1,by lia,by lia,by lia,fun a H2 a0 a1 S2 B2'=>?_⟩
  obtain ⟨at',rfl⟩:∃ j:Nat,a=(j:Int):=⟨a.toNat,by lia⟩
  have B2:=B1.trans B2'
  refine ⟨_,rfl,st,26,k + 2,rfl,S2,by lia,by decide,by decide,fun f H3 f0 f1 S3 B3'=>?_⟩
  have B3:=B2.trans B3'
  refine ⟨_,rfl,_,rfl,by lia,by lia,fun b hb=>?_⟩
  obtain ⟨ys3,hs3⟩:=S3.lst
  have nb:b≠st:=fun z=>by rw [z,hs3] at hb;cases hb
  refine comp_range (fun i σ' H'=>∃ (bc:List Nat) (kk:Nat) (o:Option V),σ'=[some (.ref st),some (.int (n:Nat)),some (.str abc),some (.int (sz:Nat)),some (.int (at':Nat)),some (.int f),none,none,none,none,none,o]∧
    H' b=some (.lst ((bc.map one).map V.str))∧bc.length=i∧(∀ c∈bc,97≤c∧c≤122)∧Stt K H' st kk∧kk≤k + 3 + i∧But st H H') ?_ ?_ ?_
  · exact ⟨[],k + 3,none,rfl,upd_same,rfl,by simp,S3.new hb,by lia,B3.new hb⟩
  · rintro i σ' H' hi ⟨bs,kk,o,rfl,hbl,hlen,hone,S4,hkk,B4⟩
    have hi:i < sz:=by simpa using hi
    refine app_yes ?_
    refine ⟨_,rfl,_,rfl,_,rfl,.inl ⟨_,_,rfl,rfl,.inl ⟨by decide,by decide⟩,_,rfl,st,4,kk,rfl,S4,by lia,by decide,by decide,fun e H5 e0 e1 S5 B5=>.inl ⟨_,_,rfl,rfl,.inr ⟨by lia,by lia⟩,.inl ⟨_,_,rfl,rfl,_,_,rfl,rfl,(by show (0:Int) < 26;decide),?_⟩⟩⟩⟩
    have x0:0≤(f + 7 * (0 + (i:Int)) * e) % 26:=Int.emod_nonneg _ (by decide)
    have x1:(f + 7 * (0 + (i:Int)) * e) % 26 < 26:=Int.emod_lt_of_pos _ (by decide)
    refine ixS abc_len x0 (abc_code _ (by lia)) ?_
    have x2:((f + 7 * (0 + (i:Int)) * e) % 26).toNat < 26:=by lia
    generalize ((f + 7 * (0 + (i:Int)) * e) % 26).toNat=x at x2
    have h5:=B5 b _ nb hbl
    refine ⟨_,h5,smallL (by rw [List.length_map,List.length_map];lia),bs++[97 + x],kk + 1,_,rfl,?_,by simp [hlen],?_,?_,by lia,?_⟩
    · rw [upd_same,List.map_append,List.map_append];rfl
    · intro y hy
      rcases List.mem_append.mp hy with z | z
      · exact hone y z
      · rw [List.mem_singleton.mp z];lia
    · exact S5.mono .upd_at h5 (Ne.symm nb)
    · exact fun c' u n' h'=>by
        have w:=(B4.trans B5) c' u n' h'
        have ncb:c'≠b:=fun z=>by
          have:H c'=none:=(B3.free (fun z'=>n' z') (by rw [z];exact hb))
          rw [this] at h';cases h'
        rw [upd_ne ncb];exact w
  · rintro σ' H4 ⟨bs,kk,o,rfl,hbl,hlen,hone,S4,hkk,B4⟩
    have hlen:bs.length=sz:=by simpa using hlen
    have hkk:kk≤k + 3 + sz:=by simpa using hkk
    refine ⟨(by show 0≤sizeLine;decide),fun l hl=>?_⟩
    have nlb:b≠l:=ne_of_none hbl hl
    obtain ⟨ys4,hs4⟩:=S4.lst
    have nls:st≠l:=ne_of_none hs4 hl
    have Hl:H l=none:=B4.free (Ne.symm nls) hl
    show t_names_6 K _ [some (.ref st),some (.int (n:Nat)),some (.str abc),some (.int (sz:Nat)),some (.int (at':Nat)),some (.int f),some (.ref b),some (.ref l),none,none,none] (upd H4 l (.lst []))
    refine ⟨_,rfl,_,rfl,by lia,by lia,for_range (NmP st b l n sz at' f H4) ⟨[],none,none,none,rfl,upd_same,rfl,by simp,by simp,.refl _ _⟩ ?_ ?_⟩
    · rintro i σ' H5 hi ⟨ys,o1,o2,o3,rfl,hyl,ylen,yok,ycd,B5⟩
      have hi:i < n:=by simpa using hi
      have hb5:H5 b=some (.lst ((bs.map one).map V.str)):=B5 b _ nlb (by rw [upd_ne nlb];exact hbl)
      refine ⟨_,rfl,_,rfl,_,rfl,.inl ⟨b,_,rfl,SqL.of hb5,fun p1 hp1=>?_⟩⟩
      rw [cut_take,← List.map_take,← List.map_take]
      have np1b:b≠p1:=ne_of_none hb5 hp1
      have np1l:l≠p1:=ne_of_none hyl hp1
      refine ⟨_,rfl,_,rfl,_,rfl,.inl ⟨_,_,rfl,rfl,.inl ⟨by decide,by decide⟩,.inl ⟨_,_,rfl,rfl,_,_,rfl,rfl,(by show (0:Int) < 26;decide),?_⟩⟩⟩
      have e00:(0:Int) + (i:Int)=(i:Int):=by lia
      rw [e00]
      have x0:0≤(f + 5 * (i:Int)) % 26:=Int.emod_nonneg _ (by decide)
      have x1:(f + 5 * (i:Int)) % 26 < 26:=Int.emod_lt_of_pos _ (by decide)
      obtain ⟨c,hc⟩:∃ c,c=97 + ((f + 5 * (i:Int)) % 26).toNat:=⟨_,rfl⟩
      refine ixS abc_len x0 (by rw [abc_code _ (by lia),← hc]) ⟨(by show 1≤sizeLine;decide),fun p2 hp2=>?_⟩
      have np12:p1≠p2:=ne_of_none upd_same hp2
      have np2b:b≠p2:=ne_of_none (by rw [upd_ne np1b];exact hb5) hp2
      have np2l:l≠p2:=ne_of_none (by rw [upd_ne np1l];exact hyl) hp2
      refine .inr (.inr (.inl ⟨p1,p2,_,_,rfl,rfl,by rw [upd_ne np12,upd_same],upd_same,?_,fun p3 hp3=>?_⟩))
      · have:=smallL (n:=9) (by decide)
        rw [List.length_map,List.length_map,List.length_take]
        show min at' bs.length + 1≤sizeLine
        lia
      have np13:p1≠p3:=ne_of_none (by rw [upd_ne np12];exact upd_same) hp3
      have np3b:b≠p3:=ne_of_none (by rw [upd_ne np2b,upd_ne np1b];exact hb5) hp3
      have np3l:l≠p3:=ne_of_none (by rw [upd_ne np2l,upd_ne np1l];exact hyl) hp3
      refine ⟨_,rfl,_,rfl,.inl ⟨_,_,rfl,rfl,_,rfl,.inl ⟨b,_,rfl,SqL.of (by rw [upd_ne np3b,upd_ne np2b,upd_ne np1b];exact hb5),fun p4 hp4=>?_⟩⟩⟩
      rw [show ((at':Int) + 1)=((at' + 1:Nat):Int) by lia,cut_drop,← List.map_drop,← List.map_drop]
      have np34:p3≠p4:=ne_of_none upd_same hp4
      have np4l:l≠p4:=ne_of_none (by rw [upd_ne np3l,upd_ne np2l,upd_ne np1l];exact hyl) hp4
      refine .inr (.inr (.inl ⟨p3,p4,_,_,rfl,rfl,by rw [upd_ne np34,upd_same],upd_same,?_,fun p5 hp5=>?_⟩))
      · have:=smallL (n:=100) (by decide)
        rw [List.length_append,List.length_map,List.length_map,List.length_map,List.length_map,List.length_take,List.length_drop]
        show min at' bs.length + 1 + (bs.length - (at' + 1))≤sizeLine
        lia
      have np5l:l≠p5:=ne_of_none (by rw [upd_ne np4l,upd_ne np3l,upd_ne np2l,upd_ne np1l];exact hyl) hp5
      have ew:((bs.take at').map one).map V.str++[V.str ⟨#[c]⟩]++((bs.drop (at' + 1)).map one).map V.str=((bs.take at'++[c]++bs.drop (at' + 1)).map one).map V.str:=by rw [List.map_append,List.map_append,List.map_append,List.map_append];rfl
      rw [ew]
      have wl:(bs.take at'++[c]++bs.drop (at' + 1)).length=sz:=by rw [List.length_append,List.length_append,List.length_take,List.length_drop,List.length_singleton];lia
      have wone:∀ y∈bs.take at'++[c]++bs.drop (at' + 1),97≤y∧y≤122:=fun y hy=>by
        rcases List.mem_append.mp hy with z | z
        · rcases List.mem_append.mp z with z | z
          · exact hone y (List.mem_of_mem_take z)
          · rw [List.mem_singleton.mp z];lia
        · exact hone y (List.mem_of_mem_drop z)
      have wat:(bs.take at'++[c]++bs.drop (at' + 1))[at']?=some c:=by
        have tl:(bs.take at').length=at':=by rw [List.length_take];lia
        rw [List.append_assoc,List.getElem?_append_right (by lia),tl,Nat.sub_self]
        rfl
      generalize bs.take at'++[c]++bs.drop (at' + 1)=w at wl wone wat ⊢
      have B6:=((((B5.new (o:=.lst (((bs.take at').map one).map V.str)) hp1).new (o:=.lst [V.str ⟨#[c]⟩]) hp2).new (o:=.lst (((bs.take at').map one).map V.str++[V.str ⟨#[c]⟩])) hp3).new (o:=.lst (((bs.drop (at' + 1)).map one).map V.str)) hp4).new (o:=.lst ((w.map one).map V.str)) hp5
      have h6:(upd (upd (upd (upd (upd H5 p1 (.lst (((bs.take at').map one).map V.str))) p2 (.lst [V.str ⟨#[c]⟩])) p3 (.lst (((bs.take at').map one).map V.str++[V.str ⟨#[c]⟩]))) p4 (.lst (((bs.drop (at' + 1)).map one).map V.str))) p5 (.lst ((w.map one).map V.str))) l=some (.lst (ys.map V.str)):=by
        rw [upd_ne np5l,upd_ne np4l,upd_ne np3l,upd_ne np2l,upd_ne np1l];exact hyl
      have g6:(upd (upd (upd (upd (upd H5 p1 (.lst (((bs.take at').map one).map V.str))) p2 (.lst [V.str ⟨#[c]⟩])) p3 (.lst (((bs.take at').map one).map V.str++[V.str ⟨#[c]⟩]))) p4 (.lst (((bs.drop (at' + 1)).map one).map V.str))) p5 (.lst ((w.map one).map V.str))) p5=some (.lst ((w.map one).map V.str)):=upd_same
      generalize (upd (upd (upd (upd (upd H5 p1 (.lst (((bs.take at').map one).map V.str))) p2 (.lst [V.str ⟨#[c]⟩])) p3 (.lst (((bs.take at').map one).map V.str++[V.str ⟨#[c]⟩]))) p4 (.lst (((bs.drop (at' + 1)).map one).map V.str))) p5 (.lst ((w.map one).map V.str)))=H6 at B6 h6 g6 ⊢
      have wsum:((w.map one).map (·.length)).sum=w.length:=by
        rw [List.map_map,show ((fun x:Str=>x.length) ∘ one)=fun _=>1 from rfl,List.map_const',List.sum_replicate_nat,Nat.mul_one]
      refine ⟨rfl,_,rfl,"",p5,w.map one,rfl,rfl,SqL.of g6,?_,?_⟩
      · have e:("":Str).length=0:=by decide +kernel
        rw [wsum,e,Nat.mul_zero];lia
      have jl:=codes_join0 w
      generalize Txt.join "" (w.map one)=nmw at jl ⊢
      show t_names_3 K _ [some (.ref st),some (.int (n:Nat)),some (.str abc),some (.int (sz:Nat)),some (.int (at':Nat)),some (.int f),some (.ref b),some (.ref l),some (.int (i:Int)),some (.ref p5),some (.str nmw)] H6
      have nl:nmw.length=sz:=by rw [len_codes,jl,wl]
      have app:∀ (nw:Str) (H7:Hp),Nm nw→nw.cps.toList[at']?=some c→But l (upd H4 l (.lst [])) H7→H7 l=some (.lst (ys.map V.str))→t_names_2 K { nx:=NmP st b l n sz at' f H4 (i + 1),rt:=Q,ct:=NmP st b l n sz at' f H4 (i + 1),bk:=t_names_1 K { nx:=fun _ H'=>Q .non H',rt:=Q } } [some (.ref st),some (.int (n:Nat)),some (.str abc),some (.int (sz:Nat)),some (.int (at':Nat)),some (.int f),some (.ref b),some (.ref l),some (.int (i:Int)),some (.ref p5),some (.str nw)] H7:=fun nw H7 w1 w2 B7 h7=>by
        refine ⟨_,rfl,.inl ⟨rfl,_,SqL.of h7⟩,_,rfl,l,_,_,rfl,rfl,h7,smallL (by rw [List.length_map];lia),?_⟩
        refine ⟨ys++[nw],_,_,_,rfl,?_,by simp [ylen],?_,?_,B7.trans .upd_at⟩
        · rw [upd_same,List.map_append];rfl
        · intro y hy
          rcases List.mem_append.mp hy with z | z
          · exact yok y z
          · rw [List.mem_singleton.mp z];exact w1
        · intro j y hy
          by_cases cj:j < ys.length
          · rw [List.getElem?_append_left cj] at hy;exact ycd j y hy
          · have cj2:j=i:=by
              have:=(List.getElem?_eq_some_iff.mp hy).1
              rw [List.length_append,List.length_singleton] at this
              lia
            subst cj2
            rw [List.getElem?_append_right (by lia),ylen,Nat.sub_self] at hy
            cases hy
            rw [← hc];exact w2
      refine ⟨_,rfl,(by show 6≤sizeLine;decide),fun t ht=>⟨t,_,rfl,.inr (SqT.of upd_same),rfl,rfl,_,rfl,?_⟩⟩
      have ntl:l≠t:=ne_of_none h6 ht
      have B7:=B6.new (o:=.tup [V.str "part",V.str "call",V.str "say",V.str "jump",V.str "test",V.str "give"]) ht
      have h7:(upd H6 t (.tup [V.str "part",V.str "call",V.str "say",V.str "jump",V.str "test",V.str "give"])) l=some (.lst (ys.map V.str)):=by rw [upd_ne ntl];exact h6
      have xl:("x":Str).length=1:=by decide +kernel
      have xat:(nmw++"x").cps.toList[at']?=some c:=by
        rw [codes_x,jl,List.getElem?_append_left (by rw [wl];lia)];exact wat
      show if inV (.str nmw) (resv.map V.str)=true then _ else _
      rw [inV_strs]
      refine if_dec (fun hin=>?_) (fun hin=>?_)
      · refine ⟨_,rfl,.inr (.inl ⟨_,_,rfl,rfl,by rw [xl];have:=smallL (n:=100) (by decide);lia,?_⟩)⟩
        have z4:=resv_len _ hin
        exact app _ _ (nm_x jl (by rw [wl];lia) wone) xat B7 h7
      · refine ⟨_,rfl,_,_,rfl,rfl,_,rfl,if_dec (fun h8=>?_) (fun _=>?_)⟩
        · refine ⟨_,rfl,_,rfl,.inl ⟨_,_,rfl,rfl,_,_,rfl,rfl,(by show (0:Int) < 3;decide),.inl ⟨rfl,_,rfl,if_dec (fun _=>?_) (fun _=>?_)⟩⟩⟩
          · refine ⟨_,rfl,.inr (.inl ⟨_,_,rfl,rfl,by rw [xl];have:=smallL (n:=100) (by decide);lia,?_⟩)⟩
            exact app _ _ (nm_x jl (by rw [wl];lia) wone) xat B7 h7
          · exact app _ _ (nm_plain jl (by lia) (by lia) wone hin) (by rw [jl];exact wat) B7 h7
        · exact iteF (app _ _ (nm_plain jl (by lia) (by lia) wone hin) (by rw [jl];exact wat) B7 h7)
    · rintro σ' H5 ⟨ys,o1,o2,o3,rfl,hyl,ylen,yok,ycd,B5⟩
      have ylen:ys.length=n:=by simpa using ylen
      have nd:ys.Nodup:=by
        rw [List.Nodup,List.pairwise_iff_getElem]
        intro i j hi hj lt e
        have e1:=ycd i _ (List.getElem?_eq_getElem hi)
        have e2:=ycd j _ (List.getElem?_eq_getElem hj)
        rw [e,e2] at e1
        have e3:=Option.some.inj e1
        have a1:0≤(f + 5 * (i:Int)) % 26:=Int.emod_nonneg _ (by decide)
        have a2:0≤(f + 5 * (j:Int)) % 26:=Int.emod_nonneg _ (by decide)
        lia
      refine ⟨_,rfl,q l ys kk H5 Hl ylen nd yok hyl ((S4.new hl).mono B5 upd_same nls) (by lia) (B4.through hl B5)⟩
structure MJ (rl:Addr) (H:Hp) (R:BRow→Prop) (n:Nat) (H':Hp) (rvs:List V) (rs:List BRow):Prop where
  at_:H' rl=some (.lst rvs)
  all:AllAt (RowAt H') rvs rs
  len:rs.length=n
  rough:∀ r∈rs,R r
  but:But rl H H'
theorem MJ.vlen {rl:Addr} {H H':Hp} {R:BRow→Prop} {n:Nat} {rvs:List V} {rs:List BRow} (m:MJ rl H R n H' rvs rs):rvs.length=n:=m.all.len.trans m.len
theorem MJ.grown {rl:Addr} {H H' H2:Hp} {R:BRow→Prop} {n:Nat} {rvs:List V} {rs:List BRow} (m:MJ rl H R n H' rvs rs) (s:Same H' H2):MJ rl H R n H2 rvs rs:=
  ⟨s _ _ m.at_,m.all.imp fun _ _ z=>z.mono (.of_same s),m.len,m.rough,fun b o nb h=>s _ _ (m.but b o nb h)⟩
theorem MJ.set {rl:Addr} {H H':Hp} {R:BRow→Prop} {n:Nat} {rvs:List V} {rs:List BRow} {v:V} {r:BRow} (j:Nat) (m:MJ rl H R n H' rvs rs) (q:RowAt H' v r) (ro:R r) :
    MJ rl H R n (upd H' rl (.lst (rvs.set j v))) (rvs.set j v) (rs.set j r):=by
  have t:Tp H' (upd H' rl (.lst (rvs.set j v))):=(Tp.refl H').lst m.at_
  refine ⟨upd_same,(m.all.set q).imp fun _ _ z=>z.mono t,by rw [List.length_set];exact m.len,fun r' hr'=>?_,m.but.trans .upd_at⟩
  rcases List.mem_or_eq_of_mem_set hr' with z | z
  · exact m.rough r' z
  · rw [z];exact ro
theorem MJ.get {rl:Addr} {H H':Hp} {R:BRow→Prop} {n:Nat} {rvs:List V} {rs:List BRow} (m:MJ rl H R n H' rvs rs) {j:Nat} (hj:j < n):∃ p xs r,rvs[j]?=some (.ref p)∧rs[j]?=some r∧H' p=some (.tup (.str (word r)::xs))∧RowAt H' (.ref p) r∧R r:=by
  obtain ⟨v,r,e1,e2,q⟩:=m.all.get (i:=j) (by rw [m.len];exact hj)
  obtain ⟨p,xs,rfl,hp⟩:=q.ref
  exact ⟨p,xs,r,e1,e2,hp,q,m.rough r (List.mem_of_getElem? e2)⟩
def EndAt (n:Nat) (rs:List BRow):Prop:=∃ r,rs[n - 1]?=some r∧isEnd r=true
def NumAt (bare:Bool) (rs:List BRow):Prop:=bare=true→∃ r,rs[0]?=some r∧isNum r=true
theorem word_jump {r:BRow} (h:word r="jump"):∃ to,r=.jump to:=by
  cases r with
  | jump to=>exact ⟨to,rfl⟩
  | num x z=>exact absurd h (by show ¬ ("num":Str)="jump";decide +kernel)
  | op x s a b=>exact absurd h (by show ¬ ("op":Str)="jump";decide +kernel)
  | call x k as=>exact absurd h (by show ¬ ("call":Str)="jump";decide +kernel)
  | say a=>exact absurd h (by show ¬ ("say":Str)="jump";decide +kernel)
  | test a to=>exact absurd h (by show ¬ ("test":Str)="jump";decide +kernel)
  | give a=>exact absurd h (by show ¬ ("give":Str)="jump";decide +kernel)
theorem is_num {r:BRow} (h:word r="num"):isNum r=true:=by
  cases r with
  | num x z=>rfl
  | jump to=>exact absurd h (by show ¬ ("jump":Str)="num";decide +kernel)
  | op x s a b=>exact absurd h (by show ¬ ("op":Str)="num";decide +kernel)
  | call x k as=>exact absurd h (by show ¬ ("call":Str)="num";decide +kernel)
  | say a=>exact absurd h (by show ¬ ("say":Str)="num";decide +kernel)
  | test a to=>exact absurd h (by show ¬ ("test":Str)="num";decide +kernel)
  | give a=>exact absurd h (by show ¬ ("give":Str)="num";decide +kernel)
theorem in_end {r:BRow} (h:inV (.str (word r)) [V.str "jump",V.str "give"]=true):isEnd r=true:=by
  cases r with
  | jump to=>rfl
  | give a=>rfl
  | num x z=>exact absurd h (by show ¬ inV (.str "num") [V.str "jump",V.str "give"]=true;decide +kernel)
  | op x s a b=>exact absurd h (by show ¬ inV (.str "op") [V.str "jump",V.str "give"]=true;decide +kernel)
  | call x k as=>exact absurd h (by show ¬ inV (.str "call") [V.str "jump",V.str "give"]=true;decide +kernel)
  | say a=>exact absurd h (by show ¬ inV (.str "say") [V.str "jump",V.str "give"]=true;decide +kernel)
  | test a to=>exact absurd h (by show ¬ inV (.str "test") [V.str "jump",V.str "give"]=true;decide +kernel)
theorem str_inj {a b:Str} (h:V.str a=V.str b):a=b:=by cases h;rfl
theorem stp_stop {rs:List BRow} {n:Nat} (h:∀ r,rs[n]?=some r→isJump r=false):stp rs n=n:=by
  unfold stp
  cases e:rs[n]? with
  | none=>rfl
  | some r=>cases r with
    | jump t=>exact absurd (h _ e) (by show ¬ true=false;decide)
    | _=>rfl
theorem runJ_stop {rs:List BRow} {n:Nat} (h:∀ r,rs[n]?=some r→isJump r=false):∀ k,runJ rs k n=n
  | 0=>rfl
  | k + 1=>by
    show runJ rs k (stp rs n)=n
    rw [stp_stop h];exact runJ_stop h k
theorem runJ_succ (rs:List BRow):∀ (k n:Nat),runJ rs (k + 1) n=stp rs (runJ rs k n)
  | 0,n=>rfl
  | k + 1,n=>by
    show runJ rs (k + 1) (stp rs n)=stp rs (runJ rs k (stp rs n))
    exact runJ_succ rs k (stp rs n)
theorem runJ_set {rs:List BRow} {j:Nat} {r':BRow} (hr:isJump r'=false) (hj:j < rs.length):∀ (k m:Nat),(∀ r,rs[runJ rs k m]?=some r→isJump r=false)→∀ r,(rs.set j r')[runJ (rs.set j r') k m]?=some r→isJump r=false:=by
  have at_j:∀ r,(rs.set j r')[j]?=some r→isJump r=false:=fun r e=>by
    rw [List.getElem?_set_self hj] at e;cases e;exact hr
  intro k
  induction k with
  | zero=>
    intro m h r e
    by_cases c:j=m
    · subst c;exact at_j r e
    · have e':(rs.set j r')[m]?=some r:=e
      rw [List.getElem?_set_ne c] at e';exact h r e'
  | succ k ih=>
    intro m h r e
    by_cases c:j=m
    · subst c
      rw [runJ_stop at_j] at e;exact at_j r e
    · have es:stp (rs.set j r') m=stp rs m:=by unfold stp;rw [List.getElem?_set_ne c]
      have e':(rs.set j r')[runJ (rs.set j r') k (stp (rs.set j r') m)]?=some r:=e
      rw [es] at e'
      exact ih (stp rs m) h r e'
theorem not_jump {r:BRow} (h:¬ word r="jump"):isJump r=false:=by
  cases r <;> first | rfl | exact absurd rfl h
def MdP (rl nm:Addr) (bare:Bool) (H:Hp) (R:BRow→Prop) (n i:Nat):St→Hp→Prop:=fun σ' H'=>∃ (rvs:List V) (rs:List BRow) (o4 o5 o6:Option V),σ'=[some (.ref rl),some (.ref nm),some (.bl bare),some (.int ((n - 1:Nat):Nat)),o4,o5,o6]∧MJ rl H R n H' rvs rs∧EndAt n rs∧NumAt bare rs∧∀ m,m < i→∀ r,rs[runJ rs n m]?=some r→isJump r=false
theorem r_mended {K:Fg} {vs:List V} {H:Hp} {Q:VK} {E:XK} (h:sp_mended K vs H Q E):t_mended K { nx:=fun _ H'=>Q .non H',rt:=Q } (start N_mended vs) H:=by
  obtain ⟨rl,nm,bare,rvs,rs,ys,R,rfl,hrl,hA,hpos,hfew,hR,rSay,rGive,rJump,hnm,ysne,rNum,nnr,hbare,q⟩:=h
  obtain ⟨n,hn⟩:∃ n,n=rs.length:=⟨_,rfl⟩
  have n1:1≤n:=by rw [hn];exact List.length_pos_iff.mpr hpos
  have n100:n≤100:=by rw [hn];exact hfew
  have M0:MJ rl H R n H rvs rs:=⟨hrl,hA,hn.symm,hR,.refl _ _⟩
  refine ⟨_,rfl,_,_,rfl,.inl ⟨_,SqL.of hrl,rfl⟩,_,_,rfl,rfl,?_⟩
  show t_mended_8 K _ [some (.ref rl),some (.ref nm),some (.bl bare),some (.int (((rvs.length:Nat):Int) - 1)),none,none,none] H
  rw [show ((rvs.length:Nat):Int) - 1=((n - 1:Nat):Nat) by rw [M0.vlen];lia]
  have loop:∀ H',MdP rl nm bare H R n 0 [some (.ref rl),some (.ref nm),some (.bl bare),some (.int ((n - 1:Nat):Nat)),none,none,none] H'→t_mended_6 K { nx:=fun _ H'=>Q .non H',rt:=Q } [some (.ref rl),some (.ref nm),some (.bl bare),some (.int ((n - 1:Nat):Nat)),none,none,none] H':=fun H' P0=>by
    obtain ⟨rvs0,rs0,_,_,_,_,MM,_,_,_⟩:=id P0
    refine ⟨_,rfl,_,_,rfl,.inl ⟨_,SqL.of MM.at_,rfl⟩,_,rfl,by lia,by rw [MM.vlen];lia,for_range (fun i=>MdP rl nm bare H R n i) P0 ?_ ?_⟩
    · rintro i σ' H1 hi ⟨rvs,rs,o4,o5,o6,rfl,M,hE,hN,hJ⟩
      have hi:i < n:=by rw [MM.vlen] at hi;simpa using hi
      have e0:(0:Int) + (i:Int)=((i:Nat):Int):=by lia
      show t_mended_5 K _ [some (.ref rl),some (.ref nm),some (.bl bare),some (.int ((n - 1:Nat):Nat)),some (.int ((0:Int) + (i:Int))),o5,o6] H1
      rw [e0]
      refine ⟨_,rfl,?_⟩
      show t_mended_4 K _ [some (.ref rl),some (.ref nm),some (.bl bare),some (.int ((n - 1:Nat):Nat)),some (.int (i:Nat)),some (.int (i:Nat)),o6] H1
      refine .inl ⟨_,rfl,rl,rfl,⟨_,SqL.of M.at_⟩,for_list (xs:=rvs) (fun j σ H'=>∃ (to:Nat) (o:Option V),σ=[some (.ref rl),some (.ref nm),some (.bl bare),some (.int ((n - 1:Nat):Nat)),some (.int (i:Nat)),some (.int (to:Nat)),o]∧H'=H1∧to < n∧(∀ r,rs[i]?=some r→isNum r=true→to=i)∧to=runJ rs j i)
        ⟨i,o6,rfl,rfl,hi,fun _ _ _=>rfl,rfl⟩ (fun _ _ _ _ ⟨_,_,_,e,_⟩=>by rw [e];exact SqL.of M.at_) ?_ ?_⟩
      · rintro j x σ' H2 hx ⟨to,o,rfl,rfl,hto,hk,hrun⟩
        obtain ⟨p,xs,r,e1,e2,hp,hra,hro⟩:=M.get hto
        have e1':rvs[((to:Nat):Int).toNat]?=some (.ref p):=by simpa using e1
        refine ⟨_,rfl,_,rfl,ixL (SqL.of M.at_) (by lia) e1' (ixT hp (by decide) rfl (.inl ⟨rfl,_,rfl,if_dec (fun hw=>?_) (fun hw=>?_)⟩))⟩
        · obtain ⟨t',rfl⟩:=word_jump (str_inj hw)
          obtain ⟨p',e3,hp'⟩:=hra
          cases e3
          refine ⟨_,rfl,_,rfl,ixL (SqL.of M.at_) (by lia) e1' (ixT hp' (by decide) rfl ?_)⟩
          refine ⟨t',_,rfl,rfl,by rw [hn];exact rJump _ hro,fun r hr hnum=>?_,?_⟩
          · have:=hk r hr hnum
            rw [this] at e2
            rw [e2] at hr;cases hr;cases hnum
          · rw [runJ_succ,← hrun];unfold stp;rw [e2]
        · refine ⟨to,_,rfl,rfl,hto,hk,?_⟩
          rw [runJ_succ,← hrun,stp_stop]
          intro r' hr'
          rw [e2] at hr';cases hr'
          exact not_jump fun z=>hw (by rw [z])
      · rintro σ' H2 ⟨to,o,rfl,rfl,hto,hk,hrun⟩
        rw [M.vlen] at hrun
        obtain ⟨p,xs,r,e1,e2,hp,hra,hro⟩:=M.get hto
        have e1':rvs[((to:Nat):Int).toNat]?=some (.ref p):=by simpa using e1
        refine ⟨_,rfl,_,rfl,ixL (SqL.of M.at_) (by lia) e1' (ixT hp (by decide) rfl (.inl ⟨rfl,_,rfl,if_dec (fun hw=>?_) (fun hw=>⟨rvs,rs,_,_,_,rfl,M,hE,hN,fun m hm=>?_⟩)⟩))⟩
        rotate_left
        · by_cases cm:m < i
          · exact hJ m cm
          · have:m=i:=by lia
            subst this
            intro r' hr'
            rw [← hrun,e2] at hr';cases hr'
            exact not_jump fun z=>hw (by rw [z])
        obtain ⟨t',rfl⟩:=word_jump (str_inj hw)
        refine ⟨(by show 2≤sizeLine;decide),fun p1 hp1=>⟨(by show 2≤sizeLine;decide),fun p2 hp2=>⟨(by show 2≤sizeLine;decide),fun l hl=>?_⟩⟩⟩
        have n12:p1≠p2:=ne_of_none upd_same hp2
        have n1l:p1≠l:=ne_of_none (by rw [upd_ne n12];exact upd_same) hl
        have n2l:p2≠l:=ne_of_none upd_same hl
        have sm:Same H2 (upd (upd (upd H2 p1 (.tup [V.str "say",V.str ""])) p2 (.tup [V.str "give",V.str ""])) l (.lst [V.ref p1,V.ref p2])):=(((Same.refl H2).new hp1).new hp2).new hl
        have M2:=M.grown sm
        have hl2:(upd (upd (upd H2 p1 (.tup [V.str "say",V.str ""])) p2 (.tup [V.str "give",V.str ""])) l (.lst [V.ref p1,V.ref p2])) l=some (.lst [V.ref p1,V.ref p2]):=upd_same
        have h1:(upd (upd (upd H2 p1 (.tup [V.str "say",V.str ""])) p2 (.tup [V.str "give",V.str ""])) l (.lst [V.ref p1,V.ref p2])) p1=some (.tup [V.str "say",V.str ""]):=by rw [upd_ne n1l,upd_ne n12,upd_same]
        have h2:(upd (upd (upd H2 p1 (.tup [V.str "say",V.str ""])) p2 (.tup [V.str "give",V.str ""])) l (.lst [V.ref p1,V.ref p2])) p2=some (.tup [V.str "give",V.str ""]):=by rw [upd_ne n2l,upd_same]
        generalize (upd (upd (upd H2 p1 (.tup [V.str "say",V.str ""])) p2 (.tup [V.str "give",V.str ""])) l (.lst [V.ref p1,V.ref p2]))=H3 at M2 hl2 h1 h2 ⊢
        have fin:∀ (v:V) (r:BRow),RowAt H3 v r→R r→isJump r=false→(i=n - 1→isEnd r=true)→gSub (tVar 0) (tVar 4) rSetL v [some (.ref rl),some (.ref nm),some (.bl bare),some (.int ((n - 1:Nat):Nat)),some (.int (i:Nat)),some (.int (to:Nat)),o] H3 (MdP rl nm bare H R n (i + 1)):=fun v r hv hr hj he=>by
          refine ⟨_,rfl,_,rfl,setL M2.at_ (by lia) (by rw [M2.vlen];simpa using hi) ?_⟩
          have ei:((i:Nat):Int).toNat=i:=by simp
          rw [ei]
          refine ⟨_,rs.set i r,_,_,_,rfl,M2.set i hv hr,?_,fun hb=>?_,fun m hm=>?_⟩
          · obtain ⟨r1,a1,a2⟩:=hE
            by_cases c:i=n - 1
            · exact ⟨r,by rw [← c,List.getElem?_set_self (by rw [M2.len];exact hi)],he c⟩
            · exact ⟨r1,by rw [List.getElem?_set_ne c];exact a1,a2⟩
          · obtain ⟨r0,a1,a2⟩:=hN hb
            have c:i≠0:=fun c=>by
              subst c
              have:=hk r0 a1 a2
              subst this
              rw [e2] at a1;cases a1;cases a2
            exact ⟨r0,by rw [List.getElem?_set_ne c];exact a1,a2⟩
          · have il:i < rs.length:=by rw [M2.len];exact hi
            by_cases cm:m < i
            · exact runJ_set hj il n m (hJ m cm)
            · have:m=i:=by lia
              subst this
              have atm:∀ r',(rs.set m r)[m]?=some r'→isJump r'=false:=fun r' e=>by rw [List.getElem?_set_self il] at e;cases e;exact hj
              intro r' hr'
              rw [runJ_stop atm] at hr'
              exact atm r' hr'
        refine ⟨_,rfl,_,rfl,.inl ⟨rfl,?_⟩⟩
        refine .inr ⟨_,rfl,?_⟩
        by_cases c:i=n - 1
        · have ec:decide (V.int (i:Nat)=V.int ((n - 1:Nat):Nat))=true:=by rw [c];exact decide_eq_true rfl
          rw [ec]
          exact ixL (SqL.of hl2) (by decide) rfl (fin _ (.give "") ⟨p2,rfl,h2⟩ rGive rfl fun _=>rfl)
        · have ec:decide (V.int (i:Nat)=V.int ((n - 1:Nat):Nat))=false:=decide_eq_false (fun z=>c (by injection z with z;lia))
          rw [ec]
          exact ixL (SqL.of hl2) (by decide) rfl (fin _ (.say "") ⟨p1,rfl,h1⟩ rSay rfl fun z=>absurd z c)
    · rintro σ' H1 ⟨rvs,rs',o4,o5,o6,rfl,M,hE,hN,hJ⟩
      rw [MM.vlen,Int.toNat_natCast] at hJ
      refine ⟨_,rfl,q rvs rs' H1 M.at_ M.all (M.len.trans hn) M.rough ?_ ?_ (by intro m hm;rw [M.len] at hm ⊢;exact hJ m hm) M.but⟩
      · obtain ⟨r,a1,a2⟩:=hE
        rw [List.getLast?_eq_getElem?,M.len,a1,Option.map_some,a2]
      · intro hb
        obtain ⟨r,a1,a2⟩:=hN hb
        rw [List.head?_eq_getElem?,a1,Option.map_some,a2]
  have second:∀ (H':Hp) (rvs:List V) (rs:List BRow),MJ rl H R n H' rvs rs→EndAt n rs→t_mended_7 K { nx:=fun _ H'=>Q .non H',rt:=Q } [some (.ref rl),some (.ref nm),some (.bl bare),some (.int ((n - 1:Nat):Nat)),none,none,none] H':=fun H' rvs rs M hE=>by
    refine ⟨_,rfl,bare,rfl,if_bl (fun hb=>?_) (fun hb=>?_)⟩
    · have n2:2≤n:=by rw [hn];exact hbare hb
      obtain ⟨p,xs,r,e1,e2,hp,hra,hro⟩:=M.get (j:=0) (by lia)
      refine ⟨_,rfl,ixL (SqL.of M.at_) (by decide) e1 (ixT hp (by decide) rfl (.inl ⟨rfl,_,rfl,if_not (fun hw=>?_) (fun hw=>?_)⟩))⟩
      · refine ⟨_,rfl,_,_,rfl,rfl,_,rfl,if_dec (fun _=>?_) (fun hz=>absurd (show (0:Int) < ((n - 1:Nat):Nat) by lia) hz)⟩
        have hnm':=M.but nm _ nnr hnm
        obtain ⟨y,yr,rfl⟩:∃ y yr,ys=y::yr:=List.exists_cons_of_ne_nil ysne
        refine ⟨_,rfl,ixL (SqL.of hnm') (by decide) rfl ⟨(by show 3≤sizeLine;decide),fun p2 hp2=>?_⟩⟩
        have M2:=M.grown ((Same.refl H').new (o:=.tup [V.str "num",V.str y,V.int 3]) hp2)
        refine ⟨_,rfl,setL M2.at_ (by decide) (by rw [M2.vlen];exact n1) (loop _ ⟨_,rs.set 0 (.num y 3),_,_,_,rfl,M2.set 0 ⟨p2,rfl,upd_same⟩ (rNum y List.mem_cons_self hb),?_,fun _=>⟨.num y 3,List.getElem?_set_self (by rw [M.len];exact n1),rfl⟩,fun _ z=>absurd z (Nat.not_lt_zero _)⟩)⟩
        obtain ⟨r1,a1,a2⟩:=hE
        exact ⟨r1,by rw [List.getElem?_set_ne (by lia)];exact a1,a2⟩
      · exact iteF (loop _ ⟨rvs,rs,_,_,_,rfl,M,hE,fun _=>⟨r,e2,is_num (str_inj hw)⟩,fun _ z=>absurd z (Nat.not_lt_zero _)⟩)
    · exact iteF (loop _ ⟨rvs,rs,_,_,_,rfl,M,hE,fun hb'=>(by rw [hb] at hb';cases hb'),fun _ z=>absurd z (Nat.not_lt_zero _)⟩)
  obtain ⟨p,xs,r,e1,e2,hp,hra,hro⟩:=M0.get (j:=n - 1) (by lia)
  have e1':rvs[((n - 1:Nat):Int).toNat]?=some (.ref p):=by simpa using e1
  refine ⟨_,rfl,_,rfl,ixL (SqL.of hrl) (by lia) e1' (ixT hp (by decide) rfl ⟨(by show 2≤sizeLine;decide),fun t ht=>⟨t,_,rfl,.inr (SqT.of upd_same),rfl,rfl,_,rfl,?_⟩⟩)⟩
  have M1:=M0.grown ((Same.refl H).new (o:=.tup [V.str "jump",V.str "give"]) ht)
  refine if_bl (fun hb=>?_) (fun hb=>?_)
  · refine ⟨(by show 2≤sizeLine;decide),fun p2 hp2=>?_⟩
    have M2:=M1.grown ((Same.refl _).new (o:=.tup [V.str "give",V.str ""]) hp2)
    refine ⟨_,rfl,_,rfl,setL M2.at_ (by lia) (by rw [M2.vlen];lia) ?_⟩
    have ei:((n - 1:Nat):Int).toNat=n - 1:=by simp
    rw [ei]
    exact second _ _ _ (M2.set (n - 1) (r:=.give "") ⟨p2,rfl,upd_same⟩ rGive) ⟨.give "",List.getElem?_set_self (by rw [M0.len];lia),rfl⟩
  · refine second _ _ _ M1 ⟨r,e2,in_end ?_⟩
    have hb':(!inV (.str (word r)) [V.str "jump",V.str "give"])=false:=hb
    simpa using hb'
def TxA (kl:Addr) (H:Hp) (v:V) (ks:List Str):Prop:=∃ a,v=.ref a∧a≠kl∧H a=some (.lst (ks.map V.str))
theorem TxA.same {kl:Addr} {H H':Hp} {v:V} {ks:List Str} (h:TxA kl H v ks) (s:Same H H'):TxA kl H' v ks:=by
  obtain ⟨a,e,n,h⟩:=h;exact ⟨a,e,n,s _ _ h⟩
theorem TxA.upd {kl:Addr} {H:Hp} {v:V} {ks:List Str} {o:HO} (h:TxA kl H v ks):TxA kl (upd H kl o) v ks:=by
  obtain ⟨a,e,n,h⟩:=h;exact ⟨a,e,n,by rw [upd_ne n];exact h⟩
def sumL (kss:List (List Str)):Nat:=(kss.map List.length).sum
theorem sumL_set:∀ {kss:List (List Str)} {m:Nat} {ks kp:List Str},kss[m]?=some ks→sumL (kss.set m kp) + ks.length=sumL kss + kp.length
  | [],m,ks,kp,h=>by simp at h
  | a::r,0,ks,kp,h=>by
    simp at h;subst h
    show kp.length + sumL r + a.length=a.length + sumL r + kp.length
    lia
  | a::r,m + 1,ks,kp,h=>by
    have ih:=sumL_set (kss:=r) (m:=m) (ks:=ks) (kp:=kp) (by simpa using h)
    show a.length + sumL (r.set m kp) + ks.length=a.length + sumL r + kp.length
    lia
structure KJ (kl:Addr) (H:Hp) (ys ps:List Str) (w:Str) (n:Nat) (H':Hp) (refs:List V) (kss:List (List Str)):Prop where
  at_:H' kl=some (.lst refs)
  all:AllAt (TxA kl H') refs kss
  len:kss.length=n
  wit:∀ (i:Nat) ks,kss[i]?=some ks→ks.length≤100∧(∀ y∈ks,y∈ys)∧(w∈ks∨(i=0∧ps=[]))
  same:Same H H'
theorem KJ.grown {kl:Addr} {H H' H2:Hp} {ys ps:List Str} {w:Str} {n:Nat} {refs:List V} {kss:List (List Str)} (k:KJ kl H ys ps w n H' refs kss) (s:Same H' H2):KJ kl H ys ps w n H2 refs kss:=
  ⟨s _ _ k.at_,k.all.imp fun _ _ z=>z.same s,k.len,k.wit,k.same.trans s⟩
theorem KJ.vlen {kl:Addr} {H H':Hp} {ys ps:List Str} {w:Str} {n:Nat} {refs:List V} {kss:List (List Str)} (k:KJ kl H ys ps w n H' refs kss):refs.length=n:=k.all.len.trans k.len
theorem KJ.get {kl:Addr} {H H':Hp} {ys ps:List Str} {w:Str} {n:Nat} {refs:List V} {kss:List (List Str)} (k:KJ kl H ys ps w n H' refs kss) {j:Nat} (hj:j < n):∃ a ks,refs[j]?=some (.ref a)∧kss[j]?=some ks∧a≠kl∧H' a=some (.lst (ks.map V.str)):=by
  obtain ⟨v,ks,e1,e2,a,rfl,n1,h1⟩:=k.all.get (i:=j) (by rw [k.len];exact hj)
  exact ⟨a,ks,e1,e2,n1,h1⟩
theorem KJ.set {kl a:Addr} {H H':Hp} {ys ps:List Str} {w:Str} {n m:Nat} {refs:List V} {kss:List (List Str)} {kp:List Str} (k:KJ kl H ys ps w n H' refs kss) (hkl:H kl=none) (na:a≠kl) (ha:H' a=some (.lst (kp.map V.str)))
    (hw:kp.length≤100∧(∀ y∈kp,y∈ys)∧(w∈kp∨(m=0∧ps=[]))):KJ kl H ys ps w n (upd H' kl (.lst (refs.set m (.ref a)))) (refs.set m (.ref a)) (kss.set m kp):=by
  refine ⟨upd_same,AllAt.set (k.all.imp fun _ _ z=>z.upd) ⟨a,rfl,na,by rw [upd_ne na];exact ha⟩,by rw [List.length_set];exact k.len,fun i ks e=>?_,fun b o h=>?_⟩
  · by_cases c:m=i
    · subst c
      have hi:m < kss.length:=by have:=(List.getElem?_eq_some_iff.mp e).1;rw [List.length_set] at this;exact this
      rw [List.getElem?_set_self hi] at e;cases e;exact hw
    · rw [List.getElem?_set_ne c] at e;exact k.wit i ks e
  · rw [upd_ne (ne_of_none h hkl)];exact k.same _ _ h
theorem filter_take {α:Type} (p:α→Bool) (l:List α) (i:Nat) (v:α) (h:l[i]?=some v):(l.take (i + 1)).filter p=(l.take i).filter p++(if p v=true then [v] else []):=by
  rw [List.take_add_one,h,List.filter_append]
  cases hp:p v <;> simp [hp]
theorem in_sets {r:BRow} (h:inV (.str (word r)) [V.str "num",V.str "op",V.str "call"]=true):∃ x,setsOf r=.str x:=by
  cases r with
  | num x z=>exact ⟨x,rfl⟩
  | op x s a b=>exact ⟨x,rfl⟩
  | call x k as=>exact ⟨x,rfl⟩
  | jump to=>exact absurd h (by show ¬ inV (.str "jump") [V.str "num",V.str "op",V.str "call"]=true;decide +kernel)
  | say a=>exact absurd h (by show ¬ inV (.str "say") [V.str "num",V.str "op",V.str "call"]=true;decide +kernel)
  | test a to=>exact absurd h (by show ¬ inV (.str "test") [V.str "num",V.str "op",V.str "call"]=true;decide +kernel)
  | give a=>exact absurd h (by show ¬ inV (.str "give") [V.str "num",V.str "op",V.str "call"]=true;decide +kernel)
theorem sets_at {H:Hp} {p:Addr} {r:BRow} {x:Str} (h:RowAt H (.ref p) r) (e:setsOf r=.str x):∃ xs,H p=some (.tup (.str (word r)::.str x::xs)):=by
  cases r with
  | num y z=>cases e;obtain ⟨p',e',h⟩:=h;cases e';exact ⟨_,h⟩
  | op y s a b=>cases e;obtain ⟨p',e',h⟩:=h;cases e';exact ⟨_,h⟩
  | call y k as=>cases e;obtain ⟨p',q,e',h,_⟩:=h;cases e';exact ⟨_,h⟩
  | jump to=>cases e
  | say a=>cases e
  | test a to=>cases e
  | give a=>cases e
theorem leads_lt {ys:List Str} {cs:List Nat} {rs:List BRow} {i m j:Nat} {r:BRow} (hr:rs[i]?=some r) (ro:Rough ys cs rs.length r) (hE:rs.getLast?.map isEnd=some true) (hm:(leadsL i r)[j]?=some m):m < rs.length:=by
  have hi:i < rs.length:=(List.getElem?_eq_some_iff.mp hr).1
  have nx:isEnd r=false→i + 1 < rs.length:=fun he=>by
    by_cases c:i + 1 < rs.length
    · exact c
    · have ei:i=rs.length - 1:=by lia
      rw [List.getLast?_eq_getElem?,← ei,hr,Option.map_some,he] at hE
      cases hE
  have mem:=List.mem_of_getElem? hm
  cases r with
  | jump to=>rw [List.mem_singleton.mp mem];exact ro
  | test a to=>
    rcases List.mem_cons.mp mem with e | e
    · rw [e];exact nx rfl
    · rw [List.mem_singleton.mp e];exact ro.2
  | give a=>cases mem
  | num x z=>rw [List.mem_singleton.mp mem];exact nx rfl
  | op x s a b=>rw [List.mem_singleton.mp mem];exact nx rfl
  | call x k as=>rw [List.mem_singleton.mp mem];exact nx rfl
  | say a=>rw [List.mem_singleton.mp mem];exact nx rfl
def PassOk (rs:List BRow) (i:Nat) (kss:List (List Str)):Prop:=∀ (n m:Nat) r ks km,n < i→rs[n]?=some r→m∈leadsL n r→kss[n]?=some ks→kss[m]?=some km→∀ y∈km,y∈ks∨setsOf r=.str y
def Zero (ps:List Str) (kss:List (List Str)):Prop:=∀ ks,kss[0]?=some ks→∀ y∈ks,y∈ps
theorem Zero.set {ps:List Str} {kss:List (List Str)} {m:Nat} {km kp:List Str} (h:Zero ps kss) (e:kss[m]?=some km) (s:∀ y∈kp,y∈km):Zero ps (kss.set m kp):=by
  intro ks e0 y hy
  by_cases c:m=0
  · subst c
    have hl:0 < kss.length:=(List.getElem?_eq_some_iff.mp e).1
    rw [List.getElem?_set_self hl] at e0;cases e0
    exact h km e y (s y hy)
  · rw [List.getElem?_set_ne c] at e0;exact h ks e0 y hy
def SnP (rl nm pr kl:Addr) (H:Hp) (ys ps:List Str) (w:Str) (rs:List BRow) (B i:Nat):St→Hp→Prop:=fun σ' H'=>∃ (refs:List V) (kss:List (List Str)) (more:Bool) (o5 o6 o7 o8:Option V),σ'=[some (.ref rl),some (.ref nm),some (.ref pr),some (.ref kl),some (.bl more),o5,o6,o7,o8]∧KJ kl H ys ps w rs.length H' refs kss∧2 * sumL kss + more.toNat≤B∧Zero ps kss∧(more=false→PassOk rs i kss)
def SnQ (rl nm pr kl:Addr) (H:Hp) (ys ps:List Str) (w:Str) (rs:List BRow) (B i:Nat) (la l:Addr) (ls:List Str) (ms:List Nat) (kss0:List (List Str)) (j:Nat):St→Hp→Prop:=fun σ' H'=>∃ (refs:List V) (kss:List (List Str)) (more:Bool) (o7 o8:Option V),σ'=[some (.ref rl),some (.ref nm),some (.ref pr),some (.ref kl),some (.bl more),some (.int (i:Nat)),some (.ref la),o7,o8]∧KJ kl H ys ps w rs.length H' refs kss∧2 * sumL kss + more.toNat≤B∧H' la=some (.lst (ls.map V.str))∧H' l=some (.lst (intsV ms))∧Zero ps kss∧
  (more=false→kss=kss0∧PassOk rs i kss0∧∀ j',j' < j→∀ m km,ms[j']?=some m→kss0[m]?=some km→∀ y∈km,y∈ls)
def Bt2 (a b:Addr) (H H':Hp):Prop:=∀ c o,c≠a→c≠b→H c=some o→H' c=some o
theorem Bt2.refl (a b:Addr) (H:Hp):Bt2 a b H H:=fun _ _ _ _ h=>h
theorem Bt2.trans {a b:Addr} {H H1 H2:Hp} (x:Bt2 a b H H1) (y:Bt2 a b H1 H2):Bt2 a b H H2:=fun c o n m h=>y c o n m (x c o n m h)
theorem Bt2.of_l {a b:Addr} {H H':Hp} (x:But a H H'):Bt2 a b H H':=fun c o n _ h=>x c o n h
theorem Bt2.of_r {a b:Addr} {H H':Hp} (x:But b H H'):Bt2 a b H H':=fun c o _ m h=>x c o m h
theorem Bt2.upd_r {a b:Addr} {H:Hp} {o:HO}:Bt2 a b H (upd H b o):=.of_r .upd_at
theorem Bt2.tp {a b:Addr} {H H':Hp} {xs ys:List V} (x:Bt2 a b H H') (ha:H a=some (.lst xs)) (hb:H b=some (.lst ys)):Tp H H':=fun p zs h=>
  x p _ (by rintro rfl;rw [h] at ha;cases ha) (by rintro rfl;rw [h] at hb;cases hb) h
theorem Bt2.but {a b:Addr} {H H1 H2:Hp} (x:But a H H1) (hb:H b=none) (y:Bt2 a b H1 H2):But a H H2:=fun c o n h=>y c o n (ne_of_none h hb) (x c o n h)
def cst:V→Nat
  | .str s=>if s="" then 1 else 0
  | .ref _=>4
  | _=>0
def ThOk (ks:List Str) (H:Hp):V→Prop
  | .str s=>s=""→ks≠[]
  | .int _=>True
  | .ref q=>∃ as:List Str,H q=some (.tup (as.map V.str))∧as.length≤4∧ks≠[]
  | _=>False
theorem ThOk.mono {ks:List Str} {H H':Hp} {x:V} (h:ThOk ks H x) (t:Tp H H'):ThOk ks H' x:=by
  cases x with
  | str s=>exact h
  | int i=>exact h
  | ref q=>obtain ⟨as,h1,h2⟩:=h;exact ⟨as,t _ _ h1,h2⟩
  | _=>exact h.elim
def Fil (ks:List Str) (H:Hp) (y x:V):Prop:=match x with
  | .str s=>(s=""→∃ z∈ks,y=.str z)∧(s≠""→y=.str s)
  | .int i=>y=.int i
  | .ref q=>∃ (as bs:List Str) (q':Addr),H q=some (.tup (as.map V.str))∧y=.ref q'∧H q'=some (.tup (bs.map V.str))∧bs.length=as.length∧∀ b∈bs,b∈ks
  | _=>False
theorem Fil.mono {ks:List Str} {H H':Hp} {x y:V} (h:Fil ks H y x) (t:Tp H H'):Fil ks H' y x:=by
  cases x with
  | str s=>exact h
  | int i=>exact h
  | ref q=>obtain ⟨as,bs,q',h1,h2,h3,h4⟩:=h;exact ⟨as,bs,q',t _ _ h1,h2,t _ _ h3,h4⟩
  | _=>exact h.elim
theorem fl_name {K:Fg} {σ:St} {st kl a:Addr} {i k:Nat} {refs:List V} {ks:List Str} {H:Hp} {Q:VK} (h0:σ[0]?=some (some (.ref st))) (h2:σ[2]?=some (some (.ref kl))) (h4:σ[4]?=some (some (.int (i:Nat))))
    (hkl:H kl=some (.lst refs)) (hr:refs[i]?=some (.ref a)) (ha:H a=some (.lst (ks.map V.str))) (ne:ks≠[]) (len:ks.length≤100) (S:Stt K H st k) (hk:k≤900000) (na:a≠st)
    (q:∀ (y:Str) (H':Hp),y∈ks→Stt K H' st (k + 1)→But st H H'→Q (.str y) H') :
    tOp (rIx K) (tOp (rIx K) (tVar 2) (tVar 4)) (tCall (sp_draw K) [] E0 (tCons (tVar 0) (tCons (tCB (rLen K) (tCons (tOp (rIx K) (tVar 2) (tVar 4)) tNil)) tNil))) σ H Q:=by
  have hl:0 < ks.length:=List.length_pos_iff.mpr ne
  have hr':refs[((i:Nat):Int).toNat]?=some (.ref a):=by simpa using hr
  refine ⟨_,h2,_,h4,ixL (SqL.of hkl) (by lia) hr' ⟨_,h0,_,h2,_,h4,ixL (SqL.of hkl) (by lia) hr' ⟨_,_,rfl,.inl ⟨_,SqL.of ha,rfl⟩,st,_,k,rfl,S,by lia,by rw [List.length_map];lia,by rw [List.length_map];lia,fun d H1 d0 d1 S1 B1=>?_⟩⟩⟩
  rw [List.length_map] at d1
  have dl:d.toNat < ks.length:=by lia
  exact ixL (SqL.of (B1 a _ na ha)) d0 (strs_get (List.getElem?_eq_getElem dl)) (q _ H1 (List.getElem_mem dl) S1 B1)
theorem fl_thing {K:Fg} {st rl kl fd p sm a:Addr} {i k:Nat} {refs vs:List V} {ks:List Str} {x:V} {H:Hp} {D:Ends} (hkl:H kl=some (.lst refs)) (hr:refs[i]?=some (.ref a)) (ha:H a=some (.lst (ks.map V.str))) (len:ks.length≤100) (S:Stt K H st k) (hk:k≤800000) (na:a≠st) (nk:kl≠st)
    (hsm:H sm=some (.lst vs)) (vl:vs.length≤100) (ns:sm≠st) (ok:ThOk ks H x)
    (q:∀ (y:V) (k':Nat) (H':Hp),Fil ks H' y x→H' sm=some (.lst (vs++[y]))→Stt K H' st k'→k'≤k + cst x→Bt2 st sm H H'→D.nx [some (.ref st),some (.ref rl),some (.ref kl),some (.ref fd),some (.int (i:Nat)),some (.ref p),some (.ref sm),some y] H') :
    t_filled_4 K D [some (.ref st),some (.ref rl),some (.ref kl),some (.ref fd),some (.int (i:Nat)),some (.ref p),some (.ref sm),some x] H:=by
  have app:∀ (y:V) (k':Nat) (H1:Hp),Fil ks H1 y x→Stt K H1 st k'→k'≤k + cst x→But st H H1→t_filled_3 K D [some (.ref st),some (.ref rl),some (.ref kl),some (.ref fd),some (.int (i:Nat)),some (.ref p),some (.ref sm),some y] H1:=fun y k' H1 f S1 l1 B1=>by
    have h1:=B1 sm _ ns hsm
    refine ⟨_,rfl,.inl ⟨rfl,_,SqL.of h1⟩,_,rfl,sm,_,_,rfl,rfl,h1,smallL (by lia),?_⟩
    exact q y k' _ (f.mono ((Tp.refl H1).lst h1)) upd_same (S1.mono .upd_at h1 (Ne.symm ns)) l1 ((Bt2.of_l B1).trans .upd_r)
  cases x with
  | str s=>
    refine ⟨_,rfl,.inl ⟨rfl,_,rfl,if_dec (fun e=>?_) (fun e=>?_)⟩⟩
    · have e':s="":=by cases e;rfl
      refine fl_name rfl rfl rfl hkl hr ha (ok e') len S (by lia) na fun y H' hy S' B'=>?_
      refine app (.str y) _ H' ⟨fun _=>⟨y,hy,rfl⟩,fun z=>absurd e' z⟩ S' ?_ B'
      show k + 1≤k + (if s="" then 1 else 0)
      rw [if_pos e'];exact Nat.le_refl _
    · refine ⟨_,rfl,_,_,_,rfl,.str_tuple _,_,rfl,iteF ?_⟩
      exact app (.str s) k H ⟨fun z=>absurd (by rw [z]) e,fun _=>rfl⟩ S (by lia) (.refl _ _)
  | int j=>
    refine ⟨_,rfl,.inl ⟨rfl,_,rfl,no (fun z=>by cases z) ?_⟩⟩
    refine ⟨_,rfl,_,_,_,rfl,.int_tuple _,_,rfl,iteF ?_⟩
    exact app (.int j) k H rfl S (by lia) (.refl _ _)
  | ref t=>
    obtain ⟨as,ht,l4,ne⟩:=ok
    obtain ⟨ys0,hst⟩:=S.lst
    have nt:t≠st:=Ne.symm (ne_lst_tup hst ht)
    refine ⟨_,rfl,.inr (.inr (.inl ⟨t,_,_,rfl,rfl,SqT.of ht,_,rfl,iteF ?_⟩))⟩
    refine ⟨_,rfl,_,_,_,rfl,.tup_tuple (SqT.of ht),_,rfl,iteT ?_⟩
    refine .inr ⟨_,rfl,t,rfl,⟨_,SqT.of ht⟩,fun L hL=>?_⟩
    have nL:L≠st:=fun z=>by rw [z,hst] at hL;cases hL
    refine comp_tup (xs:=as.map V.str) (fun j σ' H'=>∃ (bs:List Str) (k':Nat) (o:Option V),σ'=[some (.ref st),some (.ref rl),some (.ref kl),some (.ref fd),some (.int (i:Nat)),some (.ref p),some (.ref sm),some (.ref t),o]∧H' L=some (.lst (bs.map V.str))∧bs.length=j∧(∀ b∈bs,b∈ks)∧Stt K H' st k'∧k'≤k + j∧But st H H') ?_ ?_ ?_ ?_
    · exact ⟨[],k,none,rfl,upd_same,rfl,by simp,S.new hL,by lia,(But.refl st H).new hL⟩
    · rintro j σ' H' _ ⟨_,_,_,_,_,_,_,_,_,B⟩
      exact SqT.of (B t _ nt ht)
    · rintro j x σ' H' hx ⟨bs,k',o,rfl,hb,bl,bm,S',hk',B'⟩
      have jl:j < as.length:=by have:=(List.getElem?_eq_some_iff.mp hx).1;rw [List.length_map] at this;exact this
      refine app_yes (fl_name rfl rfl rfl (B' kl _ nk hkl) hr (B' a _ na ha) ne len S' (by lia) na fun y H2 hy S2 B2=>?_)
      have h2:=B2 L _ nL hb
      refine ⟨_,h2,smallL (by rw [List.length_map];lia),bs++[y],k' + 1,_,rfl,by rw [upd_same,List.map_append];rfl,by simp [bl],fun b hb'=>?_,S2.mono .upd_at h2 (Ne.symm nL),by lia,?_⟩
      · rcases List.mem_append.mp hb' with z | z
        · exact bm b z
        · rw [List.mem_singleton.mp z];exact hy
      · exact fun c u n h=>by rw [upd_ne (ne_of_none h hL)];exact (B'.trans B2) c u n h
    · rintro σ' H2 ⟨bs,k',o,_,hb,bl,bm,S',hk',B'⟩
      rw [List.length_map] at bl hk'
      refine ⟨L,_,rfl,.inl ⟨SqL.of hb,fun l hl=>?_⟩⟩
      have nl:L≠l:=ne_of_none hb hl
      have h2:=B' t _ nt ht
      refine app (.ref l) k' _ ⟨as,bs,l,by rw [upd_ne (ne_of_none h2 hl)];exact h2,rfl,upd_same,bl,bm⟩ (S'.new hl) ?_ (B'.new hl)
      show k'≤k + 4
      lia
  | _=>exact ok.elim
theorem cut_tail (w:V) (rest:List V):cutV (w::rest) (some 1) none=rest:=by
  unfold cutV
  have e1:HT.sIx (w::rest).length 0 (some 1)=1:=by
    rw [show (1:Int)=((1:Nat):Int) from rfl,HT.sIx_nat,List.length_cons];lia
  rw [e1,HT.sIx_none,List.drop_succ_cons,List.drop_zero,List.length_cons]
  exact List.take_of_length_le (by lia)
theorem cut_part (w:V) {rest:List V} (h:rest≠[]):¬ (HT.sIx (w::rest).length 0 (some 1)=0∧HT.sIx (w::rest).length (w::rest).length none=(w::rest).length):=by
  rintro ⟨h1,_⟩
  rw [show (1:Int)=((1:Nat):Int) from rfl,HT.sIx_nat,List.length_cons] at h1
  lia
theorem fl_row {K:Fg} {st rl kl fd p a:Addr} {i k:Nat} {refs fs rest:List V} {w:Str} {ks:List Str} {H:Hp} {D:Ends} {o6 o7:Option V} (hkl:H kl=some (.lst refs)) (hr:refs[i]?=some (.ref a)) (ha:H a=some (.lst (ks.map V.str))) (len:ks.length≤100) (S:Stt K H st k) (hk:k≤750000) (na:a≠st) (nk:kl≠st)
    (hp:H p=some (.tup (.str w::rest))) (rne:rest≠[]) (rl4:rest.length≤4) (ok:∀ x∈rest,ThOk ks H x) (cs5:(rest.map cst).sum≤5) (hfd:H fd=some (.lst fs)) (fl:fs.length≤100) (nf:fd≠st)
    (q:∀ (o6 o7:Option V) (p':Addr) (vs:List V) (k':Nat) (H':Hp),H' fd=some (.lst (fs++[.ref p']))→H' p'=some (.tup (.str w::vs))→AllAt (Fil ks H') vs rest→Stt K H' st k'→k'≤k + 5→Bt2 st fd H H'→D.nx [some (.ref st),some (.ref rl),some (.ref kl),some (.ref fd),some (.int (i:Nat)),some (.ref p),o6,o7] H') :
    t_filled_6 K D [some (.ref st),some (.ref rl),some (.ref kl),some (.ref fd),some (.int (i:Nat)),some (.ref p),o6,o7] H:=by
  obtain ⟨ys0,hst⟩:=S.lst
  refine ⟨(by show 0≤sizeLine;decide),fun sm hsm=>?_⟩
  have nsm:sm≠st:=fun z=>by rw [z,hst] at hsm;cases hsm
  have s1:Same H (upd H sm (.lst [])):=(Same.refl H).new hsm
  have g1:(upd H sm (.lst [])) sm=some (.lst []):=upd_same
  show t_filled_5 K D [some (.ref st),some (.ref rl),some (.ref kl),some (.ref fd),some (.int (i:Nat)),some (.ref p),some (.ref sm),o7] (upd H sm (.lst []))
  generalize upd H sm (.lst [])=H1 at s1 g1 ⊢
  refine .inr ⟨_,rfl,_,rfl,.inr ⟨p,_,rfl,SqT.of (s1 _ _ hp),cut_part _ rne,fun tp htp=>?_⟩⟩
  rw [cut_tail]
  have s2:Same H (upd H1 tp (.tup rest)):=s1.new htp
  have g2:(upd H1 tp (.tup rest)) sm=some (.lst []):=by rw [upd_ne (ne_of_none g1 htp)];exact g1
  have t2:(upd H1 tp (.tup rest)) tp=some (.tup rest):=upd_same
  generalize upd H1 tp (.tup rest)=H2 at s2 g2 t2 ⊢
  have nts:tp≠st:=Ne.symm (ne_lst_tup (s2 _ _ hst) t2)
  have ntm:tp≠sm:=Ne.symm (ne_lst_tup g2 t2)
  have nfm:fd≠sm:=ne_of_none hfd hsm
  have nkm:kl≠sm:=ne_of_none hkl hsm
  have nam:a≠sm:=ne_of_none ha hsm
  have nps:p≠st:=Ne.symm (ne_lst_tup hst hp)
  have npm:p≠sm:=ne_of_none hp hsm
  refine ⟨tp,rfl,⟨_,SqT.of t2⟩,for_tup (xs:=rest) (fun j σ' H'=>∃ (vs:List V) (k':Nat) (o:Option V),σ'=[some (.ref st),some (.ref rl),some (.ref kl),some (.ref fd),some (.int (i:Nat)),some (.ref p),some (.ref sm),o]∧H' sm=some (.lst vs)∧AllAt (Fil ks H') vs (rest.take j)∧Stt K H' st k'∧k'≤k + ((rest.take j).map cst).sum∧Bt2 st sm H2 H') ?_ ?_ ?_ ?_⟩
  · exact ⟨[],k,o7,rfl,g2,.nil,S.same s2,by simp,.refl _ _ _⟩
  · rintro j σ' H' _ ⟨_,_,_,_,_,_,_,_,B⟩
    exact SqT.of (B tp _ nts ntm t2)
  · rintro j x σ' H' hx ⟨vs,k',o,rfl,hvs,hA,S',hk',B'⟩
    have jl:j < rest.length:=(List.getElem?_eq_some_iff.mp hx).1
    have et:rest.take (j + 1)=rest.take j++[x]:=by rw [List.take_add_one,hx];rfl
    have c5:((rest.take j).map cst).sum≤5:=by
      have e:=congrArg (fun l=>(l.map cst).sum) (List.take_append_drop j rest)
      simp only [List.map_append,List.sum_append] at e
      lia
    have vl:vs.length≤4:=by rw [hA.len,List.length_take];lia
    refine fl_thing (B' kl _ nk nkm (s2 _ _ hkl)) hr (B' a _ na nam (s2 _ _ ha)) len S' (by lia) na nk hvs (by lia) nsm (((ok x (List.mem_of_getElem? hx)).mono (.of_same s2)).mono (B'.tp (s2 _ _ hst) g2)) fun y k2 H3 f h3 S3 l3 B3=>?_
    obtain ⟨ys1,hst'⟩:=S'.lst
    refine ⟨vs++[y],k2,_,rfl,h3,?_,S3,?_,B'.trans B3⟩
    · rw [et];exact (hA.imp fun _ _ z=>z.mono (B3.tp hst' hvs)).snoc f
    · rw [et,List.map_append,List.sum_append]
      show k2≤k + (((rest.take j).map cst).sum + (cst x + 0))
      lia
  · rintro σ' H3 ⟨vs,k',o,rfl,hvs,hA,S',hk',B'⟩
    rw [List.take_length] at hA hk'
    have h3p:=B' p _ nps npm (s2 _ _ hp)
    have h3f:=B' fd _ nf nfm (s2 _ _ hfd)
    obtain ⟨ys1,hst'⟩:=S'.lst
    have vl:vs.length=rest.length:=hA.len
    have vne:vs≠[]:=fun z=>rne (List.length_eq_zero_iff.mp (by rw [← vl,z];rfl))
    have BH:But st H H3:=(Bt2.but (s2.but) hsm B')
    refine ⟨_,rfl,.inl ⟨rfl,_,SqL.of h3f⟩,_,rfl,ixT h3p (by decide) rfl ⟨(by show 1≤sizeLine;decide),fun t1 ht1=>⟨_,rfl,sm,_,rfl,.inl ⟨SqL.of (by rw [upd_ne (ne_of_none hvs ht1)];exact hvs),fun t4 ht4=>?_⟩⟩⟩⟩
    have n14:t1≠t4:=ne_of_none upd_same ht4
    refine .inr (.inr (.inr ⟨t1,t4,[.str w],vs,rfl,rfl,SqT.of (by rw [upd_ne n14];exact upd_same),SqT.of upd_same,by simp,?_,fun z=>absurd z vne,fun _ t5 ht5=>?_⟩))
    · have:=smallL (n:=100) (by decide)
      show 1 + vs.length≤sizeLine
      lia
    have s5:Same H3 (upd (upd (upd H3 t1 (.tup [.str w])) t4 (.tup vs)) t5 (.tup (.str w::vs))):=(((Same.refl H3).new ht1).new ht4).new ht5
    have g5:(upd (upd (upd H3 t1 (.tup [.str w])) t4 (.tup vs)) t5 (.tup (.str w::vs))) t5=some (.tup (.str w::vs)):=upd_same
    show rAppend (.ref fd) [.ref t5] (upd (upd (upd H3 t1 (.tup [.str w])) t4 (.tup vs)) t5 (.tup (.str w::vs))) fun x H1=>D.nx [some (.ref st),some (.ref rl),some (.ref kl),some (.ref fd),some (.int (i:Nat)),some (.ref p),some (.ref sm),o] H1
    generalize upd (upd (upd H3 t1 (.tup [.str w])) t4 (.tup vs)) t5 (.tup (.str w::vs))=H5 at s5 g5 ⊢
    have h5f:=s5 _ _ h3f
    refine ⟨fd,_,_,rfl,rfl,h5f,smallL (by lia),?_⟩
    have tp6:Tp H5 (upd H5 fd (.lst (fs++[.ref t5]))):=(Tp.refl H5).lst h5f
    refine q _ _ t5 vs k' _ upd_same (tp6 _ _ g5) ((hA.imp fun _ _ z=>z.mono (.of_same s5)).imp fun _ _ z=>z.mono tp6) ((S'.same s5).mono .upd_at h5f (Ne.symm nf)) (by lia) ?_
    exact fun c u n m h=>by rw [upd_ne m];exact s5 _ _ (BH c u n h)
theorem signs_ne {s:Str} (h:s∈signs):s≠"":=by
  intro e
  subst e
  exact absurd h (by decide +kernel)
theorem map_str_len {as bs:List Str} (h:as.map V.str=bs.map V.str):as.length=bs.length:=by
  have:=congrArg List.length h
  simpa using this
theorem fil_str {ks:List Str} {H:Hp} {y:V} {s:Str} (h:Fil ks H y (.str s)) (n:s≠""):y=.str s:=h.2 n
theorem fil_nil {ks:List Str} {H:Hp} {y:V} (h:Fil ks H y (.str "")):∃ z∈ks,y=.str z:=h.1 rfl
theorem cst_str {s:Str} (n:s≠""):cst (.str s)=0:=by
  show (if s="" then 1 else 0)=0
  rw [if_neg n]
theorem vs2 {vs:List V} (h:vs.length=2):∃ a b,vs=[a,b]:=by
  match vs,h with
  | [a,b],_=>exact ⟨a,b,rfl⟩
theorem vs1 {vs:List V} (h:vs.length=1):∃ a,vs=[a]:=by
  match vs,h with
  | [a],_=>exact ⟨a,rfl⟩
theorem vs3 {vs:List V} (h:vs.length=3):∃ a b c,vs=[a,b,c]:=by
  match vs,h with
  | [a,b,c],_=>exact ⟨a,b,c,rfl⟩
theorem vs4 {vs:List V} (h:vs.length=4):∃ a b c d,vs=[a,b,c,d]:=by
  match vs,h with
  | [a,b,c,d],_=>exact ⟨a,b,c,d,rfl⟩
theorem fil_row {H:Hp} {p:Addr} {r:BRow} {ys ks:List Str} {cs:List Nat} {n:Nat} (hra:RowAt H (.ref p) r) (ro:Rough ys cs n r) (yne:∀ y∈ys,y≠"") (cs4:∀ c∈cs,c≤4) (hks:ks≠[]∨isNum r=true) :
    ∃ rest,H p=some (.tup (.str (word r)::rest))∧rest≠[]∧rest.length≤4∧(∀ x∈rest,ThOk ks H x)∧(rest.map cst).sum≤5∧∀ (H':Hp) (p':Addr) (vs:List V),AllAt (Fil ks H') vs rest→H' p'=some (.tup (.str (word r)::vs))→Tp H H'→∃ r',RowAt H' (.ref p') r'∧FillOf ks r r':=by
  cases r with
  | num x z=>
    obtain ⟨p',e,h⟩:=hra
    cases e
    have xn:=yne x ro.1
    refine ⟨_,h,by simp,by simp,fun v hv=>?_,?_,fun H' p' vs hA hp' t=>?_⟩
    · rcases List.mem_cons.mp hv with rfl | hv
      · exact fun z=>absurd z xn
      · rw [List.mem_singleton.mp hv];exact trivial
    · show cst (.str x) + (0 + 0)≤5
      rw [cst_str xn];decide
    · obtain ⟨a,b,rfl⟩:=vs2 hA.len
      have e1:=fil_str (hA.at_ 0 _ _ rfl rfl) xn
      have e2:b=.int z:=hA.at_ 1 _ _ rfl rfl
      subst e1 e2
      exact ⟨.num x z,⟨p',rfl,hp'⟩,rfl⟩
  | op x s a b=>
    obtain ⟨p',e,h⟩:=hra
    cases e
    obtain ⟨xy,ss,rfl,rfl⟩:=ro
    have xn:=yne x xy
    have sn:=signs_ne ss
    have kn:ks≠[]:=hks.resolve_right (by intro z;cases z)
    refine ⟨_,h,by simp,by simp,fun v hv=>?_,?_,fun H' p' vs hA hp' t=>?_⟩
    · rcases List.mem_cons.mp hv with rfl | hv
      · exact fun z=>absurd z xn
      · rcases List.mem_cons.mp hv with rfl | hv
        · exact fun z=>absurd z sn
        · rcases List.mem_cons.mp hv with rfl | hv
          · exact fun _=>kn
          · rw [List.mem_singleton.mp hv];exact fun _=>kn
    · show cst (.str x) + (cst (.str s) + (cst (.str "") + (cst (.str "") + 0)))≤5
      rw [cst_str xn,cst_str sn];decide +kernel
    · obtain ⟨v1,v2,v3,v4,rfl⟩:=vs4 hA.len
      have e1:=fil_str (hA.at_ 0 _ _ rfl rfl) xn
      have e2:=fil_str (hA.at_ 1 _ _ rfl rfl) sn
      obtain ⟨z3,m3,e3⟩:=fil_nil (hA.at_ 2 _ _ rfl rfl)
      obtain ⟨z4,m4,e4⟩:=fil_nil (hA.at_ 3 _ _ rfl rfl)
      subst e1 e2 e3 e4
      exact ⟨.op x s z3 z4,⟨p',rfl,hp'⟩,z3,z4,rfl,m3,m4⟩
  | call x k as=>
    obtain ⟨p',q,e,h,hq⟩:=hra
    cases e
    obtain ⟨xy,c,hc,rfl⟩:=ro
    have xn:=yne x xy
    have kn:ks≠[]:=hks.resolve_right (by intro z;cases z)
    have c4:=cs4 c (List.mem_of_getElem? hc)
    refine ⟨_,h,by simp,by simp,fun v hv=>?_,?_,fun H' p' vs hA hp' t=>?_⟩
    · rcases List.mem_cons.mp hv with rfl | hv
      · exact fun z=>absurd z xn
      · rcases List.mem_cons.mp hv with rfl | hv
        · exact trivial
        · rw [List.mem_singleton.mp hv];exact ⟨_,hq,by rw [List.length_replicate];exact c4,kn⟩
    · show cst (.str x) + (0 + (4 + 0))≤5
      rw [cst_str xn];decide
    · obtain ⟨v1,v2,v3,rfl⟩:=vs3 hA.len
      have e1:=fil_str (hA.at_ 0 _ _ rfl rfl) xn
      have e2:v2=.int (k:Nat):=hA.at_ 1 _ _ rfl rfl
      obtain ⟨as',bs,q',hq',e3,h3,hl,hm⟩:=(show Fil ks H' v3 (.ref q) from hA.at_ 2 _ _ rfl rfl)
      subst e1 e2 e3
      have:=t _ _ hq
      rw [hq'] at this
      have e:=map_str_len (HO.tup.inj (Option.some.inj this))
      exact ⟨.call x k bs,⟨p',q',rfl,hp',h3⟩,bs,rfl,hl.trans e,hm⟩
  | say a=>
    obtain ⟨p',e,h⟩:=hra
    cases e
    have ro:a="":=ro
    subst ro
    have kn:ks≠[]:=hks.resolve_right (by intro z;cases z)
    refine ⟨_,h,by simp,by simp,fun v hv=>?_,?_,fun H' p' vs hA hp' t=>?_⟩
    · rw [List.mem_singleton.mp hv];exact fun _=>kn
    · show cst (.str "") + 0≤5
      decide +kernel
    · obtain ⟨v1,rfl⟩:=vs1 hA.len
      obtain ⟨z,m,e⟩:=fil_nil (hA.at_ 0 _ _ rfl rfl)
      subst e
      exact ⟨.say z,⟨p',rfl,hp'⟩,z,rfl,m⟩
  | jump to=>
    obtain ⟨p',e,h⟩:=hra
    cases e
    refine ⟨_,h,by simp,by simp,fun v hv=>?_,?_,fun H' p' vs hA hp' t=>?_⟩
    · rw [List.mem_singleton.mp hv];exact trivial
    · show 0 + 0≤5
      decide
    · obtain ⟨v1,rfl⟩:=vs1 hA.len
      have e:v1=.int (to:Nat):=hA.at_ 0 _ _ rfl rfl
      subst e
      exact ⟨.jump to,⟨p',rfl,hp'⟩,rfl⟩
  | test a to=>
    obtain ⟨p',e,h⟩:=hra
    cases e
    obtain ⟨ro,_⟩:a=""∧_:=ro
    subst ro
    have kn:ks≠[]:=hks.resolve_right (by intro z;cases z)
    refine ⟨_,h,by simp,by simp,fun v hv=>?_,?_,fun H' p' vs hA hp' t=>?_⟩
    · rcases List.mem_cons.mp hv with rfl | hv
      · exact fun _=>kn
      · rw [List.mem_singleton.mp hv];exact trivial
    · show cst (.str "") + (0 + 0)≤5
      decide +kernel
    · obtain ⟨v1,v2,rfl⟩:=vs2 hA.len
      obtain ⟨z,m,e⟩:=fil_nil (hA.at_ 0 _ _ rfl rfl)
      have e2:v2=.int (to:Nat):=hA.at_ 1 _ _ rfl rfl
      subst e e2
      exact ⟨.test z to,⟨p',rfl,hp'⟩,z,rfl,m⟩
  | give a=>
    obtain ⟨p',e,h⟩:=hra
    cases e
    have ro:a="":=ro
    subst ro
    have kn:ks≠[]:=hks.resolve_right (by intro z;cases z)
    refine ⟨_,h,by simp,by simp,fun v hv=>?_,?_,fun H' p' vs hA hp' t=>?_⟩
    · rw [List.mem_singleton.mp hv];exact fun _=>kn
    · show cst (.str "") + 0≤5
      decide +kernel
    · obtain ⟨v1,rfl⟩:=vs1 hA.len
      obtain ⟨z,m,e⟩:=fil_nil (hA.at_ 0 _ _ rfl rfl)
      subst e
      exact ⟨.give z,⟨p',rfl,hp'⟩,z,rfl,m⟩
theorem r_filled {K:Fg} {vs:List V} {H:Hp} {Q:VK} {E:XK} (h:sp_filled K vs H Q E):t_filled K { nx:=fun _ H'=>Q .non H',rt:=Q } (start N_filled vs) H:=by
  obtain ⟨st,rl,kl,k,rvs,refs,rs,kss,ys,cs,rfl,S,hk,hrl,hA,hOk,yne,cs4,hkl,hT,klen,k100,kne,rst,nrl,nkl,q⟩:=h
  obtain ⟨ys0,hst⟩:=S.lst
  refine ⟨(by show 0≤sizeLine;decide),fun fd hfd=>?_⟩
  have nf:fd≠st:=fun z=>by rw [z,hst] at hfd;cases hfd
  have s1:Same H (upd H fd (.lst [])):=(Same.refl H).new hfd
  have g1:(upd H fd (.lst [])) fd=some (.lst []):=upd_same
  show t_filled_7 K _ [some (.ref st),some (.ref rl),some (.ref kl),some (.ref fd),none,none,none,none] (upd H fd (.lst []))
  generalize upd H fd (.lst [])=H1 at s1 g1 ⊢
  refine ⟨_,rfl,rl,rfl,⟨_,SqL.of (s1 _ _ hrl)⟩,for_enum (xs:=rvs) (fun i σ' H'=>∃ (fs:List V) (rs':List BRow) (k':Nat) (o4 o5 o6 o7:Option V),σ'=[some (.ref st),some (.ref rl),some (.ref kl),some (.ref fd),o4,o5,o6,o7]∧H' fd=some (.lst fs)∧AllAt (RowAt H') fs rs'∧rs'.length=i∧
    (∀ (j:Nat) ks r r',kss[j]?=some ks→rs[j]?=some r→rs'[j]?=some r'→FillOf ks r r')∧Stt K H' st k'∧k'≤k + 5 * i∧But st H H') ?_ ?_ ?_ ?_⟩
  · exact ⟨[],[],k,none,none,none,none,rfl,g1,.nil,rfl,fun j ks r r' _ _ z=>by simp at z,S.same s1,by lia,s1.but⟩
  · rintro i σ' H' _ ⟨_,_,_,_,_,_,_,_,_,_,_,_,_,_,B⟩
    exact SqL.of (B rl _ nrl hrl)
  · rintro i x σ' H' tp hx htp ⟨fs,rs',k',o4,o5,o6,o7,rfl,hfs,hR,rlen,hF,S',hk',B'⟩
    obtain ⟨r,hr,hra⟩:=hA.of_v hx
    obtain ⟨p,xs,rfl,_⟩:=hra.ref
    have il:i < rs.length:=(List.getElem?_eq_some_iff.mp hr).1
    have few:=hOk.few
    obtain ⟨v,ks,e1,e2,a,rfl,ha⟩:=hT.get (i:=i) (by rw [klen];exact il)
    have na:a≠st:=fun z=>rst (.ref a) (List.mem_of_getElem? e1) (by rw [z])
    have B2:But st H (upd H' tp (.tup [.int (i:Nat),.ref p])):=B'.new htp
    have s2:Same H' (upd H' tp (.tup [.int (i:Nat),.ref p])):=(Same.refl H').new htp
    have g2:(upd H' tp (.tup [.int (i:Nat),.ref p])) tp=some (.tup [.int (i:Nat),.ref p]):=upd_same
    generalize upd H' tp (.tup [.int (i:Nat),.ref p])=H2 at B2 s2 g2 ⊢
    refine ⟨tp,_,rfl,SqT.of g2,rfl,_,_,rfl,_,_,rfl,rfl,?_⟩
    show t_filled_6 K _ [some (.ref st),some (.ref rl),some (.ref kl),some (.ref fd),some (.int (i:Nat)),some (.ref p),o6,o7] H2
    have T2:Tp H H2:=.of_but B2 hst
    obtain ⟨rest,h1,h2,h3,h4,h5,h6⟩:=fil_row (ks:=ks) (hra.mono T2) (hOk.rough r (List.mem_of_getElem? hr)) yne cs4 (kne i ks r e2 hr)
    have f2:=s2 _ _ hfs
    have S2:=S'.same s2
    obtain ⟨ys2,hst2⟩:=S2.lst
    refine fl_row (B2 kl _ nkl hkl) e1 (B2 a _ na ha) (k100 i ks e2) S2 (by lia) na nkl h1 h2 h3 h4 h5 f2 (by rw [hR.len,rlen];lia) nf fun p6 p7 p' vs k3 H3 f3 g3 hA3 S3 l3 B3=>?_
    have T3:Tp H2 H3:=B3.tp hst2 f2
    obtain ⟨r',hr',hf'⟩:=h6 H3 p' vs hA3 g3 T3
    refine ⟨fs++[.ref p'],rs'++[r'],k3,_,_,_,_,rfl,f3,((hR.imp fun _ _ z=>(z.mono (.of_same s2)).mono T3)).snoc hr',by simp [rlen],fun j ks' r1 r2 a1 a2 a3=>?_,S3,by lia,?_⟩
    · by_cases c:j < rs'.length
      · rw [List.getElem?_append_left c] at a3
        exact hF j ks' r1 r2 a1 a2 a3
      · have c2:j=i:=by
          have:=(List.getElem?_eq_some_iff.mp a3).1
          rw [List.length_append,List.length_singleton] at this
          lia
        subst c2
        rw [List.getElem?_append_right (by lia),rlen,Nat.sub_self] at a3
        cases a3
        rw [e2] at a1;cases a1
        rw [hr] at a2;cases a2
        exact hf'
    · exact fun c u n h=>by
        have hc:=B2 c u n h
        exact B3 c u n (ne_of_none h hfd) hc
  · rintro σ' H' ⟨fs,rs',k',o4,o5,o6,o7,rfl,hfs,hR,rlen,hF,S',hk',B'⟩
    rw [hA.len] at rlen hk'
    refine ⟨_,rfl,fd,_,rfl,.inl ⟨SqL.of hfs,fun l hl=>?_⟩⟩
    exact q l fs rs' k' _ upd_same (hR.imp fun _ _ z=>z.mono ((Tp.refl H').new hl)) rlen hF (S'.new hl) hk' (B'.new hl)
theorem txts_ne {K:Fg} {H:Hp} {st:Addr} {k:Nat} {v:V} {ks:List Str} (S:Stt K H st k) (h:TxtsAt H v ks):v≠.ref st:=by
  rintro rfl
  obtain ⟨a,e,h⟩:=h
  cases e
  obtain ⟨scr,ns,c,hs,_⟩:=S
  rw [h] at hs
  cases ks with
  | nil=>cases hs
  | cons y r=>cases hs
theorem fill_leads {ks:List Str} {r r':BRow} (h:FillOf ks r r') (n:Nat):leadsL n r'=leadsL n r:=by
  cases r with
  | num x z=>have h:r'=.num x z:=h;subst h;rfl
  | op x s a b=>obtain ⟨_,_,rfl,_⟩:=h;rfl
  | call x k as=>obtain ⟨_,rfl,_⟩:=h;rfl
  | say a=>obtain ⟨_,rfl,_⟩:=h;rfl
  | jump t=>have h:r'=.jump t:=h;subst h;rfl
  | test a t=>obtain ⟨_,rfl,_⟩:=h;rfl
  | give a=>obtain ⟨_,rfl,_⟩:=h;rfl
theorem fill_sets {ks:List Str} {r r':BRow} (h:FillOf ks r r'):setsOf r'=setsOf r:=by
  cases r with
  | num x z=>have h:r'=.num x z:=h;subst h;rfl
  | op x s a b=>obtain ⟨_,_,rfl,_⟩:=h;rfl
  | call x k as=>obtain ⟨_,rfl,_⟩:=h;rfl
  | say a=>obtain ⟨_,rfl,_⟩:=h;rfl
  | jump t=>have h:r'=.jump t:=h;subst h;rfl
  | test a t=>obtain ⟨_,rfl,_⟩:=h;rfl
  | give a=>obtain ⟨_,rfl,_⟩:=h;rfl
theorem fill_end {ks:List Str} {r r':BRow} (h:FillOf ks r r'):isEnd r'=isEnd r:=by
  cases r with
  | num x z=>have h:r'=.num x z:=h;subst h;rfl
  | op x s a b=>obtain ⟨_,_,rfl,_⟩:=h;rfl
  | call x k as=>obtain ⟨_,rfl,_⟩:=h;rfl
  | say a=>obtain ⟨_,rfl,_⟩:=h;rfl
  | jump t=>have h:r'=.jump t:=h;subst h;rfl
  | test a t=>obtain ⟨_,rfl,_⟩:=h;rfl
  | give a=>obtain ⟨_,rfl,_⟩:=h;rfl
theorem fill_jump {ks:List Str} {r r':BRow} (h:FillOf ks r r'):isJump r'=isJump r:=by
  cases r with
  | num x z=>have h:r'=.num x z:=h;subst h;rfl
  | op x s a b=>obtain ⟨_,_,rfl,_⟩:=h;rfl
  | call x k as=>obtain ⟨_,rfl,_⟩:=h;rfl
  | say a=>obtain ⟨_,rfl,_⟩:=h;rfl
  | jump t=>have h:r'=.jump t:=h;subst h;rfl
  | test a t=>obtain ⟨_,rfl,_⟩:=h;rfl
  | give a=>obtain ⟨_,rfl,_⟩:=h;rfl
theorem fill_reads {ks:List Str} {r r':BRow} (h:FillOf ks r r'):∀ y∈readsOf r',y∈ks:=by
  cases r with
  | num x z=>have h:r'=.num x z:=h;subst h;intro y hy;cases hy
  | op x s a b=>
    obtain ⟨c,d,rfl,h1,h2⟩:=h
    intro y hy
    rcases List.mem_cons.mp hy with rfl | hy
    · exact h1
    · rw [List.mem_singleton.mp hy];exact h2
  | call x k as=>obtain ⟨_,rfl,_,h⟩:=h;exact h
  | say a=>obtain ⟨_,rfl,h⟩:=h;intro y hy;rw [List.mem_singleton.mp hy];exact h
  | jump t=>have h:r'=.jump t:=h;subst h;intro y hy;cases hy
  | test a t=>obtain ⟨_,rfl,h⟩:=h;intro y hy;rw [List.mem_singleton.mp hy];exact h
  | give a=>obtain ⟨_,rfl,h⟩:=h;intro y hy;rw [List.mem_singleton.mp hy];exact h
theorem fill_ok {ys ks:List Str} {cs:List Nat} {n:Nat} {r r':BRow} (ro:Rough ys cs n r) (hk:∀ y∈ks,y∈ys) (h:FillOf ks r r'):RowOk ys cs n r':=by
  cases r with
  | num x z=>have h:r'=.num x z:=h;subst h;exact ro
  | op x s a b=>obtain ⟨c,d,rfl,h1,h2⟩:=h;exact ⟨ro.1,ro.2.1,hk _ h1,hk _ h2⟩
  | call x k as=>
    obtain ⟨bs,rfl,hl,h⟩:=h
    obtain ⟨r1,c,r2,r3⟩:=ro
    refine ⟨r1,?_,fun a ha=>hk _ (h a ha)⟩
    rw [hl,r3,List.length_replicate];exact r2
  | say a=>obtain ⟨_,rfl,h⟩:=h;exact hk _ h
  | jump t=>have h:r'=.jump t:=h;subst h;exact ro
  | test a t=>obtain ⟨_,rfl,h⟩:=h;exact ⟨hk _ h,ro.2⟩
  | give a=>obtain ⟨_,rfl,h⟩:=h;exact hk _ h
structure Alike (rs rs':List BRow):Prop where
  len:rs'.length=rs.length
  fill:∀ (i:Nat) r r',rs[i]?=some r→rs'[i]?=some r'→∃ ks,FillOf ks r r'
theorem Alike.get {rs rs':List BRow} (h:Alike rs rs') {i:Nat} {r':BRow} (e:rs'[i]?=some r'):∃ r ks,rs[i]?=some r∧FillOf ks r r':=by
  have hi:i < rs.length:=by rw [← h.len];exact (List.getElem?_eq_some_iff.mp e).1
  obtain ⟨ks,f⟩:=h.fill i _ _ (List.getElem?_eq_getElem hi) e
  exact ⟨_,ks,List.getElem?_eq_getElem hi,f⟩
theorem Alike.stp {rs rs':List BRow} (h:Alike rs rs') (n:Nat):stp rs' n=stp rs n:=by
  unfold Bg.stp
  cases e:rs'[n]? with
  | none=>
    have:rs[n]?=none:=by rw [List.getElem?_eq_none_iff] at e ⊢;rw [← h.len];exact e
    rw [this]
  | some r'=>
    obtain ⟨r,ks,e1,f⟩:=h.get e
    rw [e1]
    cases r with
    | num x z=>have f:r'=.num x z:=f;subst f;rfl
    | op x s a b=>obtain ⟨_,_,rfl,_⟩:=f;rfl
    | call x k as=>obtain ⟨_,rfl,_⟩:=f;rfl
    | say a=>obtain ⟨_,rfl,_⟩:=f;rfl
    | jump t=>have f:r'=.jump t:=f;subst f;rfl
    | test a t=>obtain ⟨_,rfl,_⟩:=f;rfl
    | give a=>obtain ⟨_,rfl,_⟩:=f;rfl
theorem Alike.runJ {rs rs':List BRow} (h:Alike rs rs'):∀ (k n:Nat),runJ rs' k n=runJ rs k n
  | 0,_=>rfl
  | k + 1,n=>by
    show Bg.runJ rs' k (Bg.stp rs' n)=Bg.runJ rs k (Bg.stp rs n)
    rw [h.stp];exact Alike.runJ h k _
theorem Alike.ring {rs rs':List BRow} (h:Alike rs rs') (q:NoRing rs):NoRing rs':=by
  intro n hn r' e
  rw [h.len] at hn
  rw [h.len,h.runJ] at e
  obtain ⟨r,ks,e1,f⟩:=h.get e
  rw [fill_jump f];exact q n hn r e1
theorem r_part {K:Fg} {vs:List V} {H:Hp} {Q:VK} {E:XK} (h:sp_part K vs H Q E):t_part K { nx:=fun _ H'=>Q .non H',rt:=Q } (start N_part vs) H:=by
  obtain ⟨st,nm,pr,cn,wd,m,k,ys,ps,cs,rfl,S,hk,hnm,ysne,ysl,yne,hpr,psl,pnd,pin,hcn,csne,csl,cs4,m1,m50,nnm,npr,ncn,q⟩:=h
  refine ⟨_,rfl,_,_,rfl,.inl ⟨_,SqL.of hpr,rfl⟩,.inl ⟨rfl,.inr ⟨_,rfl,.inl ⟨_,_,rfl,rfl,_,rfl,_,rfl,st,_,k,rfl,S,by lia,by lia,by lia,fun d H1 d0 d1 S1 B1=>.inl ⟨_,_,rfl,rfl,_,_,rfl,?_⟩⟩⟩⟩⟩
  rw [List.length_map]
  obtain ⟨n,hn,n1,n51,nm1,n2⟩:∃ n:Nat,(if 1 + d > 1 + (if decide (V.int ((ps.length:Nat):Int)=V.int 0)=true then 1 else 0) then 1 + d else 1 + (if decide (V.int ((ps.length:Nat):Int)=V.int 0)=true then 1 else 0))=(n:Int)∧1≤n∧n≤52∧n≤m + 1∧(ps=[]→2≤n):=by
    by_cases c:ps=[]
    · have e:decide (V.int ((ps.length:Nat):Int)=V.int 0)=true:=by rw [c];rfl
      rw [e,if_pos rfl]
      by_cases c2:1 + d > 1 + 1
      · rw [if_pos c2];exact ⟨(1 + d).toNat,by lia,by lia,by lia,by lia,fun _=>by lia⟩
      · rw [if_neg c2];exact ⟨2,rfl,by lia,by lia,by lia,fun _=>by lia⟩
    · have e:decide (V.int ((ps.length:Nat):Int)=V.int 0)=false:=decide_eq_false fun z=>c (List.length_eq_zero_iff.mp (by injection z with z;lia))
      rw [e,if_neg Bool.false_ne_true]
      by_cases c2:1 + d > 1 + 0
      · rw [if_pos c2];exact ⟨(1 + d).toNat,by lia,by lia,by lia,by lia,fun z=>absurd z c⟩
      · rw [if_neg c2];exact ⟨1,rfl,by lia,by lia,by lia,fun z=>absurd z c⟩
  rw [hn]
  show t_part_4 K _ [some (.ref st),some (.str wd),some (.ref nm),some (.ref pr),some (.ref cn),some (.int (m:Nat)),some (.int (n:Nat)),none,none] H1
  refine ⟨_,rfl,_,rfl,by lia,by lia,fun L hL=>?_⟩
  obtain ⟨ys1,hs1⟩:=S1.lst
  have nL:L≠st:=fun z=>by rw [z,hs1] at hL;cases hL
  have HL:H L=none:=B1.free nL hL
  refine comp_range (fun i σ' H'=>∃ (rvs:List V) (rs:List BRow) (k':Nat) (o:Option V),σ'=[some (.ref st),some (.str wd),some (.ref nm),some (.ref pr),some (.ref cn),some (.int (m:Nat)),some (.int (n:Nat)),none,none,o]∧
    H' L=some (.lst rvs)∧AllAt (RowAt H') rvs rs∧rs.length=i∧(∀ r∈rs,Rough ys cs n r)∧Stt K H' st k'∧k'≤k + 1 + 8 * i∧But st H H') ?_ ?_ ?_
  · exact ⟨[],[],k + 1,none,rfl,upd_same,.nil,rfl,by simp,S1.new hL,by lia,B1.new hL⟩
  · rintro i σ' H' hi ⟨rvs,rs,k',o,rfl,hrl,hA,rlen,ro,S',hk',B'⟩
    have hi:i < n:=by simpa using hi
    refine app_yes ⟨_,rfl,_,rfl,_,rfl,_,rfl,st,nm,cn,n,k',ys,cs,rfl,S',by lia,B' nm _ nnm hnm,ysne,ysl,n1,by lia,B' cn _ ncn hcn,csne,csl,cs4,nnm,ncn,fun v r k2 H2 hv hr S2 l2 B2=>?_⟩
    have h2:=B2 L _ nL hrl
    have t2:Tp H' H2:=by obtain ⟨_,e⟩:=S'.lst;exact .of_but B2 e
    have t3:Tp H2 (upd H2 L (.lst (rvs++[v]))):=(Tp.refl H2).lst h2
    refine ⟨_,h2,smallL (by rw [hA.len];lia),rvs++[v],rs++[r],k2,_,rfl,upd_same,(hA.imp fun _ _ z=>(z.mono t2).mono t3).snoc (hv.mono t3),by simp [rlen],fun r' hr'=>?_,S2.mono .upd_at h2 (Ne.symm nL),by lia,?_⟩
    · rcases List.mem_append.mp hr' with z | z
      · exact ro r' z
      · rw [List.mem_singleton.mp z];exact hr
    · exact But.past (B'.trans B2) HL .upd_at
  · rintro σ' H2 ⟨rvs,rs,k2,o,_,hrl,hA,rlen,ro,S2,hk2,B2⟩
    have rlen:rs.length=n:=by simpa using rlen
    have hk2:k2≤k + 1 + 8 * n:=by simpa using hk2
    have nnL:nm≠L:=ne_of_none hnm HL
    have npL:pr≠L:=ne_of_none hpr HL
    have Ok:RowsOk ys cs rs:=⟨fun z=>by rw [z] at rlen;simp at rlen;lia,by lia,by rw [rlen];exact ro⟩
    show t_part_3 K _ [some (.ref st),some (.str wd),some (.ref nm),some (.ref pr),some (.ref cn),some (.int (m:Nat)),some (.int (n:Nat)),some (.ref L),none] H2
    have hpr2:=B2 pr _ npr hpr
    have ebare:decide (V.int (((ps.map V.str).length:Nat):Int)=V.int 0)=true→ps=[]:=fun z=>by
      have z':=of_decide_eq_true z
      rw [List.length_map] at z'
      injection z' with z'
      exact List.length_eq_zero_iff.mp (by lia)
    have ebare':ps=[]→decide (V.int (((ps.map V.str).length:Nat):Int)=V.int 0)=true:=fun z=>by rw [z];rfl
    refine ⟨_,rfl,_,rfl,_,rfl,_,_,rfl,.inl ⟨_,SqL.of hpr2,rfl⟩,.inl ⟨rfl,L,nm,_,rvs,rs,ys,Rough ys cs n,rfl,hrl,hA,Ok.pos,Ok.few,ro,rfl,rfl,fun t ht=>by rw [rlen];exact ht,B2 nm _ nnm hnm,ysne,fun y hy _=>⟨hy,by decide,by decide⟩,nnL,fun z=>by rw [rlen];exact n2 (ebare z),fun rvs' rs' H3 h3 hA3 len3 hR3 hE3 hN3 hJ3 B3=>?_⟩⟩
    have n3:rs'.length=n:=len3.trans rlen
    have Ok3:RowsOk ys cs rs':=⟨fun z=>by rw [z] at n3;simp at n3;lia,by lia,by rw [n3];exact hR3⟩
    have S3:Stt K H3 st k2:=S2.mono B3 hrl (Ne.symm nL)
    have BH3:But st H H3:=But.past B2 HL B3
    show t_part_2 K _ [some (.ref st),some (.str wd),some (.ref nm),some (.ref pr),some (.ref cn),some (.int (m:Nat)),some (.int (n:Nat)),some (.ref L),none] H3
    refine ⟨_,rfl,_,rfl,_,rfl,L,nm,pr,rvs',rs',ys,ps,cs,rfl,h3,hA3,Ok3,hE3,BH3 nm _ nnm hnm,ysl,BH3 pr _ npr hpr,psl,pin,fun z=>hN3 (ebare' z),fun kl refs kss H4 hkl h4 hT lk hK hKn s4=>?_⟩
    have S4:=S3.same s4
    have BH4:But st H H4:=BH3.trans s4.but
    have nkl:kl≠st:=fun z=>by obtain ⟨_,e⟩:=S3.lst;rw [z,e] at hkl;cases hkl
    show t_part_1 K _ [some (.ref st),some (.str wd),some (.ref nm),some (.ref pr),some (.ref cn),some (.int (m:Nat)),some (.int (n:Nat)),some (.ref L),some (.ref kl)] H4
    refine ⟨_,rfl,_,rfl,pr,_,rfl,.inl ⟨SqL.of (BH4 pr _ npr hpr),fun t ht=>?_⟩⟩
    have s5:Same H4 (upd H4 t (.tup (ps.map V.str))):=(Same.refl H4).new ht
    have g5:(upd H4 t (.tup (ps.map V.str))) t=some (.tup (ps.map V.str)):=upd_same
    generalize upd H4 t (.tup (ps.map V.str))=H5 at s5 g5 ⊢
    have S5:=S4.same s5
    have hT5:AllAt (TxtsAt H5) refs kss:=hT.imp fun _ _ ⟨a,e,h⟩=>⟨a,e,s5 _ _ h⟩
    refine ⟨_,rfl,_,rfl,_,rfl,st,L,kl,k2,rvs',refs,rs',kss,ys,cs,rfl,S5,by lia,s5 _ _ (s4 _ _ h3),(hA3.imp fun _ _ z=>(z.mono (.of_same s4)).mono (.of_same s5)),Ok3,yne,cs4,s5 _ _ h4,hT5,lk,fun i ks e=>(hK i ks e).1,fun i ks r e1 e2=>?_,fun a ha=>?_,nL,nkl,fun p rvs6 rs6 k6 H6 h6 hA6 len6 hF S6 l6 B6=>?_⟩
    · rcases (hK i ks e1).2.2 with z | ⟨z1,z2⟩
      · exact .inl z
      · subst z1
        have:=hN3 (ebare' z2)
        rw [List.head?_eq_getElem?,e2] at this
        exact .inr (Option.some.inj this)
    · obtain ⟨i,hi,e⟩:=List.mem_iff_getElem.mp ha
      obtain ⟨ks,_,z⟩:=hT5.of_v (i:=i) (v:=a) (by rw [List.getElem?_eq_getElem hi,e])
      exact txts_ne S5 z
    refine ⟨(by show 3≤sizeLine;decide),fun f hf=>?_⟩
    obtain ⟨_,e5⟩:=S5.lst
    have t6:Tp H5 H6:=.of_but B6 e5
    have t7:Tp H6 (upd H6 f (.tup [.str wd,.ref t,.ref p])):=(Tp.refl H6).new hf
    have ksAt:∀ (i:Nat) r,rs'[i]?=some r→∃ ks,kss[i]?=some ks:=fun i r e=>⟨_,List.getElem?_eq_getElem (by rw [lk];exact (List.getElem?_eq_some_iff.mp e).1)⟩
    have al:Alike rs' rs6:=⟨len6,fun i r r' e1 e2=>by
      obtain ⟨ks,ek⟩:=ksAt i r e1
      exact ⟨ks,hF i ks r r' ek e1 e2⟩⟩
    have both:∀ (i:Nat) r',rs6[i]?=some r'→∃ r ks,rs'[i]?=some r∧kss[i]?=some ks∧FillOf ks r r':=fun i r' e=>by
      obtain ⟨r,_,e1,_⟩:=al.get e
      obtain ⟨ks,ek⟩:=ksAt i r e1
      exact ⟨r,ks,e1,ek,hF i ks r r' ek e1 e⟩
    have ok:PartOk ys cs ⟨wd,ps,rs6⟩:=by
      refine ⟨pnd,pin,fun z=>?_,?_,fun r' hr'=>?_,?_,al.ring hJ3,kss,?_,⟨hKn.zero,fun i m r' ks km e hm ek em y hy=>?_⟩,fun i r' ks e ek=>?_⟩
      · have z':rs6=[]:=z
        rw [z',n3] at len6;simp at len6;lia
      · show rs6.length≤60
        lia
      · show RowOk ys cs rs6.length r'
        obtain ⟨i,hi,e⟩:=List.mem_iff_getElem.mp hr'
        obtain ⟨r,ks,e1,e2,f⟩:=both i r' (by rw [← e];exact List.getElem?_eq_getElem hi)
        rw [len6,n3]
        exact fill_ok (hR3 r (List.mem_of_getElem? e1)) (hK i ks e2).2.1 f
      · show rs6.getLast?.map isEnd=some true
        have hl:rs6.length - 1 < rs6.length:=by lia
        obtain ⟨r,ks,e1,e2,f⟩:=both (rs6.length - 1) _ (List.getElem?_eq_getElem hl)
        rw [List.getLast?_eq_getElem?,List.getElem?_eq_getElem hl,Option.map_some,fill_end f]
        rw [List.getLast?_eq_getElem?,← len6,e1,Option.map_some] at hE3
        exact hE3
      · show kss.length=rs6.length
        rw [lk,len6]
      · obtain ⟨r,ks',e1,e2,f⟩:=both i r' e
        rw [fill_leads f] at hm
        rw [fill_sets f]
        exact hKn.on i m r ks km e1 hm ek em y hy
      · obtain ⟨r,ks',e1,e2,f⟩:=both i r' e
        rw [ek] at e2;cases e2
        exact fill_reads f
    refine q _ ⟨wd,ps,rs6⟩ k6 _ ⟨f,t,p,rvs6,rfl,upd_same,t7 _ _ (t6 _ _ g5),t7 _ _ h6,hA6.imp fun _ _ z=>z.mono t7⟩ rfl rfl ok (by show rs6.length≤m + 1;lia) (S6.new hf) (by lia) ?_
    exact ((BH4.trans s5.but).trans B6).new hf
inductive Way (rs:List BRow) (un:Option Str):Nat→Prop where
  | zero:Way rs un 0
  | step {n m:Nat} {r:BRow}:Way rs un n→rs[n]?=some r→(∀ y,un=some y→setsOf r≠.str y)→m∈leadsL n r→Way rs un m
structure RowsGood (rs:List BRow):Prop where
  pos:0 < rs.length
  few:rs.length < 64
  inr:∀ (n m:Nat) r,rs[n]?=some r→m∈leadsL n r→m < rs.length
  ring:NoRing rs
theorem Way.lt {rs:List BRow} {un:Option Str} (g:RowsGood rs) {m:Nat} (h:Way rs un m):m < rs.length:=by
  cases h with
  | zero=>exact g.pos
  | step _ e _ hm=>exact g.inr _ _ _ e hm
theorem leads_in {rs:List BRow} (hg:∀ r∈rs,∀ t:Nat,goalOf r=.int (t:Nat)→t < rs.length) (hE:rs.getLast?.map isEnd=some true):∀ (n m:Nat) r,rs[n]?=some r→m∈leadsL n r→m < rs.length:=by
  intro i m r hr mem
  have hi:i < rs.length:=(List.getElem?_eq_some_iff.mp hr).1
  have nx:isEnd r=false→i + 1 < rs.length:=fun he=>by
    by_cases c:i + 1 < rs.length
    · exact c
    · have ei:i=rs.length - 1:=by lia
      rw [List.getLast?_eq_getElem?,← ei,hr,Option.map_some,he] at hE
      cases hE
  have hm:=hg r (List.mem_of_getElem? hr)
  cases r with
  | jump to=>rw [List.mem_singleton.mp mem];exact hm to rfl
  | test a to=>
    rcases List.mem_cons.mp mem with e | e
    · rw [e];exact nx rfl
    · rw [List.mem_singleton.mp e];exact hm to rfl
  | give a=>cases mem
  | num x z=>rw [List.mem_singleton.mp mem];exact nx rfl
  | op x s a b=>rw [List.mem_singleton.mp mem];exact nx rfl
  | call x k as=>rw [List.mem_singleton.mp mem];exact nx rfl
  | say a=>rw [List.mem_singleton.mp mem];exact nx rfl
theorem PartOk.good {ys:List Str} {cs:List Nat} {b:BPart} (h:PartOk ys cs b):RowsGood b.rows:=by
  have:=h.few
  refine ⟨List.length_pos_iff.mpr h.pos,by lia,leads_in (fun r hr t e=>?_) h.last,h.ring⟩
  have ro:=h.rows r hr
  cases r with
  | jump to=>
    injection e with e
    have:to=t:=by lia
    subst this;exact ro
  | test a to=>
    injection e with e
    have:to=t:=by lia
    subst this;exact ro.2
  | _=>cases e
theorem runJ_add (rs:List BRow):∀ (j k n:Nat),runJ rs (j + k) n=runJ rs j (runJ rs k n)
  | j,0,n=>rfl
  | j,k + 1,n=>by
    show runJ rs (j + k) (stp rs n)=runJ rs j (runJ rs k (stp rs n))
    exact runJ_add rs j k (stp rs n)
theorem stp_lt {rs:List BRow} (g:RowsGood rs) {n:Nat} (h:n < rs.length):stp rs n < rs.length:=by
  unfold stp
  rw [List.getElem?_eq_getElem h]
  cases e:rs[n] with
  | jump t=>exact g.inr n t (.jump t) (by rw [List.getElem?_eq_getElem h,e]) (List.mem_singleton.mpr rfl)
  | _=>exact h
theorem runJ_lt {rs:List BRow} (g:RowsGood rs):∀ (k:Nat) {n:Nat},n < rs.length→runJ rs k n < rs.length
  | 0,_,h=>h
  | k + 1,_,h=>runJ_lt g k (stp_lt g h)
theorem runJ_end {rs:List BRow} {k n:Nat} (hk:k≤rs.length) (h:∀ r,rs[runJ rs k n]?=some r→isJump r=false):runJ rs rs.length n=runJ rs k n:=by
  have e:rs.length=(rs.length - k) + k:=by lia
  rw [e,runJ_add]
  exact runJ_stop h _
theorem nodup_lt:∀ {n:Nat} {l:List Nat},l.Nodup→(∀ x∈l,x < n)→l.length≤n
  | 0,l,_,h=>by
    cases l with
    | nil=>exact Nat.le_refl _
    | cons a r=>exact absurd (h a List.mem_cons_self) (Nat.not_lt_zero _)
  | n + 1,l,nd,h=>by
    by_cases c:n∈l
    · have h1:=nodup_lt (n:=n) (l:=l.erase n) (nd.erase n) fun x hx=>by
        have:=(nd.mem_erase_iff).mp hx
        have:=h x this.2
        lia
      rw [List.length_erase_of_mem c] at h1
      lia
    · have h1:=nodup_lt (n:=n) nd fun x hx=>by
        have:=h x hx
        have:x≠n:=fun z=>c (z ▸ hx)
        lia
      lia
theorem lt_of_le_nodup:∀ {l:List Nat},l.Pairwise (·≤·)→l.Nodup→l.Pairwise (· < ·)
  | [],_,_=>.nil
  | a::r,h,nd=>by
    rw [List.pairwise_cons] at h ⊢
    rw [List.nodup_cons] at nd
    refine ⟨fun x hx=>?_,lt_of_le_nodup h.2 nd.2⟩
    have:=h.1 x hx
    have:a≠x:=fun z=>nd.1 (z ▸ hx)
    lia
theorem perm_nats {ms:List Int} {ns:List Nat} (p:ms.Perm (ns.map fun n=>((n:Nat):Int))) (s:ms.Pairwise (·≤·)) (nd:ns.Nodup):∃ ks:List Nat,ms=ks.map (fun n=>((n:Nat):Int))∧(∀ x,x∈ks↔x∈ns)∧ks.Pairwise (· < ·):=by
  have hm:ms.map (fun i=>((i.toNat:Nat):Int))=ms:=by
    have:∀ i∈ms,((i.toNat:Nat):Int)=i:=fun i hi=>by
      obtain ⟨n,_,e⟩:=List.mem_map.mp (p.mem_iff.mp hi)
      lia
    exact (List.map_congr_left this).trans (List.map_id _)
  have pk:(ms.map Int.toNat).Perm ns:=by
    have:=p.map Int.toNat
    rw [List.map_map] at this
    have e:ns.map (Int.toNat ∘ fun n=>((n:Nat):Int))=ns:=by
      have:∀ n∈ns,(Int.toNat ∘ fun n=>((n:Nat):Int)) n=n:=fun n _=>by simp
      exact (List.map_congr_left this).trans (List.map_id _)
    rw [e] at this
    exact this
  refine ⟨ms.map Int.toNat,?_,fun x=>pk.mem_iff,lt_of_le_nodup ?_ (pk.nodup_iff.mpr nd)⟩
  · rw [List.map_map];exact hm.symm
  · rw [List.pairwise_map]
    exact s.imp fun {a b} h=>by lia
def uOf:Option Str→V
  | none=>.non
  | some y=>.str y
def sp_p_stands (_:Fg):Sp:=fun vs H Q _=>∃ (rt:Addr) (n:Nat) (rvs:List V) (rs:List BRow),vs=[.ref rt,.int (n:Nat)]∧H rt=some (.tup rvs)∧AllAt (RowAt H) rvs rs∧RowsGood rs∧n < rs.length∧Q (.int (runJ rs rs.length n:Nat)) H
def sp_p_walked (_:Fg):Sp:=fun vs H Q _=>∃ (rt:Addr) (un:Option Str) (rvs:List V) (rs:List BRow),vs=[.ref rt,uOf un]∧H rt=some (.tup rvs)∧AllAt (RowAt H) rvs rs∧RowsGood rs∧
  ∀ (l:Addr) (ns:List Nat) (H':Hp),(∀ m,m∈ns↔Way rs un m)→ns.Pairwise (· < ·)→H' l=some (.lst (intsV ns))→H l=none→Same H H'→Q (.ref l) H'
def Stood (rs:List BRow) (m:Nat):Prop:=Way rs none m∧∀ r,rs[m]?=some r→isJump r=false
def spStood:Sp:=fun vs H Q _=>∃ (rt:Addr) (rvs:List V) (rs:List BRow),vs=[.ref rt]∧H rt=some (.tup rvs)∧AllAt (RowAt H) rvs rs∧RowsGood rs∧
  ∀ (l:Addr) (ns:List Nat) (H':Hp),(∀ m,m∈ns↔Stood rs m)→ns.Pairwise (· < ·)→H' l=some (.lst (intsV ns))→H l=none→Same H H'→Q (.ref l) H'
abbrev sp_p_come_to (_:Fg):Sp:=spStood
abbrev k_p_stands:Nat:=1
abbrev K_p_stands:Nat:=2
abbrev k_p_walked:Nat:=2
abbrev K_p_walked:Nat:=3
abbrev k_p_come_to:Nat:=3
abbrev K_p_come_to:Nat:=4
end Bg
end
section
namespace L2
open PySem PySem.Spec PyProof.Rows
structure QE (X:Cx) (e:Expr) (t:TE):Prop where
  up:PE X e t
structure QT (X:Cx) (e:Expr) (t:TT):Prop where
  up:PT X e t
structure QW (X:Cx) (e:Expr) (t:TT):Prop where
  up:PW X e t
structure QA (X:Cx) (e:List Expr) (t:TA):Prop where
  up:PA X e t
structure QS (X:Cx) (e:Stmt) (t:TS):Prop where
  up:PS X e t
structure QSs (X:Cx) (e:List Stmt) (t:TS):Prop where
  up:PSs X e t
structure QG (X:Cx) (e:Expr) (t:TG):Prop where
  up:PG X e t
structure QGs (X:Cx) (e:List Expr) (t:TGs):Prop where
  up:PGs X e t
structure QI (X:Cx) (a b:Expr) (t:TI):Prop where
  up:PI X a b t
structure QO (X:Cx) (e:Option Expr) (t:TO):Prop where
  up:PO X e t
structure QIfs (X:Cx) (e:List Expr) (t:TT):Prop where
  up:PIfs X e t
theorem qv (i:Nat) {x:Str} {pos:Pos} (hN:X.N[i]?=some x:=by rfl) (hv:Vis X.env.scope x:=by first | exact Or.inl rfl | exact Or.inr (Or.inl rfl) | exact Or.inr (Or.inr rfl)) (hd:(x == ("__debug__":Str))=false:=by decide) (hcd:(x == ("__classdict__":Str))=false:=by decide):QE X (.Name x pos) (tVar i):=
  ⟨pv i hN hv hd hcd⟩
theorem qe_int {i j pos}:QE X (.Constant (.int i) j pos) (tC (.int i)):=
  ⟨pe_int ⟩
theorem qe_bl {b j pos}:QE X (.Constant (.bool b) j pos) (tC (.bl b)):=
  ⟨pe_bl ⟩
theorem qe_non {j pos}:QE X (.Constant .none j pos) (tC .non):=
  ⟨pe_non ⟩
theorem qe_str {x j pos}:QE X (.Constant (.str x) j pos) (tC (.str x)):=
  ⟨pe_str ⟩
theorem qe_op {op:Operator} {r:R2} (ho:OpR X (binaryOp op) r) (ha:QE X a ta) (hb:QE X b tb):QE X (.BinOp a op b pos) (tOp r ta tb):=
  ⟨pe_op ho ha.up hb.up⟩
theorem qe_un {op:UnaryOp} {r:V→Hp→VK→Prop} (ho:UnR X (unaryOp op) r) (ha:QE X a ta):QE X (.UnaryOp op a pos) (tUn r ta):=
  ⟨pe_un ho ha.up⟩
theorem qe_cmpR {op:CmpOp} {r:R2} (ho:OpR X (compareOp op) r) (ha:QE X a ta) (hb:QE X b tb) (hm:behindInMarks op b=false):QE X (.Compare a [op] [b] pos) (tOp r ta tb):=
  ⟨pe_cmpR ho ha.up hb.up hm⟩
theorem qe_slice {lo hi:Option Expr} {r:V→Option Int→Option Int→Hp→VK→Prop} (hr:SlR X r) (he:QE X e te) (hl:QO X lo tl) (hu:QO X hi th):QE X (.Subscript e (.Slice lo hi none p2) pos) (tSl r te tl th):=
  ⟨pe_slice hr he.up hl.up hu.up⟩
theorem qe_ix {r:R2} (hr:IxR X r) (ha:QE X a ta) (hb:QE X b tb) (hs:PlainIx b):QE X (.Subscript a b pos) (tOp r ta tb):=
  ⟨pe_ix hr ha.up hb.up hs⟩
theorem qe_tup {x1} (h:QA X es t):QE X (.Tuple es x1 pos) (tTup t):=
  ⟨pe_tup h.up⟩
theorem qe_lst (h:QA X es t):QE X (.List es pos) (tLst t):=
  ⟨pe_lst h.up⟩
theorem qe_bm {id:String} (pa:PlainAttrs T) (slot:Slot T name id) (hty:typeOf (.builtin id)=pure (.type "method_descriptor")) (hm:MtR X id r) (ho:QE X o to) (ha:QA X (e::es) t) (hbase:attributeBase o name X.env (eval o X.env)=eval o X.env:=by rfl) (hfew:((backTo cpos (starEach (e::es) X.env)).all (fun x=>!x.1) && (backToKw cpos (keywordEach [] X.env)).all (fun x=>x.1.isSome)
      && decide ((e::es).length + ([]:List Keyword).length + (if ([]:List Keyword).isEmpty then 0 else 1) < 30))=true:=by rfl) (hline:(apos.endLine == cpos.line)=true:=by rfl) (hs:starEach (e::es) X.env=(false,eval e X.env)::starEach es X.env:=by rfl) (hplain:(backTo cpos (starEach es X.env)).any (·.1)=false:=by rfl):QE X (.Call (.Attribute o name apos) (e::es) [] cpos) (tBM X.K T r to t):=
  ⟨pe_bm pa slot hty hm ho.up ha.up hbase hfew hline hs hplain⟩
theorem qe_bm0 {id:String} (pa:PlainAttrs T) (slot:Slot T name id) (hty:typeOf (.builtin id)=pure (.type "method_descriptor")) (hm:MtR X id r) (ho:QE X o to) (hbase:attributeBase o name X.env (eval o X.env)=eval o X.env:=by rfl) (hline:(apos.endLine == cpos.line)=true:=by rfl):QE X (.Call (.Attribute o name apos) [] [] cpos) (tBM0 X.K T r to):=
  ⟨pe_bm0 pa slot hty hm ho.up hbase hline⟩
theorem qe_callB {id:String} (hc:CallR X (.builtin id) r) (hg:Gl X x) (hm:X.mg x=none) (hv:bootBuiltins x=some (.builtin id)) (ha:QA X (e::es) t) (hn:x≠"__name__":=by decide) (hdb:(x == ("__debug__":Str))=false:=by decide) (he:starEach (e::es) X.env=(false,eval e X.env)::starEach es X.env:=by rfl) (hpl:(backTo pos (starEach es X.env)).any (·.1)=false:=by rfl):QE X (.Call (.Name x p) (e::es) [] pos) (tCB r t):=
  ⟨pe_callB hc hg hm hv ha.up hn hdb he hpl⟩
theorem qe_callTy (hc:CallR X (.type T) r) (hg:Gl X x) (hm:X.mg x=none) (hv:bootBuiltins x=some (.type T)) (ha:QA X (e::es) t) (hn:x≠"__name__":=by decide) (hdb:(x == ("__debug__":Str))=false:=by decide) (he:starEach (e::es) X.env=(false,eval e X.env)::starEach es X.env:=by rfl) (hpl:(backTo pos (starEach es X.env)).any (·.1)=false:=by rfl):QE X (.Call (.Name x p) (e::es) [] pos) (tCB r t):=
  ⟨pe_callTy hc hg hm hv ha.up hn hdb he hpl⟩
theorem qe_fn {X:Cx} {x:Str} {ps:List Str} {k:Nat} {sp:Sp} {e:Expr} {es:List Expr} {t:TA} {p pos:Pos} (c:Callee X.prog X.w X.K X.mg X.base x ps k sp) (hr:Room k X.A) (hg:Gl X x) (ha:QA X (e::es) t) (hdb:(x == ("__debug__":Str))=false:=by decide) (he:starEach (e::es) X.env=(false,eval e X.env)::starEach es X.env:=by rfl) (hpl:(backTo pos (starEach es X.env)).any (·.1)=false:=by rfl):QE X (.Call (.Name x p) (e::es) [] pos) (tCall sp [] E0 t):=
  ⟨pe_fn c hr hg ha.up hdb he hpl⟩
theorem qe_comp {wi:TI} (ok:CompOk sc N scope NY js) (hsc:X.env.scope=sc) (hN:X.N=N) (hk:NY.length=N.length + k) (hc:X.calm=true) (hit:QI X target iter wi) (hg:∀ cl C s₀ H₀ fp,QG (cxComp X NY scope cl C s₀ H₀ fp) target g) (hi:∀ cl C s₀ H₀ fp,QIfs (cxComp X NY scope cl C s₀ H₀ fp) ifs tc) (he:∀ cl C s₀ H₀ fp,QE (cxComp X NY scope cl C s₀ H₀ fp) elt te) (hs:∀ x,foldedSetIterable iter X.env x=pure x:=by intro _;rfl):QE X (.ListComp elt [⟨target,iter,ifs,0⟩] scope pos) (tComp js k wi g tc te):=
  ⟨pe_comp ok hsc hN hk hc hit.up (fun cl C s₀ H₀ fp=>(hg cl C s₀ H₀ fp).up) (fun cl C s₀ H₀ fp=>(hi cl C s₀ H₀ fp).up) (fun cl C s₀ H₀ fp=>(he cl C s₀ H₀ fp).up) hs⟩
theorem qs_comp {wi:TI} {i:Nat} {y:Str} {py spos:Pos} (ok:CompOk sc N scope NY js) (hsc:X.env.scope=sc) (hN:X.N=N) (hk:NY.length=N.length + k) (hc:X.calm=true) (hit:QI X target iter wi) (hg:∀ cl C s₀ H₀ fp,QG (cxComp X NY scope cl C s₀ H₀ fp) target g) (hi:∀ cl C s₀ H₀ fp,QIfs (cxComp X NY scope cl C s₀ H₀ fp) ifs tc) (he:∀ cl C s₀ H₀ fp,QE (cxComp X NY scope cl C s₀ H₀ fp) elt te) (nd:X.N.Nodup) (hy:X.N[i]?=some y) (hl:Loc X.env.scope y) (hsw:swapsWith (.ListComp elt [⟨target,iter,ifs,0⟩] scope pos) (some (.Name y py)) spos.line X.env=pure true) (hs:∀ x,foldedSetIterable iter X.env x=pure x:=by intro _;rfl) (hf:X.fn y=true∨X.env.scope.names.lookup y=some .local:=by first | exact .inl rfl | exact .inr rfl | assumption):QS X (.Assign [.Name y py] (.ListComp elt [⟨target,iter,ifs,0⟩] scope pos) spos) (tAsg (tComp js k wi g tc te) (gName i)):=
  ⟨ps_comp ok hsc hN hk hc hit.up (fun cl C s₀ H₀ fp=>(hg cl C s₀ H₀ fp).up) (fun cl C s₀ H₀ fp=>(hi cl C s₀ H₀ fp).up) (fun cl C s₀ H₀ fp=>(he cl C s₀ H₀ fp).up) nd hy hl hsw hs hf⟩
theorem qo_none :QO X none tNoPart:=
  ⟨po_none ⟩
theorem qo_some (h:QE X e te):QO X (some e) (tPart te):=
  ⟨po_some h.up⟩
theorem qa_nil :QA X [] tNil:=
  ⟨pa_nil ⟩
theorem qa_cons (ha:QE X e te) (hr:QA X es t) (hs:starEach (e::es) X.env=(false,eval e X.env)::starEach es X.env:=by rfl):QA X (e::es) (tCons te t):=
  ⟨pa_cons ha.up hr.up hs⟩
theorem qt_cmpR {op:CmpOp} {r:R2} (ho:OpR X (compareOp op) r) (ha:QE X a ta) (hb:QE X b tb) (hm:behindInMarks op b=false):QT X (.Compare a [op] [b] pos) (tTest (tOp r ta tb)):=
  ⟨pt_cmpR ho ha.up hb.up hm⟩
theorem qw_and {rest:List Expr} (ha:QT X a tA) (hb:QW X (.BoolOp .And (b::rest) pos) tB'):QW X (.BoolOp .And (a::b::rest) pos) (tAnd tA tB'):=
  ⟨pw_and ha.up hb.up⟩
theorem qw_and1 (ha:QT X a tA):QW X (.BoolOp .And [a] pos) tA:=
  ⟨pw_and1 ha.up⟩
theorem qw_or {rest:List Expr} (ha:QT X a tA) (hb:QW X (.BoolOp .Or (b::rest) pos) tB'):QW X (.BoolOp .Or (a::b::rest) pos) (tOr tA tB'):=
  ⟨pw_or ha.up hb.up⟩
theorem qw_or1 (ha:QT X a tA):QW X (.BoolOp .Or [a] pos) tA:=
  ⟨pw_or1 ha.up⟩
theorem QW.pt {X:Cx} {e:Expr} {t:TT} (h:QW X e t):QT X e t:=
  ⟨PW.pt h.up⟩
theorem qt_val {e:Expr} {t:TE} (h:QE X e t) (he:∀ whole,isTrue e X.env whole=(do let v ← whole;standAt e.pos;holding [v] (truthy v)):=by intro _;rfl):QT X e (tB t):=
  ⟨pt_val h.up he⟩
theorem qi_range1 {a:Expr} {ta:TA} {p pos:Pos} (hg:Gl X "range") (hm:X.mg "range"=none) (ha:QA X [a] ta) (hs:starEach [a] X.env=[(false,eval a X.env)]:=by rfl):QI X tg (.Call (.Name "range" p) [a] [] pos) (iRng1 ta):=
  ⟨pi_range1 hg hm ha.up hs⟩
theorem qi_enum {a:Expr} {ta:TA} {p pos:Pos} (hg:Gl X "enumerate") (hm:X.mg "enumerate"=none) (ha:QA X [a] ta) (hs:starEach [a] X.env=[(false,eval a X.env)]:=by rfl):QI X (.Tuple elts k tpos) (.Call (.Name "enumerate" p) [a] [] pos) (iEnum X.K ta):=
  ⟨pi_enum hg hm ha.up hs⟩
theorem qi_zip {a b:Expr} {ta:TA} {p pos:Pos} (hg:Gl X "zip") (hm:X.mg "zip"=none) (ha:QA X [a,b] ta) (hs:starEach [a,b] X.env=[(false,eval a X.env),(false,eval b X.env)]:=by rfl) (hs2:starEach [b] X.env=[(false,eval b X.env)]:=by rfl):QI X (.Tuple elts k tpos) (.Call (.Name "zip" p) [a,b] [] pos) (iZip X.K ta):=
  ⟨pi_zip hg hm ha.up hs hs2⟩
theorem qi_seq {tg l:Expr} {tl:TE} (hl:QE X l tl):QI X tg l (iSeq X.K tl):=
  ⟨pi_seq hl.up⟩
theorem qg_name {i:Nat} {x:Str} (hN:X.N.Nodup) (hi:X.N[i]?=some x) (hx:Loc X.env.scope x) (hf:X.fn x=true∨X.env.scope.names.lookup x=some .local:=by first | exact .inl rfl | exact .inr rfl | assumption):QG X (.Name x pos) (gName i):=
  ⟨pg_name hN hi hx hf⟩
theorem qg_tup {es:List Expr} {k:Nat} {t:TGs} {n:Nat} (hc:X.calm=true) (h:QGs X es t) (hn:(assignEach es X.env).length=n:=by rfl) (hst:(assignEach es X.env).findIdx? (·.1)=none:=by rfl):QG X (.Tuple es k pos) (gTup X.K n t):=
  ⟨pg_tup hc h.up hn hst⟩
theorem qg_tupL {es:List Expr} {k:Nat} {t:TGs} {n:Nat} (hc:X.calm=true) (h:QGs X es t) (hn:(assignEach es X.env).length=n:=by rfl) (hst:(assignEach es X.env).findIdx? (·.1)=none:=by rfl):QG X (.Tuple es k pos) (gTupL X.K n t):=
  ⟨pg_tupL hc h.up hn hst⟩
theorem qgs_nil :QGs X [] gNil:=
  ⟨pgs_nil ⟩
theorem qgs_cons {e:Expr} {es:List Expr} {t:TG} {u:TGs} (h1:QG X e t) (h2:QGs X es u) (hs:(assignEach (e::es) X.env).map (·.2)=assign e X.env::(assignEach es X.env).map (·.2):=by rfl):QGs X (e::es) (gCons t u):=
  ⟨pgs_cons h1.up h2.up hs⟩
theorem qg_sub {o i:Expr} {to ti:TE} {t:TSet} (ho:QE X o to) (hi:QE X i ti) (hs:PSet X t) (ha:∀ v,assign (.Subscript o i pos) X.env v=(do
      let ov ← holding [v] (eval o X.env)
      let iv ← holding [v,ov] (eval i X.env)
      standAt pos
      holding [v,ov,iv] (setItem ov iv v)
      release [v,ov,iv] []):=by intro _;rfl):QG X (.Subscript o i pos) (gSub to ti t):=
  ⟨pg_sub ho.up hi.up hs ha⟩
theorem qs_set {i:Nat} {x:Str} {e:Expr} {te:TE} {pos':Pos} (hN:X.N.Nodup) (hi:X.N[i]?=some x) (hx:Loc X.env.scope x) (he:QE X e te) (hs:swapsWith e (some (.Name x pos')) pos.line X.env=pure false:=by rfl) (hf:X.fn x=true∨X.env.scope.names.lookup x=some .local:=by first | exact .inl rfl | exact .inr rfl | assumption):QS X (.Assign [.Name x pos'] e pos) (tAsg te (gName i)):=
  ⟨ps_set hN hi hx he.up hs hf⟩
theorem qs_asg {tg e:Expr} {te:TE} {g:TG} (he:QE X e te) (hg:QG X tg g) (hs:swapsWithSole [tg] e pos.line X.env=pure false:=by rfl) (hw:swappedStores [tg] e X.env=pure none:=by rfl) (h1:(assignEach [tg] X.env).map (·.2)=[assign tg X.env]:=by rfl):QS X (.Assign [tg] e pos) (tAsg te g):=
  ⟨ps_asg he.up hg.up hs hw h1⟩
theorem qs_expr (he:QE X e te) (hs:swapsWith e none pos.line X.env=pure false:=by rfl):QS X (.Expr e pos) (tDrop te):=
  ⟨ps_expr he.up hs⟩
theorem qs_ret (he:QE X e te):QS X (.Return (some e) pos) (tRet te):=
  ⟨ps_ret he.up⟩
theorem qs_if {c:Expr} {a b:List Stmt} {tc:TT} (hc:QT X c tc) (ha:QSs X a t) (hb:QSs X b u):QS X (.If c a b pos) (tIfS tc t u):=
  ⟨ps_if hc.up ha.up hb.up⟩
theorem qs_while {c:Expr} {body:List Stmt} {tc:TT} {tb:TS} (hp:PassesOwn (model X.prog X.w) X.A X.env X.xe) (hc:QT X c tc) (hb:QSs X body tb):QS X (.While c body [] pos) (tWhile tc tb):=
  ⟨ps_while hp hc.up hb.up⟩
theorem qs_for {iter:Expr} {body:List Stmt} {wi:TI} {g:TG} {tb:TS} {pos:Pos} (hp:PassesOwn (model X.prog X.w) X.A X.env X.xe) (hc:X.calm=true) (hi:QI X tg iter wi) (hg:QG X tg g) (hb:QSs X body tb) (hs:∀ x,foldedSetIterable iter X.env x=pure x:=by intro _;rfl):QS X (.For tg iter body [] pos) (tFor wi g tb):=
  ⟨ps_for hp hc hi.up hg.up hb.up hs⟩
theorem qss_cons {st:Stmt} {rest:List Stmt} (h1:QS X st t) (h2:QSs X rest u):QSs X (st::rest) (tSeq t u):=
  ⟨pss_cons h1.up h2.up⟩
theorem qss_one {st:Stmt} (h1:QS X st t):QSs X [st] t:=
  ⟨pss_one h1.up⟩
theorem qss_nil :QSs X [] tNext:=
  ⟨pss_nil ⟩
theorem qe_bltn {x:Str} {v:V} {u:Value} {pos:Pos} (hg:Gl X x) (hm:X.mg x=none) (hv:bootBuiltins x=some u) (r:RelV v u) (hn:x≠"__name__":=by decide) (hd:(x == ("__debug__":Str))=false:=by decide):QE X (.Name x pos) (tC v):=
  ⟨pe_bltn hg hm hv r hn hd⟩
theorem qif_nil {X:Cx}:QIfs X [] tYes:=
  ⟨pif_nil ⟩
theorem qif_one {X:Cx} {c:Expr} {t:TT} (h:QT X c t):QIfs X [c] t:=
  ⟨pif_one h.up⟩
section
variable {κ:Type} [DecidableEq κ]
def valV (kvs:List (κ × V)) (k:κ):Option V:=(kvs.find? fun kv=>decide (kv.1=k)).map (·.2)
def putK (kvs:List (κ × V)) (k:κ) (v:V):List (κ × V):=
  if (kvs.any fun kv=>decide (kv.1=k))=true then kvs.map (fun kv=>if kv.1=k then (kv.1,v) else kv) else kvs++[(k,v)]
theorem valV_nil {k:κ}:valV ([]:List (κ × V)) k=none:=rfl
theorem valV_pos {p:κ × V} {r:List (κ × V)} {k:κ} (e:p.1=k):valV (p::r) k=some p.2:=by simp [valV,List.find?_cons,e]
theorem valV_neg {p:κ × V} {r:List (κ × V)} {k:κ} (e:¬ p.1=k):valV (p::r) k=valV r k:=by simp [valV,List.find?_cons,e]
theorem valV_any (k:κ):∀ kvs:List (κ × V),(kvs.any fun kv=>decide (kv.1=k))=(valV kvs k).isSome
  | []=>rfl
  | p::r=>by
    rw [List.any_cons]
    by_cases e:p.1=k
    · simp only [valV_pos e,decide_eq_true e,Bool.true_or,Option.isSome_some]
    · rw [valV_neg e,decide_eq_false e,Bool.false_or];exact valV_any k r
theorem valV_map (k j:κ) (y:V):∀ kvs:List (κ × V),valV (kvs.map fun kv=>if kv.1=k then (kv.1,y) else kv) j=(valV kvs j).map fun x=>if j=k then y else x
  | []=>rfl
  | p::r=>by
    have ih:=valV_map k j y r
    rw [List.map_cons]
    by_cases h:p.1=k
    · rw [if_pos h]
      by_cases e:p.1=j
      · rw [valV_pos (p:=(p.1,y)) e,valV_pos e,Option.map_some,if_pos (e.symm.trans h)]
      · rw [valV_neg (p:=(p.1,y)) e,valV_neg e,ih]
    · rw [if_neg h]
      by_cases e:p.1=j
      · rw [valV_pos (p:=p) e,valV_pos e,Option.map_some,if_neg (fun z=>h (e.trans z))]
      · rw [valV_neg (p:=p) e,valV_neg e,ih]
theorem valV_snoc (k j:κ) (y:V):∀ kvs:List (κ × V),valV kvs k=none→valV (kvs++[(k,y)]) j=if j=k then some y else valV kvs j
  | [],_=>by
    by_cases e:k=j
    · rw [if_pos e.symm];exact valV_pos (p:=(k,y)) e
    · rw [if_neg (fun z=>e z.symm)];exact valV_neg (p:=(k,y)) e
  | p::r,hn=>by
    rw [List.cons_append]
    have hk:¬ p.1=k:=fun z=>by rw [valV_pos z] at hn;cases hn
    rw [valV_neg hk] at hn
    have ih:=valV_snoc k j y r hn
    by_cases e:p.1=j
    · rw [valV_pos e,valV_pos e,if_neg (fun z=>hk (e.trans z))]
    · rw [valV_neg e,valV_neg e,ih]
theorem valV_put (kvs:List (κ × V)) (k j:κ) (y:V):valV (putK kvs k y) j=if j=k then some y else valV kvs j:=by
  unfold putK
  by_cases a:(kvs.any fun kv=>decide (kv.1=k))=true
  · rw [if_pos a,valV_map]
    rw [valV_any] at a
    by_cases e:j=k
    · obtain ⟨x,hx⟩:=Option.isSome_iff_exists.mp a
      rw [if_pos e,e,hx,Option.map_some,if_pos rfl]
    · rw [if_neg e]
      cases valV kvs j with
      | none=>rfl
      | some x=>rw [Option.map_some,if_neg e]
  · rw [if_neg a]
    refine valV_snoc k j y kvs ?_
    rw [valV_any] at a
    cases q:valV kvs k with
    | none=>rfl
    | some x=>rw [q] at a;exact (a rfl).elim
theorem length_putK (kvs:List (κ × V)) (k:κ) (v:V):(putK kvs k v).length≤kvs.length + 1:=by
  unfold putK
  split
  · rw [List.length_map];lia
  · rw [List.length_append,List.length_cons,List.length_nil];lia
theorem putK_new {kvs:List (κ × V)} {k:κ} (v:V) (h:valV kvs k=none):putK kvs k v=kvs++[(k,v)]:=by
  unfold putK
  rw [valV_any,h]
  exact if_neg (by decide)
theorem RelO.isSome_eq {o:Option V} {u:Option Value} (r:RelO o u):o.isSome=u.isSome:=by
  cases o with
  | none=>cases u with
    | none=>rfl
    | some _=>exact (show False from r).elim
  | some _=>cases u with
    | none=>exact (show False from r).elim
    | some _=>rfl
theorem KV.val {kvs:List (κ × V)} {vs:List (κ × Value)} (r:KV kvs vs) (k:κ):RelO (valV kvs k) (valueAt vs k):=by
  unfold KV at r
  induction r with
  | nil=>exact True.intro
  | @cons p q ps qs h t ih=>
    obtain ⟨h1,h2⟩:=h
    by_cases e:p.1=k
    · have e':q.1=k:=h1.symm.trans e
      have b:valueAt (q::qs) k=some q.2:=by simp [valueAt,List.find?_cons,e']
      rw [valV_pos e,b];exact h2
    · have e':¬ q.1=k:=fun z=>e (h1.trans z)
      have b:valueAt (q::qs) k=valueAt qs k:=by simp [valueAt,List.find?_cons,e']
      rw [valV_neg e,b];exact ih
theorem KV.any {kvs:List (κ × V)} {vs:List (κ × Value)} (r:KV kvs vs) (k:κ):(kvs.any fun kv=>decide (kv.1=k))=vs.any fun kv=>decide (kv.1=k):=by
  unfold KV at r
  induction r with
  | nil=>rfl
  | cons h t ih=>rw [List.any_cons,List.any_cons,ih,h.1]
theorem KV.repl {kvs:List (κ × V)} {vs:List (κ × Value)} (r:KV kvs vs) (k:κ) {y:V} {u:Value} (ry:RelV y u) :
    KV (kvs.map fun kv=>if kv.1=k then (kv.1,y) else kv) (vs.map fun kv=>if kv.1=k then (kv.1,u) else kv):=by
  unfold KV at r ⊢
  induction r with
  | nil=>exact .nil
  | @cons p q ps qs h t ih=>
    rw [List.map_cons,List.map_cons]
    refine .cons ?_ ih
    obtain ⟨h1,h2⟩:=h
    by_cases e:p.1=k
    · rw [if_pos e,if_pos (h1.symm.trans e)];exact ⟨h1,ry⟩
    · rw [if_neg e,if_neg (fun z=>e (h1.trans z))];exact ⟨h1,h2⟩
theorem KV.put {kvs:List (κ × V)} {vs:List (κ × Value)} (r:KV kvs vs) (k:κ) {y:V} {u:Value} (ry:RelV y u):KV (putK kvs k y) (stored vs k u):=by
  unfold putK stored
  rw [r.any k]
  by_cases e:(vs.any fun kv=>decide (kv.1=k))=true
  · rw [if_pos e,if_pos e];exact r.repl k ry
  · rw [if_neg e,if_neg e];exact Paired.snoc r ⟨rfl,ry⟩
theorem KV.keys {kvs:List (κ × V)} {vs:List (κ × Value)} (r:KV kvs vs):kvs.map (·.1)=vs.map (·.1):=by
  unfold KV at r
  induction r with
  | nil=>rfl
  | cons h t ih=>rw [List.map_cons,List.map_cons,ih,h.1]
theorem KV.length {kvs:List (κ × V)} {vs:List (κ × Value)} (r:KV kvs vs):kvs.length=vs.length:=Paired.length r
end
theorem kV_is {P:Program} {w:World} {k:Key} {u:Value} (r:RelV (kV k) u):(mixKind P w).is k u=true:=by
  cases k with
  | inl i=>obtain ⟨t,e⟩:=(show ∃ t,u=Value.int i t from r);subst e;exact mixKind_int P w i t
  | inr x=>obtain ⟨t,e⟩:=(show ∃ t,u=Value.str x t from r);subst e;exact mixKind_str P w x t
theorem items_are {P:Program} {w:World}:∀ {ks:List Key} {us:List Value},Vals (ks.map kV) us→ItemsAre (mixKind P w) ks us
  | [],_,r=>by rw [List.map_nil] at r;cases r;exact .nil
  | k::ks,_,r=>by
    rw [List.map_cons] at r
    cases r with
    | cons h t=>exact .cons (kV_is h) (items_are t)
abbrev KT (H:Hp):List (List Key × V)→List (List Key × Addr × Value)→Prop:=Paired fun p q=>p.1=q.1∧H q.2.1=some (.tup (p.1.map kV))∧RelV p.2 q.2.2
theorem KT.val {H:Hp} {kvs:List (List Key × V)} {xs:List (List Key × Addr × Value)} (r:KT H kvs xs) (k:List Key):RelO (valV kvs k) ((atKey xs k).map (·.2)):=by
  induction r with
  | nil=>exact True.intro
  | @cons p q ps qs h t ih=>
    obtain ⟨h1,_,h2⟩:=h
    by_cases e:p.1=k
    · have e':q.1=k:=h1.symm.trans e
      have b:atKey (q::qs) k=some q.2:=by simp [atKey,List.find?_cons,e']
      rw [valV_pos e,b];exact h2
    · have e':¬ q.1=k:=fun z=>e (h1.trans z)
      have b:atKey (q::qs) k=atKey qs k:=by simp [atKey,List.find?_cons,e']
      rw [valV_neg e,b];exact ih
theorem KT.repl {H:Hp} {kvs:List (List Key × V)} {xs:List (List Key × Addr × Value)} (r:KT H kvs xs) (k:List Key) {y:V} {u:Value} (ry:RelV y u) :
    KT H (kvs.map fun kv=>if kv.1=k then (kv.1,y) else kv) (xs.map (putAt k u)):=by
  induction r with
  | nil=>exact .nil
  | @cons p q ps qs h t ih=>
    rw [List.map_cons,List.map_cons]
    refine .cons ?_ ih
    obtain ⟨h1,h2,h3⟩:=h
    unfold putAt
    by_cases e:p.1=k
    · rw [if_pos e,if_pos (h1.symm.trans e)];exact ⟨h1,h2,ry⟩
    · rw [if_neg e,if_neg (fun z=>e (h1.trans z))];exact ⟨h1,h2,h3⟩
theorem KT.put {H:Hp} {kvs:List (List Key × V)} {xs:List (List Key × Addr × Value)} (r:KT H kvs xs) (k:List Key) {b:Addr} {y:V} {u:Value} (hb:H b=some (.tup (k.map kV))) (ry:RelV y u) :
    KT H (putK kvs k y) (storedH xs k b u):=by
  have e:(kvs.any fun kv=>decide (kv.1=k))=(atKey xs k).isSome:=by
    rw [valV_any,(r.val k).isSome_eq,Option.isSome_map]
  unfold putK storedH
  rw [e]
  by_cases q:(atKey xs k).isSome=true
  · rw [if_pos q,if_pos q];exact r.repl k ry
  · rw [if_neg q,if_neg q];exact Paired.snoc r ⟨rfl,hb,ry⟩
theorem KT.keeps {H H':Hp} {kvs:List (List Key × V)} {xs:List (List Key × Addr × Value)} (r:KT H kvs xs) (ht:∀ b ys,H b=some (.tup ys)→H' b=some (.tup ys)):KT H' kvs xs:=
  Paired.mapP r fun _ _ z=>⟨z.1,ht _ _ z.2.1,z.2.2⟩
section
variable {P:Program} {w:World} {H:Hp} {h:Heap} {a:Addr}
theorem rd_of {u:HO} (ok:HOk P w H h) (e:Rd H a u):ObjOk P w H h a u:=e.ok ok
theorem dk_rd {kvs:List (Key × V)} (ok:HOk P w H h) (e:Rd H a (.dK kvs)):kvs.length≤sizeLine∧(a == sysModules)=false∧∃ vs,KV kvs vs∧h.DictOf (mixKind P w) a vs:=
  show ObjOk P w H h a (.dK kvs) from rd_of ok e
theorem dk_of {kvs:List (Key × V)} (ok:HOk P w H h) (e:H a=some (.dK kvs)):kvs.length≤sizeLine∧(a == sysModules)=false∧∃ vs,KV kvs vs∧h.DictOf (mixKind P w) a vs:=dk_rd ok (.inl e)
theorem key_of {ks:List Key} (ok:HOk P w H h) (e:H a=some (.tup (ks.map kV))):(tupleKind (mixKind P w)).is h ks a:=by
  obtain ⟨_,its,r,o,h1,h2,n,h3⟩:=(show ObjOk P w H h a (.tup (ks.map kV)) from ok a _ e)
  exact ⟨o,its.toArray,n,h1,h2.1,h3,by simpa using items_are r⟩
theorem dt_rd {kvs:List (List Key × V)} (ok:HOk P w H h) (e:Rd H a (.dT kvs)):kvs.length≤sizeLine∧(a == sysModules)=false∧
    ∃ xs,KT H kvs xs∧h.DictOfH (tupleKind (mixKind P w)) a xs:=by
  obtain ⟨z,y,xs,r,o,es,ep,h1,h2,h3,h4,h5⟩:=(show ObjOk P w H h a (.dT kvs) from rd_of ok e)
  refine ⟨z,y,xs,r,o,es,ep,h1,h2,h3,h4,fun x hx=>?_,h5⟩
  have all:∀ {l:List (List Key × V)} {m:List (List Key × Addr × Value)},KT H l m→∀ x∈m,(tupleKind (mixKind P w)).is h x.1 x.2.1:=by
    intro l m q
    induction q with
    | nil=>intro x hx;exact nomatch hx
    | @cons p q ps qs hq t ih=>
      intro x hx
      rcases List.mem_cons.mp hx with e | hx
      · subst e
        exact key_of ok (by rw [← hq.1];exact hq.2.1)
      · exact ih x hx
  exact all r x hx
theorem dt_of {kvs:List (List Key × V)} (ok:HOk P w H h) (e:H a=some (.dT kvs)):kvs.length≤sizeLine∧(a == sysModules)=false∧
    ∃ xs,KT H kvs xs∧h.DictOfH (tupleKind (mixKind P w)) a xs:=dt_rd ok (.inl e)
end
def DGet (H:Hp) (a:Addr) (y:V) (r:Option V):Prop:=
  (∃ kvs k,Rd H a (.dK kvs)∧y=kV k∧r=valV kvs k)∨∃ kvs k b,Rd H a (.dT kvs)∧y=.ref b∧H b=some (.tup (k.map kV))∧r=valV kvs k
def DPut (H:Hp) (a:Addr) (y v:V) (H':Hp):Prop:=
  (∃ kvs k,H a=some (.dK kvs)∧y=kV k∧kvs.length < sizeLine∧H'=upd H a (.dK (putK kvs k v)))∨
  ∃ kvs k b,H a=some (.dT kvs)∧y=.ref b∧H b=some (.tup (k.map kV))∧kvs.length < sizeLine∧H'=upd H a (.dT (putK kvs k v))
theorem DGet.k {H:Hp} {a:Addr} {kvs:List (Key × V)} {k:Key} (e:H a=some (.dK kvs)):DGet H a (kV k) (valV kvs k):=.inl ⟨kvs,k,.inl e,rfl,rfl⟩
theorem DPut.k {H:Hp} {a:Addr} {kvs:List (Key × V)} {k:Key} {v:V} (e:H a=some (.dK kvs)) (hl:kvs.length < sizeLine):DPut H a (kV k) v (upd H a (.dK (putK kvs k v))):=.inl ⟨kvs,k,e,rfl,hl,rfl⟩
section
variable {X:Cx} {pins:List (Addr × Obj)} {σ:St} {H:Hp} {s:Shared} {a:Addr} {y v:V} {u r:Value} {o:Option V} {A:Around} {E:Value→Shared→Prop}
theorem Inv.big (I:Inv X pins σ H s):sysModules < s.heap.objs.size:=by
  have h:mainGlobals < s.heap.objs.size:=(I.mod.glob.keeps I.bk).lt
  exact Nat.lt_trans (by decide) h
theorem d_getItem {Q:Value→Shared→Prop} (hu:A.units + 1 < cLine) (I:Inv X pins σ H s) (g:DGet H a y (some v)) (ry:RelV y u) (h:∀ w' s',Inv X pins σ H s'→RelV v w'→Q w' s') :
    wpAny (model X.prog X.w) A (getItem (.ref a) u) Q E s:=by
  rcases g with ⟨kvs,k,e,ey,l⟩ | ⟨kvs,k,b,e,ey,eb,l⟩
  · subst ey
    obtain ⟨z,hd,vs,rel,dd⟩:=dk_rd I.hok e
    obtain ⟨w',hw,rw'⟩:=RelO.some_of (v:=v) (o:=valueAt vs k) (by rw [l];exact rel.val k)
    exact wpAny_getItem_of (kV_is ry) dd.mapOf hw (h w' _ (I.tok _) rw')
  · subst ey
    cases (show u=Value.ref b from ry)
    obtain ⟨z,hd,xs,rel,dd⟩:=dt_rd I.hok e
    obtain ⟨w',hw,rw'⟩:=RelO.some_of (v:=v) (o:=(atKey xs k).map (·.2)) (by rw [l];exact rel.val k)
    obtain ⟨p,hp,hp2⟩:=Option.map_eq_some_iff.mp hw
    refine wpAny_getItem_heap (tupleKind_room_in1 hu) (key_of I.hok eb) dd hp ?_
    rw [hp2]
    exact h w' _ (I.tok _) rw'
theorem d_notIn {Q:Value→Shared→Prop} (hu:A.units + 1 < cLine) (I:Inv X pins σ H s) (g:DGet H a y o) (ry:RelV y u) (h:∀ s',Inv X pins σ H s'→Q (.bool (!o.isSome)) s') :
    wpAny (model X.prog X.w) A (compareOp .NotIn u (.ref a)) Q E s:=by
  rcases g with ⟨kvs,k,e,ey,l⟩ | ⟨kvs,k,b,e,ey,eb,l⟩
  · subst ey
    obtain ⟨z,hd,vs,rel,dd⟩:=dk_rd I.hok e
    refine wpAny_notIn_of (kV_is ry) hd dd.mapOf ?_
    rw [← (rel.val k).isSome_eq,← l]
    exact h _ (I.tok _)
  · subst ey
    cases (show u=Value.ref b from ry)
    obtain ⟨z,hd,xs,rel,dd⟩:=dt_rd I.hok e
    refine wpAny_notIn_heap (tupleKind_room_in1 hu) (key_of I.hok eb) hd dd ?_
    have q:=(rel.val k).isSome_eq
    rw [Option.isSome_map] at q
    rw [← q,← l]
    exact h _ (I.tok _)
theorem d_write {h':Heap} {t':Nat} {ob:HO} (I:Inv X pins σ H s) (mu:Mut (H a)) (hs:Heap.SameBut a s.heap h') (he:∃ q,h'.get? a=some q) (new:ObjOk X.prog X.w (upd H a ob) h' a ob) :
    Inv X pins σ (upd H a ob) { s with heap:=h',toks:=t' }:=
  I.write (x:=a) (e:=a) mu (.inl rfl) (fun b q hb z=>(hs.2 b hb).trans z) he new
theorem dk_new {P:Program} {w:World} {H':Hp} {h':Heap} {kvs:List (Key × V)} {vs:List (Key × Value)} (z:kvs.length≤sizeLine) (hd:(a == sysModules)=false) (rel:KV kvs vs) (dd:h'.DictOf (mixKind P w) a vs) :
    ObjOk P w H' h' a (.dK kvs):=⟨z,hd,vs,rel,dd⟩
theorem d_setItem {H':Hp} {Q:Unit→Shared→Prop} (hu:A.units + 1 < cLine) (I:Inv X pins σ H s) (g:DPut H a y v H') (ry:RelV y u) (rv:RelV v r) (h:∀ s',Inv X pins σ H' s'→Q () s') :
    wpAny (model X.prog X.w) A (setItem (.ref a) u r) Q E s:=by
  rcases g with ⟨kvs,k,e,ey,l,eH⟩ | ⟨kvs,k,b,e,ey,eb,l,eH⟩
  · subst ey eH
    obtain ⟨z,hd,vs,rel,dd⟩:=dk_of I.hok e
    have hz:vs.length≤sizeLine:=by rw [← rel.length];exact z
    have hl:(putK kvs k v).length≤sizeLine:=by have:=length_putK kvs k v;lia
    refine wpAny_setItem_pairs (hsz:=hz) (kV_is ry) dd fun h' dd' hs=>h _ ?_
    have he:∃ q,h'.get? a=some q:=let ⟨q,_,_,hq,_⟩:=dd';⟨q,hq⟩
    exact d_write I (by rw [e];exact True.intro) hs he (dk_new hl hd (rel.put k rv) dd')
  · subst ey eH
    cases (show u=Value.ref b from ry)
    obtain ⟨z,hd,xs,rel,dd⟩:=dt_of I.hok e
    have hz:xs.length≤sizeLine:=by rw [← Paired.length rel];exact z
    have hl:(putK kvs k v).length≤sizeLine:=by have:=length_putK kvs k v;lia
    refine wpAny_setItem_heap (hsz:=hz) (tupleKind_room_in1 hu) (key_of I.hok eb) dd fun h' dd' hs=>h _ ?_
    obtain ⟨q,es,ep,hq,h2,h3,h4,_,h5⟩:=dd'
    refine d_write I (by rw [e];exact True.intro) hs ⟨q,hq⟩ ⟨hl,hd,_,(rel.put k eb rv).keeps fun c ys ec=>?_,q,es,ep,hq,h2,h3,h4,h5⟩
    rw [upd_ne (ne_of ec e (fun z=>nomatch z))]
    exact ec
end
section
variable {X:Cx} {pins:List (Addr × Obj)} {σ:St} {H:Hp} {s:Shared} {a:Addr} {kvs:List (Key × V)} {k:Key} {u:Value} {A:Around} {E:Value→Shared→Prop}
end
def NoSl (i:Expr):Prop:=∀ ov iv,subscripted i false ov iv=operate [ov,iv] (getItem ov iv)
theorem subD_of {prog:Program} {w:World} {A:Around} {E:Value→Shared→Prop} {s:Shared} {env:Env} {value slice:Expr} {pos:Pos} {T id:String} {Q:Value→Shared→Prop}
    (hl:typeLookup (.type T) "__getitem__"=pure (some (.builtin id))) (hs:NoSl slice)
    (h:wpAny (model prog w) A (eval value env) (fun o s₁=>wpAny (model prog w) A (eval slice env) (fun i s₂=>s₂.TypeIs o T∧wpAny (model prog w) A (getItem o i) Q E s₂) E s₁) E s) :
    wpAny (model prog w) A (eval (.Subscript value slice pos) env) Q E s:=by
  refine Subscript_ (wpAny_mono h (fun o s₁ h₁=>wpAny_mono h₁ (fun i s₂ h₂=>?_) fun _ _ x=>x) fun _ _ x=>x)
  obtain ⟨hT,h₂⟩:=h₂
  unfold subscriptTail
  refine wpAny_bind ?_
  rw [getitemInPython_of_ne hT.not_modules]
  refine wpAny_bind (wpAny_specialOf hT hl ?_)
  have fin:wpAny (model prog w) A (subscripted slice false o i) (fun r s₃=>wpAny (model prog w) A (letTemporaryGo value o r >>= fun _=>pure r) Q E s₃) E s₂:=by
    rw [hs o i]
    exact wpAny_operating (wpAny_mono h₂ (fun r s₃ h₃=>wpAny_bind (wpAny_letTemporaryGo (wpAny_pure h₃))) fun _ _ x=>x)
  first
    | exact wpAny_pure (wpAny_bind fin)
    | exact wpAny_bind (wpAny_pure (wpAny_bind fin))
    | exact wpAny_bind fin
theorem dict_typeIs {X:Cx} {pins:List (Addr × Obj)} {σ:St} {H:Hp} {s:Shared} {a:Addr} {y:V} {o:Option V} (I:Inv X pins σ H s) (g:DGet H a y o):s.TypeIs (.ref a) "dict":=by
  rcases g with ⟨kvs,k,e,_,_⟩ | ⟨kvs,k,b,e,_,_,_⟩
  · obtain ⟨_,_,vs,_,dd⟩:=dk_rd I.hok e
    exact dd.typeIs
  · obtain ⟨_,_,xs,_,dd⟩:=dt_rd I.hok e
    exact dd.typeIs
def tDGet (td ty:TE):TE:=fun σ H Q=>td σ H fun x H1=>ty σ H1 fun y H2=>∃ a v,x=.ref a∧DGet H2 a y (some v)∧Q v H2
section
variable {X:Cx} {o i e value:Expr} {pos pos' tpos:Pos} {td ty tv:TE}
theorem pe_dget (hu:X.A.units + 1 < cLine) (ho:PE X o td) (hi:PE X i ty) (hs:NoSl i):PE X (.Subscript o i pos) (tDGet td ty):=by
  intro pins s σ H Q I h
  refine subD_of PySem.F.slot_dict_getitem.lookup hs (thn (ho pins s σ H _ I h) fun u s1 ⟨x,H1,I1,rx,q1⟩=>thn (hi pins s1 σ H1 _ I1 q1) fun iv s2 ⟨y,H2,I2,ry,a,v,ex,g,q2⟩=>?_)
  subst ex
  obtain rfl:u=Value.ref a:=rx
  exact ⟨dict_typeIs I2 g,d_getItem hu I2 g ry fun w' s3 I3 rw'=>⟨v,H2,I3,rw',q2⟩⟩
end
theorem dk_empty {P:Program} {w:World} {H:Hp} (h:Heap) (hb:sysModules < h.objs.size):ObjOk P w H (h.push { cls:=.type "dict",data:=.dict #[] }) h.objs.size (.dK []):=
  ⟨Nat.zero_le _,beq_eq_false_iff_ne.mpr (Ne.symm (Nat.ne_of_lt hb)),[],.nil,Heap.DictOf.new h⟩
def tDNewK:TE:=fun _ H Q=>∀ p,H p=none→Q (.ref p) (upd H p (.dK []))
section
variable {X:Cx} {pos:Pos}
theorem pe_dnewK:PE X (.Dict [] [] pos) tDNewK:=fun pins s σ H Q I h=>
  wpAny_Dict_empty ⟨.ref s.heap.objs.size,_,I.laid (a:=s.heap.objs.size) (o:=.dK []) (t':=s.toks) (fun _ _ q=>Heap.get?_push_of_some _ q) (Nat.le_refl _) (dk_empty s.heap I.big),rfl,h _ (I.hok.fresh (Nat.le_refl _))⟩
end
def tPairs:List (TE × TE)→St→Hp→(List (V × V)→Hp→Prop)→Prop
  | [],_,H,Q=>Q [] H
  | (tk,tv)::r,σ,H,Q=>tk σ H fun x H1=>tv σ H1 fun y H2=>tPairs r σ H2 fun ps H3=>Q ((x,y)::ps) H3
abbrev VV:List (V × V)→List (Value × Value)→Prop:=Paired fun p q=>RelV p.1 q.1∧RelV p.2 q.2
def PPs (X:Cx) (pos:Pos) (keys:List (Option Expr)) (values:List Expr) (trs:List (TE × TE)):Prop:=
  ∀ (pins:List (Addr × Obj)) (s:Shared) (σ:St) (H:Hp) (Q:List (V × V)→Hp→Prop),Inv X pins σ H s→tPairs trs σ H Q→
    wpAny (model X.prog X.w) X.A (evalPairs (pairTrees keys values X.env pos)) (fun vs s'=>∃ ps H',Inv X pins σ H' s'∧VV ps vs∧Q ps H') X.xe s
theorem pps_nil {X:Cx} {pos:Pos}:PPs X pos [] [] []:=fun pins s σ H Q I h=>pairTrees_nil_walk ⟨[],H,I,.nil,h⟩
theorem pps_cons {X:Cx} {pos:Pos} {k v:Expr} {ks:List (Option Expr)} {vs:List Expr} {tk tv:TE} {trs:List (TE × TE)} (hk:PE X k tk) (hv:PE X v tv) (hr:PPs X pos ks vs trs) :
    PPs X pos (some k::ks) (v::vs) ((tk,tv)::trs):=fun pins s σ H Q I h=>
  pairTrees_cons_walk (thn (hk pins s σ H _ I h) fun u s1 ⟨x,H1,I1,rx,q1⟩=>thn (hv pins s1 σ H1 _ I1 q1) fun w2 s2 ⟨y,H2,I2,ry,q2⟩=>
    thn (hr pins s2 σ H2 _ I2 q2) fun ws s3 ⟨ps,H3,I3,rel,q3⟩=>⟨(x,y)::ps,H3,I3,.cons ⟨rx,ry⟩ rel,q3⟩)
def mergeK (kvs more:List (Key × V)):List (Key × V):=more.foldl (fun acc kv=>putK acc kv.1 kv.2) kvs
theorem KV.merge:∀ {more:List (Key × V)} {rs:List (Key × Value)} {kvs:List (Key × V)} {vs:List (Key × Value)},KV more rs→KV kvs vs→KV (mergeK kvs more) (merged vs rs):=by
  intro more rs kvs vs r
  unfold KV at r
  induction r generalizing kvs vs with
  | nil=>intro q;exact q
  | @cons p q ps qs h t ih=>
    intro r0
    have e:KV (putK kvs p.1 p.2) (stored vs q.1 q.2):=by
      have:=r0.put p.1 h.2
      rw [← h.1];exact this
    exact ih e
theorem length_mergeK:∀ (more kvs:List (Key × V)),(mergeK kvs more).length≤kvs.length + more.length
  | [],kvs=>by show kvs.length≤kvs.length + 0;lia
  | p::r,kvs=>by
    have h1:=length_mergeK r (putK kvs p.1 p.2)
    have h2:=length_putK kvs p.1 p.2
    show (mergeK (putK kvs p.1 p.2) r).length≤_
    rw [List.length_cons];lia
theorem carries_of {P:Program} {w:World}:∀ {kvs:List (Key × V)} {ws:List (Value × Value)},VV (kvs.map fun kv=>(kV kv.1,kv.2)) ws→∃ rs,Carries (mixKind P w) ws rs∧KV kvs rs
  | [],_,r=>by rw [List.map_nil] at r;cases r;exact ⟨[],True.intro,.nil⟩
  | p::kvs,_,r=>by
    rw [List.map_cons] at r
    cases r with
    | @cons a b as bs h t=>
      obtain ⟨rs,c,q⟩:=carries_of (P:=P) (w:=w) t
      obtain ⟨b1,b2⟩:=b
      exact ⟨(p.1,b2)::rs,⟨kV_is h.1,rfl,c⟩,.cons ⟨rfl,h.2⟩ q⟩
def tDisp (trs:List (TE × TE)):TE:=fun σ H Q=>∀ p,H p=none→tPairs trs σ (upd H p (.dK [])) fun ps H2=>H2 p=some (.dK [])∧∃ kvs:List (Key × V),ps=kvs.map (fun kv=>(kV kv.1,kv.2))∧kvs.length≤15∧Q (.ref p) (upd H2 p (.dK (mergeK [] kvs)))
theorem pe_disp {X:Cx} {pos:Pos} {keys:List (Option Expr)} {values:List Expr} {trs:List (TE × TE)} (h:PPs X pos keys values trs) (hall:keys.all (·.isSome)=true) (hl:keys.length=values.length) (h0:keys≠[])
    (h15:keys.length≤15):PE X (.Dict keys values pos) (tDisp trs):=by
  intro pins s σ H Q I q
  have hn:=I.hok.fresh (Nat.le_refl s.heap.objs.size)
  have I1:=I.laid (a:=s.heap.objs.size) (o:=.dK []) (h':=s.heap.push { cls:=.type "dict",data:=.dict #[] }) (t':=s.toks) (fun _ _ q=>Heap.get?_push_of_some _ q) (Nat.le_refl _) (dk_empty s.heap I.big)
  refine wpAny_Dict_walk (knd:=mixKind X.prog X.w) hall hl h0 h15 (thn (h pins _ σ _ _ I1 (q _ hn)) fun ws s2 ⟨ps,H2,I2,rel,e,kvs,ep,lk,q2⟩=>?_)
  subst ep
  obtain ⟨rs,c,rk⟩:=carries_of (P:=X.prog) (w:=X.w) rel
  obtain ⟨z,hd,vs0,r0,dd⟩:=dk_of I2.hok e
  cases r0
  refine ⟨rs,c,dd,fun h' dd' hs=>⟨.ref s.heap.objs.size,_,?_,rfl,q2⟩⟩
  have hz:(mergeK [] kvs).length≤sizeLine:=by
    have h1:=length_mergeK kvs []
    rw [List.length_nil] at h1
    rw [sizeLine_eq];lia
  have he:∃ q,h'.get? s.heap.objs.size=some q:=let ⟨q,_,_,hq,_⟩:=dd';⟨q,hq⟩
  exact d_write I2 (by rw [e];exact True.intro) hs he (dk_new hz hd (rk.merge .nil) dd')
structure M2 (X:Cx) (o:Expr) (m:Str) (apos:Pos) (e f:Expr) (cpos:Pos):Prop where
  base:attributeBase o m X.env (eval o X.env)=eval o X.env
  few:((backTo cpos (starEach [e,f] X.env)).all (fun x=>!x.1) && (backToKw cpos (keywordEach [] X.env)).all (fun x=>x.1.isSome)
    && decide (([e,f]:List Expr).length + ([]:List Keyword).length + (if ([]:List Keyword).isEmpty then 0 else 1) < 30))=true
  line:(apos.endLine == cpos.line)=true
  trees:backTo cpos (starEach [e,f] X.env)=[(false,eval e X.env),(false,eval f X.env)]
def IsD (H:Hp) (a:Addr):Prop:=(∃ kvs,Rd H a (.dK kvs))∨∃ kvs,Rd H a (.dT kvs)
theorem isD_at {X:Cx} {pins:List (Addr × Obj)} {σ:St} {H:Hp} {s:Shared} {a:Addr} (I:Inv X pins σ H s) (d:IsD H a) :
    s.TypeIs (.ref a) "dict"∧(∀ b,Value.ref a=.ref b→∃ ob,s.heap.get? b=some ob∧ob.dict=none)∧(a == sysModules)=false:=by
  rcases d with ⟨kvs,e⟩ | ⟨kvs,e⟩
  · obtain ⟨_,hd,vs,_,dd⟩:=dk_rd I.hok e
    refine ⟨dd.typeIs,fun b q=>?_,hd⟩
    cases q
    obtain ⟨ob,_,_,h1,h2,_⟩:=dd
    exact ⟨ob,h1,h2.2.1⟩
  · obtain ⟨_,hd,xs,_,dd⟩:=dt_rd I.hok e
    refine ⟨dd.typeIs,fun b q=>?_,hd⟩
    cases q
    obtain ⟨ob,_,_,h1,h2,_⟩:=dd
    exact ⟨ob,h1,h2.2.1⟩
section
variable {X:Cx} {pins:List (Addr × Obj)} {σ:St} {H:Hp} {s:Shared} {a:Addr} {y d:V} {u r:Value} {o:Option V} {A:Around} {E:Value→Shared→Prop}
end
section
variable {X:Cx} {o e f:Expr} {apos cpos:Pos} {td ty tx:TE}
end
section
variable {X:Cx} {pins:List (Addr × Obj)} {σ:St} {H:Hp} {s:Shared} {a:Addr} {kvs:List (Key × V)} {A:Around} {E:Value→Shared→Prop}
theorem d_copyOf {Q:Value→Shared→Prop} (I:Inv X pins σ H s) (e:Rd H a (.dK kvs)) (h:∀ p s',H p=none→Inv X pins σ (upd H p (.dK kvs)) s'→Q (.ref p) s'):wpAny (model X.prog X.w) A (call (.type "dict") [.ref a]) Q E s:=by
  obtain ⟨z,hd,vs,rel,dd⟩:=dk_rd I.hok e
  refine kt_call_dict hd dd (by rw [← rel.length];exact z) fun h' dd' hs=>?_
  refine h _ _ (I.hok.fresh (Nat.le_refl _)) (I.laid (a:=s.heap.objs.size) (o:=.dK kvs) (t':=s.toks) (fun b q hq=>?_) (Nat.le_refl _) (dk_new z (beq_eq_false_iff_ne.mpr (Ne.symm (Nat.ne_of_lt I.big))) rel dd'))
  exact (hs.2 b (Nat.ne_of_lt (Heap.lt_size hq))).trans (Heap.get?_push_of_some _ hq)
end
section
variable {X:Cx} {pins:List (Addr × Obj)} {σ:St} {H:Hp} {s:Shared} {a:Addr} {y:V} {u:Value} {A:Around} {E:Value→Shared→Prop}
end
section
variable {X:Cx}
end
section
variable {κ:Type} [DecidableEq κ]
theorem valV_not {kvs:List (κ × V)} {k:κ} (h:valV kvs k=none):¬ k∈kvs.map (·.1):=by
  intro m
  obtain ⟨p,hp,e⟩:=List.mem_map.mp m
  have q:(kvs.any fun kv=>decide (kv.1=k))=true:=List.any_eq_true.mpr ⟨p,hp,decide_eq_true e⟩
  rw [valV_any,h] at q
  exact absurd q (by simp)
theorem valV_in {kvs:List (κ × V)} {k:κ} {v:V} (h:valV kvs k=some v):k∈kvs.map (·.1):=by
  have q:(kvs.any fun kv=>decide (kv.1=k))=true:=by
    rw [valV_any,h]
    all_goals rfl
  obtain ⟨p,hp,e⟩:=List.any_eq_true.mp q
  exact List.mem_map.mpr ⟨p,hp,of_decide_eq_true e⟩
theorem nd_snoc:∀ {l:List κ} {k:κ},l.Nodup→¬ k∈l→(l++[k]).Nodup
  | [],k,_,_=>by simp
  | a::r,k,h,hk=>by
    obtain ⟨h1,h2⟩:=List.nodup_cons.mp h
    show (a::(r++[k])).Nodup
    refine List.nodup_cons.mpr ⟨fun m=>?_,nd_snoc h2 fun m=>hk (List.mem_cons.mpr (Or.inr m))⟩
    rcases List.mem_append.mp m with q | q
    · exact h1 q
    · exact hk (List.mem_cons.mpr (Or.inl (List.mem_singleton.mp q).symm))
theorem nd_putK {kvs:List (κ × V)} {k:κ} (v:V) (hn:(kvs.map (·.1)).Nodup) (h:valV kvs k=none):((putK kvs k v).map (·.1)).Nodup:=by
  rw [putK_new v h,List.map_append]
  exact nd_snoc hn (valV_not h)
end
def rInD (neg:Bool):R2:=fun x y H Q=>∃ a o,y=.ref a∧DGet H a x o∧Q (.bl (if neg then !o.isSome else o.isSome)) H
def rSetD:V→V→V→Hp→(Hp→Prop)→Prop:=fun o i v H Q=>∃ a H',o=.ref a∧DPut H a i v H'∧Q H'
section
variable {X:Cx}
theorem op_notInD (hu:X.A.units + 1 < cLine):OpR X (compareOp .NotIn) (rInD true):=by
  intro pins s σ H x y v u Q I rx ry h
  obtain ⟨a,o,rfl,g,q⟩:=h
  cases ry
  exact d_notIn hu I g rx fun s' I'=>⟨.bl (!o.isSome),H,I',rfl,q⟩
theorem set_dict (hu:X.A.units + 1 < cLine):PSet X rSetD:=by
  intro pins s σ H o i v ov iv u Q I ro ri rv h
  obtain ⟨a,H',rfl,g,q⟩:=h
  cases ro
  exact d_setItem hu I g ri rv fun s' I'=>⟨H',I',q⟩
theorem vals_of_ints:∀ {us:List Value} {ns:List Int},IntsAre us ns→Vals (ns.map V.int) us:=by
  intro us ns h
  induction h with
  | nil=>exact .nil
  | cons n t _ ih=>exact .cons ⟨t,rfl⟩ ih
theorem items_ints {prog:Program} {w:World}:∀ {ns:List Int} {vs:List (Key × Value)} {us:List Value},vs.map (·.1)=ns.map Sum.inl→us.length=vs.length→(∀ (j:Nat) v,us[j]?=some v→∃ k x,vs[j]?=some (k,x)∧(mixKind prog w).is k v=true)→IntsAre us ns
  | [],vs,us,h1,h2,_=>by
    have:vs=[]:=by cases vs with | nil=>rfl | cons a r=>cases h1
    subst this
    have:us=[]:=List.length_eq_zero_iff.mp h2
    subst this
    exact .nil
  | n::ns,vs,us,h1,h2,h3=>by
    cases vs with
    | nil=>cases h1
    | cons a vs=>
      cases us with
      | nil=>cases h2
      | cons u us=>
        obtain ⟨k,x,e,hk⟩:=h3 0 u rfl
        have e':a=(k,x):=Option.some.inj e
        subst e'
        injection h1 with h1 h1'
        have h1:k=Sum.inl n:=h1
        subst h1
        obtain ⟨t,rfl⟩:=Value.isInt_shape (k:=n) (v:=u) hk
        refine .cons n t (items_ints (prog:=prog) (w:=w) h1' (by simpa using h2) fun j v e=>?_)
        exact h3 (j + 1) v (by simpa using e)
def rSortD:List V→Hp→VK→Prop:=fun xs H Q=>∃ (d:Addr) (kvs:List (Key × V)) (ns:List Int),xs=[.ref d]∧H d=some (.dK kvs)∧kvs.map (·.1)=ns.map Sum.inl∧ns.length < 64∧∀ (l:Addr) (ns':List Int),H l=none→ns'.Perm ns→ns'.Pairwise (·≤·)→Q (.ref l) (upd H l (.lst (ns'.map V.int)))
theorem call_sortD (hc:X.calm=true):CallR X (.builtin "sorted") rSortD:=by
  intro pins s σ H xs us Q I r h
  obtain ⟨d,kvs,ns,rfl,hd,hk,h64,q⟩:=h
  obtain ⟨u,rfl,rx⟩:=vals1 r
  cases rx
  obtain ⟨z,lo,vs,rel,dd⟩:=dk_of I.hok hd
  obtain ⟨ep,hat⟩:=dd.dictAt
  have hh:X.A.handled=none:=I.ok.hd hc
  have kl:=rel.length
  have hv:vs.map (·.1)=ns.map Sum.inl:=by rw [← rel.keys];exact hk
  have vl:vs.length=ns.length:=by have:=congrArg List.length hv;simpa using this
  refine Calls.call_function_entry kind_sorted plain_sorted entry_sorted (args_sorted1 _) ?_
  unfold Builtin.«sorted»
  refine wpAny_bind (m:=checkCount "sorted" 1 1 _) (wpAny_pure ?_)
  refine wpAny_bind (PySem.W.kdu_collect (A:=X.A.in1) (PySem.W.kdl_dict (knd:=mixKind X.prog X.w) (kvs:=vs) (ep:=ep) lo) hh hat (by rw [← kl];exact z) fun h' tk acc hkp hacc=>?_)
  have hl:acc.toList.length=vs.length:=by rw [Array.length_toList];exact hacc.1
  have hI:IntsAre acc.toList ns:=items_ints (prog:=X.prog) (w:=X.w) hv hl fun j v e=>hacc.2 j v (by rw [← Array.getElem?_toList];exact e)
  refine wpAny_bind (wpAny_newList ?_ (by rw [hl,← kl];exact z))
  have hoL:(h'.push (seqObj "list" acc.toList.toArray 0)).get? h'.objs.size=some (seqObj "list" acc.toList.toArray 0):=Heap.get?_push_size _ rfl
  show wpAny _ _ _ _ _ { s with heap:=h'.push (seqObj "list" acc.toList.toArray 0),toks:=tk }
  refine wpAny_bind (wpAny_holding (wpAny_call_entry slot_list_sort ⟨_,hoL,rfl⟩ entry_list_sort (list_sort_tree hoL hI (by rw [hl,vl];exact h64) fun out ns' a1 a2 a3=>⟨_,rfl,?_⟩) (args_list_sort _)))
  refine wpAny_pure ⟨_,rfl,?_⟩
  obtain ⟨e,he⟩:=sortedHeap_at (n:=0) (out:=out) hoL
  have hn:=vals_of_ints a1
  have hlen:ns'.length=ns.length:=a2.length_eq
  have I1:Inv X pins σ H { s with heap:=h',toks:=tk }:=I.kept hkp
  refine ⟨.ref h'.objs.size,_,I1.laid (t':=tk) (fun b u q1=>?_) (Nat.le_refl _) (show ObjOk X.prog X.w _ _ _ (.lst (ns'.map V.int)) from ⟨?_,out.toList,e,hn,?_⟩),rfl,q _ _ (I1.hok.fresh (Nat.le_refl _)) a2 a3⟩
  · have lt:=Heap.lt_size q1
    rw [sortedHeap_old (Nat.ne_of_lt lt) (by rw [size_push'];exact Nat.lt_succ_of_lt lt)]
    exact Heap.get?_push_of_some _ q1
  · rw [List.length_map,hlen];exact Nat.le_trans (Nat.le_of_lt h64) (by decide)
  · rw [Array.toArray_toList];exact he
end
structure FunD (K:Fg) (x qual:Str) (st:Stmt) (dV:Value) (f:Addr) (fd:FuncData):Prop where
  ex:∃ (oc:Value) (od:Option Addr) (kV doc pm:Value) (an:Option Addr) (cdv ct:Value) (osl:Array (Option Value)),
    fd=PySem.W.fnOf x qual (defArgs st) (defBody st) (defScope st) dV kV doc pm an cdv ct∧K.lookup f=some ⟨oc,od,.func fd,osl⟩∧PySem.W.codeIn K cdv qual=true
  kp:PySem.W.keepIn K (.ref f)=true
section
variable {P:Program} {w:World} {K:Fg} {mg:Str→Option Value} {base:Heap}
theorem FunD.ok {x qual:Str} {st:Stmt} {dV:Value} {f:Addr} {fd:FuncData} {N ps:List Str} {k:Nat} {sp:Sp} (F:FunD K x qual st dV f fd) (S:FnScope N ps (defScope st)) (len:∀ vs H Q E,sp vs H Q E→vs.length=ps.length)
    (hbody:∀ (cdv:Value) (A:Around) (outer:List Env) (s:Shared) (H:Hp) (vs:List V) (Q:VK) (E:XK),Room k (A.deeper (envOfC qual (defScope st) s.heap.objs.size f cdv))→sp vs H Q E→
      ∃ t,PSs (cxOf CX0 P w K mg base N qual (defScope st) f cdv A outer s H E).nox (defBody st) t∧t { nx:=fun _ H'=>Q .non H',rt:=Q } (start N vs) H):FnOk P w K mg base CX0 (k + 1) f fd ps sp:=by
  obtain ⟨oc,od,kV,doc,pm,an,cdv,ct,osl,rfl,lk,hcd⟩:=F.ex
  refine fn_of lk hcd S len fun A outer s H vs Q E hr hsp=>?_
  obtain ⟨t,h,q⟩:=hbody cdv A outer s H vs Q E hr hsp
  exact ⟨t,h.nox,q⟩
theorem funD_mk {x qual:Str} {st:Stmt} {dV:Value} {f:Addr} {oc:Value} {od an:Option Addr} {osl:Array (Option Value)} {kV doc pm cdv ct:Value} (l:K.lookup f=some ⟨oc,od,.func (PySem.W.fnOf x qual (defArgs st) (defBody st) (defScope st) dV kV doc pm an cdv ct),osl⟩)
    (c:PySem.W.codeIn K cdv qual=true) (k:PySem.W.keepIn K (.ref f)=true):FunD K x qual st dV f (PySem.W.fnOf x qual (defArgs st) (defBody st) (defScope st) dV kV doc pm an cdv ct):=⟨⟨oc,od,kV,doc,pm,an,cdv,ct,osl,rfl,l,c⟩,k⟩
end
structure CalleeD (P:Program) (w:World) (K:Fg) (mg:Str→Option Value) (base:Heap) (x:Str) (ps:List Str) (k:Nat) (dvs:List V) (sp:Sp):Prop where
  ex:∃ (f:Addr) (fd:FuncData) (ds:List Value),mg x=some (.ref f)∧PySem.W.keepIn K (.ref f)=true∧Binds K fd ps ds∧Vals dvs ds∧FnOk P w K mg base CX0 k f fd ps sp
theorem pe_fnD {X:Cx} {x:Str} {ps:List Str} {k:Nat} {dvs:List V} {sp:Sp} {e:Expr} {es:List Expr} {t:TA} {p pos:Pos} (c:CalleeD X.prog X.w X.K X.mg X.base x ps k dvs sp) (hr:Room k X.A) (hg:Gl X x) (ha:PA X (e::es) t)
    (hdb:(x == ("__debug__":Str))=false:=by decide) (he:starEach (e::es) X.env=(false,eval e X.env)::starEach es X.env:=by rfl) (hpl:(backTo pos (starEach es X.env)).any (·.1)=false:=by rfl) :
    PE X (.Call (.Name x p) (e::es) [] pos) (tCall sp dvs E0 t):=by
  obtain ⟨f,fd,ds,hm,hk,hb,hd,F⟩:=c.ex
  exact pe_call F hr hg hm hk hb hd pass0 ha hdb he hpl
structure QPs (X:Cx) (pos:Pos) (keys:List (Option Expr)) (values:List Expr) (trs:List (TE × TE)):Prop where
  up:PPs X pos keys values trs
theorem qps_nil {X:Cx} {pos:Pos}:QPs X pos [] [] []:=⟨pps_nil⟩
theorem qps_cons {X:Cx} {pos:Pos} {k v:Expr} {ks:List (Option Expr)} {vs:List Expr} {tk tv:TE} {trs:List (TE × TE)} (hk:QE X k tk) (hv:QE X v tv) (hr:QPs X pos ks vs trs):QPs X pos (some k::ks) (v::vs) ((tk,tv)::trs):=⟨pps_cons hk.up hv.up hr.up⟩
theorem qe_disp {X:Cx} {pos:Pos} {keys:List (Option Expr)} {values:List Expr} {trs:List (TE × TE)} (h:QPs X pos keys values trs) (hall:keys.all (·.isSome)=true) (hl:keys.length=values.length) (h0:keys≠[]) (h15:keys.length≤15):QE X (.Dict keys values pos) (tDisp trs):=⟨pe_disp h.up hall hl h0 h15⟩
theorem qe_dnewK {X:Cx} {pos:Pos}:QE X (.Dict [] [] pos) tDNewK:=⟨pe_dnewK⟩
theorem qe_fnD {X:Cx} {x:Str} {ps:List Str} {k:Nat} {dvs:List V} {sp:Sp} {e:Expr} {es:List Expr} {t:TA} {p pos:Pos} (c:CalleeD X.prog X.w X.K X.mg X.base x ps k dvs sp) (hr:Room k X.A) (hg:Gl X x) (ha:QA X (e::es) t)
    (hdb:(x == ("__debug__":Str))=false:=by decide) (he:starEach (e::es) X.env=(false,eval e X.env)::starEach es X.env:=by rfl) (hpl:(backTo pos (starEach es X.env)).any (·.1)=false:=by rfl) :
    QE X (.Call (.Name x p) (e::es) [] pos) (tCall sp dvs E0 t):=⟨pe_fnD c hr hg ha.up hdb he hpl⟩
end L2
end
section
namespace PySem.W
open PySem PySem.Calls PyProof.Rows PyProof.V PySem.Spec
section
variable {prog:Program} {w:World} {A:Around} {E:Value→Shared→Prop} {s:Shared} {r l:Addr}
end
end PySem.W
namespace L2
open PySem PySem.Spec PyProof.Rows
section
variable {X:Cx}
end
end L2
end
section
namespace HT
open PySem PyProof.Rows
section
variable {prog:Program} {w:World} {A:Around} {E:Value→Shared→Prop} {s:Shared}
end
end HT
namespace L2
open PySem PySem.Spec PyProof.Rows
section
variable {X:Cx}
end
end L2
end
section
namespace PySem
open Sem (wp)
theorem lk_list_keys:typeLookup (.type "list") "keys"=pure none:=by rw [typeLookup_type,builtinLookup_eq_fast];kernel_rfl
theorem lk_zip_keys:typeLookup (.type "zip") "keys"=pure none:=by rw [typeLookup_type,builtinLookup_eq_fast];kernel_rfl
theorem zip_getattr_none:typeLookup (.type "zip") "__getattr__"=pure none:=by rw [typeLookup_type,builtinLookup_eq_fast];kernel_rfl
theorem keys_list {prog:Program} {w:World} {A:Around} {E:Value→Shared→Prop} {s:Shared} {a:Addr} {xs:Array Value} {k:Nat} {Q:Option Value→Shared→Prop} {sl:Array (Option Value)}
    (hx:s.heap.get? a=some { cls:=.type "list",dict:=none,data:=.seq xs k,slots:=sl }) (hA:A.handled=none)
    (h:∀ h' tk,(∀ b u,s.heap.get? b=some u→h'.get? b=some u)→Q none { s with heap:=h',toks:=tk }):wpAny (model prog w) A (getAttr? (.ref a) "keys") Q E s:=by
  obtain ⟨hp,g,d,tk,os⟩:=s
  have hT:∀ tk',(⟨hp,g,d,tk',os⟩:Shared).TypeIs (.ref a) "list":=fun _=>⟨_,hx,rfl⟩
  have f1:=sub_AttributeError
  have f3:=F.slot_list_getattribute.lookup
  have f4:=F.slot_list_getattribute.bind (.ref a)
  have f5:=am_list_getattr_none
  unfold getAttr? getAttrBy? getAttrBy
  repeat (any_goals (first | assumption | exact hT _ | ((with_reducible show wpAny _ _ (call (Value.builtin "list.__getattribute__") _ _) _ _ _);refine call_meets F.slot_list_getattribute (hT _) am_entry_list_getattribute (F.args_list_getattribute_2 _ _) (meets_getattribute_miss_list a xs k sl "keys" _ lk_list_keys (by decide +kernel) (by decide +kernel)) ⟨hx,hA,fun h' tk' e hx'=>?_⟩) | wp_step))
  obtain ⟨t',u',he⟩:=hx'.there
  show wpAny _ _ (getattributeRaised _ _ _ _ _ _ _) _ _ _
  unfold getattributeRaised
  repeat (any_goals (first | assumption | wp_step))
  exact h _ _ hx'.keeps
theorem entry_zip_getattribute:entryFor table "zip.__getattribute__"=some Builtin.«object.__getattribute__»:=
  entryFor_alias (id':="object.__getattribute__") (by kernel_rfl) (by decide +kernel) (by decide +kernel) (by kernel_rfl)
theorem meets_getattribute_miss_zip (a:Addr) (fs:Array Value) (sl:Array (Option Value)) (name:Str) (u:Tok) (hmiss:typeLookup (.type "zip") name=pure none) (hname:(["__module__","__name__","__qualname__","__doc__","__annotations__"]:List Str).contains name=false) (hsz:name.length + 100≤sizeLine:=by size_fits) :
    Meets (Builtin.«object.__getattribute__» ⟨[.ref a,.str name u],[]⟩) (fun A R s=>s.heap.get? a=some { cls:=.type "zip",dict:=none,data:=.fields fs,slots:=sl }∧raisesAttr (.ref a) name A R s):=
  Meets.of_wp fun prog w A R s hs=>by
    obtain ⟨hp,g,d,tk,os⟩:=s
    obtain ⟨hx,hs⟩:=hs
    have hT:(⟨hp,g,d,tk,os⟩:Shared).TypeIs (.ref a) "zip":=⟨_,hx,rfl⟩
    unfold Builtin.«object.__getattribute__»
    repeat (any_goals (first | assumption | wp_step))
    simp only [hname,Bool.false_eq_true,if_false]
    repeat (any_goals (first | assumption | wp_step))
    exact wpAny_raiseAttrError hs.1 hs.2 (attrMsg_fits (by decide +kernel) hsz)
theorem keys_zip {prog:Program} {w:World} {A:Around} {E:Value→Shared→Prop} {s:Shared} {a:Addr} {fs:Array Value} {Q:Option Value→Shared→Prop} {sl:Array (Option Value)}
    (hx:s.heap.get? a=some { cls:=.type "zip",dict:=none,data:=.fields fs,slots:=sl }) (hA:A.handled=none)
    (h:∀ h' tk,(∀ b u,s.heap.get? b=some u→h'.get? b=some u)→Q none { s with heap:=h',toks:=tk }):wpAny (model prog w) A (getAttr? (.ref a) "keys") Q E s:=by
  obtain ⟨hp,g,d,tk,os⟩:=s
  have hT:∀ tk',(⟨hp,g,d,tk',os⟩:Shared).TypeIs (.ref a) "zip":=fun _=>⟨_,hx,rfl⟩
  have f1:=sub_AttributeError
  have f3:=F.slot_zip_getattribute.lookup
  have f4:=F.slot_zip_getattribute.bind (.ref a)
  have f5:=zip_getattr_none
  unfold getAttr? getAttrBy? getAttrBy
  repeat (any_goals (first | assumption | exact hT _ | ((with_reducible show wpAny _ _ (call (Value.builtin "zip.__getattribute__") _ _) _ _ _);refine call_meets F.slot_zip_getattribute (hT _) entry_zip_getattribute (F.args_zip_getattribute_2 _ _) (meets_getattribute_miss_zip a fs sl "keys" _ lk_zip_keys (by decide +kernel) (by decide +kernel)) ⟨hx,hA,fun h' tk' e hx'=>?_⟩) | wp_step))
  obtain ⟨t',u',he⟩:=hx'.there
  show wpAny _ _ (getattributeRaised _ _ _ _ _ _ _) _ _ _
  unfold getattributeRaised
  repeat (any_goals (first | assumption | wp_step))
  exact h _ _ hx'.keeps
namespace F
theorem entry_dict_update_loop:entryFor table "dict.update.loop"=some Builtin.«dict.update.loop»:=entryFor_of_tree (by kernel_rfl)
theorem plain_dict_update_loop:plainId "dict.update.loop"=true:=by decide +kernel
end F
def ItAt (tp:Bool) (h:Heap) (i l:Addr) (k:Nat):Prop:=match tp with
  | true=>h.IsTupleIter i l k
  | false=>h.IsListIter i l k
def SqAtH (tp:Bool) (h:Heap) (l:Addr) (xs:Array Value):Prop:=match tp with
  | true=>h.IsTuple l xs
  | false=>h.IsList l xs
theorem ItAt.at {tp:Bool} {h h':Heap} {i l:Addr} {k:Nat} (x:ItAt tp h i l k) (e:∀ o,h.get? i=some o→h'.get? i=some o):ItAt tp h' i l k:=by
  cases tp with
  | true=>exact Heap.IsTupleIter.at (show h.IsTupleIter i l k from x) e
  | false=>exact Heap.IsListIter.at (show h.IsListIter i l k from x) e
theorem SqAtH.at {tp:Bool} {h h':Heap} {l:Addr} {xs:Array Value} (x:SqAtH tp h l xs) (e:∀ o,h.get? l=some o→h'.get? l=some o):SqAtH tp h' l xs:=by
  cases tp with
  | true=>obtain ⟨o,ho,r⟩:=(show h.IsTuple l xs from x);exact ⟨o,e o ho,r⟩
  | false=>exact Heap.IsList.at (show h.IsList l xs from x) e
theorem ItAt.extBut {tp:Bool} {h h':Heap} {i l b:Addr} {k:Nat} (x:ItAt tp h i l k) (hs:Heap.ExtBut b h h') (n:i≠b):ItAt tp h' i l k:=x.at fun o e=>hs i o n e
theorem SqAtH.extBut {tp:Bool} {h h':Heap} {l b:Addr} {xs:Array Value} (x:SqAtH tp h l xs) (hs:Heap.ExtBut b h h') (n:l≠b):SqAtH tp h' l xs:=x.at fun o e=>hs l o n e
theorem ItAt.lt {tp:Bool} {h:Heap} {i l:Addr} {k:Nat} (x:ItAt tp h i l k):i < h.objs.size:=by
  cases tp with
  | true=>obtain ⟨o,ho,_⟩:=(show h.IsTupleIter i l k from x);exact Heap.lt_size ho
  | false=>obtain ⟨o,ho,_⟩:=(show h.IsListIter i l k from x);exact Heap.lt_size ho
theorem SqAtH.lt {tp:Bool} {h:Heap} {l:Addr} {xs:Array Value} (x:SqAtH tp h l xs):l < h.objs.size:=by
  cases tp with
  | true=>obtain ⟨o,ho,_⟩:=(show h.IsTuple l xs from x);exact Heap.lt_size ho
  | false=>obtain ⟨o,ho,_⟩:=(show h.IsList l xs from x);exact Heap.lt_size ho
def itObj (tp:Bool) (l:Addr):Obj:={ cls:=.type (if tp then "tuple_iterator" else "list_iterator"),data:=.fields #[.ref l,.int 0 0] }
section
variable {prog:Program} {w:World} {A:Around} {E:Value→Shared→Prop} {s:Shared}
theorem pyIter_seq {tp:Bool} {l:Addr} {xs:Array Value} {Q:Value→Shared→Prop} (hl:SqAtH tp s.heap l xs) (hQ:Q (.ref s.heap.objs.size) { s with heap:=s.heap.push (itObj tp l) }):wpAny (model prog w) A (pyIter (.ref l)) Q E s:=by
  cases tp with
  | true=>exact wpAny_pyIter_tuple (show s.heap.IsTuple l xs from hl) hQ
  | false=>exact wpAny_pyIter_list (show s.heap.IsList l xs from hl) hQ
theorem itAt_new {tp:Bool} {l:Addr} (h:Heap):ItAt tp (h.push (itObj tp l)) h.objs.size l 0:=by
  cases tp with
  | true=>exact ⟨_,Heap.get?_push_size _ rfl,rfl,rfl⟩
  | false=>exact ⟨_,Heap.get?_push_size _ rfl,rfl,rfl⟩
theorem nextOf_tuple_item {it t:Addr} {i:Nat} {items} {x:Value} {Q:Value→Shared→Prop} (hit:s.heap.IsTupleIter it t i)
    (ht:s.heap.IsTuple t items) (hx:items[i]?=some x)
    (hQ:∀ h',h'.IsTupleIter it t (i + 1)→Heap.SameBut it s.heap h'→Q x { s with heap:=h' }) :
    wpAny (model prog w) A (Builtin.SmallTypes.nextOf (.ref it)) Q E s:=by
  obtain ⟨o,ho,hc,hd⟩:=id hit
  obtain ⟨ol,hol,_,nl,hdl⟩:=ht
  unfold Builtin.SmallTypes.nextOf
  refine wpAny_bind (wpAny_callSpecial?_slot (name:=Str.ofString "__next__") hit.typeIs F.slot_tuple_iterator_next
    (wpAny_call_entry F.slot_tuple_iterator_next hit.typeIs F.entry_tuple_iterator_next ?_ (F.args_tuple_iterator_next_1 _)))
  show wpAny _ _ (field (.ref it) 0 >>= _) _ _ s
  refine wpAny_bind (wpAny_field ho hd (x:=.ref t) rfl ?_)
  show wpAny _ _ (if (Value.ref t == Value.none)=true then _ else _) _ _ s
  rw [if_neg (show ¬ ((Value.ref t == Value.none)=true) from Bool.false_ne_true)]
  show wpAny _ _ (field (.ref it) 1 >>= _) _ _ s
  refine wpAny_bind (wpAny_field ho hd (x:=.int i 0) rfl ?_)
  show wpAny _ _ (seqItems? (.ref t) >>= _) _ _ s
  refine wpAny_bind (wpAny_seqItems hol hdl ?_)
  simp only [Int.toNat_natCast,hx]
  refine wpAny_bind (wpAny_setField ho hd (by simp) (wpAny_pure ⟨x,rfl,wpAny_pure (hQ _ ?_ (Heap.SameBut.update ..))⟩))
  exact ⟨_,Heap.get?_update_self _ ho (Obj.isFreed_of_fields (Obj.data_mapFields hd _)),(Obj.cls_mapFields ..).trans hc,by
    rw [Obj.data_mapFields hd];simp [rawInt]⟩
theorem nextOf_tuple_end {it t:Addr} {i:Nat} {items} {Q:Value→Shared→Prop} (hh:A.handled=none)
    (hit:s.heap.IsTupleIter it t i) (ht:s.heap.IsTuple t items) (hx:items[i]?=none)
    (hE:∀ h' e,Heap.ExtBut it s.heap h'→(∃ o,h'.get? e=some o∧o.cls=.type "StopIteration")→E (.ref e) { s with heap:=h' }):wpAny (model prog w) A (Builtin.SmallTypes.nextOf (.ref it)) Q E s:=by
  obtain ⟨o,ho,hc,hd⟩:=id hit
  obtain ⟨ol,hol,_,nl,hdl⟩:=ht
  unfold Builtin.SmallTypes.nextOf
  refine wpAny_bind (wpAny_callSpecial?_slot (name:=Str.ofString "__next__") hit.typeIs F.slot_tuple_iterator_next
    (wpAny_call_entry F.slot_tuple_iterator_next hit.typeIs F.entry_tuple_iterator_next ?_ (F.args_tuple_iterator_next_1 _)))
  show wpAny _ _ (field (.ref it) 0 >>= _) _ _ s
  refine wpAny_bind (wpAny_field ho hd (x:=.ref t) rfl ?_)
  show wpAny _ _ (if (Value.ref t == Value.none)=true then _ else _) _ _ s
  rw [if_neg (show ¬ ((Value.ref t == Value.none)=true) from Bool.false_ne_true)]
  show wpAny _ _ (field (.ref it) 1 >>= _) _ _ s
  refine wpAny_bind (wpAny_field ho hd (x:=.int i 0) rfl ?_)
  show wpAny _ _ (seqItems? (.ref t) >>= _) _ _ s
  refine wpAny_bind (wpAny_seqItems hol hdl ?_)
  simp only [Int.toNat_natCast,hx]
  refine wpAny_bind (wpAny_rule (wpAny_bind (wpAny_setField ho hd (by simp) ?_)))
  show wpAny _ _ (newExc (.type "StopIteration") [] >>= _) _ _ _
  refine wpAny_bind ?_
  simp only [newExc,newTuple]
  refine wpAny_bind (wpAny_newObj_type ?_ (by size_fits))
  refine wpAny_bind (m:=firstArgMember _ _) (wpAny_of_eq (a:=Value.none) (by first | rfl | (simp only [firstArgMember];rfl)) ?_)
  refine wpAny_newObj_type ?_ (by size_fits)
  simp only [raiseNew]
  refine wpAny_bind (wpAny_handled ?_)
  first | rw [show A.in1.handled=none from hh] | rw [hh]
  refine wpAny_bind (wpAny_pure (wpAny_throw ?_))
  exact hE _ _ (((Heap.SameBut.update ..).extBut.push _).push _) ⟨_,Heap.get?_push_size _ rfl,rfl⟩
theorem nextOf_item {tp:Bool} {it l:Addr} {i:Nat} {xs:Array Value} {x:Value} {Q:Value→Shared→Prop} (hit:ItAt tp s.heap it l i) (hl:SqAtH tp s.heap l xs) (hx:xs[i]?=some x)
    (hQ:∀ h',ItAt tp h' it l (i + 1)→Heap.SameBut it s.heap h'→Q x { s with heap:=h' }):wpAny (model prog w) A (Builtin.SmallTypes.nextOf (.ref it)) Q E s:=by
  cases tp with
  | true=>exact nextOf_tuple_item hit hl hx hQ
  | false=>exact wpAny_nextOf_list_item hit hl hx hQ
theorem nextOf_end {tp:Bool} {it l:Addr} {i:Nat} {xs:Array Value} {Q:Value→Shared→Prop} (hh:A.handled=none) (hit:ItAt tp s.heap it l i) (hl:SqAtH tp s.heap l xs) (hx:xs[i]?=none)
    (hE:∀ h' e,Heap.ExtBut it s.heap h'→(∃ o,h'.get? e=some o∧o.cls=.type "StopIteration")→E (.ref e) { s with heap:=h' }):wpAny (model prog w) A (Builtin.SmallTypes.nextOf (.ref it)) Q E s:=by
  cases tp with
  | true=>exact nextOf_tuple_end hh hit hl hx hE
  | false=>exact wpAny_nextOf_list_end hh hit hl hx hE
end
abbrev IsZipB (h:Heap) (z TI TO T0:Addr) (b:Bool):Prop:=
  h.get? z=some { cls:=.type "zip",dict:=none,data:=.fields #[rawInt T0,.bool b,.bool false,.ref TI,.ref TO],slots:=#[] }
section
variable {prog:Program} {w:World} {A:Around} {E:Value→Shared→Prop} {s:Shared} {t1 t2:Bool}
theorem wpAny_lia {a:Addr} {Q:Option Obj→Shared→Prop} (h:Q (s.heap.get? a) s):wpAny (model prog w) A (loadIfAlive a) Q E s:=fun Γ p hin=>by
  show wp _ Γ (Sem.loadIfAlive a Sem.pure) _ _ p s
  rw [Sem.wp_loadIfAlive]
  exact wpAny_pure (M:=model prog w) (A:=A) (E:=E) h Γ p hin
theorem zipB_item {z TI TO T0 i1 i2 l1 l2:Addr} {k1 k2:Nat} {xs ys:Array Value} {x y:Value} {b:Bool} {oT:Obj} {Q:Value→Shared→Prop} (D:ZipApart z TI TO i1 i2 l1 l2)
    (hz:IsZipB s.heap z TI TO T0 b) (hTI:IsPair s.heap TI (.ref i1) (.ref i2)) (hT0:s.heap.get? T0=some oT)
    (h1:ItAt t1 s.heap i1 l1 k1) (h2:ItAt t2 s.heap i2 l2 k2) (hl1:SqAtH t1 s.heap l1 xs) (hl2:SqAtH t2 s.heap l2 ys) (hx:xs[k1]?=some x) (hy:ys[k2]?=some y)
    (hQ:∀ h',IsZipB h' z TI TO T0 true→ItAt t1 h' i1 l1 (k1 + 1)→ItAt t2 h' i2 l2 (k2 + 1)→IsPair h' s.heap.objs.size x y→h'.objs.size=s.heap.objs.size + 1→
      (∀ c o,c≠z→c≠i1→c≠i2→s.heap.get? c=some o→h'.get? c=some o)→Q (.ref s.heap.objs.size) { s with heap:=h' }) :
    wpAny (model prog w) A (Builtin.«zip.__next__» ⟨[.ref z],[]⟩) (fun fin s'=>∃ v,fin=.done (.ret v)∧Q v s') E s:=by
  show wpAny _ _ (field (.ref z) 2 >>= _) _ _ _
  refine wpAny_bind (wpAny_field hz rfl (x:=.bool false) rfl ?_)
  show wpAny _ _ (field (.ref z) 3 >>= _) _ _ _
  refine wpAny_bind (wpAny_field hz rfl (x:=.ref TI) rfl ?_)
  refine wpAny_bind (wpAny_seqItems hTI rfl ?_)
  show wpAny _ _ (Builtin.SmallTypes.ownedTupleIsFree (.ref z) >>= _) _ _ _
  refine wpAny_bind ?_
  unfold Builtin.SmallTypes.ownedTupleIsFree
  refine wpAny_bind (wpAny_field hz rfl (x:=rawInt T0) rfl ?_)
  show wpAny _ _ (loadIfAlive (T0:Int).toNat >>= _) _ _ _
  have hn:(T0:Int).toNat=T0:=by lia
  rw [hn]
  refine wpAny_bind (wpAny_lia ?_)
  rw [hT0]
  show wpAny _ _ (field (.ref z) 1 >>= _) _ _ _
  refine wpAny_bind (wpAny_field hz rfl (x:=.bool b) rfl ?_)
  have key:∀ h₁,IsZipB h₁ z TI TO T0 true→Heap.SameBut z s.heap h₁→wpAny (model prog w) A (Builtin.SmallTypes.nextOf (.ref i1)) (fun v1 s1=>v1=x∧wpAny (model prog w) A (Builtin.SmallTypes.nextOf (.ref i2)) (fun v2 s2=>v2=y∧Q (.ref s2.heap.objs.size) { s2 with heap:=s2.heap.push { cls:=.type "tuple",data:=.seq #[x,y] } }) E s1) E { s with heap:=h₁ }:=by
    intro h₁ hz₁ hs₁
    refine nextOf_item (h1.extBut hs₁.extBut D.i1z) (hl1.extBut hs₁.extBut D.l1z) hx fun h₂ h1₂ hs₂=>⟨rfl,?_⟩
    refine nextOf_item ((h2.extBut hs₁.extBut D.i2z).extBut hs₂.extBut D.i12.symm) ((hl2.extBut hs₁.extBut D.l2z).extBut hs₂.extBut D.l2i1) hy fun h₃ h2₃ hs₃=>⟨rfl,?_⟩
    have hsz:h₃.objs.size=s.heap.objs.size:=by rw [hs₃.1,hs₂.1,hs₁.1]
    have hz₃:IsZipB h₃ z TI TO T0 true:=hs₃.extBut _ _ D.i2z.symm (hs₂.extBut _ _ D.i1z.symm hz₁)
    show Q (.ref h₃.objs.size) _
    rw [hsz]
    refine hQ _ (Heap.get?_push_of_some _ hz₃) ((h1₂.extBut hs₃.extBut D.i12).at fun o e=>Heap.get?_push_of_some _ e) (h2₃.at fun o e=>Heap.get?_push_of_some _ e) ?_ (by rw [Heap.size_push,hsz]) fun c o c1 c2 c3 e=>Heap.get?_push_of_some _ (hs₃.extBut _ _ c3 (hs₂.extBut _ _ c2 (hs₁.extBut _ _ c1 e)))
    rw [← hsz];exact Heap.get?_push_size _ rfl
  cases b with
  | true=>
    rw [if_neg (by decide)]
    refine wpAny_pure ?_
    rw [if_neg (by decide)]
    simp only [List.forIn_toArray,List.forIn_cons,List.forIn_nil]
    refine wpAny_bind (wpAny_bind (wpAny_bind (wpAny_holding ?_)))
    show wpAny _ _ (Builtin.SmallTypes.nextOf (.ref i1) >>= _) _ _ _
    refine wpAny_bind (wpAny_mono (key s.heap hz (Heap.SameBut.refl ..)) (fun v1 s1 k1=>?_) fun _ _ h=>h)
    obtain ⟨rfl,k1⟩:=k1
    refine wpAny_pure (wpAny_pure ?_)
    refine wpAny_bind (wpAny_bind (wpAny_holding ?_))
    show wpAny _ _ (Builtin.SmallTypes.nextOf (.ref i2) >>= _) _ _ _
    refine wpAny_bind (wpAny_mono k1 (fun v2 s2 k2=>?_) fun _ _ h=>h)
    obtain ⟨rfl,k2⟩:=k2
    refine wpAny_pure (wpAny_pure (wpAny_pure ?_))
    refine wpAny_bind (wpAny_newTuple ?_ (hsz:=by show 2≤sizeLine;decide))
    exact wpAny_pure ⟨_,rfl,k2⟩
  | false=>
    rw [if_pos (by decide)]
    refine wpAny_bind (wpAny_setField_rec hz (by simp) fun h₁ hz₁ hs₁=>?_)
    replace hz₁:IsZipB h₁ z TI TO T0 true:=hz₁
    refine wpAny_pure ?_
    rw [if_neg (by decide)]
    simp only [List.forIn_toArray,List.forIn_cons,List.forIn_nil]
    refine wpAny_bind (wpAny_bind (wpAny_bind (wpAny_holding ?_)))
    show wpAny _ _ (Builtin.SmallTypes.nextOf (.ref i1) >>= _) _ _ _
    refine wpAny_bind (wpAny_mono (key h₁ hz₁ hs₁) (fun v1 s1 k1=>?_) fun _ _ h=>h)
    obtain ⟨rfl,k1⟩:=k1
    refine wpAny_pure (wpAny_pure ?_)
    refine wpAny_bind (wpAny_bind (wpAny_holding ?_))
    show wpAny _ _ (Builtin.SmallTypes.nextOf (.ref i2) >>= _) _ _ _
    refine wpAny_bind (wpAny_mono k1 (fun v2 s2 k2=>?_) fun _ _ h=>h)
    obtain ⟨rfl,k2⟩:=k2
    refine wpAny_pure (wpAny_pure (wpAny_pure ?_))
    refine wpAny_bind (wpAny_newTuple ?_ (hsz:=by show 2≤sizeLine;decide))
    exact wpAny_pure ⟨_,rfl,k2⟩
theorem zipB_end {z TI TO T0 i1 i2 l1 l2:Addr} {k1 k2:Nat} {xs ys:Array Value} {b:Bool} {oT:Obj} {Q:Fin→Shared→Prop} (hh:A.handled=none) (D:ZipApart z TI TO i1 i2 l1 l2)
    (hz:IsZipB s.heap z TI TO T0 b) (hTI:IsPair s.heap TI (.ref i1) (.ref i2)) (hT0:s.heap.get? T0=some oT)
    (h1:ItAt t1 s.heap i1 l1 k1) (h2:ItAt t2 s.heap i2 l2 k2) (hl1:SqAtH t1 s.heap l1 xs) (hl2:SqAtH t2 s.heap l2 ys) (hend:xs[k1]?=none)
    (hE:∀ h' e,(∀ c o,c≠z→c≠i1→c≠i2→s.heap.get? c=some o→h'.get? c=some o)→(∃ o,h'.get? e=some o∧o.cls=.type "StopIteration")→E (.ref e) { s with heap:=h' }) :
    wpAny (model prog w) A (Builtin.«zip.__next__» ⟨[.ref z],[]⟩) Q E s:=by
  show wpAny _ _ (field (.ref z) 2 >>= _) _ _ _
  refine wpAny_bind (wpAny_field hz rfl (x:=.bool false) rfl ?_)
  show wpAny _ _ (field (.ref z) 3 >>= _) _ _ _
  refine wpAny_bind (wpAny_field hz rfl (x:=.ref TI) rfl ?_)
  refine wpAny_bind (wpAny_seqItems hTI rfl ?_)
  show wpAny _ _ (Builtin.SmallTypes.ownedTupleIsFree (.ref z) >>= _) _ _ _
  refine wpAny_bind ?_
  unfold Builtin.SmallTypes.ownedTupleIsFree
  refine wpAny_bind (wpAny_field hz rfl (x:=rawInt T0) rfl ?_)
  show wpAny _ _ (loadIfAlive (T0:Int).toNat >>= _) _ _ _
  have hn:(T0:Int).toNat=T0:=by lia
  rw [hn]
  refine wpAny_bind (wpAny_lia ?_)
  rw [hT0]
  show wpAny _ _ (field (.ref z) 1 >>= _) _ _ _
  refine wpAny_bind (wpAny_field hz rfl (x:=.bool b) rfl ?_)
  have key:∀ (h₁:Heap) (Q':Value→Shared→Prop),Heap.SameBut z s.heap h₁→wpAny (model prog w) A (Builtin.SmallTypes.nextOf (.ref i1)) Q' E { s with heap:=h₁ }:=by
    intro h₁ Q' hs₁
    refine nextOf_end hh (h1.extBut hs₁.extBut D.i1z) (hl1.extBut hs₁.extBut D.l1z) hend fun h₂ e hs₂ he=>?_
    exact hE h₂ e (fun c o c1 c2 _ x=>hs₂ _ _ c2 (hs₁.extBut _ _ c1 x)) he
  cases b with
  | true=>
    rw [if_neg (by decide)]
    refine wpAny_pure ?_
    rw [if_neg (by decide)]
    simp only [List.forIn_toArray,List.forIn_cons,List.forIn_nil]
    refine wpAny_bind (wpAny_bind (wpAny_bind (wpAny_holding ?_)))
    show wpAny _ _ (Builtin.SmallTypes.nextOf (.ref i1) >>= _) _ _ _
    exact wpAny_bind (key s.heap _ (Heap.SameBut.refl ..))
  | false=>
    rw [if_pos (by decide)]
    refine wpAny_bind (wpAny_setField_rec hz (by simp) fun h₁ hz₁ hs₁=>?_)
    refine wpAny_pure ?_
    rw [if_neg (by decide)]
    simp only [List.forIn_toArray,List.forIn_cons,List.forIn_nil]
    refine wpAny_bind (wpAny_bind (wpAny_bind (wpAny_holding ?_)))
    show wpAny _ _ (Builtin.SmallTypes.nextOf (.ref i1) >>= _) _ _ _
    exact wpAny_bind (key h₁ _ hs₁)
end
structure Marked (z TI TO:Addr) (f:Value) (b:Bool) (h h':Heap):Prop where
  at_:h'.get? z=some { cls:=.type "zip",dict:=none,data:=.fields #[f,.bool b,.bool false,.ref TI,.ref TO],slots:=#[] }
  sm:Heap.SameBut z h h'
section
variable {prog:Program} {w:World} {A:Around} {E:Value→Shared→Prop} {s:Shared} {t1 t2:Bool}
theorem mark0 {z TI TO:Addr} {f f':Value} {b:Bool} {Q:Unit→Shared→Prop} (hz:s.heap.get? z=some { cls:=.type "zip",dict:=none,data:=.fields #[f,.bool b,.bool false,.ref TI,.ref TO],slots:=#[] })
    (k:∀ h',Marked z TI TO f' b s.heap h'→Q () { s with heap:=h' }):wpAny (model prog w) A (setField (.ref z) 0 f') Q E s:=
  wpAny_setField_rec hz (by simp) fun h' a e=>k h' ⟨a,e⟩
theorem zipA_item {z TI TO i1 i2 l1 l2:Addr} {k1 k2:Nat} {xs ys:Array Value} {x y a b:Value} {Q:Value→Shared→Prop} (D:ZipApart z TI TO i1 i2 l1 l2)
    (hz:IsZip s.heap z TI TO .none) (hTI:IsPair s.heap TI (.ref i1) (.ref i2)) (hTO:IsPair s.heap TO a b)
    (h1:ItAt t1 s.heap i1 l1 k1) (h2:ItAt t2 s.heap i2 l2 k2) (hl1:SqAtH t1 s.heap l1 xs) (hl2:SqAtH t2 s.heap l2 ys) (hx:xs[k1]?=some x) (hy:ys[k2]?=some y)
    (k:∀ h',IsZipB h' z TI TO s.heap.objs.size false→ItAt t1 h' i1 l1 (k1 + 1)→ItAt t2 h' i2 l2 (k2 + 1)→IsPair h' s.heap.objs.size x y→IsPair h' TO x y→
      (∀ c o,c≠z→c≠TO→c≠i1→c≠i2→s.heap.get? c=some o→h'.get? c=some o)→Q (.ref s.heap.objs.size) { s with heap:=h' }) :
    wpAny (model prog w) A (Builtin.«zip.__next__» ⟨[.ref z],[]⟩) (fun fin s'=>∃ v,fin=.done (.ret v)∧Q v s') E s:=by
  refine wpAny_bind (m:=field (.ref z) 2) (wpAny_field hz rfl (x:=.bool false) rfl ?_)
  refine wpAny_bind (m:=field (.ref z) 3) (wpAny_field hz rfl (x:=.ref TI) rfl (wpAny_bind (wpAny_seqItems hTI rfl ?_)))
  refine wpAny_bind (m:=Builtin.SmallTypes.ownedTupleIsFree (.ref z)) (wpAny_bind (wpAny_field hz rfl (x:=.none) rfl (wpAny_pure ?_)))
  refine wpAny_bind (wpAny_rule (wpAny_bind (wpAny_field hz rfl (x:=.ref TO) rfl (wpAny_bind (mark0 hz fun g1 m1=>?_)))))
  simp only [List.zipIdx_cons,List.zipIdx_nil,List.forIn_cons,List.forIn_nil]
  have e1:=m1.sm.extBut
  refine wpAny_bind (wpAny_bind (wpAny_bind (wpAny_onRaise (wpAny_bind (m:=Builtin.SmallTypes.nextOf (.ref i1)) (nextOf_item (h1.extBut e1 D.i1z) (hl1.extBut e1 D.l1z) hx fun g2 i1' s2=>wpAny_pure ?_)))))
  have e2:=s2.extBut
  have o2:IsPair g2 TO a b:=e2 _ _ D.TOi1 (e1 _ _ D.TOz hTO)
  refine wpAny_bind (wpAny_seqItems o2 rfl (wpAny_bind (wpAny_updateSeq_pair o2 fun g3 o3 s3=>wpAny_bind (wpAny_letGo (wpAny_pure ?_)))))
  have e3:=s3.extBut
  replace o3:IsPair g3 TO x b:=o3
  refine wpAny_bind (wpAny_bind (wpAny_onRaise (wpAny_bind (m:=Builtin.SmallTypes.nextOf (.ref i2)) (nextOf_item (((h2.extBut e1 D.i2z).extBut e2 D.i12.symm).extBut e3 D.TOi2.symm) (((hl2.extBut e1 D.l2z).extBut e2 D.l2i1).extBut e3 D.l2TO) hy fun g4 i2' s4=>wpAny_pure ?_))))
  have e4:=s4.extBut
  have o4:IsPair g4 TO x b:=e4 _ _ D.TOi2 o3
  refine wpAny_bind (wpAny_seqItems o4 rfl (wpAny_bind (wpAny_updateSeq_pair o4 fun g5 o5 s5=>wpAny_bind (wpAny_letGo (wpAny_pure (wpAny_pure ?_))))))
  have e5:=s5.extBut
  replace o5:IsPair g5 TO x y:=o5
  refine wpAny_bind (wpAny_seqItems o5 rfl (wpAny_bind (wpAny_newTuple ?_)))
  have size:g5.objs.size=s.heap.objs.size:=(s5.1.trans (s4.1.trans (s3.1.trans (s2.1.trans m1.sm.1))))
  have z5:=Heap.get?_push_of_some { cls:=.type "tuple",data:=.seq #[x,y] } (e5 _ _ D.TOz.symm (e4 _ _ D.i2z.symm (e3 _ _ D.TOz.symm (e2 _ _ D.i1z.symm m1.at_))))
  have zl:z≠g5.objs.size:=by rw [size];exact Nat.ne_of_lt (Heap.lt_size hz)
  refine wpAny_bind (m:=Builtin.SmallTypes.ownedTupleHandOut (.ref z) (.ref g5.objs.size)) (wpAny_bind (mark0 z5 fun g6 m6=>wpAny_setField_rec m6.at_ (by simp) fun g7 z7 s7=>wpAny_pure ⟨_,rfl,?_⟩))
  have up:∀ c o,c≠z→g5.get? c=some o→g7.get? c=some o:=fun c o n e=>s7.extBut _ _ n (m6.sm.extBut _ _ n (Heap.get?_push_of_some _ e))
  have pr:IsPair g7 g5.objs.size x y:=s7.extBut _ _ (Ne.symm zl) (m6.sm.extBut _ _ (Ne.symm zl) (Heap.get?_push_size _ rfl))
  rw [size] at pr
  show Q (.ref g5.objs.size) _
  have z7':IsZipB g7 z TI TO g5.objs.size false:=z7
  rw [size] at z7' ⊢
  refine k g7 z7' ?_ ?_ pr (up _ _ D.TOz o5) fun c o c1 c2 c3 c4 e=>up c o c1 (e5 _ _ c2 (e4 _ _ c4 (e3 _ _ c2 (e2 _ _ c3 (e1 _ _ c1 e)))))
  · exact (((i1'.extBut e3 D.TOi1.symm).extBut e4 D.i12).extBut e5 D.TOi1.symm).at fun o e=>up _ o D.i1z e
  · exact (i2'.extBut e5 D.TOi2.symm).at fun o e=>up _ o D.i2z e
theorem zipA_end {z TI TO i1 i2 l1 l2:Addr} {k1 k2:Nat} {xs ys:Array Value} {Q:Fin→Shared→Prop} (hh:A.handled=none) (D:ZipApart z TI TO i1 i2 l1 l2)
    (hz:IsZip s.heap z TI TO .none) (hTI:IsPair s.heap TI (.ref i1) (.ref i2)) (h1:ItAt t1 s.heap i1 l1 k1) (hl1:SqAtH t1 s.heap l1 xs) (hx:xs[k1]?=none)
    (k:∀ h' e,(∀ c o,c≠z→c≠i1→c≠i2→s.heap.get? c=some o→h'.get? c=some o)→(∃ o,h'.get? e=some o∧o.cls=.type "StopIteration")→E (.ref e) { s with heap:=h' }) :
    wpAny (model prog w) A (Builtin.«zip.__next__» ⟨[.ref z],[]⟩) Q E s:=by
  refine wpAny_bind (m:=field (.ref z) 2) (wpAny_field hz rfl (x:=.bool false) rfl ?_)
  refine wpAny_bind (m:=field (.ref z) 3) (wpAny_field hz rfl (x:=.ref TI) rfl (wpAny_bind (wpAny_seqItems hTI rfl ?_)))
  refine wpAny_bind (m:=Builtin.SmallTypes.ownedTupleIsFree (.ref z)) (wpAny_bind (wpAny_field hz rfl (x:=.none) rfl (wpAny_pure ?_)))
  refine wpAny_bind (wpAny_rule (wpAny_bind (wpAny_field hz rfl (x:=.ref TO) rfl (wpAny_bind (mark0 hz fun g1 m1=>?_)))))
  simp only [List.zipIdx_cons,List.zipIdx_nil,List.forIn_cons,List.forIn_nil]
  have e1:=m1.sm.extBut
  refine wpAny_bind (wpAny_bind (wpAny_bind (wpAny_onRaise (wpAny_bind (m:=Builtin.SmallTypes.nextOf (.ref i1)) (nextOf_end hh (h1.extBut e1 D.i1z) (hl1.extBut e1 D.l1z) hx fun g2 e x2 ⟨oe,he,ce⟩=>?_)))))
  have z2:=x2 _ _ D.i1z.symm m1.at_
  have ne:e≠z:=fun q=>by subst q;rw [z2] at he;cases he;simp at ce
  exact mark0 z2 fun g3 m3=>k g3 e (fun c o c1 c2 _ q=>m3.sm.extBut _ _ c1 (x2 _ _ c2 (e1 _ _ c1 q))) ⟨oe,m3.sm.extBut _ _ ne he,ce⟩
end
abbrev zhA (t1:Bool) (h:Heap) (l1:Addr):Heap:=h.push (itObj t1 l1)
abbrev zhB (t1 t2:Bool) (h:Heap) (l1 l2:Addr):Heap:=(zhA t1 h l1).push (itObj t2 l2)
abbrev zhC (t1 t2:Bool) (h:Heap) (l1 l2:Addr):Heap:=(zhB t1 t2 h l1 l2).push { cls:=.type "tuple",data:=.seq #[.ref h.objs.size,.ref (zhA t1 h l1).objs.size] }
abbrev zhD (t1 t2:Bool) (h:Heap) (l1 l2:Addr):Heap:=(zhC t1 t2 h l1 l2).push { cls:=.type "tuple",data:=.seq #[.none,.none] }
abbrev zhE (t1 t2:Bool) (h:Heap) (l1 l2:Addr):Heap:=(zhD t1 t2 h l1 l2).push { cls:=.type "zip",data:=.fields #[.none,.bool false,.bool false,.ref (zhB t1 t2 h l1 l2).objs.size,.ref (zhC t1 t2 h l1 l2).objs.size] }
theorem meets_zip_any {t1 t2:Bool} (l1 l2:Addr) (xs ys:Array Value) :
    Meets (Builtin.«zip.__new__» ⟨[.type "zip",.ref l1,.ref l2],[]⟩) (fun _ R s=>SqAtH t1 s.heap l1 xs∧SqAtH t2 s.heap l2 ys∧
      R (.ok (.ret (.ref (zhD t1 t2 s.heap l1 l2).objs.size))) { s with heap:=zhE t1 t2 s.heap l1 l2 }):=
  .of_wp fun prog w A R s h=>by
    obtain ⟨hp,g,d,tk,os⟩:=s
    obtain ⟨a1,a2,h⟩:=h
    have hsub:=sub_zip
    have b1:SqAtH t1 (Shared.heap ⟨hp,g,d,tk,os⟩) l1 xs:=a1
    have b2:SqAtH t2 (Shared.heap ⟨hp.push (itObj t1 l1),g,d,tk,os⟩) l2 ys:=a2.at fun o e=>Heap.get?_push_of_some _ e
    wp_walk using pyIter_seq b1,pyIter_seq b2
    exact ⟨_,rfl,h⟩
section
variable {prog:Program} {w:World} {A:Around} {R:Result→Shared→Prop} {t1 t2:Bool} {K:Type} [DecidableEq K] {knd:KeyKind prog w K}
structure ZipSt (t1 t2:Bool) (z TI TO i1 i2 l1 l2:Addr) (xs ys:Array Value) (i:Nat) (h:Heap):Prop where
  ti:IsPair h TI (.ref i1) (.ref i2)
  a1:ItAt t1 h i1 l1 i
  a2:ItAt t2 h i2 l2 i
  s1:SqAtH t1 h l1 xs
  s2:SqAtH t2 h l2 ys
  st:(IsZip h z TI TO .none∧∃ a b,IsPair h TO a b)∨∃ T0 b o,IsZipB h z TI TO T0 b∧h.get? T0=some o∧o.cls=.type "tuple"
theorem ZipSt.typeIs {z TI TO i1 i2 l1 l2:Addr} {xs ys:Array Value} {i:Nat} {s:Shared} (st:ZipSt t1 t2 z TI TO i1 i2 l1 l2 xs ys i s.heap):s.TypeIs (.ref z) "zip":=by
  rcases st.st with ⟨h,_⟩ | ⟨_,_,_,h,_⟩ <;> exact ⟨_,h,rfl⟩
theorem zip_draw {E:Value→Shared→Prop} {z TI TO i1 i2 l1 l2:Addr} {xs ys:Array Value} {i:Nat} {s:Shared} {x y:Value} {Q:Option Value→Shared→Prop} (D:ZipApart z TI TO i1 i2 l1 l2) (st:ZipSt t1 t2 z TI TO i1 i2 l1 l2 xs ys i s.heap) (hx:xs[i]?=some x) (hy:ys[i]?=some y)
    (k:∀ h',ZipSt t1 t2 z TI TO i1 i2 l1 l2 xs ys (i + 1) h'→IsPair h' s.heap.objs.size x y→(∀ c o,c≠z→c≠TO→c≠i1→c≠i2→s.heap.get? c=some o→h'.get? c=some o)→Q (some (.ref s.heap.objs.size)) { s with heap:=h' }) :
    wpAny (model prog w) A (pyNext (.ref z)) Q E s:=by
  have go:∀ {h':Heap} {T0:Addr} {b:Bool} {o:Obj},IsZipB h' z TI TO T0 b→h'.get? T0=some o→o.cls=.type "tuple"→ItAt t1 h' i1 l1 (i + 1)→ItAt t2 h' i2 l2 (i + 1)→(∀ c o,c≠z→c≠TO→c≠i1→c≠i2→s.heap.get? c=some o→h'.get? c=some o)→ZipSt t1 t2 z TI TO i1 i2 l1 l2 xs ys (i + 1) h':=fun hz h0 hc b1 b2 kp=>
    ⟨kp _ _ D.TIz D.TITO D.TIi1 D.TIi2 st.ti,b1,b2,st.s1.at fun o e=>kp _ o D.l1z D.l1TO D.l1i1 D.l1i2 e,st.s2.at fun o e=>kp _ o D.l2z D.l2TO D.l2i1 D.l2i2 e,.inr ⟨_,_,_,hz,h0,hc⟩⟩
  have hT:=st.typeIs
  unfold pyNext
  refine wpAny_bind (wpAny_attempt (wpAny_callSpecial?_slot (name:=Str.ofString "__next__") hT F.slot_zip_next (wpAny_call_entry F.slot_zip_next hT F.entry_zip_next ?_ (F.args_zip_next_1 _))))
  rcases st.st with ⟨hz,a,b,ho⟩ | ⟨T0,b,o,hz,h0,hc⟩
  · exact zipA_item D hz st.ti ho st.a1 st.a2 st.s1 st.s2 hx hy fun h' z' b1 b2 pr _ kp=>wpAny_pure (k h' (go z' pr rfl b1 b2 kp) pr kp)
  · refine zipB_item D hz st.ti h0 st.a1 st.a2 st.s1 st.s2 hx hy fun h' z' b1 b2 pr _ kp=>wpAny_pure (k h' ?_ pr fun c o c1 _ c3 c4 e=>kp c o c1 c3 c4 e)
    have n0:∀ {c:Addr} {oc:Obj},s.heap.get? c=some oc→oc.cls≠.type "tuple"→T0≠c:=fun e nc q=>by subst q;rw [h0] at e;cases e;exact nc hc
    have nz:T0≠z:=n0 hz (show Value.type "zip"≠Value.type "tuple" by decide)
    have n1:T0≠i1:=by
      cases t1 with
      | true=>obtain ⟨oi,e,ci,_⟩:=(show s.heap.IsTupleIter i1 l1 i from st.a1);exact n0 e (by rw [ci];decide)
      | false=>obtain ⟨oi,e,ci,_⟩:=(show s.heap.IsListIter i1 l1 i from st.a1);exact n0 e (by rw [ci];decide)
    have n2:T0≠i2:=by
      cases t2 with
      | true=>obtain ⟨oi,e,ci,_⟩:=(show s.heap.IsTupleIter i2 l2 i from st.a2);exact n0 e (by rw [ci];decide)
      | false=>obtain ⟨oi,e,ci,_⟩:=(show s.heap.IsListIter i2 l2 i from st.a2);exact n0 e (by rw [ci];decide)
    exact go z' (kp _ _ nz n1 n2 h0) hc b1 b2 fun c o c1 _ c3 c4 e=>kp c o c1 c3 c4 e
theorem zip_over {E:Value→Shared→Prop} {z TI TO i1 i2 l1 l2:Addr} {xs ys:Array Value} {i:Nat} {s:Shared} {Q:Option Value→Shared→Prop} (hh:A.handled=none) (D:ZipApart z TI TO i1 i2 l1 l2) (st:ZipSt t1 t2 z TI TO i1 i2 l1 l2 xs ys i s.heap) (hx:xs[i]?=none)
    (k:∀ h',(∀ c o,c≠z→c≠i1→c≠i2→s.heap.get? c=some o→h'.get? c=some o)→Q none { s with heap:=h' }):wpAny (model prog w) A (pyNext (.ref z)) Q E s:=by
  have hT:=st.typeIs
  have fin:∀ (h':Heap) (e:Addr),(∀ c o,c≠z→c≠i1→c≠i2→s.heap.get? c=some o→h'.get? c=some o)→(∃ o,h'.get? e=some o∧o.cls=.type "StopIteration")→
      wpAny (model prog w) A (isInstance (.ref e) (.type "StopIteration")) (fun a s'=>a=true∧Q none s') E { s with heap:=h' }:=fun h' e kp ⟨o,ho,hc⟩=>wpAny_isInstance (T:="StopIteration") (b:=true) ⟨o,ho,hc⟩ isSubtype_stop ⟨rfl,k h' kp⟩
  unfold pyNext
  refine wpAny_bind (wpAny_attempt (wpAny_callSpecial?_slot (name:=Str.ofString "__next__") hT F.slot_zip_next (wpAny_call_entry F.slot_zip_next hT F.entry_zip_next ?_ (F.args_zip_next_1 _))))
  rcases st.st with ⟨hz,a,b,ho⟩ | ⟨T0,b,o,hz,h0,hc⟩
  · refine zipA_end (ys:=ys) (k2:=0) hh D hz st.ti st.a1 st.s1 hx fun h' e kp he=>wpAny_bind (wpAny_mono (fin h' e kp he) (fun a s' q=>?_) fun _ _ z=>z)
    obtain ⟨rfl,q⟩:=q
    exact wpAny_pure q
  · refine zipB_end hh D hz st.ti h0 st.a1 st.a2 st.s1 st.s2 hx fun h' e kp he=>wpAny_bind (wpAny_mono (fin h' e kp he) (fun a s' q=>?_) fun _ _ z=>z)
    obtain ⟨rfl,q⟩:=q
    exact wpAny_pure q
theorem ZipSt.keep {z TI TO i1 i2 l1 l2 d:Addr} {xs ys:Array Value} {i:Nat} {h h':Heap} (st:ZipSt t1 t2 z TI TO i1 i2 l1 l2 xs ys i h) (hd:d≠z∧d≠TI∧d≠TO∧d≠i1∧d≠i2∧d≠l1∧d≠l2) (nd:∀ o,h.get? d=some o→o.cls≠.type "tuple") (kp:∀ c o,c≠d→h.get? c=some o→h'.get? c=some o):ZipSt t1 t2 z TI TO i1 i2 l1 l2 xs ys i h':=by
  obtain ⟨d1,d2,d3,d4,d5,d6,d7⟩:=hd
  refine ⟨kp _ _ d2.symm st.ti,st.a1.at fun o e=>kp _ o d4.symm e,st.a2.at fun o e=>kp _ o d5.symm e,st.s1.at fun o e=>kp _ o d6.symm e,st.s2.at fun o e=>kp _ o d7.symm e,?_⟩
  rcases st.st with ⟨hz,a,b,ho⟩ | ⟨T0,b,o,hz,h0,hc⟩
  · exact .inl ⟨kp _ _ d1.symm hz,a,b,kp _ _ d3.symm ho⟩
  · exact .inr ⟨T0,b,o,kp _ _ d1.symm hz,kp _ _ (fun q=>nd o (by rw [← q];exact h0) hc) h0,hc⟩
theorem upd_zip {d z TI TO i1 i2 l1 l2:Addr} {xs ys:Array Value} {ks:List K} {res:Value} (hh:A.handled=none) (D:ZipApart z TI TO i1 i2 l1 l2) (hd:d≠z∧d≠TI∧d≠TO∧d≠i1∧d≠i2∧d≠l1∧d≠l2) (hl:xs.size=ys.size) (hk:ks.length=xs.size)
    (his:∀ (j:Nat) k x,ks[j]?=some k→xs[j]?=some x→knd.is k x=true) (hz:xs.size≤1000) :
    ∀ (m i:Nat) (s:Shared) (kvs:List (K × Value)),xs.size - i=m→i≤xs.size→ZipSt t1 t2 z TI TO i1 i2 l1 l2 xs ys i s.heap→s.heap.DictOf knd d kvs→kvs.length≤i→
      (∀ h' tk,h'.DictOf knd d (merged kvs ((ks.zip ys.toList).drop i))→(∀ c o,c≠d→c≠z→c≠TO→c≠i1→c≠i2→s.heap.get? c=some o→h'.get? c=some o)→R (.ok (.ret res)) { s with heap:=h',toks:=tk })→
      codeAny (model prog w) A (.builtin "dict.update.loop" ⟨[.ref d,.ref z,rawInt i,res],[]⟩) R s:=by
  intro m
  induction m with
  | zero=>
    intro i s kvs hm hi st dd hlen hR
    have ei:i=xs.size:=by lia
    refine codeAny_builtin F.entry_dict_update_loop ?_
    rw [Around.under_plainId F.plain_dict_update_loop _]
    show wpAny _ A.in1 (pyNext (.ref z) >>= _) _ _ s
    have hx:xs[i]?=none:=by rw [ei];exact Array.getElem?_eq_none (Nat.le_refl _)
    refine wpAny_bind (zip_over (A:=A.in1) hh D st hx fun h' kp=>?_)
    have e0:(ks.zip ys.toList).drop i=[]:=List.drop_of_length_le (by rw [List.length_zip];lia)
    rw [e0] at hR
    refine wpAny_bind (wpAny_pure (wpAny_pure (hR h' s.toks ?_ fun c o _ c2 _ c4 c5 e=>kp c o c2 c4 c5 e)))
    obtain ⟨o,es,ep,ho,r⟩:=dd
    exact ⟨o,es,ep,kp d o hd.1 hd.2.2.2.1 hd.2.2.2.2.1 ho,r⟩
  | succ m ih=>
    intro i s kvs hm hi st dd hlen hR
    refine codeAny_builtin F.entry_dict_update_loop ?_
    rw [Around.under_plainId F.plain_dict_update_loop _]
    show wpAny _ A.in1 (pyNext (.ref z) >>= _) _ _ s
    have il:i < xs.size:=by lia
    have hx:xs[i]?=some xs[i]:=Array.getElem?_eq_getElem il
    have hy:ys[i]?=some (ys[i]'(by lia)):=Array.getElem?_eq_getElem (by lia)
    refine wpAny_bind (zip_draw D st hx hy fun h' st' pr kp=>?_)
    refine wpAny_bind (wpAny_holding (wpAny_bind (wpAny_tryCatch ?_)))
    unfold Builtin.Dict.pairItems
    refine wpAny_bind (wpAny_typeOf (T:="tuple") ⟨_,pr,rfl⟩ ?_)
    rw [if_pos (by decide)]
    refine wpAny_bind (wpAny_seqItems pr rfl (wpAny_pure ?_))
    obtain ⟨o,es,ep,ho,r⟩:=dd
    have dd':h'.DictOf knd d kvs:=⟨o,es,ep,kp d o hd.1 hd.2.2.1 hd.2.2.2.1 hd.2.2.2.2.1 ho,r⟩
    have kl:i < ks.length:=by lia
    have hki:ks[i]?=some ks[i]:=List.getElem?_eq_getElem kl
    refine wpAny_holding (wpAny_dictSet_pairs (knd:=knd) (his i _ _ hki hx) dd' (fun h2 d2 s2=>?_) (hsz:=Nat.le_trans hlen (Nat.le_trans hi (Nat.le_trans hz (by decide)))))
    have e1:(i:Int) + 1=((i + 1:Nat):Int):=by lia
    refine wpAny_pure ⟨plainId_quiet F.plain_dict_update_loop _,?_⟩
    rw [e1]
    have el:(ks.zip ys.toList).drop i=(ks[i],ys[i]'(by lia))::(ks.zip ys.toList).drop (i + 1):=by
      have hz2:i < (ks.zip ys.toList).length:=by
        have e:ys.toList.length=ys.size:=Array.length_toList
        rw [List.length_zip];lia
      rw [List.drop_eq_getElem_cons hz2,List.getElem_zip]
      rfl
    rw [el] at hR
    have nd:∀ o,h'.get? d=some o→o.cls≠.type "tuple":=fun o e=>by
      obtain ⟨o',_,_,e',x,_⟩:=dd'
      rw [e] at e';cases e'
      rw [x.1];decide
    refine ih (i + 1) _ (stored kvs ks[i] (ys[i]'(by lia))) (by lia) (by lia) (st'.keep hd nd fun c o n e=>s2.extBut c o n e) d2 ?_ fun h3 tk3 d3 kp3=>?_
    · have:=merged_length_le kvs [(ks[i],ys[i]'(by lia))]
      exact Nat.le_trans this (Nat.add_le_add_right hlen 1)
    · exact hR h3 tk3 d3 fun c o c1 c2 c3 c4 c5 e=>kp3 c o c1 c2 c3 c4 c5 (s2.extBut c o c1 (kp c o c2 c3 c4 c5 e))
end
section
variable {prog:Program} {w:World} {A:Around} {E:Value→Shared→Prop} {s:Shared} {t1 t2:Bool} {K:Type} [DecidableEq K] {knd:KeyKind prog w K}
theorem dict_zip {z TI TO i1 i2 l1 l2:Addr} {xs ys:Array Value} {ks:List K} {Q:Value→Shared→Prop} {a b:Value} (hh:A.handled=none) (D:ZipApart z TI TO i1 i2 l1 l2) (hz:IsZip s.heap z TI TO .none) (hTO:IsPair s.heap TO a b) (ti:IsPair s.heap TI (.ref i1) (.ref i2))
    (a1:ItAt t1 s.heap i1 l1 0) (a2:ItAt t2 s.heap i2 l2 0) (s1:SqAtH t1 s.heap l1 xs) (s2:SqAtH t2 s.heap l2 ys) (hl:xs.size=ys.size) (hk:ks.length=xs.size)
    (his:∀ (j:Nat) k x,ks[j]?=some k→xs[j]?=some x→knd.is k x=true) (h1000:xs.size≤1000)
    (hQ:∀ h' tk,h'.DictOf knd s.heap.objs.size (merged [] (ks.zip ys.toList))→(∀ c o,c≠z→c≠TO→c≠i1→c≠i2→s.heap.get? c=some o→h'.get? c=some o)→Q (.ref s.heap.objs.size) { s with heap:=h',toks:=tk }) :
    wpAny (model prog w) A (call (.type "dict") [.ref z]) Q E s:=by
  refine callType_codes (Q₁:=fun obj s₁=>obj=.ref s.heap.objs.size∧s₁={ s with heap:=s.heap.push { cls:=.type "dict",data:=.dict #[] } }) F.kt_called_dict (F.kt_typeCall_dict_1 _) F.entry_dict_init (kt_code_dict_new _ ⟨rfl,rfl⟩) ?_
  rintro obj s₁ ⟨rfl,rfl⟩
  have dn:(s.heap.push { cls:=.type "dict",data:=.dict #[] }).DictOf knd s.heap.objs.size []:=Heap.DictOf.new s.heap
  have up:∀ c o,s.heap.get? c=some o→(s.heap.push { cls:=.type "dict",data:=.dict #[] }).get? c=some o:=fun c o e=>Heap.get?_push_of_some _ e
  refine ⟨dn.typeIs,F.args_dict_init_2 _ _,?_⟩
  refine wpAny_bind (m:=Builtin.Dict.selfAndRest _ _) (wpAny_bind (wpAny_notOrdered_dict dn.typeIs (wpAny_pure ?_)))
  show wpAny _ _ (Builtin.Dict.updateFrom "dict.__init__" s.heap.objs.size (.ref z) [] .none) _ _ _
  refine wpAny_bind (wpAny_typeOf (T:="zip") ⟨_,up _ _ hz,rfl⟩ ?_)
  rw [if_pos (by decide)]
  refine wpAny_bind (keys_zip (up _ _ hz) hh fun h1 tk1 k1=>?_)
  have k2:∀ c o,s.heap.get? c=some o→h1.get? c=some o:=fun c o e=>k1 c o (up c o e)
  rw [if_pos (show (none:Option Value).isNone=true from rfl)]
  refine wpAny_bind (wpAny_rule (wpAny_bind (wpAny_pyIter_zip (k2 _ _ hz) (wpAny_pure ⟨plainId_quiet F.plain_dict_update_loop _,?_⟩))))
  have st:ZipSt t1 t2 z TI TO i1 i2 l1 l2 xs ys 0 h1:=⟨k2 _ _ ti,a1.at fun o e=>k2 _ o e,a2.at fun o e=>k2 _ o e,s1.at fun o e=>k2 _ o e,s2.at fun o e=>k2 _ o e,.inl ⟨k2 _ _ hz,a,b,k2 _ _ hTO⟩⟩
  have lt:∀ {c o},s.heap.get? c=some o→s.heap.objs.size≠c:=fun e=>Nat.ne_of_gt (Heap.lt_size e)
  have dn1:h1.DictOf knd s.heap.objs.size []:=by
    obtain ⟨o,es,ep,ho,r⟩:=dn
    exact ⟨o,es,ep,k1 _ _ ho,r⟩
  refine upd_zip (A:=A.in1) (knd:=knd) hh D ⟨lt hz,lt ti,lt hTO,Nat.ne_of_gt a1.lt,Nat.ne_of_gt a2.lt,Nat.ne_of_gt s1.lt,Nat.ne_of_gt s2.lt⟩ hl hk his h1000 xs.size 0 _ [] rfl (Nat.zero_le _) st dn1 (Nat.zero_le _) fun h' tk d' kp=>⟨rfl,?_⟩
  exact hQ h' tk d' fun c o c2 c3 c4 c5 e=>kp c o (Ne.symm (lt e)) c2 c3 c4 c5 (k2 _ _ e)
theorem call_zip_any {l1 l2:Addr} {xs ys:Array Value} {Q:Value→Shared→Prop} (a1:SqAtH t1 s.heap l1 xs) (a2:SqAtH t2 s.heap l2 ys)
    (h:∀ h' z TI TO i1 i2,s.heap.objs.size≤TI→ZipApart z TI TO i1 i2 l1 l2→s.heap.objs.size≤z→s.heap.objs.size≤TO→s.heap.objs.size≤i1→s.heap.objs.size≤i2→IsZip h' z TI TO .none→IsPair h' TO .none .none→IsPair h' TI (.ref i1) (.ref i2)→ItAt t1 h' i1 l1 0→ItAt t2 h' i2 l2 0→
      (∀ c o,s.heap.get? c=some o→h'.get? c=some o)→Q (.ref z) { s with heap:=h' }) :
    wpAny (model prog w) A (call (.type "zip") [.ref l1,.ref l2]) Q E s:=by
  refine callType_new F.called_zip (by decide) (F.typeCall_zip_2 _ _) (F.newCall_zip_2 _ _) (fun obj=>F.args_object_init_3 obj _ _) F.entry_zip_new (meets_zip_any (t1:=t1) (t2:=t2) l1 l2 xs ys) ⟨a1,a2,?_⟩
  have zA:(zhA t1 s.heap l1).objs.size=s.heap.objs.size + 1:=Heap.size_push ..
  have zB:(zhB t1 t2 s.heap l1 l2).objs.size=s.heap.objs.size + 2:=(Heap.size_push ..).trans (by rw [zA])
  have zC:(zhC t1 t2 s.heap l1 l2).objs.size=s.heap.objs.size + 3:=(Heap.size_push ..).trans (by rw [zB])
  have zD:(zhD t1 t2 s.heap l1 l2).objs.size=s.heap.objs.size + 4:=(Heap.size_push ..).trans (by rw [zC])
  have q1:=a1.lt
  have q2:=a2.lt
  have pz:(zhE t1 t2 s.heap l1 l2).get? (zhD t1 t2 s.heap l1 l2).objs.size=some _:=Heap.get?_push_size _ rfl
  have po:(zhE t1 t2 s.heap l1 l2).get? (zhC t1 t2 s.heap l1 l2).objs.size=some _:=Heap.get?_push_of_some _ (Heap.get?_push_size _ rfl)
  have pi:(zhE t1 t2 s.heap l1 l2).get? (zhB t1 t2 s.heap l1 l2).objs.size=some _:=Heap.get?_push_of_some _ (Heap.get?_push_of_some _ (Heap.get?_push_size _ rfl))
  have b2:ItAt t2 (zhE t1 t2 s.heap l1 l2) (zhA t1 s.heap l1).objs.size l2 0:=(itAt_new (zhA t1 s.heap l1)).at fun o e=>Heap.get?_push_of_some _ (Heap.get?_push_of_some _ (Heap.get?_push_of_some _ e))
  have b1:ItAt t1 (zhE t1 t2 s.heap l1 l2) s.heap.objs.size l1 0:=(itAt_new s.heap).at fun o e=>Heap.get?_push_of_some _ (Heap.get?_push_of_some _ (Heap.get?_push_of_some _ (Heap.get?_push_of_some _ e)))
  refine ⟨⟨_,pz,rfl⟩,h _ (zhD t1 t2 s.heap l1 l2).objs.size (zhB t1 t2 s.heap l1 l2).objs.size (zhC t1 t2 s.heap l1 l2).objs.size s.heap.objs.size (zhA t1 s.heap l1).objs.size (by lia) ?_ (by lia) (by lia) (by lia) (by lia) pz po pi b1 b2 fun c o e=>
    Heap.get?_push_of_some _ (Heap.get?_push_of_some _ (Heap.get?_push_of_some _ (Heap.get?_push_of_some _ (Heap.get?_push_of_some _ e))))⟩
  rw [zD,zB,zC,zA]
  exact PyProof.Rows.zipApart_new q1 q2
end
end PySem
namespace L2
open PySem PySem.Spec PyProof.Rows
def tDictZip (K:Fg) (t:TA):TE:=fun σ H Q=>t σ H fun vs H1=>∃ (p q:Addr) (ys:List Str) (zs:List V),vs=[.ref p,.ref q]∧SqT K H1 p (ys.map V.str)∧(SqL K H1 q zs∨SqT K H1 q zs)∧ys.length=zs.length∧ys.length≤1000∧
  ∀ d,H1 d=none→Q (.ref d) (upd H1 d (.dK (mergeK [] ((ys.map Sum.inr).zip zs))))
section
variable {X:Cx}
theorem kv_zip:∀ {ks:List Key} {zs:List V} {us:List Value},Vals zs us→KV (ks.zip zs) (ks.zip us)
  | [],_,_,_=>by simp only [List.zip_nil_left];exact .nil
  | k::r,[],_,h=>by cases h;simp only [List.zip_nil_right];exact .nil
  | k::r,z::zs,_,h=>by
    cases h with
    | cons a b=>exact .cons ⟨rfl,a⟩ (kv_zip b)
theorem pe_dictZip {a b:Expr} {ta:TA} {p1 p2 pos pos2:Pos} (hg:Gl X "dict") (hg2:Gl X "zip") (hm:X.mg "dict"=none) (hm2:X.mg "zip"=none) (hc:X.calm=true) (ha:PA X [a,b] ta)
    (hs2:starEach [a,b] X.env=[(false,eval a X.env),(false,eval b X.env)]:=by rfl) (hs3:starEach [b] X.env=[(false,eval b X.env)]:=by rfl) (hs:starEach [.Call (.Name "zip" p2) [a,b] [] pos2] X.env=[(false,eval (.Call (.Name "zip" p2) [a,b] [] pos2) X.env)]:=by rfl) :
    PE X (.Call (.Name "dict" p1) [.Call (.Name "zip" p2) [a,b] [] pos2] [] pos) (tDictZip X.K ta):=by
  intro pins s σ H Q I h
  refine wpAny_Call_Name_kw (ld_blt I hg hm boot_dict ?_)
  refine PyProof.Rows.callWith_type1 ?_ hs rfl
  rw [hs]
  show wpAny _ _ (spliced ((false,eval (.Call (.Name "zip" p2) [a,b] [] pos2) X.env)::backTo pos [])) _ _ s
  refine Calls.spliced_cons ?_
  refine wpAny_Call_Name_kw (ld_blt I hg2 hm2 boot_zip ?_)
  refine PyProof.Rows.callWith_type1 (thn (ha pos2 pins s σ H _ I h) fun us s1 ⟨vs,H1,I1,r1,q1⟩=>?_) (by rw [hs2,hs3]) (by rw [hs3];rfl)
  obtain ⟨p,q,ys,zs,rfl,hp,hq,hl,h1000,k⟩:=q1
  obtain ⟨u,u',rfl,rp,rq⟩:=vals2 r1
  cases rp
  cases rq
  obtain ⟨its1,rv1,pl1,z1⟩:=I1.tuple hp
  have l1:=rv1.length
  rw [List.length_map] at l1
  have fin:∀ (t2:Bool) (its2:List Value),SqAtH t2 s1.heap q its2.toArray→Vals zs its2→wpAny (model X.prog X.w) X.A (call (.type "zip") [.ref p,.ref q]) (fun v s'=>wpAny (model X.prog X.w) X.A (spliced (backTo pos [])) (fun vs s2=>wpAny (model X.prog X.w) X.A (call (.type "dict") (v::vs)) (EP X pins σ Q) X.xe s2) X.xe s') X.xe s1:=fun t2 its2 a2 rv2=>by
    have l2:=rv2.length
    refine call_zip_any (t1:=true) (t2:=t2) (xs:=its1.toArray) (ys:=its2.toArray) (show s1.heap.IsTuple p its1.toArray from pl1) a2 fun h' z TI TO i1 i2 _ D gz gO g1 g2 hz hO hI b1 b2 kp=>Calls.spliced_nil ?_
    have a1':SqAtH true h' p its1.toArray:=(show SqAtH true s1.heap p its1.toArray from pl1).at fun o e=>kp _ o e
    refine dict_zip (t1:=true) (t2:=t2) (K:=Key) (knd:=mixKind X.prog X.w) (ks:=ys.map Sum.inr) (I1.ok.hd hc) D hz hO hI b1 b2 a1' (a2.at fun o e=>kp _ o e) (by simp;lia) (by simp;lia) (fun j k x hk hx=>?_) (by simp;lia) fun h2 tk d2 kp2=>?_
    · rw [List.getElem?_map] at hk
      cases ey:ys[j]? with
      | none=>rw [ey] at hk;cases hk
      | some y=>
        rw [ey] at hk
        have hk':Sum.inr y=k:=Option.some.inj hk
        subst hk'
        obtain ⟨u,hu,ru⟩:=rv1.get (i:=j) (x:=.str y) (by rw [List.getElem?_map,ey];rfl)
        have hx':its1[j]?=some x:=by simpa using hx
        rw [hu] at hx';cases hx'
        exact kV_is (k:=Sum.inr y) ru
    · have k0:∀ c o,s1.heap.get? c=some o→h2.get? c=some o:=fun c o e=>by
        have lt:=Heap.lt_size e
        exact kp2 c o (Nat.ne_of_lt (Nat.lt_of_lt_of_le lt gz)) (Nat.ne_of_lt (Nat.lt_of_lt_of_le lt gO)) (Nat.ne_of_lt (Nat.lt_of_lt_of_le lt g1)) (Nat.ne_of_lt (Nat.lt_of_lt_of_le lt g2)) (kp c o e)
      have big:=I1.big
      have lt2:s1.heap.objs.size≤h'.objs.size:=Nat.le_trans gz (Nat.le_of_lt (Heap.lt_size hz))
      have kvz:KV (mergeK [] ((ys.map Sum.inr).zip zs)) (merged [] ((ys.map Sum.inr).zip its2)):=KV.merge (kv_zip rv2) .nil
      have hlen:(mergeK [] ((ys.map Sum.inr).zip zs)).length≤sizeLine:=Nat.le_trans (length_mergeK _ _) (by simp only [List.length_nil,List.length_zip,List.length_map];exact Nat.le_trans (by lia) (show 1000≤sizeLine by decide))
      have hn:H1 h'.objs.size=none:=I1.hok.fresh lt2
      refine ⟨.ref h'.objs.size,_,I1.laid (t':=tk) (o:=.dK (mergeK [] ((ys.map Sum.inr).zip zs))) k0 lt2 (dk_new hlen (beq_eq_false_iff_ne.mpr (Nat.ne_of_gt (Nat.lt_of_lt_of_le big lt2))) kvz (by simpa using d2)),rfl,k _ hn⟩
  rcases hq with hq | hq
  · obtain ⟨its2,rv2,pl2,z2⟩:=I1.list hq
    exact fin false its2 pl2.isList rv2
  · obtain ⟨its2,rv2,pl2,z2⟩:=I1.tuple hq
    exact fin true its2 pl2 rv2
theorem qe_dictZip {a b:Expr} {ta:TA} {p1 p2 pos pos2:Pos} (hg:Gl X "dict") (hg2:Gl X "zip") (hm:X.mg "dict"=none) (hm2:X.mg "zip"=none) (hc:X.calm=true) (ha:QA X [a,b] ta)
    (hs2:starEach [a,b] X.env=[(false,eval a X.env),(false,eval b X.env)]:=by rfl) (hs3:starEach [b] X.env=[(false,eval b X.env)]:=by rfl) (hs:starEach [.Call (.Name "zip" p2) [a,b] [] pos2] X.env=[(false,eval (.Call (.Name "zip" p2) [a,b] [] pos2) X.env)]:=by rfl) :
    QE X (.Call (.Name "dict" p1) [.Call (.Name "zip" p2) [a,b] [] pos2] [] pos) (tDictZip X.K ta):=⟨pe_dictZip hg hg2 hm hm2 hc ha.up hs2 hs3 hs⟩
end
section
variable {X:Cx} {C:Addr} {m x:Str} {ps:List Str} {k:Nat} {sp:Sp} {e o:Expr} {es:List Expr} {ta:TE} {t:TA} {p pos apos:Pos}
theorem qe_dget {d i:Expr} {td ty:TE} (hu:X.A.units + 1 < cLine) (ho:QE X d td) (hi:QE X i ty) (hs:NoSl i):QE X (.Subscript d i pos) (tDGet td ty):=⟨pe_dget hu ho.up hi.up hs⟩
end
def rCopyD:List V→Hp→VK→Prop:=fun xs H Q=>∃ (a:Addr) (kvs:List (Key × V)),xs=[.ref a]∧H a=some (.dK kvs)∧∀ p,H p=none→Q (.ref p) (upd H p (.dK kvs))
theorem call_copyD {X:Cx}:CallR X (.type "dict") rCopyD:=by
  intro pins s σ H xs us Q I r h
  obtain ⟨a,kvs,rfl,e,q⟩:=h
  obtain ⟨u,rfl,rx⟩:=vals1 r
  cases rx
  exact d_copyOf I (.inl e) fun p s' hn I'=>⟨.ref p,_,I',rfl,q p hn⟩
section
variable {X:Cx}
theorem deep_all {es:List Bool} {us vs:List Value} (h1:us.length=es.length) (h2:vs.length=es.length):((List.range (min us.toArray.size vs.toArray.size)).all (fun j=>(es[j]?).getD false) && us.toArray.size == vs.toArray.size)=es.all id:=by
  rw [List.size_toArray,List.size_toArray,h1,h2,Nat.min_self,all_ix]
  simp
end
inductive EqN (K:Fg) (H:Hp):Nat→V→V→Bool→Prop where
  | flat {d:Nat} {x y:V} (hx:flatV x=true) (hy:flatV y=true):EqN K H d x y (eqV x y)
  | same {d:Nat} {a:Addr}:EqN K H d (.ref a) (.ref a) true
  | lists {d:Nat} {a b:Addr} {us vs:List V} {es:List Bool} (n:a≠b) (ha:SqL K H a us) (hb:SqL K H b vs) (l1:us.length=vs.length) (l2:es.length=us.length) (h:∀ (j:Nat) x y e,us[j]?=some x→vs[j]?=some y→es[j]?=some e→EqN K H d x y e):EqN K H (d + 1) (.ref a) (.ref b) (es.all id)
  | listsL {d:Nat} {a b:Addr} {us vs:List V} (n:a≠b) (ha:SqL K H a us) (hb:SqL K H b vs) (l1:us.length≠vs.length):EqN K H (d + 1) (.ref a) (.ref b) false
  | tups {d:Nat} {a b:Addr} {us vs:List V} {es:List Bool} (n:a≠b) (ha:SqT K H a us) (hb:SqT K H b vs) (l1:us.length=vs.length) (l2:es.length=us.length) (h:∀ (j:Nat) x y e,us[j]?=some x→vs[j]?=some y→es[j]?=some e→EqN K H d x y e):EqN K H (d + 1) (.ref a) (.ref b) (es.all id)
section
variable {X:Cx}
theorem hits_of {A:Around} {s:Shared} {kb:List (Key × V)} {vb:List (Key × Value)} (rb:KV kb vb) {ka:List (Key × V)} {va:List (Key × Value)} (ra:KV ka va):∀ (f:Nat→V),(∀ (j:Nat) k v,ka[j]?=some (k,v)→valV kb k=some (f j))→(∀ (j:Nat) k v u w,ka[j]?=some (k,v)→RelV v u→RelV (f j) w→SeqAt.EqAt A s u w true)→PySem.W.KeqHits A s vb va true:=by
  induction ra with
  | nil=>intro f _ _;exact .nil
  | @cons p q ps qs r _ ih=>
    intro f h1 h2
    obtain ⟨k,v⟩:=p
    obtain ⟨k',u⟩:=q
    obtain ⟨e,rv⟩:=r
    have e':k=k':=e
    subst e'
    have hv:=h1 0 k v rfl
    have rel:=rb.val k
    rw [hv] at rel
    obtain ⟨w,hw,rw'⟩:=RelO.some_of rel
    have hh:=ih (fun j=>f (j + 1)) (fun j k v e=>h1 (j + 1) k v e) fun j k v u w e=>h2 (j + 1) k v u w e
    exact .hit hw (h2 0 k v u w rfl rv rw') hh
theorem each_at {A:Around} {s:Shared} {xs ys:List V} {us vs:List Value} {es:List Bool} (r1:Vals xs us) (r2:Vals ys vs) (hl:xs.length=ys.length) (he:es.length=xs.length)
    (h:∀ (j:Nat) a b e u v,xs[j]?=some a→ys[j]?=some b→es[j]?=some e→RelV a u→RelV b v→SeqAt.EqAt A s u v e) :
    ∀ j (h1:j < us.toArray.size) (h2:j < vs.toArray.size),SeqAt.EqAt A s us.toArray[j] vs.toArray[j] ((es[j]?).getD false):=by
  intro j h1 h2
  have l1:=r1.length
  have l2:=r2.length
  rw [List.size_toArray] at h1 h2
  have j1:j < xs.length:=by lia
  have j2:j < ys.length:=by lia
  have j3:j < es.length:=by lia
  obtain ⟨u,hu',ru⟩:=r1.get (List.getElem?_eq_getElem j1)
  obtain ⟨v,hv,rv⟩:=r2.get (List.getElem?_eq_getElem j2)
  have eu:us.toArray[j]=u:=by
    have:=List.getElem?_eq_getElem h1
    rw [hu'] at this
    simpa using (Option.some.inj this).symm
  have ev:vs.toArray[j]=v:=by
    have:=List.getElem?_eq_getElem h2
    rw [hv] at this
    simpa using (Option.some.inj this).symm
  rw [eu,ev,List.getElem?_eq_getElem j3,Option.getD_some]
  exact h j _ _ _ _ _ (List.getElem?_eq_getElem j1) (List.getElem?_eq_getElem j2) (List.getElem?_eq_getElem j3) ru rv
theorem each_all {es:List Bool} {us:List Value} (h1:us.length=es.length):(List.range us.toArray.size).all (fun j=>(es[j]?).getD false)=es.all id:=by
  rw [List.size_toArray,h1,all_ix]
theorem eqN_at {pins:List (Addr × Obj)} {σ:St} {H:Hp} {s:Shared} (I:Inv X pins σ H s) {d:Nat} {x y:V} {b:Bool} (h:EqN X.K H d x y b):∀ {A:Around} {u v:Value},A.units + d < cLine→RelV x u→RelV y v→SeqAt.EqAt A s u v b:=by
  induction h with
  | flat hx hy=>exact fun _ rx ry=>eqAt_V rx ry hx hy
  | same=>
    intro A u v _ rx ry
    cases rx
    cases ry
    exact SeqAt.EqAt.same _
  | @lists d a b us vs es n ha hb hl he h ih=>
    intro A u v hu rx ry
    cases rx
    cases ry
    obtain ⟨us',r1,t1,_⟩:=I.list ha
    obtain ⟨vs',r2,t2,_⟩:=I.list hb
    have l1:=r1.length
    have l2:=r2.length
    have:=SeqAt.EqAt.of_refs n (SeqAt.RcAt.lists (A:=A) t1.isList t2.isList (by rw [List.size_toArray,List.size_toArray];lia) (by lia) (each_at (A:=A.in1) r1 r2 hl he fun j a b e u v e1 e2 e3 ru rv=>ih j a b e e1 e2 e3 (by show A.units + 1 + d < cLine;lia) ru rv))
    rw [each_all (by lia)] at this
    exact this
  | @listsL d a b us vs n ha hb hl=>
    intro A u v hu rx ry
    cases rx
    cases ry
    obtain ⟨us',r1,t1,_⟩:=I.list ha
    obtain ⟨vs',r2,t2,_⟩:=I.list hb
    have l1:=r1.length
    have l2:=r2.length
    exact SeqAt.EqAt.of_refs n (SeqAt.RcAt.lists_lengths (A:=A) t1.isList t2.isList (by rw [List.size_toArray,List.size_toArray];simp;lia) (by lia))
  | @tups d a b us vs es n ha hb hl he h ih=>
    intro A u v hu rx ry
    cases rx
    cases ry
    obtain ⟨us',r1,t1,_⟩:=I.tuple ha
    obtain ⟨vs',r2,t2,_⟩:=I.tuple hb
    have l1:=r1.length
    have l2:=r2.length
    have:=SeqAt.EqAt.of_refs n (SeqAt.RcAt.tuples (A:=A) (show s.heap.IsTuple a us'.toArray from t1) (show s.heap.IsTuple b vs'.toArray from t2) (by lia) (each_at (A:=A.in1) r1 r2 hl he fun j a b e u v e1 e2 e3 ru rv=>ih j a b e e1 e2 e3 (by show A.units + 1 + d < cLine;lia) ru rv))
    rw [deep_all (by lia) (by lia)] at this
    exact this
def rEqN (K:Fg) (neg:Bool):R2:=fun x y H Q=>∃ (p q:Addr) (xs ys:List V),x=.ref p∧y=.ref q∧((SqL K H p xs∧SqL K H q ys)∨(SqT K H p xs∧SqT K H q ys∧xs.length=ys.length))∧
  ((xs.length≠ys.length∧Q (.bl neg) H)∨∃ es:List Bool,xs.length=ys.length∧es.length=xs.length∧(∀ (j:Nat) a b e,xs[j]?=some a→ys[j]?=some b→es[j]?=some e→EqN K H 4 a b e)∧Q (.bl (if neg then !es.all id else es.all id)) H)
theorem op_eqN (hu:X.A.units + 5 < cLine):OpR X (compareOp .Eq) (rEqN X.K false):=by
  intro pins s σ H x y v u Q I rx ry h
  obtain ⟨p,q,xs,ys,rfl,rfl,hk,hc⟩:=h
  cases rx
  cases ry
  have hu':X.A.units < cLine:=by lia
  rcases hk with ⟨h1,h2⟩ | ⟨h1,h2,hl0⟩
  · obtain ⟨us,r1,t1,_⟩:=I.list h1
    obtain ⟨vs,r2,t2,_⟩:=I.list h2
    have l1:=r1.length
    have l2:=r2.length
    rcases hc with ⟨hl,qq⟩ | ⟨es,hl,he,hE,qq⟩
    · exact SeqAt.eq_list_lengthsAt t1.isList t2.isList (by rw [List.size_toArray,List.size_toArray];simp;lia) hu' ⟨.bl false,H,I,rfl,qq⟩
    · refine SeqAt.eq_listAt t1.isList t2.isList (by rw [List.size_toArray,List.size_toArray];lia) hu' (each_at (A:=X.A.in1) r1 r2 hl he fun j a b e u v e1 e2 e3 ru rv=>eqN_at I (hE j a b e e1 e2 e3) (by show X.A.units + 1 + 4 < cLine;lia) ru rv) ⟨.bl (es.all id),H,I,?_,qq⟩
      show Value.bool _=Value.bool _
      rw [each_all (by lia)]
  · obtain ⟨us,r1,t1,_⟩:=I.tuple h1
    obtain ⟨vs,r2,t2,_⟩:=I.tuple h2
    have l1:=r1.length
    have l2:=r2.length
    rcases hc with ⟨hl,_⟩ | ⟨es,hl,he,hE,qq⟩
    · exact absurd hl0 hl
    · refine SeqAt.eq_tupleAt (show s.heap.IsTuple p us.toArray from t1) (show s.heap.IsTuple q vs.toArray from t2) hu' (each_at (A:=X.A.in1) r1 r2 hl he fun j a b e u v e1 e2 e3 ru rv=>eqN_at I (hE j a b e e1 e2 e3) (by show X.A.units + 1 + 4 < cLine;lia) ru rv) ⟨.bl (es.all id),H,I,?_,qq⟩
      show Value.bool _=Value.bool _
      rw [deep_all (by lia) (by lia)]
theorem op_neN (hu:X.A.units + 5 < cLine):OpR X (compareOp .NotEq) (rEqN X.K true):=by
  intro pins s σ H x y v u Q I rx ry h
  obtain ⟨p,q,xs,ys,rfl,rfl,hk,hc⟩:=h
  cases rx
  cases ry
  have hu':X.A.units < cLine:=by lia
  rcases hk with ⟨h1,h2⟩ | ⟨h1,h2,hl0⟩
  · obtain ⟨us,r1,t1,_⟩:=I.list h1
    obtain ⟨vs,r2,t2,_⟩:=I.list h2
    have l1:=r1.length
    have l2:=r2.length
    rcases hc with ⟨hl,qq⟩ | ⟨es,hl,he,hE,qq⟩
    · exact SeqAt.RcNeAt.lists_lengths t1.isList t2.isList (by rw [List.size_toArray,List.size_toArray];simp;lia) hu' X.prog X.w X.xe _ ⟨.bl true,H,I,rfl,qq⟩
    · refine SeqAt.RcNeAt.lists t1.isList t2.isList (by rw [List.size_toArray,List.size_toArray];lia) hu' (each_at (A:=X.A.in1) r1 r2 hl he fun j a b e u v e1 e2 e3 ru rv=>eqN_at I (hE j a b e e1 e2 e3) (by show X.A.units + 1 + 4 < cLine;lia) ru rv) X.prog X.w X.xe _ ⟨.bl (!es.all id),H,I,?_,qq⟩
      show Value.bool _=Value.bool _
      rw [each_all (by lia)]
  · obtain ⟨us,r1,t1,_⟩:=I.tuple h1
    obtain ⟨vs,r2,t2,_⟩:=I.tuple h2
    have l1:=r1.length
    have l2:=r2.length
    rcases hc with ⟨hl,_⟩ | ⟨es,hl,he,hE,qq⟩
    · exact absurd hl0 hl
    · refine SeqAt.RcNeAt.tuples (show s.heap.IsTuple p us.toArray from t1) (show s.heap.IsTuple q vs.toArray from t2) hu' (each_at (A:=X.A.in1) r1 r2 hl he fun j a b e u v e1 e2 e3 ru rv=>eqN_at I (hE j a b e e1 e2 e3) (by show X.A.units + 1 + 4 < cLine;lia) ru rv) X.prog X.w X.xe _ ⟨.bl (!es.all id),H,I,?_,qq⟩
      show Value.bool _=Value.bool _
      rw [deep_all (by lia) (by lia)]
def rEqDk (K:Fg) (neg:Bool):R2:=fun x y H Q=>∃ (a b:Addr) (ka kb:List (Key × V)) (f:Nat→V),x=.ref a∧y=.ref b∧H a=some (.dK ka)∧H b=some (.dK kb)∧ka.length=kb.length∧(∀ (j:Nat) k v,ka[j]?=some (k,v)→valV kb k=some (f j))∧(∀ (j:Nat) k v,ka[j]?=some (k,v)→EqN K H 4 v (f j) true)∧Q (.bl (!neg)) H
theorem op_eqDk (hu:X.A.units + 5 < cLine):OpR X (compareOp .Eq) (rEqDk X.K false):=by
  intro pins s σ H x y v u Q I rx ry h
  obtain ⟨a,b,ka,kb,f,rfl,rfl,ha,hb,hl,hf,hE,qq⟩:=h
  cases rx
  cases ry
  obtain ⟨_,la,va,ra,da⟩:=dk_of I.hok ha
  obtain ⟨_,lb,vb,rb,db⟩:=dk_of I.hok hb
  refine PySem.W.keq_eq (r:=true) la lb da db (by lia) (fun _=>hits_of rb ra f hf fun j k v u w e ru rw'=>eqN_at I (hE j k v e) (by show X.A.units + 1 + 4 < cLine;lia) ru rw') ⟨.bl true,H,I,?_,qq⟩
  show Value.bool _=Value.bool _
  rw [← ra.length,← rb.length,hl];simp
theorem op_neDk (hu:X.A.units + 5 < cLine):OpR X (compareOp .NotEq) (rEqDk X.K true):=by
  intro pins s σ H x y v u Q I rx ry h
  obtain ⟨a,b,ka,kb,f,rfl,rfl,ha,hb,hl,hf,hE,qq⟩:=h
  cases rx
  cases ry
  obtain ⟨_,la,va,ra,da⟩:=dk_of I.hok ha
  obtain ⟨_,lb,vb,rb,db⟩:=dk_of I.hok hb
  refine PySem.W.keq_ne (r:=true) la lb da db (by lia) (fun _=>hits_of rb ra f hf fun j k v u w e ru rw'=>eqN_at I (hE j k v e) (by show X.A.units + 1 + 4 < cLine;lia) ru rw') ⟨.bl false,H,I,?_,qq⟩
  show Value.bool _=Value.bool _
  rw [← ra.length,← rb.length,hl];simp
def rEqU (K:Fg):R2:=fun x y H Q=>rEqN K false x y H Q∨(rEqDk K false x y H Q∨rEqG K x y H Q)
def rNeU (K:Fg):R2:=fun x y H Q=>rEqN K true x y H Q∨(rEqDk K true x y H Q∨rNeG K x y H Q)
theorem op_eqU (hu:X.A.units + 5 < cLine):OpR X (compareOp .Eq) (rEqU X.K):=(op_eqN hu).or ((op_eqDk hu).or (op_eqG (by lia)))
theorem op_neU (hu:X.A.units + 5 < cLine):OpR X (compareOp .NotEq) (rNeU X.K):=(op_neN hu).or ((op_neDk hu).or (op_neG (by lia)))
end
section
variable {X:Cx} {pins:List (Addr × Obj)} {σ:St} {H:Hp} {s:Shared} {d:Addr} {kvs:List (Key × V)} {u u':HO}
theorem Inv.retell (I:Inv X pins σ H s) (e:H d=some u) (new:ObjOk X.prog X.w (upd H d u') s.heap d u') (ht:∀ xs,u≠.tup xs) (ho:∀ x,u≠.own x) (hb:∀ ps,u≠.tbl ps) (hf:∀ o v,X.H₀ d≠some (.frz o v)):Inv X pins σ (upd H d u') s:=by
  have ne:∀ b,H b=none→b≠d:=fun b q z=>by rw [z,e] at q;cases q
  refine ⟨I.ok,I.os,I.bare,⟨I.base.keep,I.base.slot,fun b o q n x=>?_,I.base.there,fun b xs q=>?_,fun b o v q=>?_,fun b ps q=>?_⟩,I.loc,I.cell,?_,fun x c q=>?_,fun p hp=>?_,fun b v q=>?_,I.len⟩
  · have z:=I.base.free b o q n x
    rw [upd_ne (ne b z)];exact z
  · have z:=I.base.tups b xs q
    rw [upd_ne (fun c=>by rw [c,e] at z;exact ht xs (Option.some.inj z))];exact z
  · have z:=I.base.frzs b o v q
    rw [upd_ne (fun c=>hf o v (by rw [← c];exact q))];exact z
  · obtain ⟨more,z⟩:=I.base.tbls b ps q
    exact ⟨more,by rw [upd_ne (fun c=>by rw [c,e] at z;exact hb _ (Option.some.inj z))];exact z⟩
  · rw [upd_ne (ne _ I.free)];exact I.free
  · rw [upd_ne (ne _ (I.freeC x c q))];exact I.freeC x c q
  · obtain ⟨h1,h2,h3⟩:=I.pin p hp
    exact ⟨h1,by rw [upd_ne (ne _ h2)];exact h2,h3⟩
  · by_cases c:b=d
    · subst c
      rw [upd_same] at q;cases q
      exact new
    · rw [upd_ne c] at q
      refine (I.hok b v q).stay (fun _ _ _ z=>z) (fun a z=>?_) fun a xs z=>?_
      · rw [upd_ne (fun c'=>by rw [c',e] at z;exact ho _ (Option.some.inj z))];exact z
      · rw [upd_ne (fun c'=>by rw [c',e] at z;exact ht _ (Option.some.inj z))];exact z
theorem Inv.unfrz (I:Inv X pins σ H s) (e:H d=some (.dK kvs)):∀ o v,X.H₀ d≠some (.frz o v):=fun o v q=>by
  have:=I.base.frzs d o v q
  rw [e] at this;cases this
theorem Inv.freeze (I:Inv X pins σ H s) (e:H d=some (.dK kvs)):∃ o,s.heap.get? d=some o∧Inv X pins σ (upd H d (.frz o (.dK kvs))) s:=by
  have k:=I.hok d _ e
  obtain ⟨z,lo,vs,r,o,es,ep,h1,h2⟩:=id k
  exact ⟨o,h1,I.retell e ⟨h1,z,lo,vs,r,o,es,ep,h1,h2⟩ (fun _ q=>by cases q) (fun _ q=>by cases q) (fun _ q=>by cases q) (I.unfrz e)⟩
theorem Inv.thaw {o:Obj} (I:Inv X pins σ H s) (e:H d=some (.frz o (.dK kvs))) (hf:∀ o v,X.H₀ d≠some (.frz o v)):Inv X pins σ (upd H d (.dK kvs)) s:=by
  have k:=I.hok d _ e
  exact I.retell e (k.2.stay (fun _ _ _ z=>z) (fun a z=>by rw [upd_ne (fun c'=>by rw [c',e] at z;cases z)];exact z) fun a xs z=>by rw [upd_ne (fun c'=>by rw [c',e] at z;cases z)];exact z) (fun _ q=>by cases q) (fun _ q=>by cases q) (fun _ q=>by cases q) hf
def tThaw (te:TE):TE:=fun σ H Q=>te σ H fun v H'=>Q v H'∨∃ (d:Addr) (kvs kvs':List (Key × V)) (o:Obj),H d=some (.dK kvs)∧H' d=some (.frz o (.dK kvs'))∧Q v (upd H' d (.dK kvs'))
theorem pe_thaw {e:Expr} {te:TE} (h:PE X e te):PE X e (tThaw te):=by
  intro pins s σ H Q I q
  refine thn (h pins s σ H _ I q) fun v s1 ⟨x,H1,I1,r1,q1⟩=>?_
  rcases q1 with q1 | ⟨d,kvs,kvs',o,e1,e2,q1⟩
  · exact ⟨x,H1,I1,r1,q1⟩
  · exact ⟨x,_,I1.thaw e2 (I.unfrz e1),r1,q1⟩
theorem key_rel {P:Program} {w:World} {k:Key} {u:Value} (h:(mixKind P w).is k u=true):RelV (kV k) u:=by
  cases k with
  | inl i=>
    obtain ⟨t,rfl⟩:=Value.isInt_shape (k:=i) (v:=u) h
    exact ⟨t,rfl⟩
  | inr x=>
    obtain ⟨t,rfl⟩:=Value.isStrOf_shape (x:=x) (v:=u) h
    exact ⟨t,rfl⟩
theorem frz_at {o:Obj} {es0:Array DictEntry} {ep:Nat} (I:Inv X pins σ H s) (e:H d=some (.frz o (.dK kvs))) (hep:o.data=.dict es0 ep):(d == sysModules)=false∧∃ vs,KV kvs vs∧s.heap.DictAt (mixKind X.prog X.w) d vs ep:=by
  obtain ⟨ho,z,lo,vs,r,o',es,ep',h1,h2,h3,h4⟩:=I.hok d _ e
  rw [ho] at h1;cases h1
  rw [hep] at h3;cases h3
  exact ⟨lo,vs,r,o,_,ho,h2,hep,h4⟩
end
def Itk (d:Addr) (kvs:List (Key × V)) (o:Obj):It:=⟨fun i H=>H d=some (.frz o (.dK kvs))∧i < kvs.length,fun i H x H'=>H'=H∧∃ k v,kvs[i]?=some (k,v)∧x=kV k,fun i H=>H d=some (.frz o (.dK kvs))∧kvs.length≤i⟩
theorem turn_keys {P:Program} {w:World} {K:Fg} {tg:Expr} (d it:Addr) (kvs:List (Key × V)) (o:Obj) (es0:Array DictEntry) (ep:Nat) (hep:o.data=.dict es0 ep):Turn P w K tg (Itk d kvs o) [it] it (fun i h=>h.IsKeyIter it d i kvs.length ep) where
  mem:=by simp
  obj:=fun i h st b hb=>by
    have e:b=it:=by simpa using hb
    subst e
    obtain ⟨o,e,c,d⟩:=st
    exact ⟨o,e,fun v z=>by rw [d] at z;cases z⟩
  keep:=fun i h h' st k=>st.at fun o e=>k it (by simp) o e
  item:=by
    intro X hP hw hK hc i pins s σ H E I hf st hg
    subst hP hw hK
    obtain ⟨e,hi⟩:=hg
    obtain ⟨lo,vs,rel,dd⟩:=frz_at I e hep
    have kl:=rel.length
    obtain ⟨f0,f1,f2,f3,f4,f5⟩:=hf it (by simp)
    have hi':i < vs.length:=by lia
    have keys:=rel.keys
    have hk:vs[i].1=kvs[i].1:=by
      have e1:(kvs.map (·.1))[i]?=some kvs[i].1:=by rw [List.getElem?_map,List.getElem?_eq_getElem hi];rfl
      rw [keys,List.getElem?_map,List.getElem?_eq_getElem hi'] at e1
      exact Option.some.inj e1
    refine wpAny_pyNext_dict_item (by rw [← kl];exact st) dd (k:=vs[i].1) (v:=vs[i].2) (List.getElem?_eq_getElem hi') fun key h' hkey st' sb=>?_
    have I1:Inv X pins σ H { s with heap:=h' }:=I.turned (t':=s.toks) (fun b o hb e=>(sb.2 b hb).trans e) f0 f1 f3 f4 f5
    rw [← kl] at st'
    obtain ⟨o',e',c',d'⟩:=id st'
    refine ⟨key,rfl,go_of (s:={ s with heap:=h' }) e' c' d' (by decide) ⟨kV kvs[i].1,H,I1,key_rel (P:=X.prog) (w:=X.w) (by rw [← hk];exact hkey),⟨rfl,_,_,List.getElem?_eq_getElem hi,rfl⟩,st',fun b hb=>(hf b hb).1⟩⟩
  done:=by
    intro X hP hw hK hc i pins s σ H E I hf st hg
    subst hP hw hK
    obtain ⟨e,hi⟩:=hg
    obtain ⟨lo,vs,rel,dd⟩:=frz_at I e hep
    have kl:=rel.length
    obtain ⟨f0,f1,f2,f3,f4,f5⟩:=hf it (by simp)
    exact wpAny_pyNext_dict_end (I.ok.hd hc) (by rw [← kl];exact st) dd (List.getElem?_eq_none (by lia)) fun h' eb=>⟨rfl,I.turned (t':=s.toks) (fun b o hb e=>eb b o hb e) f0 f1 f3 f4 f5⟩
  self:=fun _ _ _ _ _ st h=>wpAny_pyIter_keyiter st h
section
variable {X:Cx} {tg:Expr}
def iKeys (te:TE):TI:=fun σ H R=>te σ H fun x H1=>∃ d kvs,x=.ref d∧H1 d=some (.dK kvs)∧∀ o,R (Itk d kvs o) (upd H1 d (.frz o (.dK kvs)))
theorem pi_keys {l:Expr} {tl:TE} (hl:PE X l tl):PI X tg l (iKeys tl):=by
  intro pins s σ H R I h
  refine thn (hl pins s σ H _ I h) fun v s1 ⟨x,H1,I1,r1,q1⟩=>?_
  obtain ⟨d,kvs,rfl,e,q⟩:=q1
  cases r1
  obtain ⟨o,ho,I2⟩:=I1.freeze e
  obtain ⟨es0,ep,hep⟩:∃ es0 ep,o.data=.dict es0 ep:=by
    obtain ⟨_,_,_,_,o',es,ep,h1,_,h3,_⟩:=I1.hok d _ e
    rw [ho] at h1;cases h1
    exact ⟨es,ep,h3⟩
  obtain ⟨lo,vs,rel,dd⟩:=frz_at I2 upd_same hep
  have kl:=rel.length
  refine wpAny_pyIter_dict lo dd ?_
  refine ⟨s1.heap.objs.size,[s1.heap.objs.size],_,_,_,rfl,I2.kept (t':=s1.toks) fun b o e=>Heap.get?_push_of_some _ e,turn_keys d _ kvs o es0 ep hep,⟨_,Heap.get?_push_size _ rfl,rfl,by rw [kl];rfl⟩,fun b hb=>?_,q o⟩
  have e:b=s1.heap.objs.size:=by simpa using hb
  subst e
  exact I2.fpOk (Nat.le_refl _) (I2.hok.fresh (Nat.le_refl _))
end
end L2
end
section
namespace PySem
open Sem (wp)
section
variable {prog:Program} {w:World} {A:Around} {R:Result→Shared→Prop} {K:Type} [DecidableEq K] {knd:KeyKind prog w K}
def PairsIn (knd:KeyKind prog w K) (h:Heap) (xs:Array Value) (ks:List K) (vs:List Value):Prop:=∀ (j:Nat) k v x,ks[j]?=some k→vs[j]?=some v→xs[j]?=some x→∃ t a,x=.ref t∧h.IsTuple t #[a,v]∧knd.is k a=true
theorem PairsIn.keep {h h':Heap} {xs:Array Value} {ks:List K} {vs:List Value} (p:PairsIn knd h xs ks vs) (k:∀ c o,o.cls=.type "tuple"→h.get? c=some o→h'.get? c=some o):PairsIn knd h' xs ks vs:=fun j a b x e1 e2 e3=>by
  obtain ⟨t,y,e,⟨o,ho,hc,r⟩,i⟩:=p j a b x e1 e2 e3
  exact ⟨t,y,e,⟨o,k t o hc ho,hc,r⟩,i⟩
theorem upd_list {d it l:Addr} {xs:Array Value} {ks:List K} {vs:List Value} {res:Value} (hh:A.handled=none) (n1:d≠it) (n2:d≠l) (n3:it≠l) (hk:ks.length=xs.size) (hv:vs.length=xs.size) (hz:xs.size≤1000) :
    ∀ (m i:Nat) (s:Shared) (kvs:List (K × Value)),xs.size - i=m→i≤xs.size→s.heap.IsListIter it l i→s.heap.IsList l xs→PairsIn knd s.heap xs ks vs→s.heap.DictOf knd d kvs→kvs.length≤i→
      (∀ h' tk,h'.DictOf knd d (merged kvs ((ks.zip vs).drop i))→(∀ c o,c≠d→c≠it→s.heap.get? c=some o→h'.get? c=some o)→R (.ok (.ret res)) { s with heap:=h',toks:=tk })→
      codeAny (model prog w) A (.builtin "dict.update.loop" ⟨[.ref d,.ref it,rawInt i,res],[]⟩) R s:=by
  intro m
  induction m with
  | zero=>
    intro i s kvs hm hi hit hl P dd hlen hR
    have ei:i=xs.size:=by lia
    refine codeAny_builtin F.entry_dict_update_loop ?_
    rw [Around.under_plainId F.plain_dict_update_loop _]
    show wpAny _ A.in1 (pyNext (.ref it) >>= _) _ _ s
    refine wpAny_bind (wpAny_pyNext_list_end (A:=A.in1) hh hit hl (by rw [ei];simp) fun h' eb=>?_)
    have e0:(ks.zip vs).drop i=[]:=List.drop_of_length_le (by rw [List.length_zip];lia)
    rw [e0] at hR
    refine wpAny_bind (wpAny_pure (wpAny_pure (hR h' s.toks ?_ fun c o _ c2 e=>eb c o c2 e)))
    obtain ⟨o,es,ep,ho,r⟩:=dd
    exact ⟨o,es,ep,eb d o n1 ho,r⟩
  | succ m ih=>
    intro i s kvs hm hi hit hl P dd hlen hR
    refine codeAny_builtin F.entry_dict_update_loop ?_
    rw [Around.under_plainId F.plain_dict_update_loop _]
    show wpAny _ A.in1 (pyNext (.ref it) >>= _) _ _ s
    have il:i < xs.size:=by lia
    have hx:xs[i]?=some xs[i]:=Array.getElem?_eq_getElem il
    have kl:i < ks.length:=by lia
    have vl:i < vs.length:=by lia
    obtain ⟨t,a,et,⟨ot,hot,hct,nt,hdt⟩,his⟩:=P i ks[i] vs[i] _ (List.getElem?_eq_getElem kl) (List.getElem?_eq_getElem vl) hx
    refine wpAny_bind (wpAny_pyNext_list_item hit hl (x:=.ref t) (by rw [hx,et]) fun h' hit' sb=>?_)
    have kp:∀ c o,c≠it→s.heap.get? c=some o→h'.get? c=some o:=fun c o n e=>(sb.2 c n).trans e
    have tit:t≠it:=fun z=>by
      obtain ⟨o,ho,hc,_⟩:=hit
      rw [← z,hot] at ho;cases ho
      rw [hct] at hc
      injection hc with hc
      exact absurd hc (by decide)
    have hot':=kp t ot tit hot
    refine wpAny_bind (wpAny_holding (wpAny_bind (wpAny_tryCatch ?_)))
    unfold Builtin.Dict.pairItems
    refine wpAny_bind (wpAny_typeOf (T:="tuple") ⟨_,hot',hct⟩ ?_)
    rw [if_pos (by decide)]
    refine wpAny_bind (wpAny_seqItems hot' hdt (wpAny_pure ?_))
    obtain ⟨o,es,ep,ho,r⟩:=dd
    have dd':h'.DictOf knd d kvs:=⟨o,es,ep,kp d o n1 ho,r⟩
    refine wpAny_holding (wpAny_dictSet_pairs (knd:=knd) his dd' (fun h2 d2 s2=>?_) (hsz:=Nat.le_trans hlen (Nat.le_trans hi (Nat.le_trans hz (by decide)))))
    have e1:(i:Int) + 1=((i + 1:Nat):Int):=by lia
    refine wpAny_pure ⟨plainId_quiet F.plain_dict_update_loop _,?_⟩
    rw [e1]
    have el:(ks.zip vs).drop i=(ks[i],vs[i])::(ks.zip vs).drop (i + 1):=by
      have hz2:i < (ks.zip vs).length:=by rw [List.length_zip];lia
      rw [List.drop_eq_getElem_cons hz2,List.getElem_zip]
    rw [el] at hR
    have nd:∀ c o,o.cls=.type "tuple"→h'.get? c=some o→c≠d:=fun c o hc e z=>by
      obtain ⟨o',_,_,e',x,_⟩:=dd'
      rw [z,e'] at e;cases e
      rw [x.1] at hc
      injection hc with hc
      exact absurd hc (by decide)
    have nit:∀ c o,o.cls=.type "tuple"→s.heap.get? c=some o→c≠it:=fun c o hc e z=>by
      obtain ⟨o',ho',hc',_⟩:=hit
      rw [z,ho'] at e;cases e
      rw [hc'] at hc
      injection hc with hc
      exact absurd hc (by decide)
    refine ih (i + 1) _ (stored kvs ks[i] vs[i]) (by lia) (by lia) (hit'.at fun o e=>s2.extBut it o (Ne.symm n1) e) ((hl.at fun o e=>kp l o (Ne.symm n3) e).at fun o e=>s2.extBut l o (Ne.symm n2) e) (P.keep fun c o hc e=>s2.extBut c o (nd c o hc (kp c o (nit c o hc e) e)) (kp c o (nit c o hc e) e)) d2 ?_ fun h3 tk3 d3 kp3=>?_
    · have:=merged_length_le kvs [(ks[i],vs[i])]
      exact Nat.le_trans this (Nat.add_le_add_right hlen 1)
    · exact hR h3 tk3 d3 fun c o c1 c2 e=>kp3 c o c1 c2 (s2.extBut c o c1 (kp c o c2 e))
end
section
variable {prog:Program} {w:World} {A:Around} {E:Value→Shared→Prop} {s:Shared} {K:Type} [DecidableEq K] {knd:KeyKind prog w K}
theorem dict_list {l:Addr} {xs:Array Value} {n:Nat} {ks:List K} {vs:List Value} {Q:Value→Shared→Prop} (hh:A.handled=none) (hl:s.heap.get? l=some { cls:=.type "list",dict:=none,data:=.seq xs n,slots:=#[] }) (hk:ks.length=xs.size) (hv:vs.length=xs.size) (hz:xs.size≤1000) (P:PairsIn knd s.heap xs ks vs)
    (hQ:∀ h' tk,h'.DictOf knd s.heap.objs.size (merged [] (ks.zip vs))→(∀ c o,s.heap.get? c=some o→h'.get? c=some o)→Q (.ref s.heap.objs.size) { s with heap:=h',toks:=tk }) :
    wpAny (model prog w) A (call (.type "dict") [.ref l]) Q E s:=by
  refine callType_codes (Q₁:=fun obj s₁=>obj=.ref s.heap.objs.size∧s₁={ s with heap:=s.heap.push { cls:=.type "dict",data:=.dict #[] } }) F.kt_called_dict (F.kt_typeCall_dict_1 _) F.entry_dict_init (kt_code_dict_new _ ⟨rfl,rfl⟩) ?_
  rintro obj s₁ ⟨rfl,rfl⟩
  have dn:(s.heap.push { cls:=.type "dict",data:=.dict #[] }).DictOf knd s.heap.objs.size []:=Heap.DictOf.new s.heap
  have up:∀ c o,s.heap.get? c=some o→(s.heap.push { cls:=.type "dict",data:=.dict #[] }).get? c=some o:=fun c o e=>Heap.get?_push_of_some _ e
  refine ⟨dn.typeIs,F.args_dict_init_2 _ _,?_⟩
  refine wpAny_bind (m:=Builtin.Dict.selfAndRest _ _) (wpAny_bind (wpAny_notOrdered_dict dn.typeIs (wpAny_pure ?_)))
  show wpAny _ _ (Builtin.Dict.updateFrom "dict.__init__" s.heap.objs.size (.ref l) [] .none) _ _ _
  refine wpAny_bind (wpAny_typeOf (T:="list") ⟨_,up _ _ hl,rfl⟩ ?_)
  rw [if_pos (by decide)]
  refine wpAny_bind (keys_list (up _ _ hl) hh fun h1 tk1 k1=>?_)
  have k2:∀ c o,s.heap.get? c=some o→h1.get? c=some o:=fun c o e=>k1 c o (up c o e)
  rw [if_pos (show (none:Option Value).isNone=true from rfl)]
  have hl1:h1.IsList l xs:=⟨_,k2 _ _ hl,rfl,n,rfl⟩
  refine wpAny_bind (wpAny_rule (wpAny_bind (wpAny_pyIter_list (s:={ s with heap:=h1,toks:=tk1 }) hl1 (wpAny_pure ⟨plainId_quiet F.plain_dict_update_loop _,?_⟩))))
  have dn1:h1.DictOf knd s.heap.objs.size []:=by
    obtain ⟨o,es,ep,ho,r⟩:=dn
    exact ⟨o,es,ep,k1 _ _ ho,r⟩
  have up2:∀ c o,h1.get? c=some o→(h1.push (itObj false l)).get? c=some o:=fun c o e=>Heap.get?_push_of_some _ e
  have llt:l < s.heap.objs.size:=Heap.lt_size hl
  have dlt:s.heap.objs.size < h1.objs.size:=let ⟨_,_,_,e,_⟩:=dn1;Heap.lt_size e
  refine upd_list (A:=A.in1) (knd:=knd) hh (it:=h1.objs.size) (Nat.ne_of_lt dlt) (Nat.ne_of_gt llt) (Nat.ne_of_gt (Nat.lt_trans llt dlt)) hk hv hz xs.size 0 _ [] rfl (Nat.zero_le _) ⟨_,Heap.get?_push_size _ rfl,rfl,rfl⟩ (hl1.at fun o e=>up2 _ o e) (P.keep fun c o _ e=>up2 c o (k2 c o e)) ?_ (Nat.zero_le _) fun h' tk d' kp=>⟨rfl,?_⟩
  · obtain ⟨o,es,ep,ho,r⟩:=dn1
    exact ⟨o,es,ep,up2 _ _ ho,r⟩
  · exact hQ h' tk d' fun c o e=>by
      have lt:=Heap.lt_size e
      exact kp c o (Nat.ne_of_lt lt) (Nat.ne_of_lt (Nat.lt_trans lt dlt)) (up2 c o (k2 c o e))
end
end PySem
end
section
namespace L2
open PySem PySem.Spec PyProof.Rows
section
variable {X:Cx}
def rDictPs (K:Fg):List V→Hp→VK→Prop:=fun xs H Q=>∃ (l:Addr) (ps:List V) (kvs:List (Key × V)),xs=[.ref l]∧H l=some (.lst ps)∧ps.length=kvs.length∧kvs.length≤1000∧(∀ (j:Nat) x k v,ps[j]?=some x→kvs[j]?=some (k,v)→∃ t,x=.ref t∧H t=some (.tup [kV k,v]))∧∀ d,H d=none→Q (.ref d) (upd H d (.dK (mergeK [] kvs)))
theorem vals_each:∀ {xs:List V} {us:List Value},us.length=xs.length→(∀ (j:Nat) x u,xs[j]?=some x→us[j]?=some u→RelV x u)→Vals xs us
  | [],[],_,_=>.nil
  | x::xs,u::us,hl,h=>.cons (h 0 x u rfl rfl) (vals_each (Nat.succ.inj hl) fun j x u e1 e2=>h (j + 1) x u e1 e2)
theorem kv_of {kvs:List (Key × V)}:∀ {vs:List Value},vs.length=kvs.length→(∀ (j:Nat) k v u,kvs[j]?=some (k,v)→vs[j]?=some u→RelV v u)→KV kvs ((kvs.map (·.1)).zip vs):=by
  induction kvs with
  | nil=>intro vs _ _;exact .nil
  | cons p r ih=>
    intro vs hl h
    cases vs with
    | nil=>cases hl
    | cons u us=>exact .cons ⟨rfl,h 0 p.1 p.2 u rfl rfl⟩ (ih (Nat.succ.inj hl) fun j k v u e1 e2=>h (j + 1) k v u e1 e2)
theorem call_dictPs (hc:X.calm=true):CallR X (.type "dict") (rDictPs X.K):=by
  intro pins s σ H xs us Q I r h
  obtain ⟨l,ps,kvs,rfl,hl,hlen,hz,hp,q⟩:=h
  obtain ⟨u,rfl,rx⟩:=vals1 r
  cases rx
  obtain ⟨z,its,n,rv,el,e⟩:=I.lstM hl
  have l1:=rv.length
  have pr:∀ (j:Nat) k v x,kvs[j]?=some (k,v)→its[j]?=some x→∃ t a w',x=.ref t∧s.heap.IsTuple t #[a,w']∧RelV (kV k) a∧RelV v w':=by
    intro j k v x e1 e2
    have jl:j < ps.length:=by have:=(List.getElem?_eq_some_iff.mp e1).1;lia
    obtain ⟨t,et,ht⟩:=hp j _ k v (List.getElem?_eq_getElem jl) e1
    obtain ⟨u,hu,ru⟩:=rv.get (i:=j) (x:=ps[j]) (List.getElem?_eq_getElem jl)
    rw [e2] at hu;cases hu
    rw [et] at ru
    cases ru
    obtain ⟨its2,r2,t2,_⟩:=I.tuple (SqT.of (K:=X.K) ht)
    obtain ⟨a,w',rfl,ra,rw'⟩:=vals2 r2
    exact ⟨t,a,w',rfl,t2,ra,rw'⟩
  obtain ⟨vs,hvl,hvs⟩:∃ vs:List Value,vs.length=kvs.length∧∀ (j:Nat) k v x w',kvs[j]?=some (k,v)→its[j]?=some x→vs[j]?=some w'→RelV v w'∧∃ t a,x=.ref t∧s.heap.IsTuple t #[a,w']∧RelV (kV k) a:=by
    have key:∀ m,m≤kvs.length→∃ vs:List Value,vs.length=m∧∀ (j:Nat) k v x w',kvs[j]?=some (k,v)→its[j]?=some x→vs[j]?=some w'→RelV v w'∧∃ t a,x=.ref t∧s.heap.IsTuple t #[a,w']∧RelV (kV k) a:=by
      intro m
      induction m with
      | zero=>intro _;exact ⟨[],rfl,fun j k v x w' _ _ e=>by simp at e⟩
      | succ m ih=>
        intro hm
        obtain ⟨vs,h1,h2⟩:=ih (by lia)
        have ml:m < kvs.length:=by lia
        have il:m < its.length:=by lia
        obtain ⟨t,a,w',et,ht,ra,rw'⟩:=pr m kvs[m].1 kvs[m].2 its[m] (List.getElem?_eq_getElem ml) (List.getElem?_eq_getElem il)
        refine ⟨vs++[w'],by rw [List.length_append,h1];rfl,fun j k v x w2 e1 e2 e3=>?_⟩
        by_cases c:j < vs.length
        · rw [List.getElem?_append_left c] at e3
          exact h2 j k v x w2 e1 e2 e3
        · have ej:j=m:=by
            have:=(List.getElem?_eq_some_iff.mp e3).1
            rw [List.length_append,List.length_singleton] at this
            lia
          subst ej
          rw [List.getElem?_append_right (by lia)] at e3
          have:w2=w':=by
            rw [h1,Nat.sub_self] at e3
            exact (Option.some.inj e3).symm
          subst this
          rw [List.getElem?_eq_getElem ml] at e1
          have e1':=Option.some.inj e1
          rw [List.getElem?_eq_getElem il] at e2
          have e2':=Option.some.inj e2
          rw [← e2']
          have k1:kvs[j].1=k:=by rw [e1']
          have v1:kvs[j].2=v:=by rw [e1']
          rw [← k1,← v1]
          exact ⟨rw',t,a,et,ht,ra⟩
    exact key kvs.length (Nat.le_refl _)
  refine dict_list (knd:=mixKind X.prog X.w) (ks:=kvs.map (·.1)) (vs:=vs) (I.ok.hd hc) e (by rw [List.length_map,List.size_toArray];lia) (by rw [List.size_toArray];lia) (by rw [List.size_toArray];lia) (fun j k v x e1 e2 e3=>?_) fun h' tk d' kp=>?_
  · rw [List.getElem?_map] at e1
    cases ek:kvs[j]? with
    | none=>rw [ek] at e1;cases e1
    | some p=>
      rw [ek] at e1
      have e1':p.1=k:=Option.some.inj e1
      obtain ⟨_,t,a,et,ht,ra⟩:=hvs j p.1 p.2 x v ek (by rw [List.getElem?_toArray] at e3;exact e3) e2
      exact ⟨t,a,et,ht,by rw [← e1'];exact kV_is ra⟩
  · have rel:KV (mergeK [] kvs) (merged [] ((kvs.map (·.1)).zip vs)):=KV.merge (kv_of hvl fun j k v u e1 e2=>by
      have jl:j < its.length:=by have:=(List.getElem?_eq_some_iff.mp e1).1;lia
      exact (hvs j k v _ u e1 (List.getElem?_eq_getElem jl) e2).1) .nil
    have hlen2:(mergeK [] kvs).length≤sizeLine:=Nat.le_trans (length_mergeK _ _) (Nat.le_trans (show [].length + kvs.length≤1000 by rw [List.length_nil];lia) (show 1000≤sizeLine by decide))
    have hn:H s.heap.objs.size=none:=I.hok.fresh (Nat.le_refl _)
    exact ⟨.ref s.heap.objs.size,_,I.laid (t':=tk) (o:=.dK (mergeK [] kvs)) kp (Nat.le_refl _) (dk_new hlen2 (beq_eq_false_iff_ne.mpr (Nat.ne_of_gt I.big)) rel d'),rfl,q _ hn⟩
def rListD:List V→Hp→VK→Prop:=fun xs H Q=>∃ (d:Addr) (kvs:List (Key × V)),xs=[.ref d]∧Rd H d (.dK kvs)∧∀ l,H l=none→Q (.ref l) (upd H l (.lst (kvs.map fun kv=>kV kv.1)))
theorem call_listD (hc:X.calm=true):CallR X (.type "list") rListD:=by
  intro pins s σ H xs us Q I r h
  obtain ⟨d,kvs,rfl,hd,q⟩:=h
  obtain ⟨u,rfl,rx⟩:=vals1 r
  cases rx
  obtain ⟨z,lo,vs,rel,dd⟩:=dk_rd I.hok hd
  obtain ⟨ep,hat⟩:=dd.dictAt
  have kl:=rel.length
  refine PySem.W.kdl_call (PySem.W.kdl_dict (knd:=mixKind X.prog X.w) (kvs:=vs) (ep:=ep) lo) (I.ok.hd hc) hat (by rw [← kl];exact z) fun h' tk acc c hk hD hacc=>?_
  have hl:acc.toList.length=vs.length:=by rw [Array.length_toList];exact hacc.1
  have hv:Vals (kvs.map fun kv=>kV kv.1) acc.toList:=vals_each (by rw [List.length_map];lia) fun j x v e1 e2=>by
    rw [List.getElem?_map] at e1
    cases ek:kvs[j]? with
    | none=>rw [ek] at e1;cases e1
    | some p=>
      rw [ek] at e1
      have e1':kV p.1=x:=Option.some.inj e1
      obtain ⟨k,y,e3,his⟩:=hacc.2 j v (by rw [← Array.getElem?_toList];exact e2)
      have:k=p.1:=by
        have a1:(vs.map (·.1))[j]?=some k:=by rw [List.getElem?_map,e3];rfl
        rw [← rel.keys,List.getElem?_map,ek] at a1
        exact (Option.some.inj a1).symm
      subst this
      rw [← e1']
      exact key_rel his
  have hn:H s.heap.objs.size=none:=I.hok.fresh (Nat.le_refl _)
  refine ⟨.ref s.heap.objs.size,_,I.laid (t':=tk) (o:=.lst (kvs.map fun kv=>kV kv.1)) hk (Nat.le_refl _) ⟨by rw [List.length_map];exact z,acc.toList,c,hv,?_⟩,rfl,q _ hn⟩
  rw [Array.toArray_toList];exact hD
end
section
variable {X:Cx}
theorem vals_strs:∀ {us:List Value} {ss:List Str},StrsAre us ss→Vals (ss.map V.str) us
  | _,_,.nil=>.nil
  | _,_,.cons x t r=>.cons ⟨t,rfl⟩ (vals_strs r)
theorem items_strs {prog:Program} {w:World}:∀ {ss:List Str} {vs:List (Key × Value)} {us:List Value},vs.map (·.1)=ss.map Sum.inr→us.length=vs.length→(∀ (j:Nat) v,us[j]?=some v→∃ k x,vs[j]?=some (k,x)∧(mixKind prog w).is k v=true)→Vals (ss.map V.str) us:=by
  intro ss vs us h1 h2 h3
  have hl:vs.length=ss.length:=by have:=congrArg List.length h1;rw [List.length_map,List.length_map] at this;exact this
  refine vals_each (by rw [List.length_map];lia) fun j x u e1 e2=>?_
  obtain ⟨k,y,e3,his⟩:=h3 j u e2
  rw [List.getElem?_map] at e1
  cases es:ss[j]? with
  | none=>rw [es] at e1;cases e1
  | some z=>
    rw [es] at e1
    have e1':V.str z=x:=Option.some.inj e1
    have ek:k=Sum.inr z:=by
      have a1:(vs.map (·.1))[j]?=some k:=by rw [List.getElem?_map,e3];rfl
      rw [h1,List.getElem?_map,es] at a1
      exact (Option.some.inj a1).symm
    subst ek
    rw [← e1']
    exact key_rel (k:=Sum.inr z) his
def rSortDS:List V→Hp→VK→Prop:=fun xs H Q=>∃ (d:Addr) (kvs:List (Key × V)) (ss:List Str),xs=[.ref d]∧Rd H d (.dK kvs)∧kvs.map (·.1)=ss.map Sum.inr∧ss.length < 64∧∀ (l:Addr) (ss':List Str),H l=none→ss'.Perm ss→sortedS ss'=true→Q (.ref l) (upd H l (.lst (ss'.map V.str)))
theorem call_sortDS (hc:X.calm=true):CallR X (.builtin "sorted") rSortDS:=by
  intro pins s σ H xs us Q I r h
  obtain ⟨d,kvs,ss,rfl,hd,hk,h64,q⟩:=h
  obtain ⟨u,rfl,rx⟩:=vals1 r
  cases rx
  obtain ⟨z,lo,vs,rel,dd⟩:=dk_rd I.hok hd
  obtain ⟨ep,hat⟩:=dd.dictAt
  have hh:X.A.handled=none:=I.ok.hd hc
  have kl:=rel.length
  have hv:vs.map (·.1)=ss.map Sum.inr:=by rw [← rel.keys];exact hk
  have vl:vs.length=ss.length:=by have:=congrArg List.length hv;rw [List.length_map,List.length_map] at this;exact this
  refine Calls.call_function_entry kind_sorted plain_sorted entry_sorted (args_sorted1 _) ?_
  unfold Builtin.«sorted»
  refine wpAny_bind (m:=checkCount "sorted" 1 1 _) (wpAny_pure ?_)
  refine wpAny_bind (PySem.W.kdu_collect (A:=X.A.in1) (PySem.W.kdl_dict (knd:=mixKind X.prog X.w) (kvs:=vs) (ep:=ep) lo) hh hat (by rw [← kl];exact z) fun h' tk acc hkp hacc=>?_)
  have hl:acc.toList.length=vs.length:=by rw [Array.length_toList];exact hacc.1
  have hI:Vals (ss.map V.str) acc.toList:=items_strs (prog:=X.prog) (w:=X.w) hv hl fun j v e=>hacc.2 j v (by rw [← Array.getElem?_toList];exact e)
  have hS:=strs_are hI
  refine wpAny_bind (wpAny_newList ?_ (by rw [hl,← kl];exact z))
  have hoL:(h'.push (seqObj "list" acc.toList.toArray 0)).get? h'.objs.size=some (seqObj "list" acc.toList.toArray 0):=Heap.get?_push_size _ rfl
  show wpAny _ _ _ _ _ { s with heap:=h'.push (seqObj "list" acc.toList.toArray 0),toks:=tk }
  refine wpAny_bind (wpAny_holding (wpAny_call_entry slot_list_sort ⟨_,hoL,rfl⟩ entry_list_sort (list_sort_treeK strKind_oneLt hoL hS.keysOf (fun v₁ v₂ rest e=>keyKind_strs (by rw [← e];exact hS)) (by rw [hl,vl];exact h64) fun st' hp hs=>?_) (args_list_sort _)))
  obtain ⟨ss',a1,a2,a3⟩:=sorted_out_str hS hp hs
  refine ⟨_,rfl,?_⟩
  refine wpAny_pure ⟨_,rfl,?_⟩
  obtain ⟨e,he⟩:=sortedHeap_at (n:=0) (out:=(arrOf st').map (·.2)) hoL
  have hn:=vals_strs a1
  have hlen:ss'.length=ss.length:=a2.length_eq
  have I1:Inv X pins σ H { s with heap:=h',toks:=tk }:=I.kept hkp
  refine ⟨.ref h'.objs.size,_,I1.laid (t':=tk) (fun b u q1=>?_) (Nat.le_refl _) (show ObjOk X.prog X.w _ _ _ (.lst (ss'.map V.str)) from ⟨?_,((arrOf st').map (·.2)).toList,e,hn,?_⟩),rfl,q _ _ (I1.hok.fresh (Nat.le_refl _)) a2 a3⟩
  · have lt:=Heap.lt_size q1
    rw [sortedHeap_old (Nat.ne_of_lt lt) (by rw [size_push'];exact Nat.lt_succ_of_lt lt)]
    exact Heap.get?_push_of_some _ q1
  · rw [List.length_map,hlen];exact Nat.le_trans (Nat.le_of_lt h64) (by decide)
  · rw [Array.toArray_toList];exact he
def tDSetd (td ty tx:TE):TE:=fun σ H Q=>td σ H fun x H1=>∃ a,x=.ref a∧IsD H1 a∧ty σ H1 fun y H2=>tx σ H2 fun z H3=>∃ kvs k,H3 a=some (.dK kvs)∧y=kV k∧kvs.length < sizeLine∧(∀ v,valV kvs k=some v→Q v H3)∧(valV kvs k=none→Q z (upd H3 a (.dK (putK kvs k z))))
theorem pe_dsetd {o e f:Expr} {apos cpos:Pos} {td ty tx:TE} (ho:PE X o td) (he:PE X e ty) (hf:PE X f tx) (m:M2 X o "setdefault" apos e f cpos):PE X (.Call (.Attribute o "setdefault" apos) [e,f] [] cpos) (tDSetd td ty tx):=by
  intro pins s σ H Q I h
  refine wpAny_Call_method m.base m.few m.line PySem.F.plainAttrs_dict PySem.F.slot_dict_setdefault PySem.F.type_dict_setdefault (thn (ho pins s σ H _ I h) fun u s1 ⟨x,H1,I1,rx,a,ex,d,q1⟩=>?_)
  subst ex
  obtain rfl:u=Value.ref a:=rx
  obtain ⟨t1,t2,_⟩:=isD_at I1 d
  refine ⟨t1,t2,?_⟩
  rw [m.trees]
  refine Calls.callWith_builtin rfl (Calls.evalArgs_plain (Calls.spliced_cons (thn (he pins s1 σ H1 _ I1 q1) fun iv s2 ⟨y,H2,I2,ry,q2⟩=>
    Calls.spliced_cons (thn (hf pins s2 σ H2 _ I2 q2) fun fv s3 ⟨z,H3,I3,rz,kvs,k,e3,ey,hl,qs,qn⟩=>Calls.spliced_nil ?_))))
  subst ey
  obtain ⟨z1,l1,vs,rel,dd⟩:=dk_of I3.hok e3
  refine call_meetsIn PySem.F.slot_dict_setdefault dd.typeIs PySem.F.entry_dict_setdefault (PySem.F.args_dict_setdefault_3 _ _ _) (kt_meets_setdefault (mixKind X.prog X.w) a (kV_is ry) l1 fv) ⟨vs,dd,by rw [← rel.length];exact z1,fun v hv=>?_,fun hv h' d' hs=>?_⟩
  · have:=rel.val k
    rw [hv] at this
    cases ev:valV kvs k with
    | none=>rw [ev] at this;exact (show False from this).elim
    | some v'=>
      rw [ev] at this
      exact ⟨v',H3,I3.tok _,this,qs v' ev⟩
  · have:=rel.val k
    rw [hv] at this
    cases ev:valV kvs k with
    | some v'=>rw [ev] at this;exact (show False from this).elim
    | none=>
      have hlen:(putK kvs k z).length≤sizeLine:=by have:=length_putK kvs k z;lia
      refine ⟨z,_,d_write (t':=s3.toks + 1) (ob:=.dK (putK kvs k z)) I3 (by rw [e3];exact True.intro) hs (let ⟨ob,_,_,h1,_⟩:=d';⟨ob,h1⟩) (dk_new hlen l1 (rel.put k rz) d'),rz,qn ev⟩
end
theorem kv_get {kvs:List (Key × V)} {vs:List (Key × Value)} (r:KV kvs vs):∀ {i:Nat} {p:Key × V} {q:Key × Value},kvs[i]?=some p→vs[i]?=some q→p.1=q.1∧RelV p.2 q.2:=by
  induction r with
  | nil=>intro i p q e _;simp at e
  | @cons a b as bs h _ ih=>
    intro i p q e1 e2
    match i with
    | 0=>cases e1;cases e2;exact h
    | i + 1=>exact ih e1 e2
def Iti (d:Addr) (kvs:List (Key × V)) (o:Obj):It:=⟨fun i H=>H d=some (.frz o (.dK kvs))∧i < kvs.length,fun i H x H'=>∃ p k v,H p=none∧x=.ref p∧H'=upd H p (.tup [kV k,v])∧kvs[i]?=some (k,v),fun i H=>H d=some (.frz o (.dK kvs))∧kvs.length≤i⟩
theorem turn_items {P:Program} {w:World} {K:Fg} {elts:List Expr} {k:Nat} {pos:Pos} (d it:Addr) (kvs:List (Key × V)) (o:Obj) (es0:Array DictEntry) (ep:Nat) (hep:o.data=.dict es0 ep):Turn P w K (.Tuple elts k pos) (Iti d kvs o) [it] it (fun i h=>∃ ok ov,IsItemIter h it d i kvs.length ep ok ov) where
  mem:=by simp
  obj:=fun i h st b hb=>by
    have e:b=it:=by simpa using hb
    subst e
    obtain ⟨ok,ov,e⟩:=st
    exact ⟨_,e,fun v z=>by have z':Data.fields _=Data.cell v:=z;cases z'⟩
  keep:=fun i h h' st k=>let ⟨ok,ov,e⟩:=st;⟨ok,ov,k it (by simp) _ e⟩
  item:=by
    intro X hP hw hK hc i pins s σ H E I hf st hg
    subst hP hw hK
    obtain ⟨ok,ov,st⟩:=st
    obtain ⟨e,hi⟩:=hg
    obtain ⟨lo,vs,rel,dd⟩:=frz_at I e hep
    have kl:=rel.length
    have hi':i < vs.length:=by lia
    obtain ⟨hk,hv⟩:=kv_get rel (List.getElem?_eq_getElem hi) (List.getElem?_eq_getElem hi')
    refine wpAny_pyNext_items_item (by rw [← kl];exact st) dd (k:=vs[i].1) (v:=vs[i].2) (List.getElem?_eq_getElem hi') fun key h1 hkey ho hT hsz hkp=>?_
    refine ⟨_,rfl,?_⟩
    have fT:FpOk X pins H s.heap.objs.size:=I.fpOk (Nat.le_refl _) (I.hok.fresh (Nat.le_refl _))
    have itlt:it < s.heap.objs.size:=Heap.lt_size st
    refine wpAny_letOwnedTupleGo_items (s:={ s with heap:=h1 }) ho fun h2 he2 hs2=>?_
    have I1:Inv X pins σ H { s with heap:=h2,toks:=s.toks }:=I.turnedL (t':=s.toks) (ch:=[it]) (fun b o hb q=>by
      have b1:b≠it:=fun z=>hb (by simp [z])
      exact (hs2.2 b b1).trans (hkp b o b1 q)) hf
    have gT:h2.get? s.heap.objs.size=some { cls:=.type "tuple",data:=.seq #[key,vs[i].2] }:=(hs2.2 _ (Nat.ne_of_gt itlt)).trans hT
    have rk:RelV (kV kvs[i].1) key:=key_rel (P:=X.prog) (w:=X.w) (by rw [hk];exact hkey)
    have I2:=I1.adopt (T:=s.heap.objs.size) (o:=.tup [kV kvs[i].1,kvs[i].2]) fT (two_tup (X:=X) gT rk hv)
    refine ⟨.ref s.heap.objs.size,_,I2,rfl,⟨s.heap.objs.size,kvs[i].1,kvs[i].2,fT.1,rfl,rfl,List.getElem?_eq_getElem hi⟩,⟨key,vs[i].2,by rw [kl];exact he2⟩,fun b hb=>?_⟩
    have nT:b≠s.heap.objs.size:=by rw [List.mem_singleton.mp hb];exact Nat.ne_of_lt itlt
    rw [upd_ne nT];exact (hf b hb).1
  done:=by
    intro X hP hw hK hc i pins s σ H E I hf st hg
    subst hP hw hK
    obtain ⟨ok,ov,st⟩:=st
    obtain ⟨e,hi⟩:=hg
    obtain ⟨lo,vs,rel,dd⟩:=frz_at I e hep
    have kl:=rel.length
    obtain ⟨f0,f1,f2,f3,f4,f5⟩:=hf it (by simp)
    exact wpAny_pyNext_items_end (I.ok.hd hc) (by rw [← kl];exact st) dd (List.getElem?_eq_none (by lia)) fun h' eb=>⟨rfl,I.turned (t':=s.toks) (fun b o hb e=>eb b o hb e) f0 f1 f3 f4 f5⟩
  self:=fun _ _ _ _ _ st h=>by
    obtain ⟨ok,ov,st⟩:=st
    exact PySem.W.kcp_self st h
section
variable {X:Cx} {tg:Expr}
structure M0 (X:Cx) (o:Expr) (m:Str) (apos cpos:Pos):Prop where
  base:attributeBase o m X.env (eval o X.env)=eval o X.env
  line:(apos.endLine == cpos.line)=true
theorem frozen {pins:List (Addr × Obj)} {σ:St} {H:Hp} {s:Shared} {d:Addr} {kvs:List (Key × V)} (I:Inv X pins σ H s) (e:H d=some (.dK kvs)):∃ o es0 ep,o.data=.dict es0 ep∧Inv X pins σ (upd H d (.frz o (.dK kvs))) s:=by
  obtain ⟨o,ho,I2⟩:=I.freeze e
  obtain ⟨_,_,_,_,o',es,ep,h1,_,h3,_⟩:=I.hok d _ e
  rw [ho] at h1;cases h1
  exact ⟨o,es,ep,h3,I2⟩
def iItems (te:TE):TI:=fun σ H R=>te σ H fun x H1=>∃ d kvs,x=.ref d∧H1 d=some (.dK kvs)∧∀ o,R (Iti d kvs o) (upd H1 d (.frz o (.dK kvs)))
theorem pi_items {l:Expr} {tl:TE} {apos cpos:Pos} {elts:List Expr} {k:Nat} {pos:Pos} (hl:PE X l tl) (m:M0 X l "items" apos cpos):PI X (.Tuple elts k pos) (.Call (.Attribute l "items" apos) [] [] cpos) (iItems tl):=by
  intro pins s σ H R I h
  refine wpAny_Call_method (T:="dict") (id:="dict.items") m.base rfl m.line PySem.F.plainAttrs_dict PySem.F.slot_dict_items PySem.F.type_dict_items (thn (hl pins s σ H _ I h) fun v s1 ⟨x,H1,I1,r1,q1⟩=>?_)
  obtain ⟨d,kvs,rfl,e,q⟩:=q1
  cases r1
  obtain ⟨t1,t2,_⟩:=isD_at I1 (.inl ⟨kvs,.inl e⟩)
  refine ⟨t1,t2,?_⟩
  obtain ⟨z,lo,vs0,rel0,dd0⟩:=dk_of I1.hok e
  show wpAny _ _ (callWith cpos (.builtin "dict.items") [.ref d] [] []) _ _ s1
  refine method_meetsIn PySem.F.slot_dict_items PySem.F.entry_dict_items rfl (PySem.evalArgs_none ⟨rfl,dd0.typeIs,PySem.F.args_dict_items_1 _,_,meets_dict_items (mixKind X.prog X.w) d lo,⟨_,dd0⟩,?_⟩)
  have I1':Inv X pins σ H1 { s1 with heap:=s1.heap.push { cls:=.type "dict_items",data:=.fields #[.ref d] } }:=I1.kept (t':=s1.toks) fun b o e=>Heap.get?_push_of_some _ e
  obtain ⟨o,es0,ep,hep,I2⟩:=frozen I1' e
  obtain ⟨_,vs,rel,dd⟩:=frz_at I2 upd_same hep
  have kl:=rel.length
  refine wpAny_pyIter_items (s:={ s1 with heap:=s1.heap.push { cls:=.type "dict_items",data:=.fields #[.ref d] } }) ⟨_,Heap.get?_push_size _ rfl,rfl,rfl⟩ dd ?_
  refine ⟨_,[_],_,_,_,rfl,I2.kept (t':=s1.toks) fun b o e=>Heap.get?_push_of_some _ e,turn_items d _ kvs o es0 ep hep,⟨.none,.none,by rw [kl];exact Heap.get?_push_size _ rfl⟩,fun b hb=>?_,q o⟩
  have e:b=(s1.heap.push { cls:=.type "dict_items",data:=.fields #[.ref d] }).objs.size:=by simpa using hb
  subst e
  exact I2.fpOk (Nat.le_refl _) (I2.hok.fresh (Nat.le_refl _))
end
section
variable {X:Cx} {tg l o e f:Expr} {tl td ty tx:TE} {apos cpos:Pos}
theorem qe_thaw (h:QE X e tl):QE X e (tThaw tl):=⟨pe_thaw h.up⟩
theorem qi_keys (hl:QE X l tl):QI X tg l (iKeys tl):=⟨pi_keys hl.up⟩
theorem qi_items {elts:List Expr} {k:Nat} {pos:Pos} (hl:QE X l tl) (m:M0 X l "items" apos cpos):QI X (.Tuple elts k pos) (.Call (.Attribute l "items" apos) [] [] cpos) (iItems tl):=⟨pi_items hl.up m⟩
theorem qe_dsetd (ho:QE X o td) (he:QE X e ty) (hf:QE X f tx) (m:M2 X o "setdefault" apos e f cpos):QE X (.Call (.Attribute o "setdefault" apos) [e,f] [] cpos) (tDSetd td ty tx):=⟨pe_dsetd ho.up he.up hf.up m⟩
theorem hu5_of {A:Around} {k:Nat} (hr:Room k A):A.units + 5 < cLine:=Nat.lt_of_le_of_lt (Nat.add_le_add_left (by decide:5≤64) _) hr.units
end
end L2
end
section
namespace Bg
open PySem L2
theorem valV_zip {ks:List Key}:∀ {us:List V} {j:Nat} {k:Key} {u:V},ks.Nodup→ks[j]?=some k→us[j]?=some u→valV (ks.zip us) k=some u:=by
  induction ks with
  | nil=>intro us j k u _ e _;simp at e
  | cons a r ih=>
    intro us j k u nd e1 e2
    obtain ⟨na,nr⟩:=List.nodup_cons.mp nd
    cases us with
    | nil=>simp at e2
    | cons b t=>
      rw [List.zip_cons_cons]
      match j with
      | 0=>cases e1;cases e2;exact valV_pos rfl
      | j + 1=>
        have hk:k∈r:=List.mem_of_getElem? e1
        exact (valV_neg (fun z=>na (by rw [show a=k from z];exact hk))).trans (ih nr e1 e2)
theorem valV_zip_none {ks:List Key}:∀ {us:List V} {k:Key},k∉ks→valV (ks.zip us) k=none:=by
  induction ks with
  | nil=>intro us k _;rfl
  | cons a r ih=>
    intro us k h
    cases us with
    | nil=>rfl
    | cons b t=>
      rw [List.zip_cons_cons]
      exact (valV_neg (fun z=>h (by rw [show k=a from z.symm];exact List.mem_cons_self))).trans (ih fun z=>h (List.mem_cons_of_mem _ z))
theorem mergeK_new:∀ (more acc:List (Key × V)),((acc++more).map (·.1)).Nodup→mergeK acc more=acc++more
  | [],acc,_=>by show acc=acc++[];rw [List.append_nil]
  | p::r,acc,nd=>by
    have hn:valV acc p.1=none:=by
      cases e:valV acc p.1 with
      | none=>rfl
      | some v=>
        have m:=valV_in e
        rw [List.map_append,List.map_cons] at nd
        exact absurd rfl ((List.nodup_append.mp nd).2.2 _ m _ List.mem_cons_self)
    show mergeK (putK acc p.1 p.2) r=acc++p::r
    rw [putK_new _ hn,mergeK_new r (acc++[(p.1,p.2)]) (by rw [List.append_assoc];exact nd),List.append_assoc]
    rfl
structure DL (H:Hp) (d:Addr) (ks:List Key) (ls:List Addr) (vss:List (List V)):Prop where
  at_:H d=some (.dK (ks.zip (ls.map V.ref)))
  kn:ks.Nodup
  ln:ls.Nodup
  l1:ls.length=ks.length
  l2:vss.length=ks.length
  vs:∀ (j:Nat) l v,ls[j]?=some l→vss[j]?=some v→H l=some (.lst v)
theorem DL.same {H H':Hp} {d:Addr} {ks:List Key} {ls:List Addr} {vss:List (List V)} (h:DL H d ks ls vss) (s:Same H H'):DL H' d ks ls vss:=⟨s _ _ h.at_,h.kn,h.ln,h.l1,h.l2,fun j l v e1 e2=>s _ _ (h.vs j l v e1 e2)⟩
theorem DL.get {H:Hp} {d:Addr} {ks:List Key} {ls:List Addr} {vss:List (List V)} (h:DL H d ks ls vss) {j:Nat} {k:Key} (e:ks[j]?=some k):∃ l v,ls[j]?=some l∧vss[j]?=some v∧H l=some (.lst v)∧valV (ks.zip (ls.map V.ref)) k=some (.ref l):=by
  have jl:=(List.getElem?_eq_some_iff.mp e).1
  have j1:j < ls.length:=by rw [h.l1];exact jl
  have j2:j < vss.length:=by rw [h.l2];exact jl
  refine ⟨ls[j],vss[j],List.getElem?_eq_getElem j1,List.getElem?_eq_getElem j2,h.vs j _ _ (List.getElem?_eq_getElem j1) (List.getElem?_eq_getElem j2),valV_zip h.kn e ?_⟩
  rw [List.getElem?_map,List.getElem?_eq_getElem j1];rfl
theorem DL.app {H:Hp} {d:Addr} {ks:List Key} {ls:List Addr} {vss:List (List V)} (h:DL H d ks ls vss) {j:Nat} {l:Addr} {v:List V} (e1:ls[j]?=some l) (e2:vss[j]?=some v) (x:V):DL (upd H l (.lst (v++[x]))) d ks ls (vss.set j (v++[x])):=by
  have hl:=h.vs j l v e1 e2
  refine ⟨by rw [upd_ne (ne_of h.at_ hl (by intro z;cases z))];exact h.at_,h.kn,h.ln,h.l1,by rw [List.length_set];exact h.l2,fun i l' v' f1 f2=>?_⟩
  by_cases c:i=j
  · subst c
    rw [e1] at f1;cases f1
    rw [List.getElem?_set_self (List.getElem?_eq_some_iff.mp e2).1] at f2
    cases f2
    exact upd_same
  · have nl:l'≠l:=fun z=>by
      subst z
      obtain ⟨a1,a2⟩:=List.getElem?_eq_some_iff.mp f1
      obtain ⟨b1,b2⟩:=List.getElem?_eq_some_iff.mp e1
      exact c ((List.getElem_inj h.ln).mp (a2.trans b2.symm))
    rw [List.getElem?_set_ne (Ne.symm c)] at f2
    rw [upd_ne nl];exact h.vs i l' v' f1 f2
structure Prs (H0 H:Hp) (D:Addr) (ks:List Key) (ts ls:List Addr):Prop where
  at_:H D=some (.lst (ts.map V.ref))
  l1:ts.length=ks.length
  l2:ls.length=ks.length
  ln:ls.Nodup
  pr:∀ (j:Nat) t k l,ts[j]?=some t→ks[j]?=some k→ls[j]?=some l→H t=some (.tup [kV k,.ref l])
  em:∀ l∈ls,H l=some (.lst [])∧l≠D∧H0 l=none
  sm:But D H0 H
theorem snocI {α:Type} {xs:List α} {x y:α} {j:Nat} (h:(xs++[x])[j]?=some y):(j < xs.length∧xs[j]?=some y)∨(j=xs.length∧y=x):=by
  by_cases c:j < xs.length
  · rw [List.getElem?_append_left c] at h
    exact .inl ⟨c,h⟩
  · have hl:=(List.getElem?_eq_some_iff.mp h).1
    rw [List.length_append,List.length_singleton] at hl
    have:j=xs.length:=by lia
    subst this
    rw [List.getElem?_append_right (Nat.le_refl _),Nat.sub_self] at h
    exact .inr ⟨rfl,(Option.some.inj h).symm⟩
theorem Prs.nil {H:Hp} {D:Addr} (hD:H D=none):Prs H (upd H D (.lst [])) D [] [] []:=⟨upd_same,rfl,rfl,List.nodup_nil,fun j t k l e=>by simp at e,fun l m=>by (cases m),fun b u n e=>by (rw [upd_ne n];exact e)⟩
theorem Prs.step {H0 H:Hp} {D:Addr} {ks:List Key} {ts ls:List Addr} (p:Prs H0 H D ks ts ls) (h0:H0 D=none) {k:Key} {l t:Addr} (nl:H l=none) (nt:upd H l (.lst []) t=none) :
    Prs H0 (upd (upd (upd H l (.lst [])) t (.tup [kV k,.ref l])) D (.lst (ts.map V.ref++[.ref t]))) D (ks++[k]) (ts++[t]) (ls++[l]):=by
  have lD:l≠D:=fun z=>by rw [z,p.at_] at nl;cases nl
  have tl:t≠l:=fun z=>by rw [z,upd_same] at nt;cases nt
  have nt':H t=none:=by rw [upd_ne tl] at nt;exact nt
  have tD:t≠D:=fun z=>by rw [z,p.at_] at nt';cases nt'
  have keep:∀ b u,b≠D→H b=some u→upd (upd (upd H l (.lst [])) t (.tup [kV k,.ref l])) D (.lst (ts.map V.ref++[.ref t])) b=some u:=fun b u n e=>by
    rw [upd_ne n,upd_ne (ne_of_none e nt'),upd_ne (ne_of_none e nl)];exact e
  refine ⟨by rw [upd_same,List.map_append];rfl,by rw [List.length_append,List.length_append,p.l1];rfl,by rw [List.length_append,List.length_append,p.l2];rfl,?_,fun j t' k' l' e1 e2 e3=>?_,fun l' m=>?_,fun b u n e=>keep b u n (p.sm b u n e)⟩
  · refine List.nodup_append.mpr ⟨p.ln,by simp,fun a ha b hb=>?_⟩
    rw [List.mem_singleton.mp hb]
    intro z
    rw [z] at ha
    rw [(p.em l ha).1] at nl;cases nl
  · rcases snocI e1 with ⟨c1,f1⟩ | ⟨c1,f1⟩ <;> rcases snocI e2 with ⟨c2,f2⟩ | ⟨c2,f2⟩ <;> rcases snocI e3 with ⟨c3,f3⟩ | ⟨c3,f3⟩
    · have:=p.pr j t' k' l' f1 f2 f3
      exact keep t' _ (fun z=>by rw [z,p.at_] at this;cases this) this
    all_goals first
      | (exfalso;have:=p.l1;have:=p.l2;lia)
      | (subst f1;subst f2;subst f3;rw [upd_ne tD];exact upd_same)
  · rcases List.mem_append.mp m with z | z
    · obtain ⟨a,b,c⟩:=p.em l' z
      exact ⟨keep l' _ b a,b,c⟩
    · rw [List.mem_singleton.mp z]
      refine ⟨by rw [upd_ne lD,upd_ne (Ne.symm tl)];exact upd_same,lD,?_⟩
      cases e:H0 l with
      | none=>rfl
      | some u=>rw [p.sm l u lD e] at nl;cases nl
theorem Prs.dict {K:Fg} {H0 H:Hp} {D:Addr} {ks:List Key} {ts ls:List Addr} {Q:VK} (p:Prs H0 H D ks ts ls) (h0:H0 D=none) (nd:ks.Nodup) (few:ks.length≤1000)
    (q:∀ d H',H0 d=none→(∀ l∈ls,H0 l=none)→DL H' d ks ls (List.replicate ks.length [])→Same H0 H'→Q (.ref d) H'):rDictPs K [.ref D] H Q:=by
  have zl:(ks.zip (ls.map V.ref)).length=ks.length:=by rw [List.length_zip,List.length_map,p.l2,Nat.min_self]
  have zm:(ks.zip (ls.map V.ref)).map (·.1)=ks:=by
    rw [List.map_fst_zip]
    rw [List.length_map,p.l2];exact Nat.le_refl _
  refine ⟨D,ts.map V.ref,ks.zip (ls.map V.ref),rfl,p.at_,by rw [List.length_map,zl,p.l1],by lia,fun j x k v e1 e2=>?_,fun d nd'=>?_⟩
  · rw [List.getElem?_map] at e1
    cases et:ts[j]? with
    | none=>rw [et] at e1;cases e1
    | some t=>
      rw [et] at e1
      have e1':V.ref t=x:=Option.some.inj e1
      subst e1'
      have jk:j < ks.length:=by have:=(List.getElem?_eq_some_iff.mp e2).1;lia
      have jl:j < ls.length:=by rw [p.l2];exact jk
      have e3:=e2
      rw [List.getElem?_eq_getElem (by rw [zl];exact jk),List.getElem_zip,List.getElem_map] at e3
      have e3':=Option.some.inj e3
      have k1:ks[j]=k:=congrArg Prod.fst e3'
      have v1:V.ref ls[j]=v:=congrArg Prod.snd e3'
      refine ⟨t,rfl,?_⟩
      rw [← k1,← v1]
      exact p.pr j t ks[j] ls[j] et (List.getElem?_eq_getElem jk) (List.getElem?_eq_getElem jl)
  · have e0:mergeK [] (ks.zip (ls.map V.ref))=ks.zip (ls.map V.ref):=mergeK_new _ [] (by rw [List.nil_append,zm];exact nd)
    rw [e0]
    have hd0:H0 d=none:=by
      cases e:H0 d with
      | none=>rfl
      | some u=>
        have:d≠D:=fun z=>by rw [z,h0] at e;cases e
        rw [p.sm d u this e] at nd';cases nd'
    refine q d _ hd0 (fun l m=>(p.em l m).2.2) ⟨upd_same,nd,p.ln,p.l2,List.length_replicate,fun j l v e1 e2=>?_⟩ fun b u e=>?_
    · have m:=p.em l (List.mem_of_getElem? e1)
      have hv:v=[]:=(List.mem_replicate.mp (List.mem_of_getElem? e2)).2
      rw [hv,upd_ne (ne_of_none m.1 nd')]
      exact m.1
    · have bD:b≠D:=fun z=>by rw [z,h0] at e;cases e
      have:=p.sm b u bD e
      rw [upd_ne (ne_of_none this nd')];exact this
def Sd (rs:List BRow) (m:Nat):Nat:=runJ rs rs.length m
def Edge (rs:List BRow) (n t:Nat):Prop:=∃ r m,rs[n]?=some r∧m∈leadsL n r∧Sd rs m=t
inductive Wnt (rs:List BRow) (y:Str):Nat→Prop where
  | here {n:Nat} {r:BRow} (hr:rs[n]?=some r) (h:y∈readsOf r):Wnt rs y n
  | on {n t:Nat} {r:BRow} (hr:rs[n]?=some r) (hs:setsOf r≠.str y) (he:Edge rs n t) (h:Wnt rs y t):Wnt rs y n
def nk (n:Nat):Key:=Sum.inl (n:Int)
structure Ahead (rs:List BRow) (ns:List Nat) (pss:List (List Nat)):Prop where
  len:pss.length=ns.length
  at_:∀ (j t:Nat) ps,ns[j]?=some t→pss[j]?=some ps→(∀ n,n∈ps↔Stood rs n∧Edge rs n t)∧ps.length≤2 * ns.length
def Rds (rs:List BRow) (n:Nat) (y:Str):Prop:=∃ r,rs[n]?=some r∧y∈readsOf r
structure ReadTo (rs:List BRow) (ns:List Nat) (ys:List Str) (pss:List (List Nat)) (i n e:Nat) (zs:List Str):Prop where
  nd:ys.Nodup
  len:pss.length=ys.length
  all:∀ y,y∈ys↔(∃ x∈ns.take i,Rds rs x y)∨y∈zs
  at_:∀ (j:Nat) y ps,ys[j]?=some y→pss[j]?=some ps→(∀ x,x∈ps↔(x∈ns.take i∧Rds rs x y)∨(x=n∧y∈zs))∧ps.length≤e
structure Readers (rs:List BRow) (ys:List Str) (pss:List (List Nat)):Prop where
  nd:ys.Nodup
  len:pss.length=ys.length
  all:∀ y,y∈ys↔∃ x,Stood rs x∧Rds rs x y
  at_:∀ (j:Nat) y ps,ys[j]?=some y→pss[j]?=some ps→(∀ x,x∈ps↔Stood rs x∧Rds rs x y)∧ps.length≤6400
def sp_p_rt (_:Fg):Sp:=fun vs H Q _=>∃ (rt:Addr) (rvs:List V) (rs:List BRow),vs=[.ref rt]∧H rt=some (.tup rvs)∧AllAt (RowAt H) rvs rs∧RowsGood rs∧(∀ r∈rs,(readsOf r).length≤100)∧
  ∀ (d:Addr) (ys:List Str) (ls:List Addr) (pss:List (List Nat)) (H':Hp),DL H' d (ys.map Sum.inr) ls (pss.map intsV)→Readers rs ys pss→H d=none→(∀ l∈ls,H l=none)→Same H H'→Q (.ref d) H'
def sp_p_ra (_:Fg):Sp:=fun vs H Q _=>∃ (rt:Addr) (rvs:List V) (rs:List BRow),vs=[.ref rt]∧H rt=some (.tup rvs)∧AllAt (RowAt H) rvs rs∧RowsGood rs∧
  ∀ (d:Addr) (ns:List Nat) (ls:List Addr) (pss:List (List Nat)) (H':Hp),(∀ m,m∈ns↔Stood rs m)→ns.Pairwise (· < ·)→DL H' d (ns.map nk) ls (pss.map intsV)→Ahead rs ns pss→H d=none→(∀ l∈ls,H l=none)→Same H H'→Q (.ref d) H'
def sp_p_rw (_:Fg):Sp:=fun vs H Q _=>∃ (rt d rl:Addr) (y:Str) (rvs:List V) (rs:List BRow) (ns:List Nat) (ls:List Addr) (pss:List (List Nat)) (ps:List Nat),vs=[.ref rt,.ref d,.ref rl,.str y]∧H rt=some (.tup rvs)∧AllAt (RowAt H) rvs rs∧RowsGood rs∧(∀ m,m∈ns↔Stood rs m)∧ns.Pairwise (· < ·)∧
  DL H d (ns.map nk) ls (pss.map intsV)∧Ahead rs ns pss∧H rl=some (.lst (intsV ps))∧(∀ x,x∈ps↔Stood rs x∧Rds rs x y)∧ps.length≤6400∧
  ∀ (l:Addr) (ws:List Nat) (H':Hp),(∀ x,x∈ws↔Stood rs x∧Wnt rs y x)→ws.Nodup→H' l=some (.lst (intsV ws))→H l=none→Same H H'→Q (.ref l) H'
structure Want (rs:List BRow) (ns:List Nat) (wss:List (List Str)) (ss:List Str):Prop where
  srt:PyProof.Rows.sortedS ss=true
  nd:ss.Nodup
  len:wss.length=ns.length
  at_:∀ (j n:Nat) ws,ns[j]?=some n→wss[j]?=some ws→ws.Sublist ss∧∀ y,y∈ws↔Wnt rs y n
def sp_p_wanted (_:Fg):Sp:=fun vs H Q _=>∃ (rt:Addr) (rvs:List V) (rs:List BRow) (zs:List Str),vs=[.ref rt]∧H rt=some (.tup rvs)∧AllAt (RowAt H) rvs rs∧RowsGood rs∧(∀ r∈rs,(readsOf r).length≤100)∧zs.length < 64∧(∀ r∈rs,∀ y∈readsOf r,y∈zs)∧
  ∀ (d:Addr) (ns:List Nat) (ts:List Addr) (wss:List (List Str)) (ss:List Str) (H':Hp),(∀ m,m∈ns↔Stood rs m)→ns.Pairwise (· < ·)→H' d=some (.dK ((ns.map nk).zip (ts.map V.ref)))→ts.length=ns.length→(∀ (j:Nat) t ws,ts[j]?=some t→wss[j]?=some ws→H' t=some (.tup (ws.map V.str)))→Want rs ns wss ss→H d=none→Same H H'→Q (.ref d) H'
theorem stood_lt {rs:List BRow} (g:RowsGood rs) {n:Nat} (h:Stood rs n):n < rs.length:=h.1.lt g
theorem way_runJ {rs:List BRow} (g:RowsGood rs):∀ (k:Nat) {m:Nat},Way rs none m→Way rs none (runJ rs k m)
  | 0,_,h=>h
  | k + 1,m,h=>by
    show Way rs none (runJ rs k (stp rs m))
    refine way_runJ g k ?_
    unfold stp
    cases e:rs[m]? with
    | none=>exact h
    | some r=>
      cases r with
      | jump to=>exact .step h e (fun y z=>by cases z) (by unfold leadsL;exact List.mem_cons_self)
      | _=>exact h
theorem stood_edge {rs:List BRow} (g:RowsGood rs) {n t:Nat} (h:Stood rs n) (e:Edge rs n t):Stood rs t:=by
  obtain ⟨r,m,hr,hm,rfl⟩:=e
  have wm:Way rs none m:=.step h.1 hr (fun y z=>by cases z) hm
  exact ⟨way_runJ g _ wm,fun r' hr'=>g.ring m (g.inr _ _ _ hr hm) r' hr'⟩
theorem nk_inj {a b:Nat} (h:nk a=nk b):a=b:=by
  unfold nk at h
  injection h with h
  lia
theorem nk_nodup {ns:List Nat} (h:ns.Pairwise (· < ·)):(ns.map nk).Nodup:=by
  rw [List.Nodup,List.pairwise_map]
  exact h.imp fun hlt z=>by have:=nk_inj z;lia
def sp_stand (_:Fg):Sp:=fun vs H Q _=>∃ (rt:Addr) (n:Nat) (rvs:List V) (rs:List BRow),vs=[.ref rt,.int (n:Nat)]∧H rt=some (.tup rvs)∧AllAt (RowAt H) rvs rs∧RowsGood rs∧n < rs.length∧Q (.int (Sd rs n:Nat)) H
abbrev k_stand:Nat:=0
abbrev K_stand:Nat:=1
abbrev k_p_ra:Nat:=4
abbrev K_p_ra:Nat:=5
abbrev k_p_rt:Nat:=4
abbrev K_p_rt:Nat:=5
abbrev k_p_rw:Nat:=4
abbrev K_p_rw:Nat:=5
abbrev k_p_wanted:Nat:=5
abbrev K_p_wanted:Nat:=6
def unb (s:Str) (a b:Int):Int:=if s="+" then a + b else if s="-" then a - b else a * b
def wth (s:Str) (a b:Int):Int:=if s="<" then (if a < b then 1 else 0) else if s="=" then (if a=b then 1 else 0) else unb s a b % 18446744073709551616
def Wth (a:Int):Prop:=0≤a∧a < 2 ^ 64
theorem wth_ok (s:Str) (a b:Int):Wth (wth s a b):=by
  have e:(2:Int) ^ 64=18446744073709551616:=by decide
  unfold wth Wth
  rw [e]
  split
  · split <;> decide
  · split
    · split <;> decide
    · exact ⟨Int.emod_nonneg _ (by decide),Int.emod_lt_of_pos _ (by decide)⟩
theorem nil_open {σ:St} {H:Hp} {R:List V→Hp→Prop} (h:R [] H):tNil σ H R:=h
structure Fr where
  part:Nat
  row:Nat
  nm:List (Key × V)
theorem snoc_inj {α:Type} {a b:List α} {x y:α} (h:a++[x]=b++[y]):a=b∧x=y:=by
  have:=List.append_inj' h rfl
  exact ⟨this.1,by injection this.2⟩
def got (nm:List (Key × V)) (y:Str) (i:Int):Prop:=valV nm (Sum.inr y)=some (.int i)∧Wth i
def put (nm:List (Key × V)) (x:Str) (i:Int):List (Key × V):=putK nm (Sum.inr x) (.int i)
def vl (nm:List (Key × V)) (y:Str):Int:=match valV nm (Sum.inr y) with
  | some (.int i)=>i
  | _=>0
theorem vl_got {nm:List (Key × V)} {y:Str} {i:Int} (h:got nm y i):vl nm y=i:=by unfold vl;rw [h.1]
def rws (bs:List BPart) (k:Nat):List BRow:=((bs[k]?).map (·.rows)).getD []
def prm (bs:List BPart) (k:Nat):List Str:=((bs[k]?).map (·.params)).getD []
theorem rws_eq {bs:List BPart} {k:Nat} {b:BPart} (h:bs[k]?=some b):rws bs k=b.rows:=by unfold rws;rw [h];rfl
theorem prm_eq {bs:List BPart} {k:Nat} {b:BPart} (h:bs[k]?=some b):prm bs k=b.params:=by unfold prm;rw [h];rfl
def opn (bs:List BPart) (k:Nat) (zs:List Int):Fr:=⟨k,Sd (rws bs k) 0,mergeK [] (((prm bs k).map Sum.inr).zip (zs.map V.int))⟩
def sht (bs:List BPart) (g:Fr) (z:Int):Fr:=match (rws bs g.part)[g.row]? with
  | some (.call x _ _)=>⟨g.part,Sd (rws bs g.part) (g.row + 1),put g.nm x z⟩
  | _=>g
structure LR where
  fs:List Fr
  said:List Int
  ret:List Int
def lstepF (bs:List BPart) (fs:List Fr) (f:Fr) (said:List Int):LR:=
  match (rws bs f.part)[f.row]? with
  | some (.num x z)=>⟨fs++[⟨f.part,Sd (rws bs f.part) (f.row + 1),put f.nm x z⟩],said,[]⟩
  | some (.op x s p q)=>⟨fs++[⟨f.part,Sd (rws bs f.part) (f.row + 1),put f.nm x (wth s (vl f.nm p) (vl f.nm q))⟩],said,[]⟩
  | some (.say p)=>⟨fs++[⟨f.part,Sd (rws bs f.part) (f.row + 1),f.nm⟩],said++[vl f.nm p],[]⟩
  | some (.test p to)=>⟨fs++[⟨f.part,Sd (rws bs f.part) (if vl f.nm p=0 then f.row + 1 else to),f.nm⟩],said,[]⟩
  | some (.call _ k as)=>⟨fs++[f]++[opn bs k (as.map (vl f.nm))],said,[]⟩
  | some (.give p)=>match fs.getLast? with
    | none=>⟨[],said,[vl f.nm p]⟩
    | some g=>⟨fs.dropLast++[sht bs g (vl f.nm p)],said,[]⟩
  | _=>⟨fs++[f],said,[]⟩
def lstep (bs:List BPart) (fs:List Fr) (said:List Int):LR:=match fs.getLast? with
  | none=>⟨fs,said,[]⟩
  | some f=>lstepF bs fs.dropLast f said
theorem lstep_snoc {bs:List BPart} {fs:List Fr} {f:Fr} {said:List Int}:lstep bs (fs++[f]) said=lstepF bs fs f said:=by
  unfold lstep
  simp
def Has (nm:List (Key × V)) (y:Str):Prop:=∃ i,got nm y i
def Kys (nm:List (Key × V)):Prop:=∀ kv∈nm,∃ (y:Str) (i:Int),kv=(Sum.inr y,.int i)∧Wth i
structure FOk (bs:List BPart) (n:Nat) (f:Fr):Prop where
  part:∃ b,bs[f.part]?=some b∧Stood b.rows f.row∧∀ kss,kss.length=b.rows.length→Known b.params b.rows kss→∀ ks,kss[f.row]?=some ks→∀ y∈ks,Has f.nm y
  kys:Kys f.nm
  nd:(f.nm.map (·.1)).Nodup
  few:f.nm.length≤n
theorem FOk.up {bs:List BPart} {n n':Nat} {f:Fr} (h:FOk bs n f) (l:n≤n'):FOk bs n' f:=⟨h.part,h.kys,h.nd,Nat.le_trans h.few l⟩
def IsCl (bs:List BPart) (f:Fr):Prop:=∃ x k as,(rws bs f.part)[f.row]?=some (.call x k as)
structure LOk (bs:List BPart) (n:Nat) (fs:List Fr):Prop where
  frs:∀ f∈fs,FOk bs n f
  wait:∀ f∈fs.dropLast,IsCl bs f
  few:fs.length≤n
theorem has_put {nm:List (Key × V)} {x y:Str} {i:Int} (hi:Wth i) (h:y=x∨Has nm y):Has (put nm x i) y:=by
  by_cases e:y=x
  · subst e;exact ⟨i,by unfold put;rw [valV_put,if_pos rfl],hi⟩
  · obtain ⟨j,hj⟩:=h.resolve_left e
    exact ⟨j,by unfold put;rw [valV_put,if_neg (fun z=>e (Sum.inr.inj z))];exact hj.1,hj.2⟩
theorem kys_put {nm:List (Key × V)} {x:Str} {i:Int} (hi:Wth i) (h:Kys nm):Kys (put nm x i):=by
  intro kv hk
  unfold put putK at hk
  split at hk
  · obtain ⟨kv',m,e⟩:=List.mem_map.mp hk
    obtain ⟨y,j,ek,hj⟩:=h kv' m
    by_cases c:kv'.1=Sum.inr x
    · rw [if_pos c] at e
      exact ⟨x,i,by rw [← e,c],hi⟩
    · rw [if_neg c] at e
      exact ⟨y,j,by rw [← e];exact ek,hj⟩
  · rcases List.mem_append.mp hk with z | z
    · exact h kv z
    · exact ⟨x,i,List.mem_singleton.mp z,hi⟩
theorem nd_put {nm:List (Key × V)} {x:Str} {i:Int} (h:(nm.map (·.1)).Nodup):((put nm x i).map (·.1)).Nodup:=by
  unfold put
  cases e:valV nm (Sum.inr x) with
  | none=>exact nd_putK _ h e
  | some v=>
    unfold putK
    rw [valV_any,e]
    simp only [Option.isSome_some,if_true]
    rw [List.map_map]
    have:((fun (kv:Key × V)=>kv.1) ∘ fun kv=>if kv.1=Sum.inr x then (kv.1,V.int i) else kv)=fun kv=>kv.1:=by
      funext kv
      show (if kv.1=Sum.inr x then (kv.1,V.int i) else kv).1=kv.1
      split <;> rfl
    rw [this];exact h
theorem known_run {ps:List Str} {rs:List BRow} {kss:List (List Str)} (g:RowsGood rs) (hl:kss.length=rs.length) (k:Known ps rs kss):∀ (j:Nat) {m:Nat} {km kt:List Str},m < rs.length→kss[m]?=some km→kss[runJ rs j m]?=some kt→∀ y∈kt,y∈km
  | 0,m,km,kt,hm,h1,h2,y,hy=>by
    rw [show runJ rs 0 m=m from rfl,h1] at h2
    cases h2;exact hy
  | j + 1,m,km,kt,hm,h1,h2,y,hy=>by
    have h2:kss[runJ rs j (stp rs m)]?=some kt:=h2
    have sl:=stp_lt g hm
    obtain ⟨k1,e⟩:∃ k1,kss[stp rs m]?=some k1:=⟨_,List.getElem?_eq_getElem (show stp rs m < kss.length by rw [hl];exact sl)⟩
    have y1:=known_run g hl k j sl e h2 y hy
    cases er:rs[m]? with
    | none=>
      have:stp rs m=m:=by unfold stp;rw [er]
      rw [this,h1] at e
      cases e;exact y1
    | some r=>
      by_cases c:isJump r=true
      · cases r with
        | jump t=>
          have st:stp rs m=t:=by unfold stp;rw [er]
          have:=k.on m t (.jump t) km _ er (by unfold leadsL;exact List.mem_cons_self) h1 (by rw [← st];exact e) y y1
          exact this.resolve_right (fun z=>by cases z)
        | _=>cases c
      · have:stp rs m=m:=by
          unfold stp;rw [er]
          cases r <;> first | rfl | exact absurd rfl c
        rw [this,h1] at e
        cases e;exact y1
theorem FOk.on {bs:List BPart} {n:Nat} {f:Fr} {b:BPart} {r:BRow} {m:Nat} {nm:List (Key × V)} (g:RowsGood b.rows) (hb:bs[f.part]?=some b) (h:FOk bs n f) (hr:b.rows[f.row]?=some r) (hm:m∈leadsL f.row r)
    (hn:∀ y,Has f.nm y∨setsOf r=.str y→Has nm y) (hk:Kys nm) (hd:(nm.map (·.1)).Nodup) {n':Nat} (hl:nm.length≤n'):FOk bs n' ⟨f.part,Sd b.rows m,nm⟩:=by
  obtain ⟨b',e,sd,kn⟩:=h.part
  rw [hb] at e;cases e
  refine ⟨⟨b,hb,stood_edge g sd ⟨r,m,hr,hm,rfl⟩,fun kss kl K ks hks y hy=>?_⟩,hk,hd,hl⟩
  have ml:=g.inr _ _ _ hr hm
  have e1:=List.getElem?_eq_getElem (show m < kss.length by rw [kl];exact ml)
  have e2:=List.getElem?_eq_getElem (show f.row < kss.length by rw [kl];exact (List.getElem?_eq_some_iff.mp hr).1)
  have y1:=known_run g kl K b.rows.length ml e1 hks y hy
  exact hn y ((K.on f.row m r _ _ hr hm e2 e1 y y1).imp (kn kss kl K _ e2 y) fun z=>z)
theorem opn_ok {bs:List BPart} {k:Nat} {b:BPart} {zs:List Int} (g:RowsGood b.rows) (hb:bs[k]?=some b) (nd:b.params.Nodup) (hl:b.params.length=zs.length) (hz:∀ z∈zs,Wth z):FOk bs (zs.length) (opn bs k zs):=by
  have nk:(b.params.map (Sum.inr:Str→Key)).Nodup:=by
    rw [List.Nodup,List.pairwise_map]
    exact nd.imp fun h z=>h (Sum.inr.inj z)
  have fst:(((b.params.map (Sum.inr:Str→Key)).zip (zs.map V.int)).map (·.1))=b.params.map Sum.inr:=by
    rw [List.map_fst_zip];rw [List.length_map,List.length_map,hl];exact Nat.le_refl _
  have em:mergeK [] (((b.params.map Sum.inr).zip (zs.map V.int)):List (Key × V))=(b.params.map Sum.inr).zip (zs.map V.int):=mergeK_new _ [] (by rw [List.nil_append,fst];exact nk)
  have eo:opn bs k zs=⟨k,Sd b.rows 0,(b.params.map Sum.inr).zip (zs.map V.int)⟩:=by
    unfold opn;rw [rws_eq hb,prm_eq hb,em]
  rw [eo]
  have st0:Stood b.rows (Sd b.rows 0):=⟨way_runJ g _ .zero,fun r hr=>g.ring 0 g.pos r hr⟩
  refine ⟨⟨b,hb,st0,fun kss kl K ks hks y hy=>?_⟩,fun kv hkv=>?_,by rw [fst];exact nk,by rw [List.length_zip];simp;lia⟩
  · have e0:=List.getElem?_eq_getElem (show 0 < kss.length by rw [kl];exact g.pos)
    have y1:=K.zero _ e0 y (known_run g kl K b.rows.length g.pos e0 hks y hy)
    obtain ⟨j,hj⟩:=List.getElem?_of_mem y1
    have jl:j < zs.length:=by rw [← hl];exact (List.getElem?_eq_some_iff.mp hj).1
    exact ⟨zs[j],valV_zip nk (by rw [List.getElem?_map,hj];rfl) (by rw [List.getElem?_map,List.getElem?_eq_getElem jl];rfl),hz _ (List.getElem_mem jl)⟩
  · obtain ⟨a,c⟩:=kv
    have:=List.of_mem_zip hkv
    obtain ⟨y,_,e1⟩:=List.mem_map.mp this.1
    obtain ⟨z,hz',e2⟩:=List.mem_map.mp this.2
    exact ⟨y,z,by rw [e1,e2],hz z hz'⟩
structure PgOk (ys:List Str) (cs:List Nat) (bs:List BPart):Prop where
  ok:ProgOk ys cs bs
theorem PgOk.good {ys:List Str} {cs:List Nat} {bs:List BPart} (P:PgOk ys cs bs) {k:Nat} {b:BPart} (hb:bs[k]?=some b):RowsGood b.rows:=(P.ok.part b (List.mem_of_getElem? hb)).good
theorem FOk.reads {ys:List Str} {cs:List Nat} {bs:List BPart} (P:PgOk ys cs bs) {n:Nat} {f:Fr} (h:FOk bs n f):∃ b r,bs[f.part]?=some b∧b.rows[f.row]?=some r∧isJump r=false∧Stood b.rows f.row∧rws bs f.part=b.rows∧RowOk ys cs b.rows.length r∧∀ y∈readsOf r,Has f.nm y:=by
  obtain ⟨b,hb,sd,kn⟩:=h.part
  have lt:=stood_lt (P.good hb) sd
  have hr:=List.getElem?_eq_getElem lt
  obtain ⟨kss,kl,K,rd⟩:=(P.ok.part b (List.mem_of_getElem? hb)).known
  have hk:=List.getElem?_eq_getElem (show f.row < kss.length by rw [kl];exact lt)
  exact ⟨b,_,hb,hr,sd.2 _ hr,sd,rws_eq hb,(P.ok.part b (List.mem_of_getElem? hb)).rows _ (List.getElem_mem lt),fun y hy=>kn kss kl K _ hk y (rd _ _ _ hr hk y hy)⟩
theorem PgOk.call {ys:List Str} {cs:List Nat} {bs:List BPart} (P:PgOk ys cs bs) {k m:Nat} (h:cs[k]?=some m):∃ c,bs[k]?=some c∧c.params.length=m∧c.params.Nodup∧m≤4:=by
  rw [← P.ok.cnt,List.getElem?_map] at h
  cases e:bs[k]? with
  | none=>rw [e] at h;cases h
  | some c=>
    rw [e] at h
    have h:c.params.length=m:=Option.some.inj h
    refine ⟨c,rfl,h,(P.ok.part c (List.mem_of_getElem? e)).pnd,?_⟩
    have:c.params.length∈cs:=by rw [← P.ok.cnt];exact List.mem_map_of_mem (List.mem_of_getElem? e)
    have:=P.ok.c4 _ this
    lia
theorem vl_wth {nm:List (Key × V)} {y:Str} (h:Has nm y):Wth (vl nm y):=by
  obtain ⟨i,g⟩:=h
  rw [vl_got g];exact g.2
theorem put_few {nm:List (Key × V)} {x:Str} {i:Int} {n:Nat} (h:nm.length≤n):(put nm x i).length≤n + 1:=by
  have:=length_putK nm (Sum.inr x:Key) (.int i)
  unfold put;lia
theorem lok_top {bs:List BPart} {n n':Nat} {fs:List Fr} {f f':Fr} (h:LOk bs n (fs++[f])) (hn:n≤n') (o:FOk bs n' f'):LOk bs n' (fs++[f']):=by
  refine ⟨fun g hg=>?_,fun g hg=>h.wait g (by rw [List.dropLast_concat] at hg ⊢;exact hg),by have:=h.few;rw [List.length_append] at this ⊢;simp at this ⊢;lia⟩
  rcases List.mem_append.mp hg with z | z
  · exact (h.frs g (List.mem_append_left _ z)).up hn
  · rw [List.mem_singleton.mp z];exact o
theorem LOk.step {ys:List Str} {cs:List Nat} {bs:List BPart} (P:PgOk ys cs bs) {n:Nat} {fs:List Fr} {said:List Int} (h:LOk bs n fs) (h4:4≤n):LOk bs (n + 1) (lstep bs fs said).fs:=by
  rcases List.eq_nil_or_concat fs with rfl | ⟨fs0,f,e⟩
  · exact ⟨fun f hf=>(by cases hf),fun f hf=>(by cases hf),Nat.zero_le _⟩
  rw [List.concat_eq_append] at e
  subst e
  rw [lstep_snoc]
  have fo:=h.frs f (List.mem_append_right _ List.mem_cons_self)
  obtain ⟨b,r,hb,hr,hj,sd,er,ro,rd⟩:=fo.reads P
  have g:=P.good hb
  unfold lstepF
  rw [er]
  have stay:∀ {m:Nat},m∈leadsL f.row r→(∀ y,setsOf r≠.str y)→FOk bs (n + 1) ⟨f.part,Sd b.rows m,f.nm⟩:=fun hm hs=>fo.on g hb hr hm (fun y z=>z.resolve_right (hs y)) fo.kys fo.nd (Nat.le_succ_of_le fo.few)
  have sets:∀ {x:Str} {i:Int} {m:Nat},m∈leadsL f.row r→setsOf r=.str x→Wth i→FOk bs (n + 1) ⟨f.part,Sd b.rows m,put f.nm x i⟩:=fun {x i m} hm hs hi=>fo.on g hb hr hm (fun y z=>has_put hi (by
    rcases z with z | z
    · exact .inr z
    · rw [hs] at z;injection z with z;exact .inl z.symm)) (kys_put hi fo.kys) (nd_put fo.nd) (put_few fo.few)
  cases r with
  | jump t=>cases hj
  | num x z=>simp only [hr];exact lok_top h (Nat.le_succ _) (sets (by unfold leadsL;exact List.mem_cons_self) rfl ⟨ro.2.1,ro.2.2⟩)
  | op x s p q=>simp only [hr];exact lok_top h (Nat.le_succ _) (sets (by unfold leadsL;exact List.mem_cons_self) rfl (wth_ok _ _ _))
  | say p=>simp only [hr];exact lok_top h (Nat.le_succ _) (stay (by unfold leadsL;exact List.mem_cons_self) fun y z=>by cases z)
  | test p to=>
    simp only [hr]
    refine lok_top h (Nat.le_succ _) (stay ?_ fun y z=>by cases z)
    show _∈[f.row + 1,to]
    split
    · exact List.mem_cons_self
    · exact List.mem_cons_of_mem _ List.mem_cons_self
  | call x k as=>
    simp only [hr]
    obtain ⟨c,hc,cl,cn,c4⟩:=P.call ro.2.1
    have oo:FOk bs (n + 1) (opn bs k (as.map (vl f.nm))):=by
      refine (opn_ok (P.good hc) hc cn (by rw [List.length_map];exact cl) fun z hz=>?_).up (by rw [List.length_map];lia)
      obtain ⟨y,hy,e⟩:=List.mem_map.mp hz
      rw [← e];exact vl_wth (rd y hy)
    refine ⟨fun g' hg=>?_,fun g' hg=>?_,by have:=h.few;rw [List.length_append];show (fs0++[f]).length + 1≤n + 1;lia⟩
    · rcases List.mem_append.mp hg with z | z
      · exact (h.frs g' z).up (Nat.le_succ _)
      · rw [List.mem_singleton.mp z];exact oo
    · rw [List.dropLast_concat] at hg
      rcases List.mem_append.mp hg with z | z
      · exact h.wait g' (by rw [List.dropLast_concat];exact z)
      · rw [List.mem_singleton.mp z];exact ⟨x,k,as,by rw [er];exact hr⟩
  | give p=>
    simp only [hr]
    have hw:Wth (vl f.nm p):=vl_wth (rd p List.mem_cons_self)
    rcases List.eq_nil_or_concat fs0 with rfl | ⟨fs1,g1,e⟩
    · simp only [List.getLast?_nil]
      exact ⟨fun f hf=>(by cases hf),fun f hf=>(by cases hf),Nat.zero_le _⟩
    rw [List.concat_eq_append] at e
    subst e
    simp only [List.getLast?_concat,List.dropLast_concat]
    have go1:=h.frs g1 (List.mem_append_left _ (List.mem_append_right _ List.mem_cons_self))
    obtain ⟨x,k,as,ec⟩:=h.wait g1 (by rw [List.dropLast_concat];exact List.mem_append_right _ List.mem_cons_self)
    obtain ⟨b1,r1,hb1,hr1,_,sd1,er1,ro1,rd1⟩:=go1.reads P
    rw [er1] at ec
    have es:sht bs g1 (vl f.nm p)=⟨g1.part,Sd b1.rows (g1.row + 1),put g1.nm x (vl f.nm p)⟩:=by unfold sht;rw [er1,ec]
    rw [es]
    have o1:FOk bs (n + 1) ⟨g1.part,Sd b1.rows (g1.row + 1),put g1.nm x (vl f.nm p)⟩:=go1.on (P.good hb1) hb1 ec (by unfold leadsL;exact List.mem_cons_self) (fun y z=>has_put hw (by
      rcases z with z | z
      · exact .inr z
      · have z:V.str x=.str y:=z
        injection z with z;exact .inl z.symm)) (kys_put hw go1.kys) (nd_put go1.nd) (put_few go1.few)
    refine ⟨fun g' hg=>?_,fun g' hg=>h.wait g' ?_,by have:=h.few;rw [List.length_append,List.length_append] at this;rw [List.length_append];simp at this ⊢;lia⟩
    · rcases List.mem_append.mp hg with z | z
      · exact (h.frs g' (List.mem_append_left _ (List.mem_append_left _ z))).up (Nat.le_succ _)
      · rw [List.mem_singleton.mp z];exact o1
    · rw [List.dropLast_concat] at hg ⊢
      exact List.mem_append_left _ hg
def Agr (bs:List BPart) (f f':Fr):Prop:=f'.part=f.part∧f'.row=f.row∧∀ y,Wnt (rws bs f.part) y f.row→vl f'.nm y=vl f.nm y
inductive Agrs (bs:List BPart):List Fr→List Fr→Prop where
  | nil:Agrs bs [] []
  | snoc {fs fs':List Fr} {f f':Fr} (h:Agrs bs fs fs') (a:Agr bs f f'):Agrs bs (fs++[f]) (fs'++[f'])
theorem Agr.refl {bs:List BPart} (f:Fr):Agr bs f f:=⟨rfl,rfl,fun _ _=>rfl⟩
theorem Agrs.len {bs:List BPart} {fs fs':List Fr} (h:Agrs bs fs fs'):fs'.length=fs.length:=by
  induction h with
  | nil=>rfl
  | snoc _ _ ih=>simp [ih]
theorem Agrs.inv {bs:List BPart} {fs gs:List Fr} {f:Fr} (h:Agrs bs (fs++[f]) gs):∃ fs' f',gs=fs'++[f']∧Agrs bs fs fs'∧Agr bs f f':=by
  generalize e:fs++[f]=hs at h
  cases h with
  | nil=>simp at e
  | snoc h a=>
    obtain ⟨rfl,rfl⟩:=snoc_inj e
    exact ⟨_,_,rfl,h,a⟩
theorem vl_put {nm:List (Key × V)} {x y:Str} {i:Int}:vl (put nm x i) y=if y=x then i else vl nm y:=by
  unfold vl put
  rw [valV_put]
  by_cases e:y=x
  · subst e;rw [if_pos rfl,if_pos rfl]
  · rw [if_neg (fun z=>e (Sum.inr.inj z)),if_neg e]
theorem Agr.on {bs:List BPart} {f f':Fr} (a:Agr bs f f') {b:BPart} {r:BRow} {m:Nat} {nm nm':List (Key × V)} (er:rws bs f.part=b.rows) (hr:b.rows[f.row]?=some r) (hm:m∈leadsL f.row r)
    (hn:∀ y,(setsOf r≠.str y→vl f'.nm y=vl f.nm y)→vl nm' y=vl nm y):Agr bs ⟨f.part,Sd b.rows m,nm⟩ ⟨f'.part,Sd b.rows m,nm'⟩:=by
  refine ⟨a.1,rfl,fun y w=>hn y fun ns=>a.2.2 y ?_⟩
  rw [er]
  have w:Wnt (rws bs f.part) y (Sd b.rows m):=w
  rw [er] at w
  exact .on hr ns ⟨r,m,hr,hm,rfl⟩ w
theorem agree_step {ys:List Str} {cs:List Nat} {bs:List BPart} (P:PgOk ys cs bs) {n:Nat} {fs gs:List Fr} {said:List Int} (h:LOk bs n fs) (a:Agrs bs fs gs) :
    (lstep bs gs said).said=(lstep bs fs said).said∧(lstep bs gs said).ret=(lstep bs fs said).ret∧Agrs bs (lstep bs fs said).fs (lstep bs gs said).fs:=by
  rcases List.eq_nil_or_concat fs with rfl | ⟨fs0,f,e⟩
  · cases List.length_eq_zero_iff.mp a.len
    exact ⟨rfl,rfl,.nil⟩
  rw [List.concat_eq_append] at e
  subst e
  obtain ⟨gs0,g,rfl,a0,a1⟩:=a.inv
  rw [lstep_snoc,lstep_snoc]
  have fo:=h.frs f (List.mem_append_right _ List.mem_cons_self)
  obtain ⟨b,r,hb,hr,hj,sd,er,ro,rd⟩:=fo.reads P
  have va:∀ y∈readsOf r,vl g.nm y=vl f.nm y:=fun y hy=>a1.2.2 y (by rw [er];exact .here hr hy)
  have eg:rws bs g.part=b.rows:=by rw [a1.1];exact er
  have hg:b.rows[g.row]?=some r:=by rw [a1.2.1];exact hr
  unfold lstepF
  rw [er,eg]
  have nxt:g.row + 1=f.row + 1:=by rw [a1.2.1]
  cases r with
  | jump t=>cases hj
  | num x z=>
    simp only [hr,hg,nxt]
    refine ⟨trivial,trivial,.snoc a0 (a1.on er hr (by unfold leadsL;exact List.mem_cons_self) fun y hy=>?_)⟩
    rw [vl_put,vl_put]
    split
    · rfl
    · exact hy fun z=>by injection z with z;rename_i c;exact c z.symm
  | op x s p q=>
    simp only [hr,hg,nxt]
    refine ⟨trivial,trivial,.snoc a0 (a1.on er hr (by unfold leadsL;exact List.mem_cons_self) fun y hy=>?_)⟩
    rw [va p List.mem_cons_self,va q (List.mem_cons_of_mem _ List.mem_cons_self),vl_put,vl_put]
    split
    · rfl
    · exact hy fun z=>by injection z with z;rename_i c;exact c z.symm
  | say p=>
    simp only [hr,hg,nxt,va p List.mem_cons_self]
    exact ⟨trivial,trivial,.snoc a0 (a1.on er hr (by unfold leadsL;exact List.mem_cons_self) fun y hy=>hy fun z=>by cases z)⟩
  | test p to=>
    simp only [hr,hg,nxt,va p List.mem_cons_self]
    refine ⟨trivial,trivial,.snoc a0 (a1.on er hr ?_ fun y hy=>hy fun z=>by cases z)⟩
    show _∈[f.row + 1,to]
    split
    · exact List.mem_cons_self
    · exact List.mem_cons_of_mem _ List.mem_cons_self
  | call x k as=>
    simp only [hr,hg]
    have em:as.map (vl g.nm)=as.map (vl f.nm):=List.map_congr_left fun y hy=>va y hy
    rw [em]
    exact ⟨trivial,trivial,.snoc (.snoc a0 a1) (.refl _)⟩
  | give p=>
    simp only [hr,hg,va p List.mem_cons_self]
    rcases List.eq_nil_or_concat fs0 with rfl | ⟨fs1,f1,e⟩
    · cases List.length_eq_zero_iff.mp a0.len
      simp only [List.getLast?_nil]
      exact ⟨trivial,trivial,.nil⟩
    rw [List.concat_eq_append] at e
    subst e
    obtain ⟨gs1,g1,rfl,b0,b1⟩:=a0.inv
    simp only [List.getLast?_concat,List.dropLast_concat]
    refine ⟨trivial,trivial,.snoc b0 ?_⟩
    have go1:=h.frs f1 (List.mem_append_left _ (List.mem_append_right _ List.mem_cons_self))
    obtain ⟨x,k,as,ec⟩:=h.wait f1 (by rw [List.dropLast_concat];exact List.mem_append_right _ List.mem_cons_self)
    obtain ⟨c1,r1,hb1,hr1,_,sd1,er1,ro1,rd1⟩:=go1.reads P
    rw [er1] at ec
    have eg1:rws bs g1.part=c1.rows:=by rw [b1.1];exact er1
    have es:sht bs f1 (vl f.nm p)=⟨f1.part,Sd c1.rows (f1.row + 1),put f1.nm x (vl f.nm p)⟩:=by unfold sht;rw [er1,ec]
    have es':sht bs g1 (vl f.nm p)=⟨g1.part,Sd c1.rows (f1.row + 1),put g1.nm x (vl f.nm p)⟩:=by unfold sht;rw [eg1,b1.2.1,ec]
    rw [es,es']
    refine b1.on er1 ec (by unfold leadsL;exact List.mem_cons_self) fun y hy=>?_
    rw [vl_put,vl_put]
    by_cases c:y=x
    · rw [if_pos c,if_pos c]
    · rw [if_neg c,if_neg c]
      exact hy fun z=>by
        have z:V.str x=.str y:=z
        injection z with z;exact c z.symm
theorem lok_agree {bs:List BPart} {fs gs:List Fr} (a:Agrs bs fs gs) (h:∀ f∈fs.dropLast,IsCl bs f):∀ f∈gs.dropLast,IsCl bs f:=by
  cases a with
  | nil=>exact h
  | @snoc fs fs' f f' a0 a1=>
    rw [List.dropLast_concat] at h ⊢
    clear a1
    induction a0 with
    | nil=>exact fun f hf=>by cases hf
    | snoc a2 a3 ih=>
      intro g hg
      rcases List.mem_append.mp hg with z | z
      · exact ih (fun x hx=>h x (List.mem_append_left _ hx)) g z
      · rw [List.mem_singleton.mp z]
        obtain ⟨x,k,as,e⟩:=h _ (List.mem_append_right _ List.mem_cons_self)
        exact ⟨x,k,as,by rw [a3.1,a3.2.1];exact e⟩
def SeqAt (H:Hp) (a:Addr) (xs:List V):Prop:=H a=some (.lst xs)∨H a=some (.tup xs)
def FrA (H:Hp) (v:V) (f:Fr):Prop:=∃ p d,v=.ref p∧H p=some (.tup [.int (f.part:Nat),.int (f.row:Nat),.ref d])∧H d=some (.dK f.nm)
structure Td (H H':Hp):Prop where
  tp:Tp H H'
  dp:∀ p kvs,H p=some (.dK kvs)→H' p=some (.dK kvs)
theorem Td.of_same {H H':Hp} (s:Same H H'):Td H H':=⟨.of_same s,fun p _ h=>s p _ h⟩
theorem Td.trans {H H1 H2:Hp} (a:Td H H1) (b:Td H1 H2):Td H H2:=⟨a.tp.trans b.tp,fun p k h=>b.dp p k (a.dp p k h)⟩
theorem Td.lst {H:Hp} {l:Addr} {xs ys:List V} (h:H l=some (.lst xs)):Td H (upd H l (.lst ys)):=⟨(Tp.refl H).lst h,fun p k e=>by
  have n:p≠l:=fun z=>by rw [z,h] at e;cases e
  rw [upd_ne n];exact e⟩
theorem Td.of_but {H H':Hp} {l:Addr} {xs:List V} (b:But l H H') (h:H l=some (.lst xs)):Td H H':=⟨.of_but b h,fun p k e=>b p _ (fun z=>by rw [z,h] at e;cases e) e⟩
theorem FrA.mono {H H':Hp} {v:V} {f:Fr} (h:FrA H v f) (t:Td H H'):FrA H' v f:=by
  obtain ⟨p,d,e,h1,h2⟩:=h
  exact ⟨p,d,e,t.tp _ _ h1,t.dp _ _ h2⟩
structure PgA (H:Hp) (pp:Addr) (ys:List Str) (cs:List Nat) (bs:List BPart):Prop where
  ex:∃ pvs,H pp=some (.tup pvs)∧AllAt (PartAt H) pvs bs
  ok:PgOk ys cs bs
theorem PgA.mono {H H':Hp} {pp:Addr} {ys:List Str} {cs:List Nat} {bs:List BPart} (h:PgA H pp ys cs bs) (t:Tp H H'):PgA H' pp ys cs bs:=by
  obtain ⟨pvs,e,A⟩:=h.ex
  exact ⟨⟨pvs,t _ _ e,A.imp fun _ _ z=>z.mono t⟩,h.ok⟩
theorem PgA.rows {H:Hp} {pp:Addr} {ys:List Str} {cs:List Nat} {bs:List BPart} (P:PgA H pp ys cs bs) {k:Nat} {b:BPart} (hb:bs[k]?=some b):∃ pvs pt pa rt rvs,H pp=some (.tup pvs)∧pvs[((k:Nat):Int).toNat]?=some (.ref pt)∧H pt=some (.tup [.str b.name,.ref pa,.ref rt])∧H pa=some (.tup (b.params.map V.str))∧H rt=some (.tup rvs)∧AllAt (RowAt H) rvs b.rows:=by
  obtain ⟨pvs,e,A⟩:=P.ex
  have kl:k < bs.length:=(List.getElem?_eq_some_iff.mp hb).1
  obtain ⟨v,b',e1,e2,pt,pa,rt,rvs,rfl,h1,h2,h3,h4⟩:=A.get kl
  rw [hb] at e2;cases e2
  exact ⟨pvs,pt,pa,rt,rvs,e,by simpa using e1,h1,h2,h3,h4⟩
def But2 (L W:Addr) (H H':Hp):Prop:=∀ b o,b≠L→b≠W→H b=some o→H' b=some o
def sp_args (K:Fg):Sp:=fun vs H Q _=>∃ (st pp:Addr) (k m:Nat) (ys:List Str) (cs:List Nat) (bs:List BPart) (b:BPart),vs=[.ref st,.ref pp,.int (m:Nat)]∧Stt K H st k∧k≤800000∧PgA H pp ys cs bs∧bs[m]?=some b∧b.params.length≤10∧
  ∀ (l:Addr) (zs:List Int) (k':Nat) (H':Hp),H l=none→H' l=some (.lst (zs.map V.int))→zs.length=b.params.length→(∀ z∈zs,Wth z)→Stt K H' st k'→k'≤k + 40→But st H H'→Q (.ref l) H'
def sp_reckoned (_:Fg):Sp:=fun vs H Q _=>∃ (s:Str) (a b:Int),vs=[.str s,.int a,.int b]∧s∈signs∧Wth a∧Wth b∧∀ H',Same H H'→Q (.int (wth s a b)) H'
def sp_opened (_:Fg):Sp:=fun vs H Q _=>∃ (pp q:Addr) (k:Nat) (zs:List Int) (ys:List Str) (cs:List Nat) (bs:List BPart) (b:BPart),vs=[.ref pp,.int (k:Nat),.ref q]∧PgA H pp ys cs bs∧bs[k]?=some b∧b.params.length=zs.length∧zs.length≤10∧SeqAt H q (zs.map V.int)∧
  ∀ (v:V) (H':Hp),FrA H' v (opn bs k zs)→Same H H'→Q v H'
def sp_shut (_:Fg):Sp:=fun vs H Q _=>∃ (pp L:Addr) (z:Int) (n:Nat) (fvs:List V) (fs:List Fr) (f:Fr) (ys:List Str) (cs:List Nat) (bs:List BPart),vs=[.ref pp,.ref L,.int z]∧PgA H pp ys cs bs∧H L=some (.lst fvs)∧AllAt (FrA H) fvs (fs++[f])∧LOk bs n (fs++[f])∧n≤10000∧
  ∀ (e:Addr) (fvs':List V) (H':Hp),H' L=some (.lst fvs')→AllAt (FrA H') fvs' (match fs.getLast? with | none=>[] | some g=>fs.dropLast++[sht bs g z])→H' e=some (.lst (match fs.getLast? with | none=>[.int z] | some _=>[]))→H e=none→But L H H'→Q (.ref e) H'
def sp_step (_:Fg):Sp:=fun vs H Q _=>∃ (pp L W:Addr) (n:Nat) (fvs:List V) (fs:List Fr) (said:List Int) (ys:List Str) (cs:List Nat) (bs:List BPart),vs=[.ref pp,.ref L,.ref W]∧PgA H pp ys cs bs∧H L=some (.lst fvs)∧AllAt (FrA H) fvs fs∧H W=some (.lst (said.map V.int))∧L≠W∧LOk bs n fs∧fs≠[]∧n≤10000∧said.length≤n∧
  ∀ (e:Addr) (fvs':List V) (H':Hp),H' L=some (.lst fvs')→AllAt (FrA H') fvs' (lstep bs fs said).fs→H' W=some (.lst ((lstep bs fs said).said.map V.int))→H' e=some (.lst ((lstep bs fs said).ret.map V.int))→H e=none→But2 L W H H'→Q (.ref e) H'
abbrev k_args:Nat:=2
abbrev K_args:Nat:=3
abbrev k_reckoned:Nat:=0
abbrev K_reckoned:Nat:=1
abbrev k_opened:Nat:=1
abbrev K_opened:Nat:=2
abbrev k_shut:Nat:=1
abbrev K_shut:Nat:=2
abbrev k_step:Nat:=2
abbrev K_step:Nat:=3
def sp_turned (K:Fg):Sp:=fun vs H Q _=>∃ (st pp L:Addr) (k n:Nat) (fvs:List V) (fs:List Fr) (ys:List Str) (cs:List Nat) (bs:List BPart),vs=[.ref st,.ref pp,.ref L]∧Stt K H st k∧k≤700000∧PgA H pp ys cs bs∧H L=some (.lst fvs)∧AllAt (FrA H) fvs fs∧LOk bs n fs∧n≤100∧L≠st∧
  ∀ (M:Addr) (fvs':List V) (gs:List Fr) (k':Nat) (H':Hp),H M=none→H' M=some (.lst fvs')→AllAt (FrA H') fvs' gs→Agrs bs fs gs→(∀ g∈gs,FOk bs n g)→Stt K H' st k'→k'≤k + 400 * n→But st H H'→Q (.ref M) H'
def PlA (H:Hp) (v:V) (f:Fr):Prop:=∃ p,v=.ref p∧H p=some (.tup [.int (f.part:Nat),.int (f.row:Nat)])
def sp_places (_:Fg):Sp:=fun vs H Q _=>∃ (L:Addr) (fvs:List V) (fs:List Fr),vs=[.ref L]∧H L=some (.lst fvs)∧AllAt (FrA H) fvs fs∧fs.length≤10000∧
  ∀ (M:Addr) (tvs:List V) (H':Hp),H M=none→H' M=some (.lst tvs)→AllAt (PlA H') tvs fs→Same H H'→Q (.ref M) H'
abbrev k_turned:Nat:=6
abbrev K_turned:Nat:=7
abbrev k_places:Nat:=0
abbrev K_places:Nat:=1
abbrev k_law:Nat:=7
abbrev K_law:Nat:=8
end Bg
end
section
namespace Bg
open PySem PySem.Spec PyProof.Rows L2
abbrev PS_p_reads:List Str:=["row"]
abbrev N_p_reads:List Str:=["row","word"]
def t_p_reads_1 (K:Fg):TS:=(tRet (tTup tNil))
def t_p_reads_2 (K:Fg):TS:=(tSeq (tIfS (tTest (tOp ((rIn K false)) (tVar 1) (tTup (tCons (tC (.str "say")) (tCons (tC (.str "test")) (tCons (tC (.str "give")) tNil)))))) (tRet (tTup (tCons (tOp (rIx K) (tVar 0) (tC (.int 1))) tNil))) tNext) (t_p_reads_1 K))
def t_p_reads_3 (K:Fg):TS:=(tSeq (tIfS (tTest (tOp (rEqG K) (tVar 1) (tC (.str "call")))) (tRet (tCB (rTupleOf K) (tCons (tOp (rIx K) (tVar 0) (tC (.int 3))) tNil))) tNext) (t_p_reads_2 K))
def t_p_reads_4 (K:Fg):TS:=(tSeq (tIfS (tTest (tOp (rEqG K) (tVar 1) (tC (.str "op")))) (tRet (tTup (tCons (tOp (rIx K) (tVar 0) (tC (.int 3))) (tCons (tOp (rIx K) (tVar 0) (tC (.int 4))) tNil)))) tNext) (t_p_reads_3 K))
def t_p_reads (K:Fg):TS:=(tSeq (tAsg (tOp (rIx K) (tVar 0) (tC (.int 0))) (gName 1)) (t_p_reads_4 K))
abbrev PS_p_sets:List Str:=["row"]
abbrev N_p_sets:List Str:=["row"]
def t_p_sets_1 (K:Fg):TS:=(tRet (tC .non))
def t_p_sets (K:Fg):TS:=(tSeq (tIfS (tTest (tOp ((rIn K false)) (tOp (rIx K) (tVar 0) (tC (.int 0))) (tTup (tCons (tC (.str "num")) (tCons (tC (.str "op")) (tCons (tC (.str "call")) tNil)))))) (tRet (tOp (rIx K) (tVar 0) (tC (.int 1)))) tNext) (t_p_sets_1 K))
abbrev PS_p_goal:List Str:=["row"]
abbrev N_p_goal:List Str:=["row"]
def t_p_goal_1 (K:Fg):TS:=(tRet (tC .non))
def t_p_goal_2 (K:Fg):TS:=(tSeq (tIfS (tTest (tOp (rEqG K) (tOp (rIx K) (tVar 0) (tC (.int 0))) (tC (.str "test")))) (tRet (tOp (rIx K) (tVar 0) (tC (.int 2)))) tNext) (t_p_goal_1 K))
def t_p_goal (K:Fg):TS:=(tSeq (tIfS (tTest (tOp (rEqG K) (tOp (rIx K) (tVar 0) (tC (.int 0))) (tC (.str "jump")))) (tRet (tOp (rIx K) (tVar 0) (tC (.int 1)))) tNext) (t_p_goal_2 K))
abbrev PS_p_leads:List Str:=["rows","n"]
abbrev N_p_leads:List Str:=["rows","n","word"]
def t_p_leads_1 (K:Fg):TS:=(tRet (tTup (tCons (tOp (rPlus K) (tVar 1) (tC (.int 1))) tNil)))
def t_p_leads_2 (K:Fg):TS:=(tSeq (tIfS (tTest (tOp (rEqG K) (tVar 2) (tC (.str "test")))) (tRet (tTup (tCons (tOp (rPlus K) (tVar 1) (tC (.int 1))) (tCons (tCall (sp_p_goal K) [] E0 (tCons (tOp (rIx K) (tVar 0) (tVar 1)) tNil)) tNil)))) tNext) (t_p_leads_1 K))
def t_p_leads_3 (K:Fg):TS:=(tSeq (tIfS (tTest (tOp (rEqG K) (tVar 2) (tC (.str "jump")))) (tRet (tTup (tCons (tCall (sp_p_goal K) [] E0 (tCons (tOp (rIx K) (tVar 0) (tVar 1)) tNil)) tNil))) tNext) (t_p_leads_2 K))
def t_p_leads_4 (K:Fg):TS:=(tSeq (tIfS (tTest (tOp (rEqG K) (tVar 2) (tC (.str "give")))) (tRet (tTup tNil)) tNext) (t_p_leads_3 K))
def t_p_leads (K:Fg):TS:=(tSeq (tAsg (tOp (rIx K) (tOp (rIx K) (tVar 0) (tVar 1)) (tC (.int 0))) (gName 2)) (t_p_leads_4 K))
abbrev PS_p_stands:List Str:=["rows","n"]
abbrev N_p_stands:List Str:=["rows","n","at"]
def t_p_stands_1 (K:Fg):TS:=(tRet (tVar 2))
def t_p_stands_2 (K:Fg):TS:=(tAsg (tCall (sp_p_goal K) [] E0 (tCons (tOp (rIx K) (tVar 0) (tVar 2)) tNil)) (gName 2))
def t_p_stands_3 (K:Fg):TS:=(tSeq (tWhile (tTest (tOp (rEqG K) (tOp (rIx K) (tOp (rIx K) (tVar 0) (tVar 2)) (tC (.int 0))) (tC (.str "jump")))) (t_p_stands_2 K)) (t_p_stands_1 K))
def t_p_stands (K:Fg):TS:=(tSeq (tAsg (tVar 1) (gName 2)) (t_p_stands_3 K))
abbrev PS_p_walked:List Str:=["rows","unset"]
abbrev N_p_walked:List Str:=["rows","unset","found","waiting","n","to"]
def t_p_walked_1 (K:Fg):TS:=(tRet (tCB rSortD (tCons (tVar 2) tNil)))
def t_p_walked_2 (K:Fg):TS:=(tDrop (tBM K "list" rAppend (tVar 3) (tCons (tVar 5) tNil)))
def t_p_walked_3 (K:Fg):TS:=(tIfS (tTest (tOp ((rInD true)) (tVar 5) (tVar 2))) (tSeq (tAsg (tC (.bl true)) (gSub (tVar 2) (tVar 5) rSetD)) (t_p_walked_2 K)) tNext)
def t_p_walked_4 (K:Fg):TS:=(tIfS (tOr (tTest (tOp (rIsN) (tVar 1) (tC .non))) (tTest (tOp (rNeG K) (tCall (sp_p_sets K) [] E0 (tCons (tOp (rIx K) (tVar 0) (tVar 4)) tNil)) (tVar 1)))) (tFor (iSeq K (tCall (sp_p_leads K) [] E0 (tCons (tVar 0) (tCons (tVar 4) tNil)))) (gName 5) (t_p_walked_3 K)) tNext)
def t_p_walked_5 (K:Fg):TS:=(tSeq (tAsg (tBM0 K "list" rPop (tVar 3)) (gName 4)) (t_p_walked_4 K))
def t_p_walked_6 (K:Fg):TS:=(tSeq (tWhile (tTest (tOp (rGt2) (tCB (rLen K) (tCons (tVar 3) tNil)) (tC (.int 0)))) (t_p_walked_5 K)) (t_p_walked_1 K))
def t_p_walked_7 (K:Fg):TS:=(tSeq (tAsg (tLst (tCons (tC (.int 0)) tNil)) (gName 3)) (t_p_walked_6 K))
def t_p_walked (K:Fg):TS:=(tSeq (tAsg (tDisp [((tC (.int 0)),(tC (.bl true)))]) (gName 2)) (t_p_walked_7 K))
abbrev PS_p_come_to:List Str:=["rows"]
abbrev N_p_come_to:List Str:=["rows"]
def t_p_come_to (K:Fg):TS:=(tRet (tComp [] 1 (iSeq K (tCall (sp_p_walked K) [.non] E0 (tCons (tVar 0) tNil))) (gName 1) (tTest (tOp (rNeG K) (tOp (rIx K) (tOp (rIx K) (tVar 0) (tVar 1)) (tC (.int 0))) (tC (.str "jump")))) (tVar 1)))
abbrev PS_p_wanted:List Str:=["rows"]
abbrev N_p_wanted:List Str:=["rows","ahead","readers","found","name","n"]
def t_p_wanted_1 (K:Fg):TS:=(tRet (tCB (rDictPs K) (tCons (tThaw (tComp [5] 1 (iItems (tVar 3)) (gTup K 2 (gCons (gName 5) (gCons (gName 6) gNil))) tYes (tTup (tCons (tVar 5) (tCons (tCB (rTupleOf K) (tCons (tVar 6) tNil)) tNil))))) tNil)))
def t_p_wanted_2 (K:Fg):TS:=(tDrop (tBM K "list" rAppend (tDGet (tVar 3) (tVar 5)) (tCons (tVar 4) tNil)))
def t_p_wanted_3 (K:Fg):TS:=(tFor (iSeq K (tCall (sp_p_rw K) [] E0 (tCons (tVar 0) (tCons (tVar 1) (tCons (tDGet (tVar 2) (tVar 4)) (tCons (tVar 4) tNil)))))) (gName 5) (t_p_wanted_2 K))
def t_p_wanted_4 (K:Fg):TS:=(tSeq (tFor (iSeq K (tCB rSortDS (tCons (tVar 2) tNil))) (gName 4) (t_p_wanted_3 K)) (t_p_wanted_1 K))
def t_p_wanted_5 (K:Fg):TS:=(tSeq (tAsg (tCB (rDictPs K) (tCons (tThaw (tComp [5] 0 (iKeys (tVar 1)) (gName 5) tYes (tTup (tCons (tVar 5) (tCons (tLst tNil) tNil))))) tNil)) (gName 3)) (t_p_wanted_4 K))
def t_p_wanted_6 (K:Fg):TS:=(tSeq (tAsg (tCall (sp_p_rt K) [] E0 (tCons (tVar 0) tNil)) (gName 2)) (t_p_wanted_5 K))
def t_p_wanted (K:Fg):TS:=(tSeq (tAsg (tCall (sp_p_ra K) [] E0 (tCons (tVar 0) tNil)) (gName 1)) (t_p_wanted_6 K))
abbrev PS_p_ra:List Str:=["rows"]
abbrev N_p_ra:List Str:=["rows","come","ahead","n","to"]
def t_p_ra_1 (K:Fg):TS:=(tRet (tVar 2))
def t_p_ra_2 (K:Fg):TS:=(tDrop (tBM K "list" rAppend (tDGet (tVar 2) (tCall (sp_p_stands K) [] E0 (tCons (tVar 0) (tCons (tVar 4) tNil)))) (tCons (tVar 3) tNil)))
def t_p_ra_3 (K:Fg):TS:=(tFor (iSeq K (tCall (sp_p_leads K) [] E0 (tCons (tVar 0) (tCons (tVar 3) tNil)))) (gName 4) (t_p_ra_2 K))
def t_p_ra_4 (K:Fg):TS:=(tSeq (tFor (iSeq K (tVar 1)) (gName 3) (t_p_ra_3 K)) (t_p_ra_1 K))
def t_p_ra_5 (K:Fg):TS:=(tSeq (tAsg (tCB (rDictPs K) (tCons (tComp [3] 0 (iSeq K (tVar 1)) (gName 3) tYes (tTup (tCons (tVar 3) (tCons (tLst tNil) tNil)))) tNil)) (gName 2)) (t_p_ra_4 K))
def t_p_ra (K:Fg):TS:=(tSeq (tAsg (tCall (sp_p_come_to K) [] E0 (tCons (tVar 0) tNil)) (gName 1)) (t_p_ra_5 K))
abbrev PS_p_rt:List Str:=["rows"]
abbrev N_p_rt:List Str:=["rows","readers","n","name"]
def t_p_rt_1 (K:Fg):TS:=(tRet (tVar 1))
def t_p_rt_2 (K:Fg):TS:=(tDrop (tBM K "list" rAppend (tDSetd (tVar 1) (tVar 3) (tLst tNil)) (tCons (tVar 2) tNil)))
def t_p_rt_3 (K:Fg):TS:=(tFor (iSeq K (tCall (sp_p_reads K) [] E0 (tCons (tOp (rIx K) (tVar 0) (tVar 2)) tNil))) (gName 3) (t_p_rt_2 K))
def t_p_rt_4 (K:Fg):TS:=(tSeq (tFor (iSeq K (tCall (sp_p_come_to K) [] E0 (tCons (tVar 0) tNil))) (gName 2) (t_p_rt_3 K)) (t_p_rt_1 K))
def t_p_rt (K:Fg):TS:=(tSeq (tAsg tDNewK (gName 1)) (t_p_rt_4 K))
abbrev PS_p_rw:List Str:=["rows","ahead","readers","name"]
abbrev N_p_rw:List Str:=["rows","ahead","readers","name","passed","waiting","n"]
def t_p_rw_1 (K:Fg):TS:=(tRet (tCB rListD (tCons (tVar 4) tNil)))
def t_p_rw_2 (K:Fg):TS:=(tDrop (tBM K "list" rExtend (tVar 5) (tCons (tComp [] 1 (iSeq K (tDGet (tVar 1) (tVar 6))) (gName 7) (tTest (tOp (rNeG K) (tCall (sp_p_sets K) [] E0 (tCons (tOp (rIx K) (tVar 0) (tVar 7)) tNil)) (tVar 3))) (tVar 7)) tNil)))
def t_p_rw_3 (K:Fg):TS:=(tIfS (tTest (tOp ((rInD true)) (tVar 6) (tVar 4))) (tSeq (tAsg (tC (.bl true)) (gSub (tVar 4) (tVar 6) rSetD)) (t_p_rw_2 K)) tNext)
def t_p_rw_4 (K:Fg):TS:=(tSeq (tAsg (tBM0 K "list" rPop (tVar 5)) (gName 6)) (t_p_rw_3 K))
def t_p_rw_5 (K:Fg):TS:=(tSeq (tWhile (tTest (tOp (rGt2) (tCB (rLen K) (tCons (tVar 5) tNil)) (tC (.int 0)))) (t_p_rw_4 K)) (t_p_rw_1 K))
def t_p_rw_6 (K:Fg):TS:=(tSeq (tAsg (tCB (rListOf K) (tCons (tVar 2) tNil)) (gName 5)) (t_p_rw_5 K))
def t_p_rw (K:Fg):TS:=(tSeq (tAsg tDNewK (gName 4)) (t_p_rw_6 K))
abbrev PS_stand:List Str:=["_law_rows","_law_n"]
abbrev N_stand:List Str:=["_law_rows","_law_n"]
def t_stand_1 (K:Fg):TS:=(tRet (tVar 1))
def t_stand_2 (K:Fg):TS:=(tAsg (tOp (rIx K) (tOp (rIx K) (tVar 0) (tVar 1)) (tC (.int 1))) (gName 1))
def t_stand (K:Fg):TS:=(tSeq (tWhile (tTest (tOp (rEqG K) (tOp (rIx K) (tOp (rIx K) (tVar 0) (tVar 1)) (tC (.int 0))) (tC (.str "jump")))) (t_stand_2 K)) (t_stand_1 K))
end Bg
end
section
namespace L2
open PySem PySem.Spec PyProof.Rows
section
variable {X:Cx} {elts:List Expr} {k:Nat} {tpos:Pos}
end
end L2
end
section
namespace PySem.SeqAt
open AutoSeq1 (wpAny_loadPart')
open MeetsSeq MeetsSeq2 MeetsSeq3 SeqRoads2
end PySem.SeqAt
namespace L2
open PySem PySem.Spec PyProof.Rows
section
variable {X:Cx} {o e:Expr} {es:List Expr} {to ta tb:TE} {t:TA} {apos cpos:Pos}
end
section
variable {X:Cx} {C:Addr} {m x:Str} {ps:List Str} {k:Nat} {sp:Sp} {e:Expr} {es:List Expr} {t:TA} {p pos apos:Pos}
end
end L2
end
section
namespace Bg
open PySem PySem.Spec PyProof.Rows L2
abbrev PS_args:List Str:=["_law_state","_law_program_here","_law_k"]
abbrev N_args:List Str:=["_law_state","_law_program_here","_law_k"]
def t_args (K:Fg):TS:=(tRet (tComp [] 1 (iSeq K (tOp (rIx K) (tOp (rIx K) (tVar 1) (tVar 2)) (tC (.int 1)))) (gName 3) tYes (tCall (sp_worth K) [] E0 (tCons (tVar 0) tNil))))
abbrev PS_reckoned:List Str:=["_law_s","_law_one","_law_other"]
abbrev N_reckoned:List Str:=["_law_s","_law_one","_law_other"]
def t_reckoned_1 (K:Fg):TS:=(tRet (tOp (rMod2) (tDGet (tDisp [((tC (.str "+")),(tOp (rPlus K) (tVar 1) (tVar 2))),((tC (.str "-")),(tOp (rSub2) (tVar 1) (tVar 2))),((tC (.str "*")),(tOp (rTimes K) (tVar 1) (tVar 2)))]) (tVar 0)) (tOp (rPow2) (tC (.int 2)) (tC (.int 64)))))
def t_reckoned_2 (K:Fg):TS:=(tSeq (tIfS (tTest (tOp (rEqG K) (tVar 0) (tC (.str "=")))) (tRet (tCB (rInt1) (tCons (tOp (rEqG K) (tVar 1) (tVar 2)) tNil))) tNext) (t_reckoned_1 K))
def t_reckoned (K:Fg):TS:=(tSeq (tIfS (tTest (tOp (rEqG K) (tVar 0) (tC (.str "<")))) (tRet (tCB (rInt1) (tCons (tOp (rLt2) (tVar 1) (tVar 2)) tNil))) tNext) (t_reckoned_2 K))
abbrev PS_opened:List Str:=["_law_program_here","_law_part_here","_law_args_here"]
abbrev N_opened:List Str:=["_law_program_here","_law_part_here","_law_args_here","_law_name","_law_params","_law_rows"]
def t_opened_1 (K:Fg):TS:=(tRet (tTup (tCons (tVar 1) (tCons (tCall (sp_stand K) [] E0 (tCons (tVar 5) (tCons (tC (.int 0)) tNil))) (tCons (tDictZip K (tCons (tVar 4) (tCons (tVar 2) tNil))) tNil)))))
def t_opened (K:Fg):TS:=(tSeq (tAsg (tOp (rIx K) (tVar 0) (tVar 1)) (gTup K 3 (gCons (gName 3) (gCons (gName 4) (gCons (gName 5) gNil))))) (t_opened_1 K))
abbrev PS_shut:List Str:=["_law_program_here","_law_frames","_law_number"]
abbrev N_shut:List Str:=["_law_program_here","_law_frames","_law_number","_law_part_here","_law_n","_law_names_here","_law_rows"]
def t_shut_1 (K:Fg):TS:=(tRet (tLst tNil))
def t_shut_2 (K:Fg):TS:=(tSeq (tDrop (tBM K "list" rAppend (tVar 1) (tCons (tTup (tCons (tVar 3) (tCons (tCall (sp_stand K) [] E0 (tCons (tVar 6) (tCons (tOp (rPlus K) (tVar 4) (tC (.int 1))) tNil))) (tCons (tVar 5) tNil)))) tNil))) (t_shut_1 K))
def t_shut_3 (K:Fg):TS:=(tSeq (tAsg (tVar 2) (gSub (tVar 5) (tOp (rIx K) (tOp (rIx K) (tVar 6) (tVar 4)) (tC (.int 1))) rSetD)) (t_shut_2 K))
def t_shut_4 (K:Fg):TS:=(tSeq (tAsg (tCB (rCopyD) (tCons (tVar 5) tNil)) (gName 5)) (t_shut_3 K))
def t_shut_5 (K:Fg):TS:=(tSeq (tAsg (tOp (rIx K) (tOp (rIx K) (tVar 0) (tVar 3)) (tC (.int 2))) (gName 6)) (t_shut_4 K))
def t_shut_6 (K:Fg):TS:=(tSeq (tAsg (tBM0 K "list" rPop (tVar 1)) (gTup K 3 (gCons (gName 3) (gCons (gName 4) (gCons (gName 5) gNil))))) (t_shut_5 K))
def t_shut_7 (K:Fg):TS:=(tSeq (tIfS (tTest (tOp (rEqU K) (tVar 1) (tLst tNil))) (tRet (tLst (tCons (tVar 2) tNil))) tNext) (t_shut_6 K))
def t_shut (K:Fg):TS:=(tSeq (tDrop (tBM0 K "list" rPop (tVar 1))) (t_shut_7 K))
abbrev PS_step:List Str:=["_law_program_here","_law_frames","_law_words"]
abbrev N_step:List Str:=["_law_program_here","_law_frames","_law_words","_law_part_here","_law_n","_law_names_here","_law_rows","_law_row","_law_to"]
def t_step_1 (K:Fg):TS:=(tRet (tLst tNil))
def t_step_2 (K:Fg):TS:=(tSeq (tAsg (tTup (tCons (tVar 3) (tCons (tCall (sp_stand K) [] E0 (tCons (tVar 6) (tCons (tVar 8) tNil))) (tCons (tVar 5) tNil)))) (gSub (tVar 1) (tUn rNeg (tC (.int 1))) rSetL)) (t_step_1 K))
def t_step_3 (K:Fg):TS:=(tSeq (tIfS (tAnd (tTest (tOp (rEqG K) (tOp (rIx K) (tVar 7) (tC (.int 0))) (tC (.str "test")))) (tTest (tOp (rNeG K) (tDGet (tVar 5) (tOp (rIx K) (tVar 7) (tC (.int 1)))) (tC (.int 0))))) (tAsg (tOp (rIx K) (tVar 7) (tC (.int 2))) (gName 8)) tNext) (t_step_2 K))
def t_step_4 (K:Fg):TS:=(tSeq (tIfS (tTest (tOp (rEqG K) (tOp (rIx K) (tVar 7) (tC (.int 0))) (tC (.str "say")))) (tDrop (tBM K "list" rAppend (tVar 2) (tCons (tDGet (tVar 5) (tOp (rIx K) (tVar 7) (tC (.int 1)))) tNil))) tNext) (t_step_3 K))
def t_step_5 (K:Fg):TS:=(tSeq (tIfS (tTest (tOp (rEqG K) (tOp (rIx K) (tVar 7) (tC (.int 0))) (tC (.str "op")))) (tAsg (tCall (sp_reckoned K) [] E0 (tCons (tOp (rIx K) (tVar 7) (tC (.int 2))) (tCons (tDGet (tVar 5) (tOp (rIx K) (tVar 7) (tC (.int 3)))) (tCons (tDGet (tVar 5) (tOp (rIx K) (tVar 7) (tC (.int 4)))) tNil)))) (gSub (tVar 5) (tOp (rIx K) (tVar 7) (tC (.int 1))) rSetD)) tNext) (t_step_4 K))
def t_step_6 (K:Fg):TS:=(tSeq (tIfS (tTest (tOp (rEqG K) (tOp (rIx K) (tVar 7) (tC (.int 0))) (tC (.str "num")))) (tAsg (tOp (rIx K) (tVar 7) (tC (.int 2))) (gSub (tVar 5) (tOp (rIx K) (tVar 7) (tC (.int 1))) rSetD)) tNext) (t_step_5 K))
def t_step_7 (K:Fg):TS:=(tSeq (tAsg (tCB (rCopyD) (tCons (tVar 5) tNil)) (gName 5)) (t_step_6 K))
def t_step_8 (K:Fg):TS:=(tRet (tLst tNil))
def t_step_9 (K:Fg):TS:=(tSeq (tIfS (tTest (tOp (rEqG K) (tOp (rIx K) (tVar 7) (tC (.int 0))) (tC (.str "call")))) (tSeq (tDrop (tBM K "list" rAppend (tVar 1) (tCons (tCall (sp_opened K) [] E0 (tCons (tVar 0) (tCons (tOp (rIx K) (tVar 7) (tC (.int 2))) (tCons (tComp [] 1 (iSeq K (tOp (rIx K) (tVar 7) (tC (.int 3)))) (gName 9) tYes (tDGet (tVar 5) (tVar 9))) tNil)))) tNil))) (t_step_8 K)) tNext) (t_step_7 K))
def t_step_10 (K:Fg):TS:=(tSeq (tIfS (tTest (tOp (rEqG K) (tOp (rIx K) (tVar 7) (tC (.int 0))) (tC (.str "give")))) (tRet (tCall (sp_shut K) [] E0 (tCons (tVar 0) (tCons (tVar 1) (tCons (tDGet (tVar 5) (tOp (rIx K) (tVar 7) (tC (.int 1)))) tNil))))) tNext) (t_step_9 K))
def t_step_11 (K:Fg):TS:=(tSeq (tAsg (tOp (rPlus K) (tVar 4) (tC (.int 1))) (gName 8)) (t_step_10 K))
def t_step_12 (K:Fg):TS:=(tSeq (tAsg (tOp (rIx K) (tVar 6) (tVar 4)) (gName 7)) (t_step_11 K))
def t_step_13 (K:Fg):TS:=(tSeq (tAsg (tOp (rIx K) (tOp (rIx K) (tVar 0) (tVar 3)) (tC (.int 2))) (gName 6)) (t_step_12 K))
def t_step (K:Fg):TS:=(tSeq (tAsg (tOp (rIx K) (tVar 1) (tUn rNeg (tC (.int 1)))) (gTup K 3 (gCons (gName 3) (gCons (gName 4) (gCons (gName 5) gNil))))) (t_step_13 K))
def top (i:Nat):Stmt:=PySem.Challenge.pw_beltgarth_k36_whole_unwanted_names.main.body.getD i (.Pass ⟨0,0,0,0⟩)
abbrev s_p_reads:Stmt:=top 1
theorem sc_p_reads:FnScope N_p_reads PS_p_reads (defScope s_p_reads):=⟨rfl,rfl,rfl,by decide +kernel,rfl,by decide +kernel,by decide +kernel⟩
abbrev s_p_sets:Stmt:=top 2
theorem sc_p_sets:FnScope N_p_sets PS_p_sets (defScope s_p_sets):=⟨rfl,rfl,rfl,by decide +kernel,rfl,by decide +kernel,by decide +kernel⟩
abbrev s_p_goal:Stmt:=top 3
theorem sc_p_goal:FnScope N_p_goal PS_p_goal (defScope s_p_goal):=⟨rfl,rfl,rfl,by decide +kernel,rfl,by decide +kernel,by decide +kernel⟩
abbrev s_p_leads:Stmt:=top 4
theorem sc_p_leads:FnScope N_p_leads PS_p_leads (defScope s_p_leads):=⟨rfl,rfl,rfl,by decide +kernel,rfl,by decide +kernel,by decide +kernel⟩
abbrev s_p_stands:Stmt:=top 5
theorem sc_p_stands:FnScope N_p_stands PS_p_stands (defScope s_p_stands):=⟨rfl,rfl,rfl,by decide +kernel,rfl,by decide +kernel,by decide +kernel⟩
abbrev s_p_walked:Stmt:=top 6
theorem sc_p_walked:FnScope N_p_walked PS_p_walked (defScope s_p_walked):=⟨rfl,rfl,rfl,by decide +kernel,rfl,by decide +kernel,by decide +kernel⟩
abbrev s_p_come_to:Stmt:=top 7
theorem sc_p_come_to:FnScope N_p_come_to PS_p_come_to (defScope s_p_come_to):=⟨rfl,rfl,rfl,by decide +kernel,rfl,by decide +kernel,by decide +kernel⟩
abbrev s_p_wanted:Stmt:=top 9
theorem sc_p_wanted:FnScope N_p_wanted PS_p_wanted (defScope s_p_wanted):=⟨rfl,rfl,rfl,by decide +kernel,rfl,by decide +kernel,by decide +kernel⟩
abbrev s_p_ra:Stmt:=top 10
theorem sc_p_ra:FnScope N_p_ra PS_p_ra (defScope s_p_ra):=⟨rfl,rfl,rfl,by decide +kernel,rfl,by decide +kernel,by decide +kernel⟩
abbrev s_p_rt:Stmt:=top 11
theorem sc_p_rt:FnScope N_p_rt PS_p_rt (defScope s_p_rt):=⟨rfl,rfl,rfl,by decide +kernel,rfl,by decide +kernel,by decide +kernel⟩
abbrev s_p_rw:Stmt:=top 12
theorem sc_p_rw:FnScope N_p_rw PS_p_rw (defScope s_p_rw):=⟨rfl,rfl,rfl,by decide +kernel,rfl,by decide +kernel,by decide +kernel⟩
abbrev s_draw:Stmt:=top 14
theorem sc_draw:FnScope N_draw PS_draw (defScope s_draw):=⟨rfl,rfl,rfl,by decide +kernel,rfl,by decide +kernel,by decide +kernel⟩
abbrev s_names:Stmt:=top 15
theorem sc_names:FnScope N_names PS_names (defScope s_names):=⟨rfl,rfl,rfl,by decide +kernel,rfl,by decide +kernel,by decide +kernel⟩
abbrev s_worth:Stmt:=top 16
theorem sc_worth:FnScope N_worth PS_worth (defScope s_worth):=⟨rfl,rfl,rfl,by decide +kernel,rfl,by decide +kernel,by decide +kernel⟩
abbrev s_rough_row:Stmt:=top 17
theorem sc_rough_row:FnScope N_rough_row PS_rough_row (defScope s_rough_row):=⟨rfl,rfl,rfl,by decide +kernel,rfl,by decide +kernel,by decide +kernel⟩
abbrev s_leads:Stmt:=top 18
theorem sc_leads:FnScope N_leads PS_leads (defScope s_leads):=⟨rfl,rfl,rfl,by decide +kernel,rfl,by decide +kernel,by decide +kernel⟩
abbrev s_mended:Stmt:=top 19
theorem sc_mended:FnScope N_mended PS_mended (defScope s_mended):=⟨rfl,rfl,rfl,by decide +kernel,rfl,by decide +kernel,by decide +kernel⟩
abbrev s_set_names:Stmt:=top 20
theorem sc_set_names:FnScope N_set_names PS_set_names (defScope s_set_names):=⟨rfl,rfl,rfl,by decide +kernel,rfl,by decide +kernel,by decide +kernel⟩
abbrev s_filled:Stmt:=top 21
theorem sc_filled:FnScope N_filled PS_filled (defScope s_filled):=⟨rfl,rfl,rfl,by decide +kernel,rfl,by decide +kernel,by decide +kernel⟩
abbrev s_part:Stmt:=top 22
theorem sc_part:FnScope N_part PS_part (defScope s_part):=⟨rfl,rfl,rfl,by decide +kernel,rfl,by decide +kernel,by decide +kernel⟩
abbrev s_program:Stmt:=top 23
theorem sc_program:FnScope N_program PS_program (defScope s_program):=⟨rfl,rfl,rfl,by decide +kernel,rfl,by decide +kernel,by decide +kernel⟩
abbrev s_args:Stmt:=top 24
theorem sc_args:FnScope N_args PS_args (defScope s_args):=⟨rfl,rfl,rfl,by decide +kernel,rfl,by decide +kernel,by decide +kernel⟩
abbrev s_stand:Stmt:=top 25
theorem sc_stand:FnScope N_stand PS_stand (defScope s_stand):=⟨rfl,rfl,rfl,by decide +kernel,rfl,by decide +kernel,by decide +kernel⟩
abbrev s_reckoned:Stmt:=top 26
theorem sc_reckoned:FnScope N_reckoned PS_reckoned (defScope s_reckoned):=⟨rfl,rfl,rfl,by decide +kernel,rfl,by decide +kernel,by decide +kernel⟩
abbrev s_opened:Stmt:=top 27
theorem sc_opened:FnScope N_opened PS_opened (defScope s_opened):=⟨rfl,rfl,rfl,by decide +kernel,rfl,by decide +kernel,by decide +kernel⟩
abbrev s_shut:Stmt:=top 28
theorem sc_shut:FnScope N_shut PS_shut (defScope s_shut):=⟨rfl,rfl,rfl,by decide +kernel,rfl,by decide +kernel,by decide +kernel⟩
abbrev s_step:Stmt:=top 29
theorem sc_step:FnScope N_step PS_step (defScope s_step):=⟨rfl,rfl,rfl,by decide +kernel,rfl,by decide +kernel,by decide +kernel⟩
abbrev s_turned:Stmt:=top 30
abbrev PS_turned:List Str:=["_law_state","_law_program_here","_law_frames"]
abbrev N_turned:List Str:=["_law_state","_law_program_here","_law_frames","_law_found","_law_part_here","_law_n","_law_names_here","_law_needs","_law_other","_law_name"]
def t_turned_1 (K:Fg):TS:=(tRet (tVar 3))
def t_turned_2 (K:Fg):TS:=(tDrop (tBM K "list" rAppend (tVar 3) (tCons (tTup (tCons (tVar 4) (tCons (tVar 5) (tCons (tVar 8) tNil)))) tNil)))
def t_turned_3 (K:Fg):TS:=(tIfS (tTest (tOp ((rIn K true)) (tVar 9) (tVar 7))) (tAsg (tCall (sp_worth K) [] E0 (tCons (tVar 0) tNil)) (gSub (tVar 8) (tVar 9) rSetD)) tNext)
def t_turned_4 (K:Fg):TS:=(tSeq (tFor (iSeq K (tCB rListD (tCons (tVar 6) tNil))) (gName 9) (t_turned_3 K)) (t_turned_2 K))
def t_turned_5 (K:Fg):TS:=(tSeq (tAsg (tCB (rCopyD) (tCons (tVar 6) tNil)) (gName 8)) (t_turned_4 K))
def t_turned_6 (K:Fg):TS:=(tSeq (tAsg (tDGet (tCall (sp_p_wanted K) [] E0 (tCons (tOp (rIx K) (tOp (rIx K) (tVar 1) (tVar 4)) (tC (.int 2))) tNil)) (tVar 5)) (gName 7)) (t_turned_5 K))
def t_turned_7 (K:Fg):TS:=(tSeq (tFor (iSeq K (tVar 2)) (gTup K 3 (gCons (gName 4) (gCons (gName 5) (gCons (gName 6) gNil)))) (t_turned_6 K)) (t_turned_1 K))
def t_turned (K:Fg):TS:=(tSeq (tAsg (tLst tNil) (gName 3)) (t_turned_7 K))
theorem sc_turned:FnScope N_turned PS_turned (defScope s_turned):=⟨rfl,rfl,rfl,by decide +kernel,rfl,by decide +kernel,by decide +kernel⟩
abbrev s_places:Stmt:=top 31
abbrev PS_places:List Str:=["_law_frames"]
abbrev N_places:List Str:=["_law_frames"]
def t_places (K:Fg):TS:=(tRet (tComp [] 1 (iSeq K (tVar 0)) (gName 1) tYes (tSl (rSl K) (tVar 1) tNoPart (tPart (tC (.int 2))))))
theorem sc_places:FnScope N_places PS_places (defScope s_places):=⟨rfl,rfl,rfl,by decide +kernel,rfl,by decide +kernel,by decide +kernel⟩
abbrev s_law:Stmt:=top 32
abbrev PS_law:List Str:=["_law_script"]
abbrev N_law:List Str:=["_law_script","_law_state","_law_program_here","_law_k","_law_frames","_law_words","_law_turn","_law_others","_law_heard","_law_end"]
def t_law_1 (K:Fg):TS:=(tRet (tC (.bl true)))
def t_law_2 (K:Fg):TS:=(tIfS (tTest (tOp (rNeU K) (tCall (sp_step K) [] E0 (tCons (tVar 2) (tCons (tVar 7) (tCons (tVar 8) tNil)))) (tVar 9))) (tRet (tC (.bl false))) tNext)
def t_law_3 (K:Fg):TS:=(tIfS (tTest (tOp (rNeU K) (tVar 4) (tLst tNil))) (tSeq (tAsg (tCall (sp_step K) [] E0 (tCons (tVar 2) (tCons (tVar 4) (tCons (tVar 5) tNil)))) (gName 9)) (t_law_2 K)) tNext)
def t_law_4 (K:Fg):TS:=(tSeq (tIfS (tOr (tTest (tOp (rNeU K) (tVar 5) (tVar 8))) (tTest (tOp (rNeU K) (tCall (sp_places K) [] E0 (tCons (tVar 4) tNil)) (tCall (sp_places K) [] E0 (tCons (tVar 7) tNil))))) (tRet (tC (.bl false))) tNext) (t_law_3 K))
def t_law_5 (K:Fg):TS:=(tSeq (tFor (iRng1 (tCons (tC (.int 60)) tNil)) (gName 6) (t_law_4 K)) (t_law_1 K))
def t_law_6 (K:Fg):TS:=(tSeq (tAsg (tCB (rListOf K) (tCons (tVar 5) tNil)) (gName 8)) (t_law_5 K))
def t_law_7 (K:Fg):TS:=(tSeq (tAsg (tCall (sp_turned K) [] E0 (tCons (tVar 1) (tCons (tVar 2) (tCons (tVar 4) tNil)))) (gName 7)) (t_law_6 K))
def t_law_8 (K:Fg):TS:=(tIfS (tTest (tOp (rNeU K) (tVar 4) (tLst tNil))) (tDrop (tCall (sp_step K) [] E0 (tCons (tVar 2) (tCons (tVar 4) (tCons (tVar 5) tNil))))) tNext)
def t_law_9 (K:Fg):TS:=(tSeq (tFor (iRng1 (tCons (tCall (sp_draw K) [] E0 (tCons (tVar 1) (tCons (tC (.int 31)) tNil))) tNil)) (gName 6) (t_law_8 K)) (t_law_7 K))
def t_law_10 (K:Fg):TS:=(tSeq (tAsg (tLst tNil) (gName 5)) (t_law_9 K))
def t_law_11 (K:Fg):TS:=(tSeq (tAsg (tLst (tCons (tCall (sp_opened K) [] E0 (tCons (tVar 2) (tCons (tVar 3) (tCons (tCall (sp_args K) [] E0 (tCons (tVar 1) (tCons (tVar 2) (tCons (tVar 3) tNil)))) tNil)))) tNil)) (gName 4)) (t_law_10 K))
def t_law_12 (K:Fg):TS:=(tSeq (tAsg (tCall (sp_draw K) [] E0 (tCons (tVar 1) (tCons (tCB (rLen K) (tCons (tVar 2) tNil)) tNil))) (gName 3)) (t_law_11 K))
def t_law_13 (K:Fg):TS:=(tSeq (tAsg (tCall (sp_program K) [] E0 (tCons (tVar 1) (tCons (tOp (rIx K) (tLst (tCons (tC (.int 12)) (tCons (tC (.int 24)) tNil))) (tOp (rMod2) (tOp (rFdiv2) (tCB (rSum K) (tCons (tSl (rSl K) (tVar 0) tNoPart (tPart (tC (.int 1)))) tNil)) (tC (.int 2))) (tC (.int 2)))) tNil))) (gName 2)) (t_law_12 K))
def t_law (K:Fg):TS:=(tSeq (tAsg (tLst (tCons (tVar 0) (tCons (tC (.int 0)) (tCons (tC (.int 0)) tNil)))) (gName 1)) (t_law_13 K))
theorem sc_law:FnScope N_law PS_law (defScope s_law):=⟨rfl,rfl,rfl,by decide +kernel,rfl,by decide +kernel,by decide +kernel⟩
section
variable {P:Program} {w:World} {K:Fg} {mg:Str→Option Value} {base:Heap} {f:Addr} {cdv:Value} {A:Around} {outer:List Env} {s:Shared} {H:Hp} {E:XK}
theorem d_stand (B:Blt mg)  
    (hr:Room k_stand (A.deeper (envOfC "_law_stand" (defScope s_stand) s.heap.objs.size f cdv))):PSs (cxOf CX0 P w K mg base N_stand "_law_stand" (defScope s_stand) f cdv A outer s H E).nox (defBody s_stand) (t_stand K):=by
  have nd:=sc_stand.nd
  have hu:=hr.units0
  have hu1:=hu_of hr
  refine QSs.up ?_
  exact (qss_cons (qs_while PassesOwn.never (qt_cmpR (op_eqG hu) (qe_ix ix_seq (qe_ix ix_seq (qv 0) (qv 1) (fun _ _=>rfl)) qe_int (fun _ _=>rfl)) qe_str rfl) (qss_one (qs_set (i:=1) nd rfl (Or.inl rfl) (qe_ix ix_seq (qe_ix ix_seq (qv 0) (qv 1) (fun _ _=>rfl)) qe_int (fun _ _=>rfl))))) (qss_one (qs_ret (qv 1))))
theorem d_reckoned (B:Blt mg)  
    (hr:Room k_reckoned (A.deeper (envOfC "_law_reckoned" (defScope s_reckoned) s.heap.objs.size f cdv))):PSs (cxOf CX0 P w K mg base N_reckoned "_law_reckoned" (defScope s_reckoned) f cdv A outer s H E).nox (defBody s_reckoned) (t_reckoned K):=by
  have nd:=sc_reckoned.nd
  have hu:=hr.units0
  have hu1:=hu_of hr
  refine QSs.up ?_
  exact (qss_cons (qs_if (qt_cmpR (op_eqG hu) (qv 0) qe_str rfl) (qss_one (qs_ret (qe_callTy call_int1 rfl B.int_ boot_int (qa_cons (qe_cmpR op_lt (qv 1) (qv 2) rfl) qa_nil)))) qss_nil) (qss_cons (qs_if (qt_cmpR (op_eqG hu) (qv 0) qe_str rfl) (qss_one (qs_ret (qe_callTy call_int1 rfl B.int_ boot_int (qa_cons (qe_cmpR (op_eqG hu) (qv 1) (qv 2) rfl) qa_nil)))) qss_nil) (qss_one (qs_ret (qe_op op_mod (qe_dget hu1 (qe_disp (qps_cons qe_str (qe_op op_plus (qv 1) (qv 2)) (qps_cons qe_str (qe_op op_sub (qv 1) (qv 2)) (qps_cons qe_str (qe_op op_times (qv 1) (qv 2)) qps_nil))) rfl rfl (by simp) (by decide)) (qv 0) (fun _ _=>rfl)) (qe_op op_pow qe_int qe_int))))))
theorem d_opened (B:Blt mg)  (c_stand:Callee P w K mg base "_law_stand" PS_stand K_stand (sp_stand K))
    (hr:Room k_opened (A.deeper (envOfC "_law_opened" (defScope s_opened) s.heap.objs.size f cdv))):PSs (cxOf CX0 P w K mg base N_opened "_law_opened" (defScope s_opened) f cdv A outer s H E).nox (defBody s_opened) (t_opened K):=by
  have nd:=sc_opened.nd
  have hu:=hr.units0
  have hu1:=hu_of hr
  refine QSs.up ?_
  exact (qss_cons (qs_asg (qe_ix ix_seq (qv 0) (qv 1) (fun _ _=>rfl)) (qg_tup rfl (qgs_cons (qg_name (i:=3) nd rfl (Or.inl rfl)) (qgs_cons (qg_name (i:=4) nd rfl (Or.inl rfl)) (qgs_cons (qg_name (i:=5) nd rfl (Or.inl rfl)) qgs_nil))))) (qss_one (qs_ret (qe_tup (qa_cons (qv 1) (qa_cons (qe_fn c_stand (hr.mono (by decide)) rfl (qa_cons (qv 5) (qa_cons qe_int qa_nil))) (qa_cons (qe_dictZip rfl rfl B.dict_ B.zip_ rfl (qa_cons (qv 4) (qa_cons (qv 2) qa_nil))) qa_nil)))))))
theorem d_shut (B:Blt mg)  (c_stand:Callee P w K mg base "_law_stand" PS_stand K_stand (sp_stand K))
    (hr:Room k_shut (A.deeper (envOfC "_law_shut" (defScope s_shut) s.heap.objs.size f cdv))):PSs (cxOf CX0 P w K mg base N_shut "_law_shut" (defScope s_shut) f cdv A outer s H E).nox (defBody s_shut) (t_shut K):=by
  have nd:=sc_shut.nd
  have hu:=hr.units0
  have hu1:=hu_of hr
  have hu5:=hu5_of hr
  refine QSs.up ?_
  exact (qss_cons (qs_expr (qe_bm0 PySem.F.plainAttrs_list PySem.F.slot_list_pop PySem.F.type_list_pop mt_pop (qv 1))) (qss_cons (qs_if (qt_cmpR (op_eqU hu5) (qv 1) (qe_lst qa_nil) rfl) (qss_one (qs_ret (qe_lst (qa_cons (qv 2) qa_nil)))) qss_nil) (qss_cons (qs_asg (qe_bm0 PySem.F.plainAttrs_list PySem.F.slot_list_pop PySem.F.type_list_pop mt_pop (qv 1)) (qg_tup rfl (qgs_cons (qg_name (i:=3) nd rfl (Or.inl rfl)) (qgs_cons (qg_name (i:=4) nd rfl (Or.inl rfl)) (qgs_cons (qg_name (i:=5) nd rfl (Or.inl rfl)) qgs_nil))))) (qss_cons (qs_set (i:=6) nd rfl (Or.inl rfl) (qe_ix ix_seq (qe_ix ix_seq (qv 0) (qv 3) (fun _ _=>rfl)) qe_int (fun _ _=>rfl))) (qss_cons (qs_set (i:=5) nd rfl (Or.inl rfl) (qe_callTy call_copyD rfl B.dict_ boot_dict (qa_cons (qv 5) qa_nil))) (qss_cons (qs_asg (qv 2) (qg_sub (qv 5) (qe_ix ix_seq (qe_ix ix_seq (qv 6) (qv 4) (fun _ _=>rfl)) qe_int (fun _ _=>rfl)) (set_dict hu1))) (qss_cons (qs_expr (qe_bm PySem.F.plainAttrs_list PySem.F.slot_list_append PySem.F.type_list_append mt_append (qv 1) (qa_cons (qe_tup (qa_cons (qv 3) (qa_cons (qe_fn c_stand (hr.mono (by decide)) rfl (qa_cons (qv 6) (qa_cons (qe_op op_plus (qv 4) qe_int) qa_nil))) (qa_cons (qv 5) qa_nil)))) qa_nil))) (qss_one (qs_ret (qe_lst qa_nil))))))))))
theorem d_step (B:Blt mg)  (c_stand:Callee P w K mg base "_law_stand" PS_stand K_stand (sp_stand K)) (c_reckoned:Callee P w K mg base "_law_reckoned" PS_reckoned K_reckoned (sp_reckoned K)) (c_opened:Callee P w K mg base "_law_opened" PS_opened K_opened (sp_opened K)) (c_shut:Callee P w K mg base "_law_shut" PS_shut K_shut (sp_shut K))
    (hr:Room k_step (A.deeper (envOfC "_law_step" (defScope s_step) s.heap.objs.size f cdv))):PSs (cxOf CX0 P w K mg base N_step "_law_step" (defScope s_step) f cdv A outer s H E).nox (defBody s_step) (t_step K):=by
  have nd:=sc_step.nd
  have hu:=hr.units0
  have hu1:=hu_of hr
  refine QSs.up ?_
  exact (qss_cons (qs_asg (qe_ix ix_seq (qv 1) (qe_un un_neg qe_int) (fun _ _=>rfl)) (qg_tup rfl (qgs_cons (qg_name (i:=3) nd rfl (Or.inl rfl)) (qgs_cons (qg_name (i:=4) nd rfl (Or.inl rfl)) (qgs_cons (qg_name (i:=5) nd rfl (Or.inr rfl)) qgs_nil))))) (qss_cons (qs_set (i:=6) nd rfl (Or.inl rfl) (qe_ix ix_seq (qe_ix ix_seq (qv 0) (qv 3) (fun _ _=>rfl)) qe_int (fun _ _=>rfl))) (qss_cons (qs_set (i:=7) nd rfl (Or.inl rfl) (qe_ix ix_seq (qv 6) (qv 4) (fun _ _=>rfl))) (qss_cons (qs_set (i:=8) nd rfl (Or.inl rfl) (qe_op op_plus (qv 4) qe_int)) (qss_cons (qs_if (qt_cmpR (op_eqG hu) (qe_ix ix_seq (qv 7) qe_int (fun _ _=>rfl)) qe_str rfl) (qss_one (qs_ret (qe_fn c_shut (hr.mono (by decide)) rfl (qa_cons (qv 0) (qa_cons (qv 1) (qa_cons (qe_dget hu1 (qv 5) (qe_ix ix_seq (qv 7) qe_int (fun _ _=>rfl)) (fun _ _=>rfl)) qa_nil)))))) qss_nil) (qss_cons (qs_if (qt_cmpR (op_eqG hu) (qe_ix ix_seq (qv 7) qe_int (fun _ _=>rfl)) qe_str rfl) (qss_cons (qs_expr (qe_bm PySem.F.plainAttrs_list PySem.F.slot_list_append PySem.F.type_list_append mt_append (qv 1) (qa_cons (qe_fn c_opened (hr.mono (by decide)) rfl (qa_cons (qv 0) (qa_cons (qe_ix ix_seq (qv 7) qe_int (fun _ _=>rfl)) (qa_cons (qe_comp (sc:=defScope s_step) (N:=N_step) (NY:=["_law_program_here","_law_frames","_law_words","_law_part_here","_law_n","_law_names_here","_law_rows","_law_row","_law_to","_law_name"]) (js:=[]) (k:=1) ⟨rfl,by decide +kernel,by decide +kernel,by decide +kernel,rfl,by decide +kernel⟩ rfl rfl rfl rfl (qi_seq (qe_ix ix_seq (qv 7) qe_int (fun _ _=>rfl))) (fun _ _ _ _ _=>(qg_name (i:=9) (show List.Nodup (["_law_program_here","_law_frames","_law_words","_law_part_here","_law_n","_law_names_here","_law_rows","_law_row","_law_to","_law_name"]:List Str) by decide +kernel) rfl (Or.inl rfl))) (fun _ _ _ _ _=>qif_nil) (fun _ _ _ _ _=>(qe_dget hu1 (qv 5) (qv 9) (fun _ _=>rfl)))) qa_nil)))) qa_nil))) (qss_one (qs_ret (qe_lst qa_nil)))) qss_nil) (qss_cons (qs_set (i:=5) nd rfl (Or.inr rfl) (qe_callTy call_copyD rfl B.dict_ boot_dict (qa_cons (qv 5) qa_nil))) (qss_cons (qs_if (qt_cmpR (op_eqG hu) (qe_ix ix_seq (qv 7) qe_int (fun _ _=>rfl)) qe_str rfl) (qss_one (qs_asg (qe_ix ix_seq (qv 7) qe_int (fun _ _=>rfl)) (qg_sub (qv 5) (qe_ix ix_seq (qv 7) qe_int (fun _ _=>rfl)) (set_dict hu1)))) qss_nil) (qss_cons (qs_if (qt_cmpR (op_eqG hu) (qe_ix ix_seq (qv 7) qe_int (fun _ _=>rfl)) qe_str rfl) (qss_one (qs_asg (qe_fn c_reckoned (hr.mono (by decide)) rfl (qa_cons (qe_ix ix_seq (qv 7) qe_int (fun _ _=>rfl)) (qa_cons (qe_dget hu1 (qv 5) (qe_ix ix_seq (qv 7) qe_int (fun _ _=>rfl)) (fun _ _=>rfl)) (qa_cons (qe_dget hu1 (qv 5) (qe_ix ix_seq (qv 7) qe_int (fun _ _=>rfl)) (fun _ _=>rfl)) qa_nil)))) (qg_sub (qv 5) (qe_ix ix_seq (qv 7) qe_int (fun _ _=>rfl)) (set_dict hu1)))) qss_nil) (qss_cons (qs_if (qt_cmpR (op_eqG hu) (qe_ix ix_seq (qv 7) qe_int (fun _ _=>rfl)) qe_str rfl) (qss_one (qs_expr (qe_bm PySem.F.plainAttrs_list PySem.F.slot_list_append PySem.F.type_list_append mt_append (qv 2) (qa_cons (qe_dget hu1 (qv 5) (qe_ix ix_seq (qv 7) qe_int (fun _ _=>rfl)) (fun _ _=>rfl)) qa_nil)))) qss_nil) (qss_cons (qs_if (QW.pt (qw_and (qt_cmpR (op_eqG hu) (qe_ix ix_seq (qv 7) qe_int (fun _ _=>rfl)) qe_str rfl) (qw_and1 (qt_cmpR (op_neG hu) (qe_dget hu1 (qv 5) (qe_ix ix_seq (qv 7) qe_int (fun _ _=>rfl)) (fun _ _=>rfl)) qe_int rfl)))) (qss_one (qs_set (i:=8) nd rfl (Or.inl rfl) (qe_ix ix_seq (qv 7) qe_int (fun _ _=>rfl)))) qss_nil) (qss_cons (qs_asg (qe_tup (qa_cons (qv 3) (qa_cons (qe_fn c_stand (hr.mono (by decide)) rfl (qa_cons (qv 6) (qa_cons (qv 8) qa_nil))) (qa_cons (qv 5) qa_nil)))) (qg_sub (qv 1) (qe_un un_neg qe_int) set_list)) (qss_one (qs_ret (qe_lst qa_nil)))))))))))))))
theorem d_places (B:Blt mg)  
    (hr:Room k_places (A.deeper (envOfC "_law_places" (defScope s_places) s.heap.objs.size f cdv))):PSs (cxOf CX0 P w K mg base N_places "_law_places" (defScope s_places) f cdv A outer s H E).nox (defBody s_places) (t_places K):=by
  have nd:=sc_places.nd
  have hu:=hr.units0
  have hu1:=hu_of hr
  refine QSs.up ?_
  exact (qss_one (qs_ret (qe_comp (sc:=defScope s_places) (N:=N_places) (NY:=["_law_frames","_law_frame"]) (js:=[]) (k:=1) ⟨rfl,by decide +kernel,by decide +kernel,by decide +kernel,rfl,by decide +kernel⟩ rfl rfl rfl rfl (qi_seq (qv 0)) (fun _ _ _ _ _=>(qg_name (i:=1) (show List.Nodup (["_law_frames","_law_frame"]:List Str) by decide +kernel) rfl (Or.inl rfl))) (fun _ _ _ _ _=>qif_nil) (fun _ _ _ _ _=>(qe_slice sl_seq (qv 1) qo_none (qo_some qe_int))))))
theorem d_draw (B:Blt mg)  
    (hr:Room k_draw (A.deeper (envOfC "_law_draw" (defScope s_draw) s.heap.objs.size f cdv))):PSs (cxOf CX0 P w K mg base N_draw "_law_draw" (defScope s_draw) f cdv A outer s H E).nox (defBody s_draw) (t_draw K):=by
  have nd:=sc_draw.nd
  have hu:=hr.units0
  have hu1:=hu_of hr
  refine QSs.up ?_
  exact (qss_cons (qs_asg (qe_slice sl_seq (qv 0) qo_none (qo_some qe_int)) (qg_tupL rfl (qgs_cons (qg_name (i:=2) nd rfl (Or.inl rfl)) (qgs_cons (qg_name (i:=3) nd rfl (Or.inl rfl)) qgs_nil)))) (qss_cons (qs_asg (qe_op op_plus (qv 3) qe_int) (qg_sub (qv 0) qe_int set_list)) (qss_cons (qs_if (QW.pt (qw_and (qt_cmpR op_lt (qe_op op_plus (qe_op op_fdiv (qv 3) qe_int) qe_int) (qe_callB call_len rfl B.len_ boot_len (qa_cons (qv 2) qa_nil)) rfl) (qw_and1 (qt_cmpR (op_eqG hu) (qe_op op_mod (qe_ix ix_seq (qv 2) qe_int (fun _ _=>rfl)) qe_int) qe_int rfl)))) (qss_cons (qs_if (qt_cmpR (op_eqG hu) (qe_op op_mod (qv 3) qe_int) qe_int rfl) (qss_one (qs_asg (qe_ix ix_seq (qv 2) (qe_op op_plus (qe_op op_fdiv (qv 3) qe_int) qe_int) (fun _ _=>rfl)) (qg_sub (qv 0) qe_int set_list))) qss_nil) (qss_one (qs_if (qt_cmpR op_notIn_seq (qe_ix ix_seq (qv 0) qe_int (fun _ _=>rfl)) (qe_tup (qa_cons qe_int (qa_cons (qe_un un_neg qe_int) qa_nil))) rfl) (qss_cons (qs_asg (qe_callB call_divmodW rfl B.divmod_ boot_divmod (qa_cons (qe_ix ix_seq (qv 0) qe_int (fun _ _=>rfl)) (qa_cons (qv 1) qa_nil))) (qg_tup rfl (qgs_cons (qg_sub (qv 0) qe_int set_list) (qgs_cons (qg_name (i:=4) nd rfl (Or.inl rfl)) qgs_nil)))) (qss_one (qs_ret (qv 4)))) qss_nil))) (qss_one (qs_if (qt_cmpR op_lt (qv 3) (qe_callB call_len rfl B.len_ boot_len (qa_cons (qv 2) qa_nil)) rfl) (qss_one (qs_ret (qe_op op_mod (qe_ix ix_seq (qv 2) (qv 3) (fun _ _=>rfl)) (qv 1)))) qss_nil))) (qss_cons (qs_set (i:=5) nd rfl (Or.inl rfl) (qe_op op_plus (qe_op op_times (qv 3) qe_int) qe_int)) (qss_cons (qs_if (qt_cmpR op_gt (qe_callB call_len rfl B.len_ boot_len (qa_cons (qv 2) qa_nil)) qe_int rfl) (qss_one (qs_set (i:=5) nd rfl (Or.inl rfl) (qe_op op_plus (qv 5) (qe_op op_times (qe_ix ix_seq (qv 2) (qe_op op_mod (qe_op op_times (qv 3) qe_int) (qe_callB call_len rfl B.len_ boot_len (qa_cons (qv 2) qa_nil))) (fun _ _=>rfl)) (qe_op op_plus qe_int (qv 3)))))) qss_nil) (qss_cons (qs_set (i:=5) nd rfl (Or.inl rfl) (qe_op op_mod (qe_op op_times (qe_op op_mod (qv 5) qe_int) (qe_op op_plus (qv 3) qe_int)) qe_int)) (qss_cons (qs_set (i:=5) nd rfl (Or.inl rfl) (qe_op op_mod (qe_op op_times (qv 5) (qv 5)) qe_int)) (qss_one (qs_ret (qe_op op_mod (qe_op op_mod (qe_op op_times (qv 5) (qv 5)) qe_int) (qv 1)))))))))))
theorem d_worth (B:Blt mg)  (c_draw:Callee P w K mg base "_law_draw" PS_draw K_draw (sp_draw K))
    (hr:Room k_worth (A.deeper (envOfC "_law_worth" (defScope s_worth) s.heap.objs.size f cdv))):PSs (cxOf CX0 P w K mg base N_worth "_law_worth" (defScope s_worth) f cdv A outer s H E).nox (defBody s_worth) (t_worth K):=by
  have nd:=sc_worth.nd
  have hu:=hr.units0
  have hu1:=hu_of hr
  refine QSs.up ?_
  exact (qss_cons (qs_if (qt_cmpR (op_eqG hu) (qe_fn c_draw (hr.mono (by decide)) rfl (qa_cons (qv 0) (qa_cons qe_int qa_nil))) qe_int rfl) (qss_one (qs_ret (qe_op op_plus (qe_op op_times (qe_fn c_draw (hr.mono (by decide)) rfl (qa_cons (qv 0) (qa_cons (qe_op op_pow qe_int qe_int) qa_nil))) (qe_op op_pow qe_int qe_int)) (qe_fn c_draw (hr.mono (by decide)) rfl (qa_cons (qv 0) (qa_cons (qe_op op_pow qe_int qe_int) qa_nil)))))) qss_nil) (qss_one (qs_ret (qe_ix ix_seq (qe_lst (qa_cons qe_int (qa_cons qe_int (qa_cons (qe_op op_sub (qe_op op_sub (qe_op op_pow qe_int qe_int) qe_int) (qe_fn c_draw (hr.mono (by decide)) rfl (qa_cons (qv 0) (qa_cons qe_int qa_nil)))) (qa_cons (qe_fn c_draw (hr.mono (by decide)) rfl (qa_cons (qv 0) (qa_cons qe_int qa_nil))) qa_nil))))) (qe_fn c_draw (hr.mono (by decide)) rfl (qa_cons (qv 0) (qa_cons qe_int qa_nil))) (fun _ _=>rfl)))))
theorem d_p_sets (B:Blt mg)  
    (hr:Room k_p_sets (A.deeper (envOfC "sets" (defScope s_p_sets) s.heap.objs.size f cdv))):PSs (cxOf CX0 P w K mg base N_p_sets "sets" (defScope s_p_sets) f cdv A outer s H E).nox (defBody s_p_sets) (t_p_sets K):=by
  have nd:=sc_p_sets.nd
  have hu:=hr.units0
  have hu1:=hu_of hr
  refine QSs.up ?_
  exact (qss_cons (qs_if (qt_cmpR op_in_seq (qe_ix ix_seq (qv 0) qe_int (fun _ _=>rfl)) (qe_tup (qa_cons qe_str (qa_cons qe_str (qa_cons qe_str qa_nil)))) rfl) (qss_one (qs_ret (qe_ix ix_seq (qv 0) qe_int (fun _ _=>rfl)))) qss_nil) (qss_one (qs_ret qe_non)))
theorem d_p_rw (B:Blt mg)  (c_p_sets:Callee P w K mg base "sets" PS_p_sets K_p_sets (sp_p_sets K))
    (hr:Room k_p_rw (A.deeper (envOfC "rows_wanting" (defScope s_p_rw) s.heap.objs.size f cdv))):PSs (cxOf CX0 P w K mg base N_p_rw "rows_wanting" (defScope s_p_rw) f cdv A outer s H E).nox (defBody s_p_rw) (t_p_rw K):=by
  have nd:=sc_p_rw.nd
  have hu:=hr.units0
  have hu1:=hu_of hr
  refine QSs.up ?_
  exact (qss_cons (qs_set (i:=4) nd rfl (Or.inl rfl) qe_dnewK) (qss_cons (qs_set (i:=5) nd rfl (Or.inl rfl) (qe_callTy call_list_of rfl B.list_ boot_list (qa_cons (qv 2) qa_nil))) (qss_cons (qs_while PassesOwn.never (qt_cmpR op_gt (qe_callB call_len rfl B.len_ boot_len (qa_cons (qv 5) qa_nil)) qe_int rfl) (qss_cons (qs_set (i:=6) nd rfl (Or.inl rfl) (qe_bm0 PySem.F.plainAttrs_list PySem.F.slot_list_pop PySem.F.type_list_pop mt_pop (qv 5))) (qss_one (qs_if (qt_cmpR (op_notInD hu1) (qv 6) (qv 4) rfl) (qss_cons (qs_asg qe_bl (qg_sub (qv 4) (qv 6) (set_dict hu1))) (qss_one (qs_expr (qe_bm PySem.F.plainAttrs_list PySem.F.slot_list_extend PySem.F.type_list_extend mt_extend (qv 5) (qa_cons (qe_comp (sc:=defScope s_p_rw) (N:=N_p_rw) (NY:=["rows","ahead","readers","name","passed","waiting","n","m"]) (js:=[]) (k:=1) ⟨rfl,by decide +kernel,by decide +kernel,by decide +kernel,rfl,by decide +kernel⟩ rfl rfl rfl rfl (qi_seq (qe_dget hu1 (qv 1) (qv 6) (fun _ _=>rfl))) (fun _ _ _ _ _=>(qg_name (i:=7) (show List.Nodup (["rows","ahead","readers","name","passed","waiting","n","m"]:List Str) by decide +kernel) rfl (Or.inl rfl))) (fun _ _ _ _ _=>(qif_one (qt_cmpR (op_neG hu) (qe_fn c_p_sets (hr.mono (by decide)) rfl (qa_cons (qe_ix ix_seq (qv 0) (qv 7) (fun _ _=>rfl)) qa_nil)) (qv 3) rfl))) (fun _ _ _ _ _=>(qv 7))) qa_nil))))) qss_nil)))) (qss_one (qs_ret (qe_callTy (call_listD rfl) rfl B.list_ boot_list (qa_cons (qv 4) qa_nil)))))))
theorem d_p_goal (B:Blt mg)  
    (hr:Room k_p_goal (A.deeper (envOfC "goal" (defScope s_p_goal) s.heap.objs.size f cdv))):PSs (cxOf CX0 P w K mg base N_p_goal "goal" (defScope s_p_goal) f cdv A outer s H E).nox (defBody s_p_goal) (t_p_goal K):=by
  have nd:=sc_p_goal.nd
  have hu:=hr.units0
  have hu1:=hu_of hr
  refine QSs.up ?_
  exact (qss_cons (qs_if (qt_cmpR (op_eqG hu) (qe_ix ix_seq (qv 0) qe_int (fun _ _=>rfl)) qe_str rfl) (qss_one (qs_ret (qe_ix ix_seq (qv 0) qe_int (fun _ _=>rfl)))) qss_nil) (qss_cons (qs_if (qt_cmpR (op_eqG hu) (qe_ix ix_seq (qv 0) qe_int (fun _ _=>rfl)) qe_str rfl) (qss_one (qs_ret (qe_ix ix_seq (qv 0) qe_int (fun _ _=>rfl)))) qss_nil) (qss_one (qs_ret qe_non))))
theorem d_p_leads (B:Blt mg)  (c_p_goal:Callee P w K mg base "goal" PS_p_goal K_p_goal (sp_p_goal K))
    (hr:Room k_p_leads (A.deeper (envOfC "leads" (defScope s_p_leads) s.heap.objs.size f cdv))):PSs (cxOf CX0 P w K mg base N_p_leads "leads" (defScope s_p_leads) f cdv A outer s H E).nox (defBody s_p_leads) (t_p_leads K):=by
  have nd:=sc_p_leads.nd
  have hu:=hr.units0
  have hu1:=hu_of hr
  refine QSs.up ?_
  exact (qss_cons (qs_set (i:=2) nd rfl (Or.inl rfl) (qe_ix ix_seq (qe_ix ix_seq (qv 0) (qv 1) (fun _ _=>rfl)) qe_int (fun _ _=>rfl))) (qss_cons (qs_if (qt_cmpR (op_eqG hu) (qv 2) qe_str rfl) (qss_one (qs_ret (qe_tup qa_nil))) qss_nil) (qss_cons (qs_if (qt_cmpR (op_eqG hu) (qv 2) qe_str rfl) (qss_one (qs_ret (qe_tup (qa_cons (qe_fn c_p_goal (hr.mono (by decide)) rfl (qa_cons (qe_ix ix_seq (qv 0) (qv 1) (fun _ _=>rfl)) qa_nil)) qa_nil)))) qss_nil) (qss_cons (qs_if (qt_cmpR (op_eqG hu) (qv 2) qe_str rfl) (qss_one (qs_ret (qe_tup (qa_cons (qe_op op_plus (qv 1) qe_int) (qa_cons (qe_fn c_p_goal (hr.mono (by decide)) rfl (qa_cons (qe_ix ix_seq (qv 0) (qv 1) (fun _ _=>rfl)) qa_nil)) qa_nil))))) qss_nil) (qss_one (qs_ret (qe_tup (qa_cons (qe_op op_plus (qv 1) qe_int) qa_nil))))))))
theorem d_p_walked (B:Blt mg)  (c_p_sets:Callee P w K mg base "sets" PS_p_sets K_p_sets (sp_p_sets K)) (c_p_leads:Callee P w K mg base "leads" PS_p_leads K_p_leads (sp_p_leads K))
    (hr:Room k_p_walked (A.deeper (envOfC "walked" (defScope s_p_walked) s.heap.objs.size f cdv))):PSs (cxOf CX0 P w K mg base N_p_walked "walked" (defScope s_p_walked) f cdv A outer s H E).nox (defBody s_p_walked) (t_p_walked K):=by
  have nd:=sc_p_walked.nd
  have hu:=hr.units0
  have hu1:=hu_of hr
  refine QSs.up ?_
  exact (qss_cons (qs_set (i:=2) nd rfl (Or.inl rfl) (qe_disp (qps_cons qe_int qe_bl qps_nil) rfl rfl (by simp) (by decide))) (qss_cons (qs_set (i:=3) nd rfl (Or.inl rfl) (qe_lst (qa_cons qe_int qa_nil))) (qss_cons (qs_while PassesOwn.never (qt_cmpR op_gt (qe_callB call_len rfl B.len_ boot_len (qa_cons (qv 3) qa_nil)) qe_int rfl) (qss_cons (qs_set (i:=4) nd rfl (Or.inl rfl) (qe_bm0 PySem.F.plainAttrs_list PySem.F.slot_list_pop PySem.F.type_list_pop mt_pop (qv 3))) (qss_one (qs_if (QW.pt (qw_or (qt_cmpR op_isN (qv 1) qe_non rfl) (qw_or1 (qt_cmpR (op_neG hu) (qe_fn c_p_sets (hr.mono (by decide)) rfl (qa_cons (qe_ix ix_seq (qv 0) (qv 4) (fun _ _=>rfl)) qa_nil)) (qv 1) rfl)))) (qss_one (qs_for PassesOwn.never rfl (qi_seq (qe_fn c_p_leads (hr.mono (by decide)) rfl (qa_cons (qv 0) (qa_cons (qv 4) qa_nil)))) (qg_name (i:=5) nd rfl (Or.inl rfl)) (qss_one (qs_if (qt_cmpR (op_notInD hu1) (qv 5) (qv 2) rfl) (qss_cons (qs_asg qe_bl (qg_sub (qv 2) (qv 5) (set_dict hu1))) (qss_one (qs_expr (qe_bm PySem.F.plainAttrs_list PySem.F.slot_list_append PySem.F.type_list_append mt_append (qv 3) (qa_cons (qv 5) qa_nil))))) qss_nil)))) qss_nil)))) (qss_one (qs_ret (qe_callB (call_sortD rfl) rfl B.sorted_ boot_sorted (qa_cons (qv 2) qa_nil)))))))
theorem d_p_come_to (B:Blt mg)  (c_p_walked_d1:CalleeD P w K mg base "walked" PS_p_walked K_p_walked [.non] (sp_p_walked K))
    (hr:Room k_p_come_to (A.deeper (envOfC "come_to" (defScope s_p_come_to) s.heap.objs.size f cdv))):PSs (cxOf CX0 P w K mg base N_p_come_to "come_to" (defScope s_p_come_to) f cdv A outer s H E).nox (defBody s_p_come_to) (t_p_come_to K):=by
  have nd:=sc_p_come_to.nd
  have hu:=hr.units0
  have hu1:=hu_of hr
  refine QSs.up ?_
  exact (qss_one (qs_ret (qe_comp (sc:=defScope s_p_come_to) (N:=N_p_come_to) (NY:=["rows","n"]) (js:=[]) (k:=1) ⟨rfl,by decide +kernel,by decide +kernel,by decide +kernel,rfl,by decide +kernel⟩ rfl rfl rfl rfl (qi_seq (qe_fnD c_p_walked_d1 (hr.mono (by decide)) rfl (qa_cons (qv 0) qa_nil))) (fun _ _ _ _ _=>(qg_name (i:=1) (show List.Nodup (["rows","n"]:List Str) by decide +kernel) rfl (Or.inl rfl))) (fun _ _ _ _ _=>(qif_one (qt_cmpR (op_neG hu) (qe_ix ix_seq (qe_ix ix_seq (qv 0) (qv 1) (fun _ _=>rfl)) qe_int (fun _ _=>rfl)) qe_str rfl))) (fun _ _ _ _ _=>(qv 1)))))
theorem d_p_reads (B:Blt mg)  
    (hr:Room k_p_reads (A.deeper (envOfC "reads" (defScope s_p_reads) s.heap.objs.size f cdv))):PSs (cxOf CX0 P w K mg base N_p_reads "reads" (defScope s_p_reads) f cdv A outer s H E).nox (defBody s_p_reads) (t_p_reads K):=by
  have nd:=sc_p_reads.nd
  have hu:=hr.units0
  have hu1:=hu_of hr
  refine QSs.up ?_
  exact (qss_cons (qs_set (i:=1) nd rfl (Or.inl rfl) (qe_ix ix_seq (qv 0) qe_int (fun _ _=>rfl))) (qss_cons (qs_if (qt_cmpR (op_eqG hu) (qv 1) qe_str rfl) (qss_one (qs_ret (qe_tup (qa_cons (qe_ix ix_seq (qv 0) qe_int (fun _ _=>rfl)) (qa_cons (qe_ix ix_seq (qv 0) qe_int (fun _ _=>rfl)) qa_nil))))) qss_nil) (qss_cons (qs_if (qt_cmpR (op_eqG hu) (qv 1) qe_str rfl) (qss_one (qs_ret (qe_callTy call_tuple_of rfl B.tuple_ boot_tuple (qa_cons (qe_ix ix_seq (qv 0) qe_int (fun _ _=>rfl)) qa_nil)))) qss_nil) (qss_cons (qs_if (qt_cmpR op_in_seq (qv 1) (qe_tup (qa_cons qe_str (qa_cons qe_str (qa_cons qe_str qa_nil)))) rfl) (qss_one (qs_ret (qe_tup (qa_cons (qe_ix ix_seq (qv 0) qe_int (fun _ _=>rfl)) qa_nil)))) qss_nil) (qss_one (qs_ret (qe_tup qa_nil)))))))
theorem d_p_rt (B:Blt mg)  (c_p_come_to:Callee P w K mg base "come_to" PS_p_come_to K_p_come_to (sp_p_come_to K)) (c_p_reads:Callee P w K mg base "reads" PS_p_reads K_p_reads (sp_p_reads K))
    (hr:Room k_p_rt (A.deeper (envOfC "rows_that_read" (defScope s_p_rt) s.heap.objs.size f cdv))):PSs (cxOf CX0 P w K mg base N_p_rt "rows_that_read" (defScope s_p_rt) f cdv A outer s H E).nox (defBody s_p_rt) (t_p_rt K):=by
  have nd:=sc_p_rt.nd
  have hu:=hr.units0
  have hu1:=hu_of hr
  refine QSs.up ?_
  exact (qss_cons (qs_set (i:=1) nd rfl (Or.inl rfl) qe_dnewK) (qss_cons (qs_for PassesOwn.never rfl (qi_seq (qe_fn c_p_come_to (hr.mono (by decide)) rfl (qa_cons (qv 0) qa_nil))) (qg_name (i:=2) nd rfl (Or.inl rfl)) (qss_one (qs_for PassesOwn.never rfl (qi_seq (qe_fn c_p_reads (hr.mono (by decide)) rfl (qa_cons (qe_ix ix_seq (qv 0) (qv 2) (fun _ _=>rfl)) qa_nil))) (qg_name (i:=3) nd rfl (Or.inl rfl)) (qss_one (qs_expr (qe_bm PySem.F.plainAttrs_list PySem.F.slot_list_append PySem.F.type_list_append mt_append (qe_dsetd (qv 1) (qv 3) (qe_lst qa_nil) ⟨rfl,rfl,rfl,rfl⟩) (qa_cons (qv 2) qa_nil))))))) (qss_one (qs_ret (qv 1)))))
theorem d_p_stands (B:Blt mg)  (c_p_goal:Callee P w K mg base "goal" PS_p_goal K_p_goal (sp_p_goal K))
    (hr:Room k_p_stands (A.deeper (envOfC "stands" (defScope s_p_stands) s.heap.objs.size f cdv))):PSs (cxOf CX0 P w K mg base N_p_stands "stands" (defScope s_p_stands) f cdv A outer s H E).nox (defBody s_p_stands) (t_p_stands K):=by
  have nd:=sc_p_stands.nd
  have hu:=hr.units0
  have hu1:=hu_of hr
  refine QSs.up ?_
  exact (qss_cons (qs_set (i:=2) nd rfl (Or.inl rfl) (qv 1)) (qss_cons (qs_while PassesOwn.never (qt_cmpR (op_eqG hu) (qe_ix ix_seq (qe_ix ix_seq (qv 0) (qv 2) (fun _ _=>rfl)) qe_int (fun _ _=>rfl)) qe_str rfl) (qss_one (qs_set (i:=2) nd rfl (Or.inl rfl) (qe_fn c_p_goal (hr.mono (by decide)) rfl (qa_cons (qe_ix ix_seq (qv 0) (qv 2) (fun _ _=>rfl)) qa_nil))))) (qss_one (qs_ret (qv 2)))))
theorem d_p_ra (B:Blt mg)  (c_p_leads:Callee P w K mg base "leads" PS_p_leads K_p_leads (sp_p_leads K)) (c_p_stands:Callee P w K mg base "stands" PS_p_stands K_p_stands (sp_p_stands K)) (c_p_come_to:Callee P w K mg base "come_to" PS_p_come_to K_p_come_to (sp_p_come_to K))
    (hr:Room k_p_ra (A.deeper (envOfC "rows_ahead" (defScope s_p_ra) s.heap.objs.size f cdv))):PSs (cxOf CX0 P w K mg base N_p_ra "rows_ahead" (defScope s_p_ra) f cdv A outer s H E).nox (defBody s_p_ra) (t_p_ra K):=by
  have nd:=sc_p_ra.nd
  have hu:=hr.units0
  have hu1:=hu_of hr
  refine QSs.up ?_
  exact (qss_cons (qs_set (i:=1) nd rfl (Or.inl rfl) (qe_fn c_p_come_to (hr.mono (by decide)) rfl (qa_cons (qv 0) qa_nil))) (qss_cons (qs_set (i:=2) nd rfl (Or.inl rfl) (qe_callTy (call_dictPs rfl) rfl B.dict_ boot_dict (qa_cons (qe_comp (sc:=defScope s_p_ra) (N:=N_p_ra) (NY:=["rows","come","ahead","n","to"]) (js:=[3]) (k:=0) ⟨rfl,by decide +kernel,by decide +kernel,by decide +kernel,rfl,by decide +kernel⟩ rfl rfl rfl rfl (qi_seq (qv 1)) (fun _ _ _ _ _=>(qg_name (i:=3) (show List.Nodup (["rows","come","ahead","n","to"]:List Str) by decide +kernel) rfl (Or.inl rfl))) (fun _ _ _ _ _=>qif_nil) (fun _ _ _ _ _=>(qe_tup (qa_cons (qv 3) (qa_cons (qe_lst qa_nil) qa_nil))))) qa_nil))) (qss_cons (qs_for PassesOwn.never rfl (qi_seq (qv 1)) (qg_name (i:=3) nd rfl (Or.inl rfl)) (qss_one (qs_for PassesOwn.never rfl (qi_seq (qe_fn c_p_leads (hr.mono (by decide)) rfl (qa_cons (qv 0) (qa_cons (qv 3) qa_nil)))) (qg_name (i:=4) nd rfl (Or.inl rfl)) (qss_one (qs_expr (qe_bm PySem.F.plainAttrs_list PySem.F.slot_list_append PySem.F.type_list_append mt_append (qe_dget hu1 (qv 2) (qe_fn c_p_stands (hr.mono (by decide)) rfl (qa_cons (qv 0) (qa_cons (qv 4) qa_nil))) (fun _ _=>rfl)) (qa_cons (qv 3) qa_nil))))))) (qss_one (qs_ret (qv 2))))))
theorem d_p_wanted (B:Blt mg)  (c_p_rw:Callee P w K mg base "rows_wanting" PS_p_rw K_p_rw (sp_p_rw K)) (c_p_rt:Callee P w K mg base "rows_that_read" PS_p_rt K_p_rt (sp_p_rt K)) (c_p_ra:Callee P w K mg base "rows_ahead" PS_p_ra K_p_ra (sp_p_ra K))
    (hr:Room k_p_wanted (A.deeper (envOfC "wanted" (defScope s_p_wanted) s.heap.objs.size f cdv))):PSs (cxOf CX0 P w K mg base N_p_wanted "wanted" (defScope s_p_wanted) f cdv A outer s H E).nox (defBody s_p_wanted) (t_p_wanted K):=by
  have nd:=sc_p_wanted.nd
  have hu:=hr.units0
  have hu1:=hu_of hr
  refine QSs.up ?_
  exact (qss_cons (qs_set (i:=1) nd rfl (Or.inl rfl) (qe_fn c_p_ra (hr.mono (by decide)) rfl (qa_cons (qv 0) qa_nil))) (qss_cons (qs_set (i:=2) nd rfl (Or.inl rfl) (qe_fn c_p_rt (hr.mono (by decide)) rfl (qa_cons (qv 0) qa_nil))) (qss_cons (qs_set (i:=3) nd rfl (Or.inl rfl) (qe_callTy (call_dictPs rfl) rfl B.dict_ boot_dict (qa_cons (qe_thaw (qe_comp (sc:=defScope s_p_wanted) (N:=N_p_wanted) (NY:=["rows","ahead","readers","found","name","n"]) (js:=[5]) (k:=0) ⟨rfl,by decide +kernel,by decide +kernel,by decide +kernel,rfl,by decide +kernel⟩ rfl rfl rfl rfl (qi_keys (qv 1)) (fun _ _ _ _ _=>(qg_name (i:=5) (show List.Nodup (["rows","ahead","readers","found","name","n"]:List Str) by decide +kernel) rfl (Or.inl rfl))) (fun _ _ _ _ _=>qif_nil) (fun _ _ _ _ _=>(qe_tup (qa_cons (qv 5) (qa_cons (qe_lst qa_nil) qa_nil)))))) qa_nil))) (qss_cons (qs_for PassesOwn.never rfl (qi_seq (qe_callB (call_sortDS rfl) rfl B.sorted_ boot_sorted (qa_cons (qv 2) qa_nil))) (qg_name (i:=4) nd rfl (Or.inl rfl)) (qss_one (qs_for PassesOwn.never rfl (qi_seq (qe_fn c_p_rw (hr.mono (by decide)) rfl (qa_cons (qv 0) (qa_cons (qv 1) (qa_cons (qe_dget hu1 (qv 2) (qv 4) (fun _ _=>rfl)) (qa_cons (qv 4) qa_nil)))))) (qg_name (i:=5) nd rfl (Or.inl rfl)) (qss_one (qs_expr (qe_bm PySem.F.plainAttrs_list PySem.F.slot_list_append PySem.F.type_list_append mt_append (qe_dget hu1 (qv 3) (qv 5) (fun _ _=>rfl)) (qa_cons (qv 4) qa_nil))))))) (qss_one (qs_ret (qe_callTy (call_dictPs rfl) rfl B.dict_ boot_dict (qa_cons (qe_thaw (qe_comp (sc:=defScope s_p_wanted) (N:=N_p_wanted) (NY:=["rows","ahead","readers","found","name","n","names"]) (js:=[5]) (k:=1) ⟨rfl,by decide +kernel,by decide +kernel,by decide +kernel,rfl,by decide +kernel⟩ rfl rfl rfl rfl (qi_items (qv 3) ⟨rfl,rfl⟩) (fun _ _ _ _ _=>(qg_tup rfl (qgs_cons (qg_name (i:=5) (show List.Nodup (["rows","ahead","readers","found","name","n","names"]:List Str) by decide +kernel) rfl (Or.inl rfl)) (qgs_cons (qg_name (i:=6) (show List.Nodup (["rows","ahead","readers","found","name","n","names"]:List Str) by decide +kernel) rfl (Or.inl rfl)) qgs_nil)))) (fun _ _ _ _ _=>qif_nil) (fun _ _ _ _ _=>(qe_tup (qa_cons (qv 5) (qa_cons (qe_callTy call_tuple_of rfl B.tuple_ boot_tuple (qa_cons (qv 6) qa_nil)) qa_nil)))))) qa_nil))))))))
theorem d_turned (B:Blt mg)  (c_worth:Callee P w K mg base "_law_worth" PS_worth K_worth (sp_worth K)) (c_p_wanted:Callee P w K mg base "wanted" PS_p_wanted K_p_wanted (sp_p_wanted K))
    (hr:Room k_turned (A.deeper (envOfC "_law_turned" (defScope s_turned) s.heap.objs.size f cdv))):PSs (cxOf CX0 P w K mg base N_turned "_law_turned" (defScope s_turned) f cdv A outer s H E).nox (defBody s_turned) (t_turned K):=by
  have nd:=sc_turned.nd
  have hu:=hr.units0
  have hu1:=hu_of hr
  refine QSs.up ?_
  exact (qss_cons (qs_set (i:=3) nd rfl (Or.inl rfl) (qe_lst qa_nil)) (qss_cons (qs_for PassesOwn.never rfl (qi_seq (qv 2)) (qg_tup rfl (qgs_cons (qg_name (i:=4) nd rfl (Or.inl rfl)) (qgs_cons (qg_name (i:=5) nd rfl (Or.inl rfl)) (qgs_cons (qg_name (i:=6) nd rfl (Or.inl rfl)) qgs_nil)))) (qss_cons (qs_set (i:=7) nd rfl (Or.inl rfl) (qe_dget hu1 (qe_fn c_p_wanted (hr.mono (by decide)) rfl (qa_cons (qe_ix ix_seq (qe_ix ix_seq (qv 1) (qv 4) (fun _ _=>rfl)) qe_int (fun _ _=>rfl)) qa_nil)) (qv 5) (fun _ _=>rfl))) (qss_cons (qs_set (i:=8) nd rfl (Or.inl rfl) (qe_callTy call_copyD rfl B.dict_ boot_dict (qa_cons (qv 6) qa_nil))) (qss_cons (qs_for PassesOwn.never rfl (qi_seq (qe_callTy (call_listD rfl) rfl B.list_ boot_list (qa_cons (qv 6) qa_nil))) (qg_name (i:=9) nd rfl (Or.inl rfl)) (qss_one (qs_if (qt_cmpR op_notIn_seq (qv 9) (qv 7) rfl) (qss_one (qs_asg (qe_fn c_worth (hr.mono (by decide)) rfl (qa_cons (qv 0) qa_nil)) (qg_sub (qv 8) (qv 9) (set_dict hu1)))) qss_nil))) (qss_one (qs_expr (qe_bm PySem.F.plainAttrs_list PySem.F.slot_list_append PySem.F.type_list_append mt_append (qv 3) (qa_cons (qe_tup (qa_cons (qv 4) (qa_cons (qv 5) (qa_cons (qv 8) qa_nil)))) qa_nil)))))))) (qss_one (qs_ret (qv 3)))))
theorem d_args (B:Blt mg)  (c_worth:Callee P w K mg base "_law_worth" PS_worth K_worth (sp_worth K))
    (hr:Room k_args (A.deeper (envOfC "_law_args" (defScope s_args) s.heap.objs.size f cdv))):PSs (cxOf CX0 P w K mg base N_args "_law_args" (defScope s_args) f cdv A outer s H E).nox (defBody s_args) (t_args K):=by
  have nd:=sc_args.nd
  have hu:=hr.units0
  have hu1:=hu_of hr
  refine QSs.up ?_
  exact (qss_one (qs_ret (qe_comp (sc:=defScope s_args) (N:=N_args) (NY:=["_law_state","_law_program_here","_law_k","_law_name"]) (js:=[]) (k:=1) ⟨rfl,by decide +kernel,by decide +kernel,by decide +kernel,rfl,by decide +kernel⟩ rfl rfl rfl rfl (qi_seq (qe_ix ix_seq (qe_ix ix_seq (qv 1) (qv 2) (fun _ _=>rfl)) qe_int (fun _ _=>rfl))) (fun _ _ _ _ _=>(qg_name (i:=3) (show List.Nodup (["_law_state","_law_program_here","_law_k","_law_name"]:List Str) by decide +kernel) rfl (Or.inl rfl))) (fun _ _ _ _ _=>qif_nil) (fun _ _ _ _ _=>(qe_fn c_worth (hr.mono (by decide)) rfl (qa_cons (qv 0) qa_nil))))))
theorem d_filled (B:Blt mg)  (c_draw:Callee P w K mg base "_law_draw" PS_draw K_draw (sp_draw K))
    (hr:Room k_filled (A.deeper (envOfC "_law_filled" (defScope s_filled) s.heap.objs.size f cdv))):PSs (cxOf CX0 P w K mg base N_filled "_law_filled" (defScope s_filled) f cdv A outer s H E).nox (defBody s_filled) (t_filled K):=by
  have nd:=sc_filled.nd
  have hu:=hr.units0
  have hu1:=hu_of hr
  refine QSs.up ?_
  exact (qss_cons (qs_set (i:=3) nd rfl (Or.inl rfl) (qe_lst qa_nil)) (qss_cons (qs_for PassesOwn.never rfl (qi_enum rfl B.enumerate_ (qa_cons (qv 1) qa_nil)) (qg_tup rfl (qgs_cons (qg_name (i:=4) nd rfl (Or.inr rfl)) (qgs_cons (qg_name (i:=5) nd rfl (Or.inl rfl)) qgs_nil))) (qss_cons (qs_set (i:=6) nd rfl (Or.inl rfl) (qe_lst qa_nil)) (qss_cons (qs_for PassesOwn.never rfl (qi_seq (qe_slice sl_seq (qv 5) (qo_some qe_int) qo_none)) (qg_name (i:=7) nd rfl (Or.inl rfl)) (qss_cons (qs_if (qt_cmpR (op_eqG hu) (qv 7) qe_str rfl) (qss_one (qs_set (i:=7) nd rfl (Or.inl rfl) (qe_ix ix_seq (qe_ix ix_seq (qv 2) (qv 4) (fun _ _=>rfl)) (qe_fn c_draw (hr.mono (by decide)) rfl (qa_cons (qv 0) (qa_cons (qe_callB call_len rfl B.len_ boot_len (qa_cons (qe_ix ix_seq (qv 2) (qv 4) (fun _ _=>rfl)) qa_nil)) qa_nil))) (fun _ _=>rfl)))) (qss_one (qs_if (qt_val (qe_callB call_isi rfl B.isinstance_ boot_isinstance (qa_cons (qv 7) (qa_cons (qe_bltn rfl B.tuple_ boot_tuple (v:=.ty "tuple") rfl) qa_nil)))) (qss_one (qs_set (i:=7) nd rfl (Or.inl rfl) (qe_callTy call_tuple_of rfl B.tuple_ boot_tuple (qa_cons (qe_comp (sc:=defScope s_filled) (N:=N_filled) (NY:=["_law_state","_law_rows","_law_known","_law_found","_law_n","_law_row","_law_some","_law_thing","_law_one"]) (js:=[]) (k:=1) ⟨rfl,by decide +kernel,by decide +kernel,by decide +kernel,rfl,by decide +kernel⟩ rfl rfl rfl rfl (qi_seq (qv 7)) (fun _ _ _ _ _=>(qg_name (i:=8) (show List.Nodup (["_law_state","_law_rows","_law_known","_law_found","_law_n","_law_row","_law_some","_law_thing","_law_one"]:List Str) by decide +kernel) rfl (Or.inl rfl))) (fun _ _ _ _ _=>qif_nil) (fun _ _ _ _ _=>(qe_ix ix_seq (qe_ix ix_seq (qv 2) (qv 4) (fun _ _=>rfl)) (qe_fn c_draw (hr.mono (by decide)) rfl (qa_cons (qv 0) (qa_cons (qe_callB call_len rfl B.len_ boot_len (qa_cons (qe_ix ix_seq (qv 2) (qv 4) (fun _ _=>rfl)) qa_nil)) qa_nil))) (fun _ _=>rfl)))) qa_nil)))) qss_nil))) (qss_one (qs_expr (qe_bm PySem.F.plainAttrs_list PySem.F.slot_list_append PySem.F.type_list_append mt_append (qv 6) (qa_cons (qv 7) qa_nil)))))) (qss_one (qs_expr (qe_bm PySem.F.plainAttrs_list PySem.F.slot_list_append PySem.F.type_list_append mt_append (qv 3) (qa_cons (qe_op op_plus (qe_tup (qa_cons (qe_ix ix_seq (qv 5) qe_int (fun _ _=>rfl)) qa_nil)) (qe_callTy call_tuple_of rfl B.tuple_ boot_tuple (qa_cons (qv 6) qa_nil))) qa_nil))))))) (qss_one (qs_ret (qe_callTy call_tuple_of rfl B.tuple_ boot_tuple (qa_cons (qv 3) qa_nil))))))
theorem d_leads (B:Blt mg)  
    (hr:Room k_leads (A.deeper (envOfC "_law_leads" (defScope s_leads) s.heap.objs.size f cdv))):PSs (cxOf CX0 P w K mg base N_leads "_law_leads" (defScope s_leads) f cdv A outer s H E).nox (defBody s_leads) (t_leads K):=by
  have nd:=sc_leads.nd
  have hu:=hr.units0
  have hu1:=hu_of hr
  refine QSs.up ?_
  exact (qss_cons (qs_if (qt_cmpR (op_eqG hu) (qe_ix ix_seq (qe_ix ix_seq (qv 0) (qv 1) (fun _ _=>rfl)) qe_int (fun _ _=>rfl)) qe_str rfl) (qss_one (qs_ret (qe_lst (qa_cons (qe_ix ix_seq (qe_ix ix_seq (qv 0) (qv 1) (fun _ _=>rfl)) qe_int (fun _ _=>rfl)) qa_nil)))) qss_nil) (qss_cons (qs_if (qt_cmpR (op_eqG hu) (qe_ix ix_seq (qe_ix ix_seq (qv 0) (qv 1) (fun _ _=>rfl)) qe_int (fun _ _=>rfl)) qe_str rfl) (qss_one (qs_ret (qe_lst (qa_cons (qe_op op_plus (qv 1) qe_int) (qa_cons (qe_ix ix_seq (qe_ix ix_seq (qv 0) (qv 1) (fun _ _=>rfl)) qe_int (fun _ _=>rfl)) qa_nil))))) qss_nil) (qss_cons (qs_if (qt_cmpR (op_eqG hu) (qe_ix ix_seq (qe_ix ix_seq (qv 0) (qv 1) (fun _ _=>rfl)) qe_int (fun _ _=>rfl)) qe_str rfl) (qss_one (qs_ret (qe_lst qa_nil))) qss_nil) (qss_one (qs_ret (qe_lst (qa_cons (qe_op op_plus (qv 1) qe_int) qa_nil)))))))
theorem d_set_names (B:Blt mg)  (c_leads:Callee P w K mg base "_law_leads" PS_leads K_leads (sp_leads K))
    (hr:Room k_set_names (A.deeper (envOfC "_law_set_names" (defScope s_set_names) s.heap.objs.size f cdv))):PSs (cxOf CX0 P w K mg base N_set_names "_law_set_names" (defScope s_set_names) f cdv A outer s H E).nox (defBody s_set_names) (t_set_names K):=by
  have nd:=sc_set_names.nd
  have hu:=hr.units0
  have hu1:=hu_of hr
  refine QSs.up ?_
  exact (qss_cons (qs_comp (i:=3) (sc:=defScope s_set_names) (N:=N_set_names) (NY:=["_law_rows","_law_names_here","_law_params","_law_known","_law_more","_law_n","_law_left","_law_m","_law_kept","_law_row"]) (js:=[]) (k:=1) ⟨rfl,by decide +kernel,by decide +kernel,by decide +kernel,rfl,by decide +kernel⟩ rfl rfl rfl rfl (qi_seq (qv 0)) (fun _ _ _ _ _=>(qg_name (i:=9) (show List.Nodup (["_law_rows","_law_names_here","_law_params","_law_known","_law_more","_law_n","_law_left","_law_m","_law_kept","_law_row"]:List Str) by decide +kernel) rfl (Or.inl rfl))) (fun _ _ _ _ _=>qif_nil) (fun _ _ _ _ _=>(qe_callTy call_list_of rfl B.list_ boot_list (qa_cons (qv 1) qa_nil))) nd rfl (Or.inl rfl) rfl) (qss_cons (qs_asg (qe_callTy call_list_of rfl B.list_ boot_list (qa_cons (qv 2) qa_nil)) (qg_sub (qv 3) qe_int set_list)) (qss_cons (qs_set (i:=4) nd rfl (Or.inl rfl) qe_bl) (qss_cons (qs_while PassesOwn.never (qt_val (qv 4)) (qss_cons (qs_set (i:=4) nd rfl (Or.inl rfl) qe_bl) (qss_one (qs_for PassesOwn.never rfl (qi_range1 rfl B.range_ (qa_cons (qe_callB call_len rfl B.len_ boot_len (qa_cons (qv 0) qa_nil)) qa_nil)) (qg_name (i:=5) nd rfl (Or.inl rfl)) (qss_cons (qs_set (i:=6) nd rfl (Or.inr rfl) (qe_ix ix_seq (qv 3) (qv 5) (fun _ _=>rfl))) (qss_cons (qs_if (qt_cmpR op_in_seq (qe_ix ix_seq (qe_ix ix_seq (qv 0) (qv 5) (fun _ _=>rfl)) qe_int (fun _ _=>rfl)) (qe_tup (qa_cons qe_str (qa_cons qe_str (qa_cons qe_str qa_nil)))) rfl) (qss_one (qs_set (i:=6) nd rfl (Or.inr rfl) (qe_op op_plus (qv 6) (qe_lst (qa_cons (qe_ix ix_seq (qe_ix ix_seq (qv 0) (qv 5) (fun _ _=>rfl)) qe_int (fun _ _=>rfl)) qa_nil))))) qss_nil) (qss_one (qs_for PassesOwn.never rfl (qi_seq (qe_fn c_leads (hr.mono (by decide)) rfl (qa_cons (qv 0) (qa_cons (qv 5) qa_nil)))) (qg_name (i:=7) nd rfl (Or.inl rfl)) (qss_cons (qs_comp (i:=8) (sc:=defScope s_set_names) (N:=N_set_names) (NY:=["_law_rows","_law_names_here","_law_params","_law_known","_law_more","_law_n","_law_left","_law_m","_law_kept","_law_name"]) (js:=[]) (k:=1) ⟨rfl,by decide +kernel,by decide +kernel,by decide +kernel,rfl,by decide +kernel⟩ rfl rfl rfl rfl (qi_seq (qe_ix ix_seq (qv 3) (qv 7) (fun _ _=>rfl))) (fun _ _ _ _ _=>(qg_name (i:=9) (show List.Nodup (["_law_rows","_law_names_here","_law_params","_law_known","_law_more","_law_n","_law_left","_law_m","_law_kept","_law_name"]:List Str) by decide +kernel) rfl (Or.inl rfl))) (fun _ _ _ _ _=>(qif_one (qt_cmpR op_in_seq (qv 9) (qv 6) rfl))) (fun _ _ _ _ _=>(qv 9)) nd rfl (Or.inl rfl) rfl) (qss_one (qs_if (qt_cmpR op_lt (qe_callB call_len rfl B.len_ boot_len (qa_cons (qv 8) qa_nil)) (qe_callB call_len rfl B.len_ boot_len (qa_cons (qe_ix ix_seq (qv 3) (qv 7) (fun _ _=>rfl)) qa_nil)) rfl) (qss_cons (qs_asg (qv 8) (qg_sub (qv 3) (qv 7) set_list)) (qss_one (qs_set (i:=4) nd rfl (Or.inl rfl) qe_bl))) qss_nil))))))))))) (qss_one (qs_ret (qv 3)))))))
theorem d_mended (B:Blt mg)  
    (hr:Room k_mended (A.deeper (envOfC "_law_mended" (defScope s_mended) s.heap.objs.size f cdv))):PSs (cxOf CX0 P w K mg base N_mended "_law_mended" (defScope s_mended) f cdv A outer s H E).nox (defBody s_mended) (t_mended K):=by
  have nd:=sc_mended.nd
  have hu:=hr.units0
  have hu1:=hu_of hr
  refine QSs.up ?_
  exact (qss_cons (qs_set (i:=3) nd rfl (Or.inl rfl) (qe_op op_sub (qe_callB call_len rfl B.len_ boot_len (qa_cons (qv 0) qa_nil)) qe_int)) (qss_cons (qs_if (qt_cmpR op_notIn_seq (qe_ix ix_seq (qe_ix ix_seq (qv 0) (qv 3) (fun _ _=>rfl)) qe_int (fun _ _=>rfl)) (qe_tup (qa_cons qe_str (qa_cons qe_str qa_nil))) rfl) (qss_one (qs_asg (qe_tup (qa_cons qe_str (qa_cons qe_str qa_nil))) (qg_sub (qv 0) (qv 3) set_list))) qss_nil) (qss_cons (qs_if (QW.pt (qw_and (qt_val (qv 2)) (qw_and (qt_cmpR (op_neG hu) (qe_ix ix_seq (qe_ix ix_seq (qv 0) qe_int (fun _ _=>rfl)) qe_int (fun _ _=>rfl)) qe_str rfl) (qw_and1 (qt_cmpR op_gt (qv 3) qe_int rfl))))) (qss_one (qs_asg (qe_tup (qa_cons qe_str (qa_cons (qe_ix ix_seq (qv 1) qe_int (fun _ _=>rfl)) (qa_cons qe_int qa_nil)))) (qg_sub (qv 0) qe_int set_list))) qss_nil) (qss_cons (qs_for PassesOwn.never rfl (qi_range1 rfl B.range_ (qa_cons (qe_callB call_len rfl B.len_ boot_len (qa_cons (qv 0) qa_nil)) qa_nil)) (qg_name (i:=4) nd rfl (Or.inl rfl)) (qss_cons (qs_set (i:=5) nd rfl (Or.inl rfl) (qv 4)) (qss_cons (qs_for PassesOwn.never rfl (qi_seq (qv 0)) (qg_name (i:=6) nd rfl (Or.inl rfl)) (qss_one (qs_if (qt_cmpR (op_eqG hu) (qe_ix ix_seq (qe_ix ix_seq (qv 0) (qv 5) (fun _ _=>rfl)) qe_int (fun _ _=>rfl)) qe_str rfl) (qss_one (qs_set (i:=5) nd rfl (Or.inl rfl) (qe_ix ix_seq (qe_ix ix_seq (qv 0) (qv 5) (fun _ _=>rfl)) qe_int (fun _ _=>rfl)))) qss_nil))) (qss_one (qs_if (qt_cmpR (op_eqG hu) (qe_ix ix_seq (qe_ix ix_seq (qv 0) (qv 5) (fun _ _=>rfl)) qe_int (fun _ _=>rfl)) qe_str rfl) (qss_one (qs_asg (qe_ix ix_seq (qe_lst (qa_cons (qe_tup (qa_cons qe_str (qa_cons qe_str qa_nil))) (qa_cons (qe_tup (qa_cons qe_str (qa_cons qe_str qa_nil))) qa_nil))) (qe_callTy call_int1 rfl B.int_ boot_int (qa_cons (qe_cmpR (op_eqG hu) (qv 4) (qv 3) rfl) qa_nil)) (fun _ _=>rfl)) (qg_sub (qv 0) (qv 4) set_list))) qss_nil))))) (qss_one (qs_ret (qv 0)))))))
theorem d_rough_row (B:Blt mg)  (c_draw:Callee P w K mg base "_law_draw" PS_draw K_draw (sp_draw K)) (c_worth:Callee P w K mg base "_law_worth" PS_worth K_worth (sp_worth K))
    (hr:Room k_rough_row (A.deeper (envOfC "_law_rough_row" (defScope s_rough_row) s.heap.objs.size f cdv))):PSs (cxOf CX0 P w K mg base N_rough_row "_law_rough_row" (defScope s_rough_row) f cdv A outer s H E).nox (defBody s_rough_row) (t_rough_row K):=by
  have nd:=sc_rough_row.nd
  have hu:=hr.units0
  have hu1:=hu_of hr
  refine QSs.up ?_
  exact (qss_cons (qs_set (i:=4) nd rfl (Or.inl rfl) (qe_ix ix_seq (qv 1) (qe_fn c_draw (hr.mono (by decide)) rfl (qa_cons (qv 0) (qa_cons (qe_callB call_len rfl B.len_ boot_len (qa_cons (qv 1) qa_nil)) qa_nil))) (fun _ _=>rfl))) (qss_cons (qs_set (i:=5) nd rfl (Or.inl rfl) (qe_fn c_draw (hr.mono (by decide)) rfl (qa_cons (qv 0) (qa_cons qe_int qa_nil)))) (qss_cons (qs_if (qt_cmpR op_lt (qv 5) qe_int rfl) (qss_one (qs_ret (qe_tup (qa_cons qe_str (qa_cons (qv 4) (qa_cons (qe_fn c_worth (hr.mono (by decide)) rfl (qa_cons (qv 0) qa_nil)) qa_nil)))))) qss_nil) (qss_cons (qs_if (qt_cmpR op_lt (qv 5) qe_int rfl) (qss_one (qs_ret (qe_tup (qa_cons qe_str (qa_cons (qv 4) (qa_cons (qe_ix ix_seq qe_str (qe_fn c_draw (hr.mono (by decide)) rfl (qa_cons (qv 0) (qa_cons qe_int qa_nil))) (fun _ _=>rfl)) (qa_cons qe_str (qa_cons qe_str qa_nil)))))))) qss_nil) (qss_cons (qs_if (qt_cmpR (op_eqG hu) (qv 5) qe_int rfl) (qss_cons (qs_set (i:=6) nd rfl (Or.inl rfl) (qe_fn c_draw (hr.mono (by decide)) rfl (qa_cons (qv 0) (qa_cons (qe_callB call_len rfl B.len_ boot_len (qa_cons (qv 3) qa_nil)) qa_nil)))) (qss_one (qs_ret (qe_tup (qa_cons qe_str (qa_cons (qv 4) (qa_cons (qv 6) (qa_cons (qe_op op_times (qe_tup (qa_cons qe_str qa_nil)) (qe_ix ix_seq (qv 3) (qv 6) (fun _ _=>rfl))) qa_nil)))))))) qss_nil) (qss_cons (qs_if (qt_cmpR op_lt (qv 5) qe_int rfl) (qss_one (qs_ret (qe_tup (qa_cons qe_str (qa_cons qe_str qa_nil))))) qss_nil) (qss_cons (qs_if (qt_cmpR op_lt (qv 5) qe_int rfl) (qss_one (qs_ret (qe_tup (qa_cons qe_str (qa_cons qe_str (qa_cons (qe_fn c_draw (hr.mono (by decide)) rfl (qa_cons (qv 0) (qa_cons (qv 2) qa_nil))) qa_nil)))))) qss_nil) (qss_one (qs_ret (qe_ix ix_seq (qe_lst (qa_cons (qe_tup (qa_cons qe_str (qa_cons (qe_fn c_draw (hr.mono (by decide)) rfl (qa_cons (qv 0) (qa_cons (qv 2) qa_nil))) qa_nil))) (qa_cons (qe_tup (qa_cons qe_str (qa_cons qe_str qa_nil))) qa_nil))) (qe_op op_sub (qv 5) qe_int) (fun _ _=>rfl)))))))))))
theorem d_part (B:Blt mg)  (c_filled:Callee P w K mg base "_law_filled" PS_filled K_filled (sp_filled K)) (c_set_names:Callee P w K mg base "_law_set_names" PS_set_names K_set_names (sp_set_names K)) (c_mended:Callee P w K mg base "_law_mended" PS_mended K_mended (sp_mended K)) (c_rough_row:Callee P w K mg base "_law_rough_row" PS_rough_row K_rough_row (sp_rough_row K)) (c_draw:Callee P w K mg base "_law_draw" PS_draw K_draw (sp_draw K))
    (hr:Room k_part (A.deeper (envOfC "_law_part" (defScope s_part) s.heap.objs.size f cdv))):PSs (cxOf CX0 P w K mg base N_part "_law_part" (defScope s_part) f cdv A outer s H E).nox (defBody s_part) (t_part K):=by
  have nd:=sc_part.nd
  have hu:=hr.units0
  have hu1:=hu_of hr
  refine QSs.up ?_
  exact (qss_cons (qs_set (i:=6) nd rfl (Or.inr rfl) (qe_callB (call_max2 rfl) rfl B.max_ boot_max (qa_cons (qe_op op_plus qe_int (qe_callTy call_int1 rfl B.int_ boot_int (qa_cons (qe_cmpR (op_eqG hu) (qe_callB call_len rfl B.len_ boot_len (qa_cons (qv 3) qa_nil)) qe_int rfl) qa_nil))) (qa_cons (qe_op op_plus qe_int (qe_fn c_draw (hr.mono (by decide)) rfl (qa_cons (qv 0) (qa_cons (qv 5) qa_nil)))) qa_nil)))) (qss_cons (qs_comp (i:=7) (sc:=defScope s_part) (N:=N_part) (NY:=["_law_state","_law_word","_law_names_here","_law_params","_law_counts","_law_most","_law_many","_law_rows","_law_known","_law_n"]) (js:=[]) (k:=1) ⟨rfl,by decide +kernel,by decide +kernel,by decide +kernel,rfl,by decide +kernel⟩ rfl rfl rfl rfl (qi_range1 rfl B.range_ (qa_cons (qv 6) qa_nil)) (fun _ _ _ _ _=>(qg_name (i:=9) (show List.Nodup (["_law_state","_law_word","_law_names_here","_law_params","_law_counts","_law_most","_law_many","_law_rows","_law_known","_law_n"]:List Str) by decide +kernel) rfl (Or.inl rfl))) (fun _ _ _ _ _=>qif_nil) (fun _ _ _ _ _=>(qe_fn c_rough_row (hr.mono (by decide)) rfl (qa_cons (qv 0) (qa_cons (qv 2) (qa_cons (qv 6) (qa_cons (qv 4) qa_nil)))))) nd rfl (Or.inl rfl) rfl) (qss_cons (qs_set (i:=7) nd rfl (Or.inl rfl) (qe_fn c_mended (hr.mono (by decide)) rfl (qa_cons (qv 7) (qa_cons (qv 2) (qa_cons (qe_cmpR (op_eqG hu) (qe_callB call_len rfl B.len_ boot_len (qa_cons (qv 3) qa_nil)) qe_int rfl) qa_nil))))) (qss_cons (qs_set (i:=8) nd rfl (Or.inl rfl) (qe_fn c_set_names (hr.mono (by decide)) rfl (qa_cons (qv 7) (qa_cons (qv 2) (qa_cons (qv 3) qa_nil))))) (qss_one (qs_ret (qe_tup (qa_cons (qv 1) (qa_cons (qe_callTy call_tuple_of rfl B.tuple_ boot_tuple (qa_cons (qv 3) qa_nil)) (qa_cons (qe_fn c_filled (hr.mono (by decide)) rfl (qa_cons (qv 0) (qa_cons (qv 7) (qa_cons (qv 8) qa_nil)))) qa_nil))))))))))
theorem d_names (B:Blt mg)  (c_draw:Callee P w K mg base "_law_draw" PS_draw K_draw (sp_draw K))
    (hr:Room k_names (A.deeper (envOfC "_law_names" (defScope s_names) s.heap.objs.size f cdv))):PSs (cxOf CX0 P w K mg base N_names "_law_names" (defScope s_names) f cdv A outer s H E).nox (defBody s_names) (t_names K):=by
  have nd:=sc_names.nd
  have hu:=hr.units0
  have hu1:=hu_of hr
  refine QSs.up ?_
  exact (qss_cons (qs_set (i:=2) nd rfl (Or.inr rfl) qe_str) (qss_cons (qs_set (i:=3) nd rfl (Or.inl rfl) (qe_op op_plus qe_int (qe_fn c_draw (hr.mono (by decide)) rfl (qa_cons (qv 0) (qa_cons qe_int qa_nil))))) (qss_cons (qs_set (i:=4) nd rfl (Or.inl rfl) (qe_fn c_draw (hr.mono (by decide)) rfl (qa_cons (qv 0) (qa_cons (qv 3) qa_nil)))) (qss_cons (qs_set (i:=5) nd rfl (Or.inr rfl) (qe_fn c_draw (hr.mono (by decide)) rfl (qa_cons (qv 0) (qa_cons qe_int qa_nil)))) (qss_cons (qs_comp (i:=6) (sc:=defScope s_names) (N:=N_names) (NY:=["_law_state","_law_many","_law_letters","_law_size","_law_at","_law_first","_law_base","_law_found","_law_k","_law_some","_law_name","_law_j"]) (js:=[]) (k:=1) ⟨rfl,by decide +kernel,by decide +kernel,by decide +kernel,rfl,by decide +kernel⟩ rfl rfl rfl rfl (qi_range1 rfl B.range_ (qa_cons (qv 3) qa_nil)) (fun _ _ _ _ _=>(qg_name (i:=11) (show List.Nodup (["_law_state","_law_many","_law_letters","_law_size","_law_at","_law_first","_law_base","_law_found","_law_k","_law_some","_law_name","_law_j"]:List Str) by decide +kernel) rfl (Or.inl rfl))) (fun _ _ _ _ _=>qif_nil) (fun _ _ _ _ _=>(qe_ix ix_seq (qv 2) (qe_op op_mod (qe_op op_plus (qv 5) (qe_op op_times (qe_op op_times qe_int (qv 11)) (qe_fn c_draw (hr.mono (by decide)) rfl (qa_cons (qv 0) (qa_cons qe_int qa_nil))))) qe_int) (fun _ _=>rfl))) nd rfl (Or.inl rfl) rfl) (qss_cons (qs_set (i:=7) nd rfl (Or.inl rfl) (qe_lst qa_nil)) (qss_cons (qs_for PassesOwn.never rfl (qi_range1 rfl B.range_ (qa_cons (qv 1) qa_nil)) (qg_name (i:=8) nd rfl (Or.inl rfl)) (qss_cons (qs_set (i:=9) nd rfl (Or.inl rfl) (qe_op op_plus (qe_op op_plus (qe_slice sl_seq (qv 6) qo_none (qo_some (qv 4))) (qe_lst (qa_cons (qe_ix ix_seq (qv 2) (qe_op op_mod (qe_op op_plus (qv 5) (qe_op op_times qe_int (qv 8))) qe_int) (fun _ _=>rfl)) qa_nil))) (qe_slice sl_seq (qv 6) (qo_some (qe_op op_plus (qv 4) qe_int)) qo_none))) (qss_cons (qs_set (i:=10) nd rfl (Or.inl rfl) (qe_bm PySem.F.plainAttrs_str PySem.F.slot_str_join PySem.F.type_str_join mt_join qe_str (qa_cons (qv 9) qa_nil))) (qss_cons (qs_if (QW.pt (qw_or (qt_cmpR op_in_seq (qv 10) (qe_tup (qa_cons qe_str (qa_cons qe_str (qa_cons qe_str (qa_cons qe_str (qa_cons qe_str (qa_cons qe_str qa_nil))))))) rfl) (qw_or1 (QW.pt (qw_and (qt_cmpR op_lt (qv 3) qe_int rfl) (qw_and1 (qt_cmpR (op_eqG hu) (qe_op op_mod (qe_op op_plus (qv 3) (qv 8)) qe_int) qe_int rfl))))))) (qss_one (qs_set (i:=10) nd rfl (Or.inl rfl) (qe_op op_plus (qv 10) qe_str))) qss_nil) (qss_one (qs_expr (qe_bm PySem.F.plainAttrs_list PySem.F.slot_list_append PySem.F.type_list_append mt_append (qv 7) (qa_cons (qv 10) qa_nil)))))))) (qss_one (qs_ret (qv 7))))))))))
theorem d_program (B:Blt mg)  (c_part:Callee P w K mg base "_law_part" PS_part K_part (sp_part K)) (c_draw:Callee P w K mg base "_law_draw" PS_draw K_draw (sp_draw K)) (c_names:Callee P w K mg base "_law_names" PS_names K_names (sp_names K))
    (hr:Room k_program (A.deeper (envOfC "_law_program" (defScope s_program) s.heap.objs.size f cdv))):PSs (cxOf CX0 P w K mg base N_program "_law_program" (defScope s_program) f cdv A outer s H E).nox (defBody s_program) (t_program K):=by
  have nd:=sc_program.nd
  have hu:=hr.units0
  have hu1:=hu_of hr
  refine QSs.up ?_
  exact (qss_cons (qs_set (i:=2) nd rfl (Or.inl rfl) (qe_callTy call_int1 rfl B.int_ boot_int (qa_cons (qe_cmpR (op_eqG hu) (qe_op op_mod (qe_op op_fdiv (qe_callB (call_sum_int rfl) rfl B.sum_ boot_sum (qa_cons (qe_slice sl_seq (qe_ix ix_seq (qv 0) qe_int (fun _ _=>rfl)) qo_none (qo_some qe_int)) qa_nil)) qe_int) qe_int) qe_int rfl) qa_nil))) (qss_cons (qs_set (i:=3) nd rfl (Or.inl rfl) (qe_slice sl_seq (qe_fn c_names (hr.mono (by decide)) rfl (qa_cons (qv 0) (qa_cons qe_int qa_nil))) qo_none (qo_some (qe_ix ix_seq (qe_lst (qa_cons (qe_op op_plus qe_int (qe_fn c_draw (hr.mono (by decide)) rfl (qa_cons (qv 0) (qa_cons qe_int qa_nil)))) (qa_cons qe_int qa_nil))) (qv 2) (fun _ _=>rfl))))) (qss_cons (qs_set (i:=4) nd rfl (Or.inr rfl) (qe_fn c_names (hr.mono (by decide)) rfl (qa_cons (qv 0) (qa_cons (qe_op op_plus qe_int (qe_fn c_draw (hr.mono (by decide)) rfl (qa_cons (qv 0) (qa_cons qe_int qa_nil)))) qa_nil)))) (qss_cons (qs_comp (i:=5) (sc:=defScope s_program) (N:=N_program) (NY:=["_law_state","_law_most","_law_five","_law_words","_law_names_here","_law_counts","_law_found","_law_word","_law_many","_law_turn","_law_params"]) (js:=[7]) (k:=0) ⟨rfl,by decide +kernel,by decide +kernel,by decide +kernel,rfl,by decide +kernel⟩ rfl rfl rfl rfl (qi_seq (qv 3)) (fun _ _ _ _ _=>(qg_name (i:=7) (show List.Nodup (["_law_state","_law_most","_law_five","_law_words","_law_names_here","_law_counts","_law_found","_law_word","_law_many","_law_turn","_law_params"]:List Str) by decide +kernel) rfl (Or.inl rfl))) (fun _ _ _ _ _=>qif_nil) (fun _ _ _ _ _=>(qe_fn c_draw (hr.mono (by decide)) rfl (qa_cons (qv 0) (qa_cons (qe_op op_plus (qe_callB (call_min2 rfl) rfl B.min_ boot_min (qa_cons qe_int (qa_cons (qe_callB call_len rfl B.len_ boot_len (qa_cons (qv 4) qa_nil)) qa_nil))) qe_int) qa_nil)))) nd rfl (Or.inl rfl) rfl) (qss_cons (qs_set (i:=6) nd rfl (Or.inl rfl) (qe_lst qa_nil)) (qss_cons (qs_for PassesOwn.never rfl (qi_zip rfl B.zip_ (qa_cons (qv 3) (qa_cons (qv 5) qa_nil))) (qg_tup rfl (qgs_cons (qg_name (i:=7) nd rfl (Or.inl rfl)) (qgs_cons (qg_name (i:=8) nd rfl (Or.inl rfl)) qgs_nil))) (qss_cons (qs_set (i:=9) nd rfl (Or.inl rfl) (qe_fn c_draw (hr.mono (by decide)) rfl (qa_cons (qv 0) (qa_cons (qe_callB call_len rfl B.len_ boot_len (qa_cons (qv 4) qa_nil)) qa_nil)))) (qss_cons (qs_set (i:=10) nd rfl (Or.inl rfl) (qe_slice sl_seq (qe_op op_plus (qe_slice sl_seq (qv 4) (qo_some (qv 9)) qo_none) (qe_slice sl_seq (qv 4) qo_none (qo_some (qv 9)))) qo_none (qo_some (qv 8)))) (qss_one (qs_expr (qe_bm PySem.F.plainAttrs_list PySem.F.slot_list_append PySem.F.type_list_append mt_append (qv 6) (qa_cons (qe_fn c_part (hr.mono (by decide)) rfl (qa_cons (qv 0) (qa_cons (qv 7) (qa_cons (qv 4) (qa_cons (qv 10) (qa_cons (qv 5) (qa_cons (qv 1) qa_nil))))))) qa_nil))))))) (qss_one (qs_ret (qe_callTy call_tuple_of rfl B.tuple_ boot_tuple (qa_cons (qv 6) qa_nil))))))))))
theorem d_law (B:Blt mg)  (c_step:Callee P w K mg base "_law_step" PS_step K_step (sp_step K)) (c_places:Callee P w K mg base "_law_places" PS_places K_places (sp_places K)) (c_turned:Callee P w K mg base "_law_turned" PS_turned K_turned (sp_turned K)) (c_draw:Callee P w K mg base "_law_draw" PS_draw K_draw (sp_draw K)) (c_args:Callee P w K mg base "_law_args" PS_args K_args (sp_args K)) (c_opened:Callee P w K mg base "_law_opened" PS_opened K_opened (sp_opened K)) (c_program:Callee P w K mg base "_law_program" PS_program K_program (sp_program K))
    (hr:Room k_law (A.deeper (envOfC "law" (defScope s_law) s.heap.objs.size f cdv))):PSs (cxOf CX0 P w K mg base N_law "law" (defScope s_law) f cdv A outer s H E).nox (defBody s_law) (t_law K):=by
  have nd:=sc_law.nd
  have hu:=hr.units0
  have hu1:=hu_of hr
  have hu5:=hu5_of hr
  refine QSs.up ?_
  exact (qss_cons (qs_set (i:=1) nd rfl (Or.inl rfl) (qe_lst (qa_cons (qv 0) (qa_cons qe_int (qa_cons qe_int qa_nil))))) (qss_cons (qs_set (i:=2) nd rfl (Or.inl rfl) (qe_fn c_program (hr.mono (by decide)) rfl (qa_cons (qv 1) (qa_cons (qe_ix ix_seq (qe_lst (qa_cons qe_int (qa_cons qe_int qa_nil))) (qe_op op_mod (qe_op op_fdiv (qe_callB (call_sum_int rfl) rfl B.sum_ boot_sum (qa_cons (qe_slice sl_seq (qv 0) qo_none (qo_some qe_int)) qa_nil)) qe_int) qe_int) (fun _ _=>rfl)) qa_nil)))) (qss_cons (qs_set (i:=3) nd rfl (Or.inl rfl) (qe_fn c_draw (hr.mono (by decide)) rfl (qa_cons (qv 1) (qa_cons (qe_callB call_len rfl B.len_ boot_len (qa_cons (qv 2) qa_nil)) qa_nil)))) (qss_cons (qs_set (i:=4) nd rfl (Or.inl rfl) (qe_lst (qa_cons (qe_fn c_opened (hr.mono (by decide)) rfl (qa_cons (qv 2) (qa_cons (qv 3) (qa_cons (qe_fn c_args (hr.mono (by decide)) rfl (qa_cons (qv 1) (qa_cons (qv 2) (qa_cons (qv 3) qa_nil)))) qa_nil)))) qa_nil))) (qss_cons (qs_set (i:=5) nd rfl (Or.inl rfl) (qe_lst qa_nil)) (qss_cons (qs_for PassesOwn.never rfl (qi_range1 rfl B.range_ (qa_cons (qe_fn c_draw (hr.mono (by decide)) rfl (qa_cons (qv 1) (qa_cons qe_int qa_nil))) qa_nil)) (qg_name (i:=6) nd rfl (Or.inl rfl)) (qss_one (qs_if (qt_cmpR (op_neU hu5) (qv 4) (qe_lst qa_nil) rfl) (qss_one (qs_expr (qe_fn c_step (hr.mono (by decide)) rfl (qa_cons (qv 2) (qa_cons (qv 4) (qa_cons (qv 5) qa_nil)))))) qss_nil))) (qss_cons (qs_set (i:=7) nd rfl (Or.inl rfl) (qe_fn c_turned (hr.mono (by decide)) rfl (qa_cons (qv 1) (qa_cons (qv 2) (qa_cons (qv 4) qa_nil))))) (qss_cons (qs_set (i:=8) nd rfl (Or.inl rfl) (qe_callTy call_list_of rfl B.list_ boot_list (qa_cons (qv 5) qa_nil))) (qss_cons (qs_for PassesOwn.never rfl (qi_range1 rfl B.range_ (qa_cons qe_int qa_nil)) (qg_name (i:=6) nd rfl (Or.inl rfl)) (qss_cons (qs_if (QW.pt (qw_or (qt_cmpR (op_neU hu5) (qv 5) (qv 8) rfl) (qw_or1 (qt_cmpR (op_neU hu5) (qe_fn c_places (hr.mono (by decide)) rfl (qa_cons (qv 4) qa_nil)) (qe_fn c_places (hr.mono (by decide)) rfl (qa_cons (qv 7) qa_nil)) rfl)))) (qss_one (qs_ret qe_bl)) qss_nil) (qss_one (qs_if (qt_cmpR (op_neU hu5) (qv 4) (qe_lst qa_nil) rfl) (qss_cons (qs_set (i:=9) nd rfl (Or.inl rfl) (qe_fn c_step (hr.mono (by decide)) rfl (qa_cons (qv 2) (qa_cons (qv 4) (qa_cons (qv 5) qa_nil))))) (qss_one (qs_if (qt_cmpR (op_neU hu5) (qe_fn c_step (hr.mono (by decide)) rfl (qa_cons (qv 2) (qa_cons (qv 7) (qa_cons (qv 8) qa_nil)))) (qv 9) rfl) (qss_one (qs_ret qe_bl)) qss_nil))) qss_nil)))) (qss_one (qs_ret qe_bl)))))))))))
end
end Bg
end
section
namespace Bg
open PySem L2
theorem r_draw_tail {K:Fg} {st scr:Addr} {m:Int} {k:Nat} {ns:List Int} {c:Int} {H H2:Hp} {Q:VK} {o4 o5:Option V} {nx:St→Hp→Prop} (hk:k≤1000000) (m0:0 < m)
    (q:∀ (d:Int) (H':Hp),0≤d→d < m→Stt K H' st (k + 1)→But st H H'→Q (.int d) H') (hS:H2 st=some (.lst [.ref scr,.int ((k:Int) + 1),.int c])) (hscr:ScrAt K H2 scr ns) (hns:ns.length≤63) (hB:But st H H2) :
    t_draw_5 K { nx:=nx,rt:=Q } [some (.ref st),some (.int m),some (.ref scr),some (.int (k:Nat)),o4,o5] H2:=by
  have e1:(((k + 1:Nat):Nat):Int)=(k:Int) + 1:=by lia
  have S2:Stt K H2 st (k + 1):=⟨scr,ns,c,by rw [e1];exact hS,hscr,hns⟩
  refine ⟨_,rfl,.inl ⟨_,_,rfl,rfl,.inr ⟨by decide,by decide⟩,.inl ⟨_,_,rfl,rfl,?_⟩⟩⟩
  have rest:∀ z:Int,t_draw_3 K { nx:=nx,rt:=Q } [some (.ref st),some (.int m),some (.ref scr),some (.int (k:Nat)),o4,some (.int z)] H2:=fun z=>by
    have b1:0≤z % 2147483629:=Int.emod_nonneg _ (by decide)
    have b2:z % 2147483629 < 2147483629:=Int.emod_lt_of_pos _ (by decide)
    refine ⟨_,rfl,_,_,rfl,rfl,(by show (0:Int) < 2147483629;decide),_,rfl,.inl ⟨_,_,rfl,rfl,.inl ⟨_,_,rfl,rfl,.inl ⟨by lia,by lia⟩,_,_,rfl,rfl,(by show (0:Int) < 2147483629;decide),?_⟩⟩⟩
    generalize hy:z % 2147483629 * ((k:Int) + 3) % 2147483629=y
    have c1:0≤y:=by rw [← hy];exact Int.emod_nonneg _ (by decide)
    have c2:y < 2147483629:=by rw [← hy];exact Int.emod_lt_of_pos _ (by decide)
    refine ⟨_,rfl,_,rfl,.inl ⟨_,_,rfl,rfl,.inl ⟨by lia,by lia⟩,_,_,rfl,rfl,(by show (0:Int) < 2147483587;decide),?_⟩⟩
    generalize hx:y * y % 2147483587=x
    have d1:0≤x:=by rw [← hx];exact Int.emod_nonneg _ (by decide)
    have d2:x < 2147483587:=by rw [← hx];exact Int.emod_lt_of_pos _ (by decide)
    refine ⟨_,rfl,_,rfl,.inl ⟨_,_,rfl,rfl,.inl ⟨by lia,by lia⟩,_,_,rfl,rfl,(by show (0:Int) < 1999999973;decide),_,rfl,_,_,rfl,rfl,m0,?_⟩⟩
    exact q _ H2 (Int.emod_nonneg _ (by lia)) (Int.emod_lt_of_pos _ m0) S2 hB
  refine ⟨_,rfl,_,_,rfl,.inl ⟨_,hscr.sq,rfl⟩,_,_,rfl,rfl,_,rfl,if_dec (fun hl=>?_) (fun _=>rest _)⟩
  rw [List.length_map] at hl
  have hlp:0 < ns.length:=by lia
  refine ⟨_,rfl,_,rfl,_,rfl,.inl ⟨_,_,rfl,rfl,.inr ⟨by decide,by decide⟩,_,rfl,_,_,rfl,.inl ⟨_,hscr.sq,rfl⟩,_,_,rfl,rfl,(by rw [List.length_map];lia),?_⟩⟩
  have i1:0≤(k:Int) * 7 % ((ns.map V.int).length:Nat):=Int.emod_nonneg _ (by rw [List.length_map];lia)
  have i2:(k:Int) * 7 % ((ns.map V.int).length:Nat) < ((ns.map V.int).length:Nat):=Int.emod_lt_of_pos _ (by rw [List.length_map];lia)
  rw [List.length_map] at i1 i2
  have i3:((k:Int) * 7 % (ns.length:Nat)).toNat < ns.length:=by lia
  refine ixL hscr.sq (by rw [List.length_map];exact i1) (v:=.int ns[((k:Int) * 7 % (ns.length:Nat)).toNat]) (by simp only [List.length_map];rw [List.getElem?_map,List.getElem?_eq_getElem i3];rfl) ?_
  exact ⟨_,rfl,.inl ⟨_,_,rfl,rfl,.inl ⟨_,_,rfl,rfl,.inr ⟨by lia,by lia⟩,.inl ⟨_,_,rfl,rfl,rest _⟩⟩⟩⟩
theorem r_draw {K:Fg} {vs:List V} {H:Hp} {Q:VK} {E:XK} (h:sp_draw K vs H Q E):t_draw K { nx:=fun _ H'=>Q .non H',rt:=Q } (start N_draw vs) H:=by
  obtain ⟨st,m,k,rfl,S,hk,m0,m1,q⟩:=h
  obtain ⟨scr,ns,c,hst,hscr,hns⟩:=S
  refine ⟨_,rfl,_,rfl,.inl ⟨st,_,rfl,SqL.of hst,fun p hp=>?_⟩⟩
  refine ⟨p,_,rfl,SqL.of upd_same,rfl,_,_,rfl,_,_,rfl,rfl,?_⟩
  have np:st≠p:=ne_of_none hst hp
  have B1:But st H (upd H p (.lst (cutV [V.ref scr,V.int (k:Nat),V.int c] none (some 2)))):=(But.refl st H).new hp
  have h1:(upd H p (.lst (cutV [V.ref scr,V.int (k:Nat),V.int c] none (some 2)))) st=some (.lst [.ref scr,.int (k:Nat),.int c]):=by rw [upd_ne np];exact hst
  have s1:ScrAt K (upd H p (.lst (cutV [V.ref scr,V.int (k:Nat),V.int c] none (some 2)))) scr ns:=hscr.mono (.of_but B1 hst)
  generalize upd H p (.lst (cutV [V.ref scr,V.int (k:Nat),V.int c] none (some 2)))=H1 at B1 h1 s1 ⊢
  refine ⟨_,rfl,.inl ⟨_,_,rfl,rfl,_,rfl,setL h1 (by decide) (by show 1 < 3;decide) ?_⟩⟩
  have B2:But st H (upd H1 st (.lst [.ref scr,.int ((k:Int) + 1),.int c])):=B1.trans .upd_at
  have h2:(upd H1 st (.lst [.ref scr,.int ((k:Int) + 1),.int c])) st=some (.lst [.ref scr,.int ((k:Int) + 1),.int c]):=upd_same
  have s2:ScrAt K (upd H1 st (.lst [.ref scr,.int ((k:Int) + 1),.int c])) scr ns:=s1.mono (.of_but .upd_at h1)
  show t_draw_8 K _ [some (.ref st),some (.int m),some (.ref scr),some (.int (k:Nat)),none,none] (upd H1 st (.lst [.ref scr,.int ((k:Int) + 1),.int c]))
  generalize upd H1 st (.lst [.ref scr,.int ((k:Int) + 1),.int c])=H2 at B2 h2 s2 ⊢
  have tail:=@r_draw_tail K st scr m k ns c H H2 Q none none (fun _ H'=>Q .non H') hk m0 q h2 s2 hns B2
  have dig:∀ (c':Int) (H3:Hp),H3 st=some (.lst [.ref scr,.int ((k:Int) + 1),.int c'])→ScrAt K H3 scr ns→But st H H3→
      t_draw_7 K { nx:=t_draw_5 K { nx:=fun _ H'=>Q .non H',rt:=Q },rt:=Q } [some (.ref st),some (.int m),some (.ref scr),some (.int (k:Nat)),none,none] H3:=fun c' H3 h3 s3 B3=>by
    refine ⟨_,rfl,ixL (SqL.of h3) (by decide) rfl ?_⟩
    refine ⟨_,rfl,(by show 2≤sizeLine;decide),fun t ht=>⟨t,_,rfl,.inr (SqT.of upd_same),rfl,rfl,_,rfl,?_⟩⟩
    have n3:st≠t:=ne_of_none h3 ht
    have B4:But st H (upd H3 t (.tup [.int 0,.int (-1)])):=B3.new ht
    have h4:(upd H3 t (.tup [.int 0,.int (-1)])) st=some (.lst [.ref scr,.int ((k:Int) + 1),.int c']):=by rw [upd_ne n3];exact h3
    have s4:ScrAt K (upd H3 t (.tup [.int 0,.int (-1)])) scr ns:=s3.mono (.of_same ((Same.refl H3).new ht))
    refine if_bl (fun _=>?_) (fun _=>?_)
    · -- _law_state[2],_law_digit=divmod(_law_state[2],_law_many)
      refine ⟨_,rfl,.inl ⟨st,_,_,_,rfl,rfl,SqL.of h4,atI_of (by decide) rfl,_,rfl,_,_,rfl,⟨m0,m1⟩,fun p2 hp2=>?_⟩⟩
      have n4:st≠p2:=ne_of_none h4 hp2
      refine ⟨p2,_,rfl,SqT.of upd_same,rfl,_,_,rfl,_,rfl,setL (by rw [upd_ne n4];exact h4) (by decide) (by show 2 < 3;decide) ?_⟩
      refine ⟨_,_,rfl,rfl,_,rfl,?_⟩
      have B5:=(B4.new (o:=.tup [.int (c' / m),.int (c' % m)]) hp2)
      have s5:ScrAt K (upd (upd H3 t (.tup [.int 0,.int (-1)])) p2 (.tup [.int (c' / m),.int (c' % m)])) scr ns:=s4.mono (.of_same ((Same.refl _).new hp2))
      have h5:(upd (upd H3 t (.tup [.int 0,.int (-1)])) p2 (.tup [.int (c' / m),.int (c' % m)])) st=some (.lst [.ref scr,.int ((k:Int) + 1),.int c']):=by rw [upd_ne n4];exact h4
      refine q _ _ (Int.emod_nonneg _ (by lia)) (Int.emod_lt_of_pos _ m0) ⟨scr,ns,c' / m,?_,s5.mono (.of_but .upd_at h5),hns⟩ (B5.trans .upd_at)
      have e1:(((k + 1:Nat):Nat):Int)=(k:Int) + 1:=by lia
      rw [upd_same,e1]
      rfl
    · exact r_draw_tail hk m0 q h4 s4 hns B4
  have e1:(((k + 1:Nat):Nat):Int)=(k:Int) + 1:=by lia
  have elif:tIfS (tTest (tOp rLt2 (tVar 3) (tCB (rLen K) (tCons (tVar 2) tNil)))) (tRet (tOp rMod2 (tOp (rIx K) (tVar 2) (tVar 3)) (tVar 1))) tNext
      { nx:=t_draw_5 K { nx:=fun _ H'=>Q V.non H',rt:=Q },rt:=Q } [some (V.ref st),some (V.int m),some (V.ref scr),some (V.int (k:Nat)),none,none] H2:=by
    refine ⟨_,rfl,_,rfl,_,_,rfl,.inl ⟨_,s2.sq,rfl⟩,_,_,rfl,rfl,_,rfl,if_dec (fun hlt=>?_) (fun _=>tail)⟩
    rw [List.length_map] at hlt
    have j2:((k:Nat):Int).toNat < ns.length:=by lia
    refine ⟨_,rfl,_,rfl,ixL s2.sq (by lia) (v:=.int ns[((k:Nat):Int).toNat]) (by rw [List.getElem?_map,List.getElem?_eq_getElem j2];rfl) ?_⟩
    refine ⟨_,rfl,_,_,rfl,rfl,m0,?_⟩
    exact q _ H2 (Int.emod_nonneg _ (by lia)) (Int.emod_lt_of_pos _ m0) ⟨scr,ns,c,by rw [e1];exact h2,s2,hns⟩ B2
  refine ⟨_,rfl,_,_,rfl,rfl,⟨by decide,by decide⟩,.inl ⟨_,_,rfl,rfl,_,rfl,_,_,rfl,.inl ⟨_,s2.sq,rfl⟩,_,_,rfl,rfl,_,rfl,if_dec (fun hlt=>?_) (fun _=>?_)⟩⟩
  · rw [List.length_map] at hlt
    have hlp:0 < ns.length:=by lia
    have i0:(ns.map V.int)[(0:Int).toNat]?=some (.int ns[0]):=by
      show (ns.map V.int)[0]?=_
      rw [List.getElem?_map,List.getElem?_eq_getElem hlp];rfl
    refine ⟨_,rfl,ixL s2.sq (by decide) i0 ⟨_,_,rfl,rfl,(by show (0:Int) < 2;decide),.inl ⟨rfl,_,rfl,if_dec (fun _=>?_) (fun _=>?_)⟩⟩⟩
    · -- if _law_k % 12 == 0
      refine ⟨_,rfl,_,_,rfl,rfl,(by show (0:Int) < 12;decide),.inl ⟨rfl,_,rfl,if_dec (fun _=>?_) (fun _=>dig c H2 h2 s2 B2)⟩⟩
      have j2:((k:Int) / 12 + 1).toNat < ns.length:=by lia
      refine ⟨_,rfl,_,rfl,_,_,rfl,rfl,⟨by decide,by decide⟩,.inl ⟨_,_,rfl,rfl,ixL s2.sq (by lia) (v:=.int ns[((k:Int) / 12 + 1).toNat]) (by rw [List.getElem?_map,List.getElem?_eq_getElem j2];rfl) ?_⟩⟩
      refine ⟨_,rfl,setL h2 (by decide) (by show 2 < 3;decide) ?_⟩
      exact dig _ _ upd_same (s2.mono (.of_but .upd_at h2)) (B2.trans .upd_at)
    · exact elif
  · exact iteF elif
theorem r_worth {K:Fg} {vs:List V} {H:Hp} {Q:VK} {E:XK} (h:sp_worth K vs H Q E):t_worth K { nx:=fun _ H'=>Q .non H',rt:=Q } (start N_worth vs) H:=by
  obtain ⟨st,k,rfl,S,hk,q⟩:=h
  have e31:(2:Int) ^ Int.toNat 31=2147483648:=by decide
  have e33:(2:Int) ^ Int.toNat 33=8589934592:=by decide
  have e64:(2:Int) ^ Int.toNat 64=18446744073709551616:=by decide
  have f64:(2:Int) ^ 64=18446744073709551616:=by decide
  refine ⟨_,rfl,st,2,k,rfl,S,by lia,by decide,by decide,fun d H1 d0 d1 S1 B1=>?_⟩
  refine .inl ⟨rfl,_,rfl,if_dec (fun _=>?_) (fun _=>?_)⟩
  · refine ⟨_,rfl,_,_,rfl,rfl,⟨by decide,by decide,by decide⟩,st,_,k + 1,rfl,S1,by lia,by rw [e31];decide,by rw [e31];decide,fun d2 H2 a0 a1 S2 B2=>?_⟩
    rw [e31] at a1
    refine ⟨_,_,rfl,rfl,⟨by decide,by decide,by decide⟩,.inl ⟨_,_,rfl,rfl,.inl ⟨by lia,by lia⟩,?_⟩⟩
    refine ⟨_,rfl,_,_,rfl,rfl,⟨by decide,by decide,by decide⟩,st,_,k + 2,rfl,S2,by lia,by rw [e31];decide,by rw [e31];decide,fun d3 H3 b0 b1 S3 B3=>?_⟩
    rw [e31] at b1
    refine .inl ⟨_,_,rfl,rfl,q _ _ H3 ?_ ?_ S3 (by lia) ((B1.trans B2).trans B3)⟩
    · show 0≤d2 * (2:Int) ^ Int.toNat 33 + d3
      rw [e33];lia
    · show d2 * (2:Int) ^ Int.toNat 33 + d3 < 2 ^ 64
      rw [e33,f64];lia
  · refine ⟨_,_,rfl,rfl,⟨by decide,by decide,by decide⟩,_,_,rfl,rfl,_,rfl,st,3,k + 1,rfl,S1,by lia,by decide,by decide,fun d2 H2 a0 a1 S2 B2=>?_⟩
    refine ⟨_,_,rfl,rfl,_,rfl,st,12,k + 2,rfl,S2,by lia,by decide,by decide,fun d3 H3 b0 b1 S3 B3=>?_⟩
    refine ⟨(by show 4≤sizeLine;decide),fun l hl=>?_⟩
    refine ⟨_,rfl,st,4,k + 3,rfl,S3.new hl,by lia,by decide,by decide,fun d4 H4 c0 c1 S4 B4=>?_⟩
    obtain ⟨ys,hys⟩:=S3.lst
    have nl:l≠st:=fun z=>by rw [z,hys] at hl;cases hl
    have h4:=B4 l _ nl upd_same
    have B5:But st H H4:=(((B1.trans B2).trans B3).new hl).trans B4
    have fin:∀ z:Int,0≤z→z < 2 ^ 64→Q (.int z) H4:=fun z z0 z1=>q z _ H4 z0 z1 S4 (by lia) B5
    rcases (by lia:d4=0∨d4=1∨d4=2∨d4=3) with rfl | rfl | rfl | rfl
    · exact ixL (SqL.of h4) (by decide) rfl (fin _ (by decide) (by decide))
    · exact ixL (SqL.of h4) (by decide) rfl (fin _ (by decide) (by decide))
    · refine ixL (SqL.of h4) (by decide) rfl (fin _ ?_ ?_)
      · show 0≤(2:Int) ^ Int.toNat 64 - 1 - d2
        rw [e64];lia
      · show (2:Int) ^ Int.toNat 64 - 1 - d2 < 2 ^ 64
        rw [e64,f64];lia
    · exact ixL (SqL.of h4) (by decide) rfl (fin _ (by lia) (by lia))
theorem ixLT {K:Fg} {p:Addr} {xs:List V} {i:Int} {v:V} {H:Hp} {Q:VK} (h:H p=some (.lst xs)∨H p=some (.tup xs)) (h0:0≤i) (e:xs[i.toNat]?=some v) (q:Q v H):rIx K (.ref p) (.int i) H Q:=by
  rcases h with h | h
  · exact ixL (SqL.of h) h0 e q
  · exact ixT h h0 e q
theorem r_leads {K:Fg} {vs:List V} {H:Hp} {Q:VK} {E:XK} (h:sp_leads K vs H Q E):t_leads K { nx:=fun _ H'=>Q .non H',rt:=Q } (start N_leads vs) H:=by
  obtain ⟨rt,n,rvs,v,r,rfl,hrt,hv,hr,q⟩:=h
  have hn:rvs[((n:Nat):Int).toNat]?=some v:=by simpa using hv
  have n0:(0:Int)≤((n:Nat):Int):=by lia
  have e1:(((n + 1:Nat):Nat):Int)=(n:Int) + 1:=by lia
  cases r with
  | num x z=>
    obtain ⟨p,rfl,h⟩:=hr
    refine ⟨_,rfl,_,rfl,ixLT hrt n0 hn (ixT h (by decide) rfl (.inl ⟨rfl,_,rfl,no (by decide +kernel) ?_⟩))⟩
    refine ⟨_,rfl,_,rfl,ixLT hrt n0 hn (ixT h (by decide) rfl (.inl ⟨rfl,_,rfl,no (by decide +kernel) ?_⟩))⟩
    refine ⟨_,rfl,_,rfl,ixLT hrt n0 hn (ixT h (by decide) rfl (.inl ⟨rfl,_,rfl,no (by decide +kernel) ?_⟩))⟩
    exact ⟨_,rfl,.inl ⟨_,_,rfl,rfl,⟨(by show 1≤sizeLine;decide),fun t ht=>(by have z:=q t ht;unfold intsV leadsL at z;simp only [List.map_cons,List.map_nil,e1] at z;exact z)⟩⟩⟩
  | op x s a b=>
    obtain ⟨p,rfl,h⟩:=hr
    refine ⟨_,rfl,_,rfl,ixLT hrt n0 hn (ixT h (by decide) rfl (.inl ⟨rfl,_,rfl,no (by decide +kernel) ?_⟩))⟩
    refine ⟨_,rfl,_,rfl,ixLT hrt n0 hn (ixT h (by decide) rfl (.inl ⟨rfl,_,rfl,no (by decide +kernel) ?_⟩))⟩
    refine ⟨_,rfl,_,rfl,ixLT hrt n0 hn (ixT h (by decide) rfl (.inl ⟨rfl,_,rfl,no (by decide +kernel) ?_⟩))⟩
    exact ⟨_,rfl,.inl ⟨_,_,rfl,rfl,⟨(by show 1≤sizeLine;decide),fun t ht=>(by have z:=q t ht;unfold intsV leadsL at z;simp only [List.map_cons,List.map_nil,e1] at z;exact z)⟩⟩⟩
  | call x k as=>
    obtain ⟨p,q1,rfl,h,h1⟩:=hr
    refine ⟨_,rfl,_,rfl,ixLT hrt n0 hn (ixT h (by decide) rfl (.inl ⟨rfl,_,rfl,no (by decide +kernel) ?_⟩))⟩
    refine ⟨_,rfl,_,rfl,ixLT hrt n0 hn (ixT h (by decide) rfl (.inl ⟨rfl,_,rfl,no (by decide +kernel) ?_⟩))⟩
    refine ⟨_,rfl,_,rfl,ixLT hrt n0 hn (ixT h (by decide) rfl (.inl ⟨rfl,_,rfl,no (by decide +kernel) ?_⟩))⟩
    exact ⟨_,rfl,.inl ⟨_,_,rfl,rfl,⟨(by show 1≤sizeLine;decide),fun t ht=>(by have z:=q t ht;unfold intsV leadsL at z;simp only [List.map_cons,List.map_nil,e1] at z;exact z)⟩⟩⟩
  | say a=>
    obtain ⟨p,rfl,h⟩:=hr
    refine ⟨_,rfl,_,rfl,ixLT hrt n0 hn (ixT h (by decide) rfl (.inl ⟨rfl,_,rfl,no (by decide +kernel) ?_⟩))⟩
    refine ⟨_,rfl,_,rfl,ixLT hrt n0 hn (ixT h (by decide) rfl (.inl ⟨rfl,_,rfl,no (by decide +kernel) ?_⟩))⟩
    refine ⟨_,rfl,_,rfl,ixLT hrt n0 hn (ixT h (by decide) rfl (.inl ⟨rfl,_,rfl,no (by decide +kernel) ?_⟩))⟩
    exact ⟨_,rfl,.inl ⟨_,_,rfl,rfl,⟨(by show 1≤sizeLine;decide),fun t ht=>(by have z:=q t ht;unfold intsV leadsL at z;simp only [List.map_cons,List.map_nil,e1] at z;exact z)⟩⟩⟩
  | jump to=>
    obtain ⟨p,rfl,h⟩:=hr
    refine ⟨_,rfl,_,rfl,ixLT hrt n0 hn (ixT h (by decide) rfl (.inl ⟨rfl,_,rfl,yes ?_⟩))⟩
    exact ⟨_,rfl,_,rfl,ixLT hrt n0 hn (ixT h (by decide) rfl ⟨(by show 1≤sizeLine;decide),fun t ht=>(by have z:=q t ht;unfold intsV leadsL at z;simp only [List.map_cons,List.map_nil,e1] at z;exact z)⟩)⟩
  | test a to=>
    obtain ⟨p,rfl,h⟩:=hr
    refine ⟨_,rfl,_,rfl,ixLT hrt n0 hn (ixT h (by decide) rfl (.inl ⟨rfl,_,rfl,no (by decide +kernel) ?_⟩))⟩
    refine ⟨_,rfl,_,rfl,ixLT hrt n0 hn (ixT h (by decide) rfl (.inl ⟨rfl,_,rfl,yes ?_⟩))⟩
    exact ⟨_,rfl,.inl ⟨_,_,rfl,rfl,⟨_,rfl,_,rfl,ixLT hrt n0 hn (ixT h (by decide) rfl ⟨(by show 2≤sizeLine;decide),fun t ht=>(by have z:=q t ht;unfold intsV leadsL at z;simp only [List.map_cons,List.map_nil,e1] at z;exact z)⟩)⟩⟩⟩
  | give a=>
    obtain ⟨p,rfl,h⟩:=hr
    refine ⟨_,rfl,_,rfl,ixLT hrt n0 hn (ixT h (by decide) rfl (.inl ⟨rfl,_,rfl,no (by decide +kernel) ?_⟩))⟩
    refine ⟨_,rfl,_,rfl,ixLT hrt n0 hn (ixT h (by decide) rfl (.inl ⟨rfl,_,rfl,no (by decide +kernel) ?_⟩))⟩
    refine ⟨_,rfl,_,rfl,ixLT hrt n0 hn (ixT h (by decide) rfl (.inl ⟨rfl,_,rfl,yes ?_⟩))⟩
    exact ⟨(by show 0≤sizeLine;decide),fun t ht=>(by have z:=q t ht;unfold intsV leadsL at z;simp only [List.map_cons,List.map_nil,e1] at z;exact z)⟩
theorem r_p_reads {K:Fg} {vs:List V} {H:Hp} {Q:VK} {E:XK} (h:sp_p_reads K vs H Q E):t_p_reads K { nx:=fun _ H'=>Q .non H',rt:=Q } (start N_p_reads vs) H:=by
  obtain ⟨v,r,rfl,hr,q⟩:=h
  cases r with
  | num x z=>
    obtain ⟨p,rfl,h⟩:=hr
    refine ⟨_,rfl,ixT h (by decide) rfl ?_⟩
    refine ⟨_,rfl,.inl ⟨rfl,_,rfl,no (by decide +kernel) ?_⟩⟩
    refine ⟨_,rfl,.inl ⟨rfl,_,rfl,no (by decide +kernel) ?_⟩⟩
    refine ⟨_,rfl,(by show 3≤sizeLine;decide),fun t ht=>⟨t,_,rfl,.inr (SqT.of upd_same),rfl,rfl,_,rfl,if_f (by decide +kernel) ?_⟩⟩
    have nt:p≠t:=ne_of_none h ht
    exact ⟨(by show 0≤sizeLine;decide),fun t2 ht2=>q t2 _ upd_same (((Same.refl H).new ht).new ht2)⟩
  | op x s a b=>
    obtain ⟨p,rfl,h⟩:=hr
    refine ⟨_,rfl,ixT h (by decide) rfl ?_⟩
    refine ⟨_,rfl,.inl ⟨rfl,_,rfl,yes ?_⟩⟩
    exact ⟨_,rfl,ixT h (by decide) rfl ⟨_,rfl,ixT h (by decide) rfl ⟨(by show 2≤sizeLine;decide),fun t ht=>q t _ upd_same ((Same.refl H).new ht)⟩⟩⟩
  | call x k as=>
    obtain ⟨p,q1,rfl,h,h1⟩:=hr
    refine ⟨_,rfl,ixT h (by decide) rfl ?_⟩
    refine ⟨_,rfl,.inl ⟨rfl,_,rfl,no (by decide +kernel) ?_⟩⟩
    refine ⟨_,rfl,.inl ⟨rfl,_,rfl,yes ?_⟩⟩
    exact ⟨_,rfl,ixT h (by decide) rfl ⟨_,_,rfl,.inr ⟨SqT.of h1,q _ _ h1 (Same.refl H)⟩⟩⟩
  | say a=>
    obtain ⟨p,rfl,h⟩:=hr
    refine ⟨_,rfl,ixT h (by decide) rfl ?_⟩
    refine ⟨_,rfl,.inl ⟨rfl,_,rfl,no (by decide +kernel) ?_⟩⟩
    refine ⟨_,rfl,.inl ⟨rfl,_,rfl,no (by decide +kernel) ?_⟩⟩
    refine ⟨_,rfl,(by show 3≤sizeLine;decide),fun t ht=>⟨t,_,rfl,.inr (SqT.of upd_same),rfl,rfl,_,rfl,if_t (by decide +kernel) ?_⟩⟩
    have nt:p≠t:=ne_of_none h ht
    exact ⟨_,rfl,ixT (by rw [upd_ne nt];exact h) (by decide) rfl ⟨(by show 1≤sizeLine;decide),fun t2 ht2=>q t2 _ upd_same (((Same.refl H).new ht).new ht2)⟩⟩
  | jump to=>
    obtain ⟨p,rfl,h⟩:=hr
    refine ⟨_,rfl,ixT h (by decide) rfl ?_⟩
    refine ⟨_,rfl,.inl ⟨rfl,_,rfl,no (by decide +kernel) ?_⟩⟩
    refine ⟨_,rfl,.inl ⟨rfl,_,rfl,no (by decide +kernel) ?_⟩⟩
    refine ⟨_,rfl,(by show 3≤sizeLine;decide),fun t ht=>⟨t,_,rfl,.inr (SqT.of upd_same),rfl,rfl,_,rfl,if_f (by decide +kernel) ?_⟩⟩
    have nt:p≠t:=ne_of_none h ht
    exact ⟨(by show 0≤sizeLine;decide),fun t2 ht2=>q t2 _ upd_same (((Same.refl H).new ht).new ht2)⟩
  | test a to=>
    obtain ⟨p,rfl,h⟩:=hr
    refine ⟨_,rfl,ixT h (by decide) rfl ?_⟩
    refine ⟨_,rfl,.inl ⟨rfl,_,rfl,no (by decide +kernel) ?_⟩⟩
    refine ⟨_,rfl,.inl ⟨rfl,_,rfl,no (by decide +kernel) ?_⟩⟩
    refine ⟨_,rfl,(by show 3≤sizeLine;decide),fun t ht=>⟨t,_,rfl,.inr (SqT.of upd_same),rfl,rfl,_,rfl,if_t (by decide +kernel) ?_⟩⟩
    have nt:p≠t:=ne_of_none h ht
    exact ⟨_,rfl,ixT (by rw [upd_ne nt];exact h) (by decide) rfl ⟨(by show 1≤sizeLine;decide),fun t2 ht2=>q t2 _ upd_same (((Same.refl H).new ht).new ht2)⟩⟩
  | give a=>
    obtain ⟨p,rfl,h⟩:=hr
    refine ⟨_,rfl,ixT h (by decide) rfl ?_⟩
    refine ⟨_,rfl,.inl ⟨rfl,_,rfl,no (by decide +kernel) ?_⟩⟩
    refine ⟨_,rfl,.inl ⟨rfl,_,rfl,no (by decide +kernel) ?_⟩⟩
    refine ⟨_,rfl,(by show 3≤sizeLine;decide),fun t ht=>⟨t,_,rfl,.inr (SqT.of upd_same),rfl,rfl,_,rfl,if_t (by decide +kernel) ?_⟩⟩
    have nt:p≠t:=ne_of_none h ht
    exact ⟨_,rfl,ixT (by rw [upd_ne nt];exact h) (by decide) rfl ⟨(by show 1≤sizeLine;decide),fun t2 ht2=>q t2 _ upd_same (((Same.refl H).new ht).new ht2)⟩⟩
theorem r_p_sets {K:Fg} {vs:List V} {H:Hp} {Q:VK} {E:XK} (h:sp_p_sets K vs H Q E):t_p_sets K { nx:=fun _ H'=>Q .non H',rt:=Q } (start N_p_sets vs) H:=by
  obtain ⟨v,r,rfl,hr,q⟩:=h
  cases r with
  | num x z=>
    obtain ⟨p,rfl,h⟩:=hr
    refine ⟨_,rfl,ixT h (by decide) rfl ?_⟩
    refine ⟨(by show 3≤sizeLine;decide),fun t ht=>⟨t,_,rfl,.inr (SqT.of upd_same),rfl,rfl,_,rfl,if_t (by decide +kernel) ?_⟩⟩
    have nt:p≠t:=ne_of_none h ht
    exact ⟨_,rfl,ixT (by rw [upd_ne nt];exact h) (by decide) rfl (q _ ((Same.refl H).new ht))⟩
  | op x s a b=>
    obtain ⟨p,rfl,h⟩:=hr
    refine ⟨_,rfl,ixT h (by decide) rfl ?_⟩
    refine ⟨(by show 3≤sizeLine;decide),fun t ht=>⟨t,_,rfl,.inr (SqT.of upd_same),rfl,rfl,_,rfl,if_t (by decide +kernel) ?_⟩⟩
    have nt:p≠t:=ne_of_none h ht
    exact ⟨_,rfl,ixT (by rw [upd_ne nt];exact h) (by decide) rfl (q _ ((Same.refl H).new ht))⟩
  | call x k as=>
    obtain ⟨p,q1,rfl,h,h1⟩:=hr
    refine ⟨_,rfl,ixT h (by decide) rfl ?_⟩
    refine ⟨(by show 3≤sizeLine;decide),fun t ht=>⟨t,_,rfl,.inr (SqT.of upd_same),rfl,rfl,_,rfl,if_t (by decide +kernel) ?_⟩⟩
    have nt:p≠t:=ne_of_none h ht
    exact ⟨_,rfl,ixT (by rw [upd_ne nt];exact h) (by decide) rfl (q _ ((Same.refl H).new ht))⟩
  | say a=>
    obtain ⟨p,rfl,h⟩:=hr
    refine ⟨_,rfl,ixT h (by decide) rfl ?_⟩
    refine ⟨(by show 3≤sizeLine;decide),fun t ht=>⟨t,_,rfl,.inr (SqT.of upd_same),rfl,rfl,_,rfl,if_f (by decide +kernel) ?_⟩⟩
    have nt:p≠t:=ne_of_none h ht
    exact q _ ((Same.refl H).new ht)
  | jump to=>
    obtain ⟨p,rfl,h⟩:=hr
    refine ⟨_,rfl,ixT h (by decide) rfl ?_⟩
    refine ⟨(by show 3≤sizeLine;decide),fun t ht=>⟨t,_,rfl,.inr (SqT.of upd_same),rfl,rfl,_,rfl,if_f (by decide +kernel) ?_⟩⟩
    have nt:p≠t:=ne_of_none h ht
    exact q _ ((Same.refl H).new ht)
  | test a to=>
    obtain ⟨p,rfl,h⟩:=hr
    refine ⟨_,rfl,ixT h (by decide) rfl ?_⟩
    refine ⟨(by show 3≤sizeLine;decide),fun t ht=>⟨t,_,rfl,.inr (SqT.of upd_same),rfl,rfl,_,rfl,if_f (by decide +kernel) ?_⟩⟩
    have nt:p≠t:=ne_of_none h ht
    exact q _ ((Same.refl H).new ht)
  | give a=>
    obtain ⟨p,rfl,h⟩:=hr
    refine ⟨_,rfl,ixT h (by decide) rfl ?_⟩
    refine ⟨(by show 3≤sizeLine;decide),fun t ht=>⟨t,_,rfl,.inr (SqT.of upd_same),rfl,rfl,_,rfl,if_f (by decide +kernel) ?_⟩⟩
    have nt:p≠t:=ne_of_none h ht
    exact q _ ((Same.refl H).new ht)
theorem r_p_goal {K:Fg} {vs:List V} {H:Hp} {Q:VK} {E:XK} (h:sp_p_goal K vs H Q E):t_p_goal K { nx:=fun _ H'=>Q .non H',rt:=Q } (start N_p_goal vs) H:=by
  obtain ⟨v,r,rfl,hr,q⟩:=h
  cases r with
  | num x z=>
    obtain ⟨p,rfl,h⟩:=hr
    refine ⟨_,rfl,ixT h (by decide) rfl (.inl ⟨rfl,_,rfl,no (by decide +kernel) ?_⟩)⟩
    exact ⟨_,rfl,ixT h (by decide) rfl (.inl ⟨rfl,_,rfl,no (by decide +kernel) q⟩)⟩
  | op x s a b=>
    obtain ⟨p,rfl,h⟩:=hr
    refine ⟨_,rfl,ixT h (by decide) rfl (.inl ⟨rfl,_,rfl,no (by decide +kernel) ?_⟩)⟩
    exact ⟨_,rfl,ixT h (by decide) rfl (.inl ⟨rfl,_,rfl,no (by decide +kernel) q⟩)⟩
  | call x k as=>
    obtain ⟨p,q1,rfl,h,h1⟩:=hr
    refine ⟨_,rfl,ixT h (by decide) rfl (.inl ⟨rfl,_,rfl,no (by decide +kernel) ?_⟩)⟩
    exact ⟨_,rfl,ixT h (by decide) rfl (.inl ⟨rfl,_,rfl,no (by decide +kernel) q⟩)⟩
  | say a=>
    obtain ⟨p,rfl,h⟩:=hr
    refine ⟨_,rfl,ixT h (by decide) rfl (.inl ⟨rfl,_,rfl,no (by decide +kernel) ?_⟩)⟩
    exact ⟨_,rfl,ixT h (by decide) rfl (.inl ⟨rfl,_,rfl,no (by decide +kernel) q⟩)⟩
  | jump to=>
    obtain ⟨p,rfl,h⟩:=hr
    exact ⟨_,rfl,ixT h (by decide) rfl (.inl ⟨rfl,_,rfl,yes ⟨_,rfl,ixT h (by decide) rfl q⟩⟩)⟩
  | test a to=>
    obtain ⟨p,rfl,h⟩:=hr
    refine ⟨_,rfl,ixT h (by decide) rfl (.inl ⟨rfl,_,rfl,no (by decide +kernel) ?_⟩)⟩
    exact ⟨_,rfl,ixT h (by decide) rfl (.inl ⟨rfl,_,rfl,yes ⟨_,rfl,ixT h (by decide) rfl q⟩⟩)⟩
  | give a=>
    obtain ⟨p,rfl,h⟩:=hr
    refine ⟨_,rfl,ixT h (by decide) rfl (.inl ⟨rfl,_,rfl,no (by decide +kernel) ?_⟩)⟩
    exact ⟨_,rfl,ixT h (by decide) rfl (.inl ⟨rfl,_,rfl,no (by decide +kernel) q⟩)⟩
theorem r_p_leads {K:Fg} {vs:List V} {H:Hp} {Q:VK} {E:XK} (h:sp_p_leads K vs H Q E):t_p_leads K { nx:=fun _ H'=>Q .non H',rt:=Q } (start N_p_leads vs) H:=by
  obtain ⟨rt,n,rvs,v,r,rfl,hrt,hv,hr,q⟩:=h
  have hn:rvs[((n:Nat):Int).toNat]?=some v:=by simpa using hv
  have n0:(0:Int)≤((n:Nat):Int):=by lia
  have e1:(((n + 1:Nat):Nat):Int)=(n:Int) + 1:=by lia
  cases r with
  | num x z=>
    have hr0:=hr
    obtain ⟨p,rfl,h⟩:=hr
    refine ⟨_,rfl,_,rfl,ixT hrt n0 hn (ixT h (by decide) rfl ?_)⟩
    refine ⟨_,rfl,.inl ⟨rfl,_,rfl,no (by decide +kernel) ?_⟩⟩
    refine ⟨_,rfl,.inl ⟨rfl,_,rfl,no (by decide +kernel) ?_⟩⟩
    refine ⟨_,rfl,.inl ⟨rfl,_,rfl,no (by decide +kernel) ?_⟩⟩
    exact ⟨_,rfl,.inl ⟨_,_,rfl,rfl,⟨(by show 1≤sizeLine;decide),fun t ht=>q t _ (by rw [upd_same];first | rfl | (unfold intsV leadsL;simp only [List.map_cons,List.map_nil,e1])) ((Same.refl H).new ht)⟩⟩⟩
  | op x s a b=>
    have hr0:=hr
    obtain ⟨p,rfl,h⟩:=hr
    refine ⟨_,rfl,_,rfl,ixT hrt n0 hn (ixT h (by decide) rfl ?_)⟩
    refine ⟨_,rfl,.inl ⟨rfl,_,rfl,no (by decide +kernel) ?_⟩⟩
    refine ⟨_,rfl,.inl ⟨rfl,_,rfl,no (by decide +kernel) ?_⟩⟩
    refine ⟨_,rfl,.inl ⟨rfl,_,rfl,no (by decide +kernel) ?_⟩⟩
    exact ⟨_,rfl,.inl ⟨_,_,rfl,rfl,⟨(by show 1≤sizeLine;decide),fun t ht=>q t _ (by rw [upd_same];first | rfl | (unfold intsV leadsL;simp only [List.map_cons,List.map_nil,e1])) ((Same.refl H).new ht)⟩⟩⟩
  | call x k as=>
    have hr0:=hr
    obtain ⟨p,q1,rfl,h,h1⟩:=hr
    refine ⟨_,rfl,_,rfl,ixT hrt n0 hn (ixT h (by decide) rfl ?_)⟩
    refine ⟨_,rfl,.inl ⟨rfl,_,rfl,no (by decide +kernel) ?_⟩⟩
    refine ⟨_,rfl,.inl ⟨rfl,_,rfl,no (by decide +kernel) ?_⟩⟩
    refine ⟨_,rfl,.inl ⟨rfl,_,rfl,no (by decide +kernel) ?_⟩⟩
    exact ⟨_,rfl,.inl ⟨_,_,rfl,rfl,⟨(by show 1≤sizeLine;decide),fun t ht=>q t _ (by rw [upd_same];first | rfl | (unfold intsV leadsL;simp only [List.map_cons,List.map_nil,e1])) ((Same.refl H).new ht)⟩⟩⟩
  | say a=>
    have hr0:=hr
    obtain ⟨p,rfl,h⟩:=hr
    refine ⟨_,rfl,_,rfl,ixT hrt n0 hn (ixT h (by decide) rfl ?_)⟩
    refine ⟨_,rfl,.inl ⟨rfl,_,rfl,no (by decide +kernel) ?_⟩⟩
    refine ⟨_,rfl,.inl ⟨rfl,_,rfl,no (by decide +kernel) ?_⟩⟩
    refine ⟨_,rfl,.inl ⟨rfl,_,rfl,no (by decide +kernel) ?_⟩⟩
    exact ⟨_,rfl,.inl ⟨_,_,rfl,rfl,⟨(by show 1≤sizeLine;decide),fun t ht=>q t _ (by rw [upd_same];first | rfl | (unfold intsV leadsL;simp only [List.map_cons,List.map_nil,e1])) ((Same.refl H).new ht)⟩⟩⟩
  | jump to=>
    have hr0:=hr
    obtain ⟨p,rfl,h⟩:=hr
    refine ⟨_,rfl,_,rfl,ixT hrt n0 hn (ixT h (by decide) rfl ?_)⟩
    refine ⟨_,rfl,.inl ⟨rfl,_,rfl,no (by decide +kernel) ?_⟩⟩
    refine ⟨_,rfl,.inl ⟨rfl,_,rfl,yes ?_⟩⟩
    exact ⟨_,rfl,_,rfl,ixT hrt n0 hn ⟨_,_,rfl,hr0,⟨(by show 1≤sizeLine;decide),fun t ht=>q t _ (by rw [upd_same];first | rfl | (unfold intsV leadsL;simp only [List.map_cons,List.map_nil,e1])) ((Same.refl H).new ht)⟩⟩⟩
  | test a to=>
    have hr0:=hr
    obtain ⟨p,rfl,h⟩:=hr
    refine ⟨_,rfl,_,rfl,ixT hrt n0 hn (ixT h (by decide) rfl ?_)⟩
    refine ⟨_,rfl,.inl ⟨rfl,_,rfl,no (by decide +kernel) ?_⟩⟩
    refine ⟨_,rfl,.inl ⟨rfl,_,rfl,no (by decide +kernel) ?_⟩⟩
    refine ⟨_,rfl,.inl ⟨rfl,_,rfl,yes ?_⟩⟩
    exact ⟨_,rfl,.inl ⟨_,_,rfl,rfl,⟨_,rfl,_,rfl,ixT hrt n0 hn ⟨_,_,rfl,hr0,⟨(by show 2≤sizeLine;decide),fun t ht=>q t _ (by rw [upd_same];first | rfl | (unfold intsV leadsL;simp only [List.map_cons,List.map_nil,e1])) ((Same.refl H).new ht)⟩⟩⟩⟩⟩
  | give a=>
    have hr0:=hr
    obtain ⟨p,rfl,h⟩:=hr
    refine ⟨_,rfl,_,rfl,ixT hrt n0 hn (ixT h (by decide) rfl ?_)⟩
    refine ⟨_,rfl,.inl ⟨rfl,_,rfl,yes ?_⟩⟩
    exact ⟨(by show 0≤sizeLine;decide),fun t ht=>q t _ (by rw [upd_same];first | rfl | (unfold intsV leadsL;simp only [List.map_cons,List.map_nil,e1])) ((Same.refl H).new ht)⟩
theorem flat_rep (c:Nat):(List.replicate c [V.str ""]).flatten=(List.replicate c ("":Str)).map V.str:=by
  induction c with
  | zero=>rfl
  | succ c ih=>rw [List.replicate_succ,List.flatten_cons,ih,List.replicate_succ,List.map_cons];rfl
theorem sign_at:∀ i:Nat,i < 5→∃ c,("+-*<=":Str).cps.toList[i]?=some c∧(⟨#[c]⟩:Str)∈signs
  | 0,_=>⟨43,by decide +kernel,by decide +kernel⟩
  | 1,_=>⟨45,by decide +kernel,by decide +kernel⟩
  | 2,_=>⟨42,by decide +kernel,by decide +kernel⟩
  | 3,_=>⟨60,by decide +kernel,by decide +kernel⟩
  | 4,_=>⟨61,by decide +kernel,by decide +kernel⟩
  | n + 5,h=>by lia
theorem r_rough_row {K:Fg} {vs:List V} {H:Hp} {Q:VK} {E:XK} (h:sp_rough_row K vs H Q E):t_rough_row K { nx:=fun _ H'=>Q .non H',rt:=Q } (start N_rough_row vs) H:=by
  obtain ⟨st,nm,cn,n,k,ys,cs,rfl,S,hk,hnm,ysne,ysl,n1,n2,hcn,csne,csl,cs4,nnm,ncn,q⟩:=h
  have yl:0 < ys.length:=List.length_pos_iff.mpr ysne
  have cl:0 < cs.length:=List.length_pos_iff.mpr csne
  refine ⟨_,rfl,_,rfl,_,rfl,_,_,rfl,.inl ⟨_,SqL.of hnm,rfl⟩,st,_,k,rfl,S,by lia,by rw [List.length_map];lia,by rw [List.length_map];lia,fun d H1 d0 d1 S1 B1=>?_⟩
  rw [List.length_map] at d1
  have dl:d.toNat < ys.length:=by lia
  refine ixL (SqL.of (B1 nm _ nnm hnm)) d0 (strs_get (List.getElem?_eq_getElem dl)) ?_
  have hx:ys[d.toNat]∈ys:=List.getElem_mem dl
  generalize ys[d.toNat]=x at hx ⊢
  refine ⟨_,rfl,st,12,k + 1,rfl,S1,by lia,by decide,by decide,fun s H2 s0 s1 S2 B2'=>?_⟩
  have B2:But st H H2:=B1.trans B2'
  have hcn2:=B2 cn _ ncn hcn
  refine ⟨_,rfl,_,_,rfl,rfl,_,rfl,if_dec (fun _=>?_) (fun hs2=>?_)⟩
  · refine ⟨_,rfl,_,rfl,st,k + 2,rfl,S2,by lia,fun z k3 H3 z0 z1 S3 l3 B3=>⟨(by show 3≤sizeLine;decide),fun p hp=>?_⟩⟩
    exact q _ (.num x z) _ _ ⟨p,rfl,upd_same⟩ ⟨hx,z0,z1⟩ (S3.new hp) (by lia) ((B2.trans B3).new hp)
  refine ⟨_,rfl,_,_,rfl,rfl,_,rfl,if_dec (fun _=>?_) (fun hs6=>?_)⟩
  · refine ⟨_,rfl,_,rfl,st,5,k + 2,rfl,S2,by lia,by decide,by decide,fun e H3 e0 e1 S3 B3=>?_⟩
    obtain ⟨c,c1,c2⟩:=sign_at e.toNat (by lia)
    refine ixS (by decide +kernel) e0 c1 ⟨(by show 5≤sizeLine;decide),fun p hp=>?_⟩
    exact q _ (.op x ⟨#[c]⟩ "" "") _ _ ⟨p,rfl,upd_same⟩ ⟨hx,c2,rfl,rfl⟩ (S3.new hp) (by lia) ((B2.trans B3).new hp)
  refine ⟨_,rfl,.inl ⟨rfl,_,rfl,if_dec (fun _=>?_) (fun _=>?_)⟩⟩
  · refine ⟨_,rfl,_,rfl,_,_,rfl,.inl ⟨_,SqL.of hcn2,rfl⟩,st,_,k + 2,rfl,S2,by lia,by rw [intsV_len];lia,by rw [intsV_len];lia,fun e H3 e0 e1 S3 B3=>?_⟩
    rw [intsV_len] at e1
    obtain ⟨j,rfl⟩:∃ j:Nat,e=(j:Int):=⟨e.toNat,by lia⟩
    have jl:j < cs.length:=by lia
    have hcn3:=B3 cn _ ncn hcn2
    have cj:cs[j]?=some cs[j]:=List.getElem?_eq_getElem jl
    have c4:cs[j]≤4:=cs4 _ (List.getElem_mem jl)
    generalize cs[j]=c at cj c4
    refine ⟨_,rfl,_,rfl,(by show 1≤sizeLine;decide),fun p1 hp1=>?_⟩
    have nc1:cn≠p1:=ne_of_none hcn3 hp1
    refine ⟨_,rfl,_,rfl,ixL (SqL.of (by rw [upd_ne nc1];exact hcn3)) (by lia) (v:=.int (c:Nat)) (by simpa using intsV_get cj) ?_⟩
    have S4:=S3.new (o:=.tup [V.str ""]) hp1
    have B4:=(B2.trans B3).new (o:=.tup [V.str ""]) hp1
    have c5:1 * c≤sizeLine:=Nat.le_trans (by lia) (show 100≤sizeLine by decide)
    refine .inr ⟨p1,c,[V.str ""],rfl,rfl,SqT.of upd_same,by simp,c5,fun h1=>⟨(by show 4≤sizeLine;decide),fun p hp=>?_⟩,fun hne p2 hp2=>⟨(by show 4≤sizeLine;decide),fun p hp=>?_⟩⟩
    · have n1p:p1≠p:=ne_of_none upd_same hp
      subst h1
      refine q _ (.call x j [""]) _ _ ⟨p,p1,rfl,upd_same,by rw [upd_ne n1p,upd_same];rfl⟩ ⟨hx,1,cj,rfl⟩ (S4.new hp) (by lia) (B4.new hp)
    · have n2p:p2≠p:=ne_of_none upd_same hp
      refine q _ (.call x j (List.replicate c "")) _ _ ⟨p,p2,rfl,upd_same,by rw [upd_ne n2p,upd_same,flat_rep]⟩ ⟨hx,c,cj,rfl⟩ ((S4.new hp2).new hp) (by lia) ((B4.new hp2).new hp)
  refine ⟨_,rfl,_,_,rfl,rfl,_,rfl,if_dec (fun _=>?_) (fun hs8=>?_)⟩
  · exact ⟨(by show 2≤sizeLine;decide),fun p hp=>q _ (.say "") _ _ ⟨p,rfl,upd_same⟩ rfl (S2.new hp) (by lia) (B2.new hp)⟩
  refine ⟨_,rfl,_,_,rfl,rfl,_,rfl,if_dec (fun _=>?_) (fun hs10=>?_)⟩
  · refine ⟨_,rfl,_,rfl,st,_,k + 2,rfl,S2,by lia,by lia,by lia,fun e H3 e0 e1 S3 B3=>⟨(by show 3≤sizeLine;decide),fun p hp=>?_⟩⟩
    obtain ⟨j,rfl⟩:∃ j:Nat,e=(j:Int):=⟨e.toNat,by lia⟩
    exact q _ (.test "" j) _ _ ⟨p,rfl,upd_same⟩ ⟨rfl,by lia⟩ (S3.new hp) (by lia) ((B2.trans B3).new hp)
  refine ⟨_,rfl,_,rfl,st,_,k + 2,rfl,S2,by lia,by lia,by lia,fun e H3 e0 e1 S3 B3=>⟨(by show 2≤sizeLine;decide),fun p hp=>?_⟩⟩
  obtain ⟨j,rfl⟩:∃ j:Nat,e=(j:Int):=⟨e.toNat,by lia⟩
  refine ⟨(by show 2≤sizeLine;decide),fun p2 hp2=>⟨(by show 2≤sizeLine;decide),fun l hl=>?_⟩⟩
  have n12:p≠p2:=ne_of_none upd_same hp2
  have n2l:p2≠l:=ne_of_none upd_same hl
  have n1l:p≠l:=ne_of_none (by rw [upd_ne n12];exact upd_same) hl
  have S4:=((S3.new (o:=.tup [V.str "jump",V.int (j:Nat)]) hp).new (o:=.tup [V.str "give",V.str ""]) hp2).new (o:=.lst [V.ref p,V.ref p2]) hl
  have B4:=(((B2.trans B3).new (o:=.tup [V.str "jump",V.int (j:Nat)]) hp).new (o:=.tup [V.str "give",V.str ""]) hp2).new (o:=.lst [V.ref p,V.ref p2]) hl
  refine ⟨_,rfl,_,_,rfl,rfl,?_⟩
  rcases (by lia:s=10∨s=11) with rfl | rfl
  · exact ixL (SqL.of upd_same) (by decide) rfl (q _ (.jump j) _ _ ⟨p,rfl,by rw [upd_ne n1l,upd_ne n12,upd_same]⟩ (by show j < n;lia) S4 (by lia) B4)
  · exact ixL (SqL.of upd_same) (by decide) rfl (q _ (.give "") _ _ ⟨p2,rfl,by rw [upd_ne n2l,upd_same]⟩ rfl S4 (by lia) B4)
theorem sn_m {K:Fg} {rl nm pr kl la l:Addr} {H H':Hp} {ys ps ls:List Str} {w:Str} {rs:List BRow} {kss0:List (List Str)} {B i mm j0:Nat} {ms:List Nat} {refs:List V} {kss:List (List Str)} {more:Bool} {o8:Option V} {rt:VK} {bk:St→Hp→Prop}
    (hkl:H kl=none) (nla:la≠kl) (nl:l≠kl) (hw:w∈ls) (hm:mm < rs.length) (hmj:ms[j0]?=some mm) (hz:Zero ps kss) (hc:more=false→kss=kss0∧PassOk rs i kss0∧∀ j',j' < j0→∀ m km,ms[j']?=some m→kss0[m]?=some km→∀ y∈km,y∈ls) (k:KJ kl H ys ps w rs.length H' refs kss) (hB:2 * sumL kss + more.toNat≤B) (hla:H' la=some (.lst (ls.map V.str))) (hl:H' l=some (.lst (intsV ms))) :
    t_set_names_4 K { nx:=SnQ rl nm pr kl H ys ps w rs B i la l ls ms kss0 (j0 + 1),rt:=rt,ct:=SnQ rl nm pr kl H ys ps w rs B i la l ls ms kss0 (j0 + 1),bk:=bk } [some (.ref rl),some (.ref nm),some (.ref pr),some (.ref kl),some (.bl more),some (.int (i:Nat)),some (.ref la),some (.int (mm:Nat)),o8] H':=by
  obtain ⟨am,km,e1,e2,nam,ham⟩:=k.get hm
  obtain ⟨k1,k2,k3⟩:=k.wit mm km e2
  have e1':refs[((mm:Nat):Int).toNat]?=some (.ref am):=by simpa using e1
  refine .inl ⟨_,rfl,_,rfl,ixL (SqL.of k.at_) (by lia) e1' ⟨am,rfl,⟨_,SqL.of ham⟩,fun D hD=>?_⟩⟩
  have nD:kl≠D:=ne_of_none k.at_ hD
  have naD:am≠D:=ne_of_none ham hD
  have nlaD:la≠D:=ne_of_none hla hD
  have nlD:l≠D:=ne_of_none hl hD
  refine comp_list (xs:=km.map V.str) (fun j σ' H2=>∃ o,σ'=[some (.ref rl),some (.ref nm),some (.ref pr),some (.ref kl),some (.bl more),some (.int (i:Nat)),some (.ref la),some (.int (mm:Nat)),o8,o]∧H2=upd H' D (.lst (((km.take j).filter fun y=>decide (y∈ls)).map V.str))) ?_ ?_ ?_ ?_
  · exact ⟨none,rfl,rfl⟩
  · rintro j σ' H2 _ ⟨o,_,rfl⟩
    exact SqL.of (by rw [upd_ne naD];exact ham)
  · rintro j x σ' H2 hx ⟨o,rfl,rfl⟩
    rw [List.getElem?_map] at hx
    obtain ⟨y,hy,rfl⟩:∃ y,km[j]?=some y∧V.str y=x:=by
      cases e:km[j]? with
      | none=>rw [e] at hx;cases hx
      | some y=>rw [e] at hx;exact ⟨y,rfl,Option.some.inj hx⟩
    have jl:j < km.length:=(List.getElem?_eq_some_iff.mp hy).1
    have fl:((km.take j).filter fun y=>decide (y∈ls)).length≤100:=Nat.le_trans (List.length_filter_le _ _) (by rw [List.length_take];lia)
    have ft:=filter_take (fun y=>decide (y∈ls)) km j y hy
    refine ⟨_,rfl,_,rfl,la,_,rfl,.inl (SqL.of (by rw [upd_ne nlaD];exact hla)),rfl,flat_strs _,_,rfl,?_⟩
    show if inV (.str y) (ls.map V.str)=true then _ else _
    rw [inV_strs]
    refine if_dec (fun hin=>?_) (fun hin=>?_)
    · refine ⟨_,rfl,_,upd_same,smallL (by rw [List.length_map];lia),_,rfl,?_⟩
      rw [upd_upd,ft,if_pos (by simpa using hin),List.map_append]
      rfl
    · refine ⟨_,rfl,?_⟩
      rw [ft,if_neg (by simpa using hin),List.append_nil]
  · rintro σ' H2 ⟨o,_,rfl⟩
    have et:km.take (km.map V.str).length=km:=List.take_of_length_le (by rw [List.length_map];exact Nat.le_refl _)
    rw [et]
    have fl:(km.filter fun y=>decide (y∈ls)).length≤km.length:=List.length_filter_le _ _
    have fm:∀ y∈km.filter (fun y=>decide (y∈ls)),y∈ys:=fun y hy=>k2 y (List.mem_filter.mp hy).1
    have fw:w∈km.filter (fun y=>decide (y∈ls))∨(mm=0∧ps=[]):=k3.imp (fun z=>List.mem_filter.mpr ⟨z,by simpa using hw⟩) id
    have fs:∀ y∈km.filter (fun y=>decide (y∈ls)),y∈km:=fun y hy=>(List.mem_filter.mp hy).1
    have fe:¬ (km.filter (fun y=>decide (y∈ls))).length < km.length→∀ y∈km,y∈ls:=fun hn y hy=>by
      have:=List.length_filter_eq_length_iff.mp (Nat.le_antisymm (List.length_filter_le (fun y=>decide (y∈ls)) km) (Nat.not_lt.mp hn)) y hy
      simpa using this
    generalize km.filter (fun y=>decide (y∈ls))=kp at fl fm fw fs fe
    have k':=k.grown ((Same.refl H').new (o:=.lst (kp.map V.str)) hD)
    have hla':(upd H' D (.lst (kp.map V.str))) la=some (.lst (ls.map V.str)):=by rw [upd_ne nlaD];exact hla
    have hl':(upd H' D (.lst (kp.map V.str))) l=some (.lst (intsV ms)):=by rw [upd_ne nlD];exact hl
    have ham':(upd H' D (.lst (kp.map V.str))) am=some (.lst (km.map V.str)):=by rw [upd_ne naD];exact ham
    have hD':(upd H' D (.lst (kp.map V.str))) D=some (.lst (kp.map V.str)):=upd_same
    generalize upd H' D (.lst (kp.map V.str))=H3 at k' hla' hl' ham' hD'
    show t_set_names_3 K _ [some (.ref rl),some (.ref nm),some (.ref pr),some (.ref kl),some (.bl more),some (.int (i:Nat)),some (.ref la),some (.int (mm:Nat)),some (.ref D)] H3
    refine ⟨_,rfl,_,_,rfl,.inl ⟨_,SqL.of hD',rfl⟩,_,rfl,_,rfl,ixL (SqL.of k'.at_) (by lia) e1' ⟨_,_,rfl,.inl ⟨_,SqL.of ham',rfl⟩,_,_,rfl,rfl,_,rfl,if_dec (fun hlt=>?_) (fun hlt=>?_)⟩⟩
    · rw [List.length_map,List.length_map] at hlt
      refine ⟨_,rfl,_,rfl,_,rfl,setL k'.at_ (by lia) (by rw [k'.vlen];simpa using hm) ?_⟩
      have ei:((mm:Nat):Int).toNat=mm:=by simp
      rw [ei]
      have ss:=sumL_set (kp:=kp) e2
      refine ⟨_,kss.set mm kp,true,_,_,rfl,k'.set hkl (Ne.symm nD) hD' ⟨by lia,fm,fw⟩,?_,by rw [upd_ne nla];exact hla',by rw [upd_ne nl];exact hl',hz.set e2 fs,fun z=>by cases z⟩
      have:(true:Bool).toNat=1:=rfl
      lia
    · rw [List.length_map,List.length_map] at hlt
      refine ⟨refs,kss,more,_,_,rfl,k',hB,hla',hl',hz,fun hmo=>?_⟩
      obtain ⟨c1,c2,c3⟩:=hc hmo
      refine ⟨c1,c2,fun j' hj' m km' hm' hk'=>?_⟩
      by_cases cj:j' < j0
      · exact c3 j' cj m km' hm' hk'
      · have:j'=j0:=by lia
        subst this
        rw [hmj] at hm';cases hm'
        rw [← c1,e2] at hk';cases hk'
        exact fe (by lia)
theorem intsV_of {ms:List Nat} {j:Nat} {x:V} (h:(intsV ms)[j]?=some x):∃ m,ms[j]?=some m∧x=.int (m:Nat):=by
  unfold intsV at h
  rw [List.getElem?_map] at h
  cases e:ms[j]? with
  | none=>rw [e] at h;cases h
  | some m=>rw [e] at h;exact ⟨m,rfl,(Option.some.inj h).symm⟩
theorem sn_i {K:Fg} {rl nm pr kl:Addr} {H H':Hp} {ys ps:List Str} {cs:List Nat} {w:Str} {B i:Nat} {rvs:List V} {rs:List BRow} {refs:List V} {kss:List (List Str)} {more:Bool} {o6 o7 o8:Option V} {rt:VK} {bk:St→Hp→Prop}
    (hkl:H kl=none) (hrl:H rl=some (.lst rvs)) (hA:AllAt (RowAt H) rvs rs) (hOk:RowsOk ys cs rs) (hE:rs.getLast?.map isEnd=some true) (hw0:ps=[]→∃ z,rs[0]?=some (.num w z)) (hi:i < rs.length) (k:KJ kl H ys ps w rs.length H' refs kss) (hB:2 * sumL kss + more.toNat≤B) (hz:Zero ps kss) (hP:more=false→PassOk rs i kss) :
    t_set_names_7 K { nx:=SnP rl nm pr kl H ys ps w rs B (i + 1),rt:=rt,ct:=SnP rl nm pr kl H ys ps w rs B (i + 1),bk:=bk } [some (.ref rl),some (.ref nm),some (.ref pr),some (.ref kl),some (.bl more),some (.int (i:Nat)),o6,o7,o8] H':=by
  obtain ⟨a,ks,e1,e2,na,ha⟩:=k.get hi
  obtain ⟨k1,k2,k3⟩:=k.wit i ks e2
  obtain ⟨v,r,f1,f2,hra⟩:=hA.get (i:=i) hi
  obtain ⟨p,xs,rfl,hp⟩:=hra.ref
  have e1':refs[((i:Nat):Int).toNat]?=some (.ref a):=by simpa using e1
  have f1':rvs[((i:Nat):Int).toNat]?=some (.ref p):=by simpa using f1
  have nkl:rl≠kl:=ne_of_none hrl hkl
  have ways:∀ (la:Addr) (ls:List Str) (H2:Hp),la≠kl→w∈ls→(∀ y∈ls,y∈ks∨setsOf r=.str y)→KJ kl H ys ps w rs.length H2 refs kss→H2 la=some (.lst (ls.map V.str))→
      t_set_names_5 K { nx:=SnP rl nm pr kl H ys ps w rs B (i + 1),rt:=rt,ct:=SnP rl nm pr kl H ys ps w rs B (i + 1),bk:=bk } [some (.ref rl),some (.ref nm),some (.ref pr),some (.ref kl),some (.bl more),some (.int (i:Nat)),some (.ref la),o7,o8] H2:=fun la ls H2 nla hwl hls k2 hla=>by
    refine .inl ⟨_,rfl,_,rfl,rl,i,rvs,.ref p,r,rfl,.inl (k2.same _ _ hrl),f1,hra.mono (.of_same k2.same),fun l hl=>?_⟩
    have nl:l≠kl:=fun z=>by rw [z,k2.at_] at hl;cases hl
    have nlal:la≠l:=ne_of_none hla hl
    refine ⟨l,rfl,⟨_,SqL.of upd_same⟩,for_list (xs:=intsV (leadsL i r)) (fun j=>SnQ rl nm pr kl H ys ps w rs B i la l ls (leadsL i r) kss j) ?_ ?_ ?_ ?_⟩
    · exact ⟨refs,kss,more,_,_,rfl,k2.grown ((Same.refl H2).new hl),hB,by rw [upd_ne nlal];exact hla,upd_same,hz,fun hmo=>⟨rfl,hP hmo,fun j' hj'=>absurd hj' (Nat.not_lt_zero _)⟩⟩
    · rintro j σ' H3 _ ⟨_,_,_,_,_,_,_,_,_,h3,_,_⟩
      exact SqL.of h3
    · rintro j x σ' H3 hx ⟨refs3,kss3,more3,o73,o83,rfl,k3',hB3,hla3,hl3,hz3,hc3⟩
      obtain ⟨mm,hmm,rfl⟩:=intsV_of hx
      exact sn_m hkl nla nl hwl (leads_lt f2 (hOk.rough r (List.mem_of_getElem? f2)) hE hmm) hmm hz3 hc3 k3' hB3 hla3 hl3
    · rintro σ' H3 ⟨refs3,kss3,more3,o73,o83,rfl,k3',hB3,hla3,hl3,hz3,hc3⟩
      refine ⟨refs3,kss3,more3,_,_,_,_,rfl,k3',hB3,hz3,fun hmo=>?_⟩
      obtain ⟨c1,c2,c3⟩:=hc3 hmo
      subst c1
      intro n m r' ks' km hn hr' hm' hks' hkm y hy
      by_cases cn:n < i
      · exact c2 n m r' ks' km cn hr' hm' hks' hkm y hy
      · have:n=i:=by lia
        subst this
        rw [f2] at hr';cases hr'
        rw [e2] at hks';cases hks'
        obtain ⟨j',hj',hmj⟩:=List.mem_iff_getElem.mp hm'
        have hmj':(leadsL n r)[j']?=some m:=by rw [List.getElem?_eq_getElem hj',hmj]
        exact hls y (c3 j' (by rw [intsV_len];exact hj') m km hmj' hkm y hy)
  refine ⟨_,rfl,_,rfl,ixL (SqL.of k.at_) (by lia) e1' ?_⟩
  show t_set_names_6 K _ [some (.ref rl),some (.ref nm),some (.ref pr),some (.ref kl),some (.bl more),some (.int (i:Nat)),some (.ref a),o7,o8] H'
  refine ⟨_,rfl,_,rfl,ixL (SqL.of (k.same _ _ hrl)) (by lia) f1' (ixT (k.same _ _ hp) (by decide) rfl ⟨(by show 3≤sizeLine;decide),fun t ht=>⟨t,_,rfl,.inr (SqT.of upd_same),rfl,rfl,_,rfl,?_⟩⟩)⟩
  have sm:=(Same.refl H').new (o:=.tup [V.str "num",V.str "op",V.str "call"]) ht
  have kt:=k.grown sm
  have hat:=sm _ _ ha
  generalize upd H' t (.tup [V.str "num",V.str "op",V.str "call"])=H1 at sm kt hat ⊢
  refine if_bl (fun hb=>?_) (fun hb=>?_)
  · have hb':inV (.str (word r)) [V.str "num",V.str "op",V.str "call"]=true:=hb
    obtain ⟨x,hx⟩:=in_sets hb'
    obtain ⟨xs',hp'⟩:=sets_at hra hx
    refine ⟨_,rfl,_,rfl,_,rfl,ixL (SqL.of (kt.same _ _ hrl)) (by lia) f1' (ixT (kt.same _ _ hp') (by decide) rfl ⟨(by show 1≤sizeLine;decide),fun p1 hp1=>?_⟩)⟩
    have na1:a≠p1:=ne_of_none hat hp1
    refine .inr (.inr (.inl ⟨a,p1,_,_,rfl,rfl,by rw [upd_ne na1];exact hat,upd_same,?_,fun p2 hp2=>?_⟩))
    · have:=smallL (n:=101) (by decide)
      rw [List.length_map]
      show ks.length + 1≤sizeLine
      lia
    have k5:=(kt.grown ((Same.refl H1).new (o:=.lst [V.str x]) hp1)).grown ((Same.refl _).new (o:=.lst (ks.map V.str++[V.str x])) hp2)
    have np2:p2≠kl:=fun z=>by
      have:=(kt.grown ((Same.refl H1).new (o:=.lst [V.str x]) hp1)).at_
      rw [z,this] at hp2;cases hp2
    refine ways p2 (ks++[x]) _ np2 ?_ (fun y hy=>(List.mem_append.mp hy).imp id fun z=>by rw [List.mem_singleton.mp z];exact hx) k5 (by rw [upd_same,List.map_append];rfl)
    rcases k3 with z | ⟨z1,z2⟩
    · exact List.mem_append_left _ z
    · obtain ⟨zz,hz⟩:=hw0 z2
      subst z1
      rw [f2] at hz;cases hz;cases hx
      exact List.mem_append_right _ (List.mem_singleton.mpr rfl)
  · refine ways a ks _ na ?_ (fun y hy=>.inl hy) kt hat
    rcases k3 with z | ⟨z1,z2⟩
    · exact z
    · obtain ⟨zz,hz⟩:=hw0 z2
      subst z1
      rw [f2] at hz;cases hz
      exact absurd (show inV (.str "num") [V.str "num",V.str "op",V.str "call"]=false from hb) (by decide +kernel)
theorem repl_snoc {α:Type} (n:Nat) (a:α):List.replicate (n + 1) a=List.replicate n a++[a]:=by
  exact List.replicate_succ'
theorem r_set_names {K:Fg} {vs:List V} {H:Hp} {Q:VK} {E:XK} (h:sp_set_names K vs H Q E):t_set_names K { nx:=fun _ H'=>Q .non H',rt:=Q } (start N_set_names vs) H:=by
  obtain ⟨rl,nm,pr,rvs,rs,ys,ps,cs,rfl,hrl,hA,hOk,hE,hnm,ysl,hpr,psl,pin,hnum,q⟩:=h
  have n1:1≤rs.length:=List.length_pos_iff.mpr hOk.pos
  obtain ⟨w,wy,wp,w0⟩:∃ w:Str,w∈ys∧(ps≠[]→w∈ps)∧(ps=[]→∃ z,rs[0]?=some (.num w z)):=by
    cases ps with
    | cons p r=>exact ⟨p,pin p List.mem_cons_self,fun _=>List.mem_cons_self,fun z=>by cases z⟩
    | nil=>
      have h0:=hnum rfl
      rw [List.head?_eq_getElem?] at h0
      cases e:rs[0]? with
      | none=>rw [e] at h0;cases h0
      | some r=>
        rw [e,Option.map_some] at h0
        cases r with
        | num x z=>exact ⟨x,(hOk.rough _ (List.mem_of_getElem? e)).1,fun z=>absurd rfl z,fun _=>⟨z,rfl⟩⟩
        | _=>cases h0
  refine .inl ⟨_,rfl,rl,rfl,⟨_,SqL.of hrl⟩,fun kl hkl=>?_⟩
  have nrl:rl≠kl:=ne_of_none hrl hkl
  have nnm:nm≠kl:=ne_of_none hnm hkl
  have npr:pr≠kl:=ne_of_none hpr hkl
  refine comp_list (xs:=rvs) (fun j σ' H'=>∃ (refs:List V) (o:Option V),σ'=[some (.ref rl),some (.ref nm),some (.ref pr),none,none,none,none,none,none,o]∧H' kl=some (.lst refs)∧AllAt (TxA kl H') refs (List.replicate j ys)∧Same H H') ?_ ?_ ?_ ?_
  · exact ⟨[],none,rfl,upd_same,.nil,(Same.refl H).new hkl⟩
  · rintro j σ' H' _ ⟨_,_,_,_,_,s⟩
    exact SqL.of (s _ _ hrl)
  · rintro j x σ' H' hx ⟨refs,o,rfl,hk,ha,s⟩
    refine app_yes ?_
    have jl:j < rvs.length:=(List.getElem?_eq_some_iff.mp hx).1
    have rl100:rvs.length≤100:=by rw [hA.len];exact hOk.few
    have rlen:refs.length=j:=by rw [ha.len,List.length_replicate]
    refine ⟨_,rfl,nm,_,rfl,.inl (SqL.of (s _ _ hnm)),fun a ha0=>?_⟩
    have nak:kl≠a:=ne_of_none hk ha0
    refine ⟨refs,by rw [upd_ne nak];exact hk,smallL (by lia),refs++[.ref a],_,rfl,upd_same,?_,fun b o h=>?_⟩
    · rw [repl_snoc]
      refine AllAt.snoc (ha.imp fun _ _ z=>(z.same ((Same.refl H').new ha0)).upd) ⟨a,rfl,Ne.symm nak,?_⟩
      rw [upd_ne (Ne.symm nak),upd_same]
    · have h1:=s b o h
      rw [upd_ne (ne_of_none h hkl),upd_ne (ne_of_none h1 ha0)];exact h1
  · rintro σ' H1 ⟨refs,o,_,hk,ha,s⟩
    rw [hA.len] at ha
    have rlen:refs.length=rs.length:=by rw [ha.len,List.length_replicate]
    show t_set_names_12 K _ [some (.ref rl),some (.ref nm),some (.ref pr),some (.ref kl),none,none,none,none,none] H1
    refine ⟨_,rfl,pr,_,rfl,.inl (SqL.of (s _ _ hpr)),fun a ha0=>?_⟩
    have nak:kl≠a:=ne_of_none hk ha0
    have K0:KJ kl H ys [] w rs.length H1 refs (List.replicate rs.length ys):=⟨hk,ha,by rw [List.length_replicate],fun i ks e=>by
      have hm:=List.mem_of_getElem? e
      rw [List.mem_replicate] at hm
      rw [hm.2];exact ⟨ysl,fun y hy=>hy,.inl wy⟩,s⟩
    have K1:=K0.grown ((Same.refl H1).new (o:=.lst (ps.map V.str)) ha0)
    refine ⟨_,rfl,setL K1.at_ (by decide) (by rw [rlen];exact n1) ?_⟩
    have K2:KJ kl H ys ps w rs.length (upd (upd H1 a (.lst (ps.map V.str))) kl (.lst (refs.set 0 (.ref a)))) (refs.set 0 (.ref a)) ((List.replicate rs.length ys).set 0 ps):=by
      have z:=K1.set (m:=0) (kp:=ps) (a:=a) hkl (Ne.symm nak) upd_same ⟨psl,pin,.inr ⟨rfl,rfl⟩⟩
      refine ⟨z.at_,z.all,z.len,fun i ks e=>?_,z.same⟩
      by_cases c:0=i
      · subst c
        rw [List.getElem?_set_self (by rw [List.length_replicate];exact n1)] at e;cases e
        refine ⟨psl,pin,?_⟩
        by_cases e:ps=[]
        · exact .inr ⟨rfl,e⟩
        · exact .inl (wp e)
      · obtain ⟨z1,z2,z3⟩:=z.wit i ks e
        refine ⟨z1,z2,?_⟩
        rcases z3 with z3 | z3
        · exact .inl z3
        · exact absurd z3.1.symm c
    show t_set_names_11 K _ [some (.ref rl),some (.ref nm),some (.ref pr),some (.ref kl),none,none,none,none,none] (upd (upd H1 a (.lst (ps.map V.str))) kl (.lst (refs.set 0 (.ref a))))
    generalize upd (upd H1 a (.lst (ps.map V.str))) kl (.lst (refs.set 0 (.ref a)))=H2 at K2 ⊢
    generalize refs.set 0 (.ref a)=refs2 at K2
    have Z2:Zero ps ((List.replicate rs.length ys).set 0 ps):=fun ks e y hy=>by
      rw [List.getElem?_set_self (by rw [List.length_replicate];exact n1)] at e;cases e;exact hy
    generalize (List.replicate rs.length ys).set 0 ps=kss2 at K2 Z2
    show t_set_names_10 K _ [some (.ref rl),some (.ref nm),some (.ref pr),some (.ref kl),some (.bl true),none,none,none,none] H2
    refine ⟨fun m σ' H'=>∃ (refs:List V) (kss:List (List Str)) (more:Bool) (o5 o6 o7 o8:Option V),σ'=[some (.ref rl),some (.ref nm),some (.ref pr),some (.ref kl),some (.bl more),o5,o6,o7,o8]∧KJ kl H ys ps w rs.length H' refs kss∧Zero ps kss∧(more=false→PassOk rs rs.length kss)∧2 * sumL kss + more.toNat=m,⟨_,refs2,kss2,true,_,_,_,_,rfl,K2,Z2,(fun z=>by cases z),rfl⟩,?_⟩
    rintro m σ' H' ⟨refs3,kss3,more,o5,o6,o7,o8,rfl,K3,Z3,P3,hm⟩
    refine ⟨_,rfl,more,rfl,if_bl (fun hmore=>?_) (fun hmore=>?_)⟩
    · subst hmore
      refine ⟨SnP rl nm pr kl H ys ps w rs (2 * sumL kss3) rs.length,?_,?_⟩
      · rintro σ4 H4 ⟨refs4,kss4,more4,p5,p6,p7,p8,rfl,K4,hB,Z4,P4⟩
        refine ⟨_,?_,refs4,kss4,more4,_,_,_,_,rfl,K4,Z4,P4,rfl⟩
        have:(true:Bool).toNat=1:=rfl
        lia
      · -- more=False;for n in range(len(rows))
        show t_set_names_8 K _ [some (.ref rl),some (.ref nm),some (.ref pr),some (.ref kl),some (.bl false),o5,o6,o7,o8] H'
        have hlr:=K3.same _ _ hrl
        refine ⟨_,rfl,_,_,rfl,.inl ⟨_,SqL.of hlr,rfl⟩,_,rfl,by lia,by rw [hA.len];have:=hOk.few;lia,for_range (fun i=>SnP rl nm pr kl H ys ps w rs (2 * sumL kss3) i) ⟨refs3,kss3,false,_,_,_,_,rfl,K3,by simp,Z3,fun _ n _ _ _ _ hn=>absurd hn (Nat.not_lt_zero _)⟩ ?_ ?_⟩
        · rintro i σ5 H5 hi ⟨refs5,kss5,more5,p5,p6,p7,p8,rfl,K5,hB,Z5,P5⟩
          have hi:i < rs.length:=by rw [hA.len] at hi;simpa using hi
          have e0:(0:Int) + (i:Int)=((i:Nat):Int):=by lia
          show t_set_names_7 K _ [some (.ref rl),some (.ref nm),some (.ref pr),some (.ref kl),some (.bl more5),some (.int ((0:Int) + (i:Int))),p6,p7,p8] H5
          rw [e0]
          exact sn_i hkl hrl hA hOk hE w0 hi K5 hB Z5 P5
        · rintro σ5 H5 h5
          rw [hA.len,Int.toNat_natCast] at h5
          exact h5
    · refine ⟨_,rfl,q kl refs3 kss3 H' hkl K3.at_ (K3.all.imp fun _ _ ⟨a,e,_,h⟩=>⟨a,e,h⟩) K3.len (fun i ks e=>?_) ⟨Z3,fun n m r ks km hr hm hks hkm=>P3 hmore n m r ks km (List.getElem?_eq_some_iff.mp hr).1 hr hm hks hkm⟩ K3.same⟩
      obtain ⟨z1,z2,z3⟩:=K3.wit i ks e
      refine ⟨z1,z2,z3.imp (fun z e=>?_) id⟩
      rw [e] at z;cases z
def PrP (st nm cn fd wl:Addr) (m:Nat) (f:Int) (ws ys:List Str) (cs:List Nat) (H:Hp) (K:Fg) (k i:Nat):St→Hp→Prop:=fun σ' H'=>∃ (pvs:List V) (bs:List BPart) (k':Nat) (o7 o8 o9 o10:Option V),σ'=[some (.ref st),some (.int (m:Nat)),some (.int f),some (.ref wl),some (.ref nm),some (.ref cn),some (.ref fd),o7,o8,o9,o10]∧
  H' fd=some (.lst pvs)∧AllAt (PartAt H') pvs bs∧bs.length=i∧(∀ b∈bs,PartOk ys cs b∧b.rows.length≤m + 1)∧bs.map (·.name)=ws.take i∧bs.map (·.params.length)=cs.take i∧Stt K H' st k'∧k'≤k + 1001 * i∧Bt2 st fd H H'
theorem r_program {K:Fg} {vs:List V} {H:Hp} {Q:VK} {E:XK} (h:sp_program K vs H Q E):t_program K { nx:=fun _ H'=>Q .non H',rt:=Q } (start N_program vs) H:=by
  obtain ⟨st,m,k,rfl,S,hk,m1,m50,q⟩:=h
  obtain ⟨scr,ns,c,hst,hscr,hns⟩:=id S
  refine ⟨_,rfl,ixL (SqL.of hst) (by decide) rfl ⟨_,rfl,.inl ⟨scr,_,rfl,hscr.sq,fun p hp=>?_⟩⟩⟩
  rw [show ((1:Int))=((1:Nat):Int) from rfl,cut_take,← List.map_take]
  refine ⟨p,ns.take 1,rfl,SqL.of upd_same,fun z=>⟨_,_,rfl,rfl,⟨by decide,by decide⟩,_,_,rfl,rfl,(by show (0:Int) < 16;decide),.inl ⟨rfl,.inr ⟨_,rfl,?_⟩⟩⟩⟩
  have S1:=S.new (o:=.lst ((ns.take 1).map V.int)) hp
  have B1:=(But.refl st H).new (o:=.lst ((ns.take 1).map V.int)) hp
  generalize upd H p (.lst ((ns.take 1).map V.int))=H1 at S1 B1 ⊢
  obtain ⟨f,hf,f01⟩:∃ f:Int,(if decide (V.int (z / 4 % 16)=V.int 5)=true then (1:Int) else 0)=f∧(f=0∨f=1):=by
    cases decide (V.int (z / 4 % 16)=V.int 5) with
    | true=>exact ⟨1,rfl,.inr rfl⟩
    | false=>exact ⟨0,rfl,.inl rfl⟩
  rw [hf]
  show t_program_9 K _ [some (.ref st),some (.int (m:Nat)),some (.int f),none,none,none,none,none,none,none,none] H1
  refine ⟨_,rfl,st,5,k,rfl,S1,by lia,by decide,fun l ws k1 H2 hl wl wnd wok h2 S2 l2 B2=>?_⟩
  have nl:l≠st:=fun z=>by obtain ⟨_,e⟩:=S1.lst;rw [z,e] at hl;cases hl
  refine ⟨_,rfl,st,3,k1,rfl,S2,by lia,by decide,by decide,fun d H3 d0 d1 S3 B3=>.inl ⟨_,_,rfl,rfl,(by show 2≤sizeLine;decide),fun l4 hl4=>?_⟩⟩
  have h3:=B3 l _ nl h2
  have S4:=S3.new (o:=.lst [V.int (1 + d),V.int 5]) hl4
  have B4:=(((B1.trans B2).trans B3).new (o:=.lst [V.int (1 + d),V.int 5]) hl4)
  have h4:(upd H3 l4 (.lst [V.int (1 + d),V.int 5])) l=some (.lst (ws.map V.str)):=by rw [upd_ne (ne_of_none h3 hl4)];exact h3
  have g4:(upd H3 l4 (.lst [V.int (1 + d),V.int 5])) l4=some (.lst [V.int (1 + d),V.int 5]):=upd_same
  have words:∀ c5:Nat,1≤c5→c5≤5→rSl K (V.ref l) none (some (c5:Int)) (upd H3 l4 (.lst [V.int (1 + d),V.int 5])) fun x H1=>t_program_8 K { nx:=fun _ H'=>Q .non H',rt:=Q } [some (.ref st),some (.int (m:Nat)),some (.int f),some x,none,none,none,none,none,none,none] H1:=fun c5 c1 c2=>by
    generalize upd H3 l4 (.lst [V.int (1 + d),V.int 5])=H4 at S4 B4 h4
    refine .inl ⟨l,_,rfl,SqL.of h4,fun wp hwp=>?_⟩
    rw [cut_take,← List.map_take]
    have wlen:(ws.take c5).length=c5:=by rw [List.length_take];lia
    have S5:=S4.new (o:=.lst ((ws.take c5).map V.str)) hwp
    have B5:=B4.new (o:=.lst ((ws.take c5).map V.str)) hwp
    have h5:(upd H4 wp (.lst ((ws.take c5).map V.str))) wp=some (.lst ((ws.take c5).map V.str)):=upd_same
    have nwp:wp≠st:=fun z=>by obtain ⟨_,e⟩:=S4.lst;rw [z,e] at hwp;cases hwp
    have wwnd:(ws.take c5).Nodup:=(List.take_sublist c5 ws).nodup wnd
    have wwnm:∀ y∈ws.take c5,Nm y:=fun y hy=>wok y (List.mem_of_mem_take hy)
    generalize ws.take c5=ww at wlen S5 B5 h5 wwnd wwnm ⊢
    generalize upd H4 wp (.lst (ww.map V.str))=H5 at S5 B5 h5 ⊢
    refine ⟨_,rfl,_,rfl,st,5,k1 + 1,rfl,S5,by lia,by decide,by decide,fun e H6 e0 e1 S6 B6=>.inl ⟨_,_,rfl,rfl,?_⟩⟩
    obtain ⟨n,hn,n2,n6⟩:∃ n:Nat,(2:Int) + e=(n:Int)∧2≤n∧n≤6:=⟨(2 + e).toNat,by lia,by lia,by lia⟩
    refine ⟨st,n,k1 + 2,by show [V.ref st,V.int (2 + e)]=_;rw [hn],S6,by lia,by lia,fun nm ys k7 H7 hnm yl ynd yok h7 S7 l7 B7=>?_⟩
    have nnm:nm≠st:=fun z=>by obtain ⟨_,e⟩:=S6.lst;rw [z,e] at hnm;cases hnm
    have nwn:wp≠nm:=ne_of_none (B6 wp _ nwp h5) hnm
    have w7:=B7 wp _ nwp (B6 wp _ nwp h5)
    have BH7:=(B5.trans B6).trans B7
    have yne:∀ y∈ys,y≠"":=fun y hy=>(yok y hy).ne
    have ysne:ys≠[]:=fun z=>by rw [z] at yl;simp at yl;lia
    show t_program_7 K _ [some (.ref st),some (.int (m:Nat)),some (.int f),some (.ref wp),some (.ref nm),none,none,none,none,none,none] H7
    refine .inl ⟨_,rfl,wp,rfl,⟨_,SqL.of w7⟩,fun cn hcn=>?_⟩
    have ncn:cn≠st:=fun z=>by obtain ⟨_,e⟩:=S7.lst;rw [z,e] at hcn;cases hcn
    have nwc:wp≠cn:=ne_of_none w7 hcn
    have nnc:nm≠cn:=ne_of_none h7 hcn
    refine comp_list (xs:=ww.map V.str) (fun i σ' H'=>∃ (cs:List Nat) (k':Nat) (o:Option V),σ'=[some (.ref st),some (.int (m:Nat)),some (.int f),some (.ref wp),some (.ref nm),none,none,o,none,none,none]∧H' cn=some (.lst (intsV cs))∧cs.length=i∧(∀ x∈cs,x≤4∧x≤ys.length)∧Stt K H' st k'∧k'≤k7 + i∧But st H7 H') ?_ ?_ ?_ ?_
    · exact ⟨[],k7,none,rfl,upd_same,rfl,by simp,S7.new hcn,by lia,(But.refl st H7).new hcn⟩
    · rintro i σ' H' _ ⟨_,_,_,_,_,_,_,_,_,B⟩
      exact SqL.of (B wp _ nwp w7)
    · rintro i x σ' H' hx ⟨cs,k',o,rfl,hc,cl,c4,S',hk',B'⟩
      have il:i < ww.length:=by have:=(List.getElem?_eq_some_iff.mp hx).1;rw [List.length_map] at this;exact this
      refine app_yes ⟨_,rfl,_,rfl,_,_,rfl,.inl ⟨_,SqL.of (B' nm _ nnm h7),rfl⟩,_,_,rfl,.inl ⟨_,_,rfl,rfl,?_⟩⟩
      rw [List.length_map]
      refine ⟨st,_,k',rfl,S',by lia,?_,?_,fun g H8 g0 g1 S8 B8=>?_⟩
      · by_cases z:((ys.length:Nat):Int) < 4
        · rw [if_pos z];lia
        · rw [if_neg z];lia
      · by_cases z:((ys.length:Nat):Int) < 4
        · rw [if_pos z];lia
        · rw [if_neg z];lia
      obtain ⟨gn,rfl⟩:∃ j:Nat,g=(j:Int):=⟨g.toNat,by lia⟩
      have g4:gn≤4∧gn≤ys.length:=by
        by_cases z:((ys.length:Nat):Int) < 4
        · rw [if_pos z] at g1;lia
        · rw [if_neg z] at g1;lia
      have h8:=B8 cn _ ncn hc
      refine ⟨_,h8,smallL (by rw [intsV_len];lia),cs++[gn],k' + 1,_,rfl,?_,by simp [cl],fun x hx=>?_,S8.mono .upd_at h8 (Ne.symm ncn),by lia,?_⟩
      · rw [upd_same];unfold intsV;rw [List.map_append];rfl
      · rcases List.mem_append.mp hx with z | z
        · exact c4 x z
        · rw [List.mem_singleton.mp z];exact g4
      · exact But.past (B'.trans B8) hcn .upd_at
    · rintro σ' H8 ⟨cs,k8,o,_,hc,cl,c4,S8,hk8,B8⟩
      rw [List.length_map] at cl hk8
      have csne:cs≠[]:=fun z=>by rw [z] at cl;simp at cl;lia
      have w8:=B8 wp _ nwp w7
      have n8:=B8 nm _ nnm h7
      have BH8:=BH7.trans B8
      show t_program_6 K _ [some (.ref st),some (.int (m:Nat)),some (.int f),some (.ref wp),some (.ref nm),some (.ref cn),none,none,none,none,none] H8
      refine ⟨(by show 0≤sizeLine;decide),fun fd hfd=>?_⟩
      have nfd:fd≠st:=fun z=>by obtain ⟨_,e⟩:=S8.lst;rw [z,e] at hfd;cases hfd
      have s9:Same H8 (upd H8 fd (.lst [])):=(Same.refl H8).new hfd
      have g9:(upd H8 fd (.lst [])) fd=some (.lst []):=upd_same
      have HF:H fd=none:=BH8.free nfd hfd
      have nwf:wp≠fd:=ne_of_none w8 hfd
      have nnf:nm≠fd:=ne_of_none n8 hfd
      have ncf:cn≠fd:=ne_of_none hc hfd
      show t_program_5 K _ [some (.ref st),some (.int (m:Nat)),some (.int f),some (.ref wp),some (.ref nm),some (.ref cn),some (.ref fd),none,none,none,none] (upd H8 fd (.lst []))
      generalize upd H8 fd (.lst [])=H9 at s9 g9 ⊢
      refine ⟨_,rfl,_,rfl,wp,cn,rfl,⟨_,SqL.of (s9 _ _ w8)⟩,⟨_,SqL.of (s9 _ _ hc)⟩,for_zip (xs:=ww.map V.str) (ys:=intsV cs) (by rw [List.length_map,intsV_len,cl]) (PrP st nm cn fd wp m f ww ys cs H9 K k8) ?_ ?_ ?_ ?_⟩
      · exact ⟨[],[],k8,none,none,none,none,rfl,g9,.nil,rfl,by simp,rfl,rfl,S8.same s9,by lia,.refl _ _ _⟩
      · rintro i σ' H' _ ⟨_,_,_,_,_,_,_,_,_,_,_,_,_,_,_,_,B⟩
        exact ⟨SqL.of (B wp _ nwp nwf (s9 _ _ w8)),SqL.of (B cn _ ncn ncf (s9 _ _ hc))⟩
      · rintro i x y σ' H' tp hx hy htp ⟨pvs,bs,k',o7,o8,o9,o10,rfl,hpv,hA,bl,b100,bnm,bct,S',hk',B'⟩
        have il:i < ww.length:=by have:=(List.getElem?_eq_some_iff.mp hx).1;rw [List.length_map] at this;exact this
        obtain ⟨c,hcc,rfl⟩:=intsV_of hy
        rw [List.getElem?_map,List.getElem?_eq_getElem il] at hx
        obtain ⟨w,hw,rfl⟩:∃ w:Str,ww[i]?=some w∧x=.str w:=⟨ww[i],List.getElem?_eq_getElem il,(Option.some.inj hx).symm⟩
        have s2:Same H' (upd H' tp (.tup [.str w,.int (c:Nat)])):=(Same.refl H').new htp
        have g2:(upd H' tp (.tup [.str w,.int (c:Nat)])) tp=some (.tup [.str w,.int (c:Nat)]):=upd_same
        generalize upd H' tp (.tup [.str w,.int (c:Nat)])=H10 at s2 g2 ⊢
        refine ⟨tp,_,rfl,SqT.of g2,rfl,_,_,rfl,_,_,rfl,rfl,?_⟩
        show t_program_4 K _ [some (.ref st),some (.int (m:Nat)),some (.int f),some (.ref wp),some (.ref nm),some (.ref cn),some (.ref fd),some (.str w),some (.int (c:Nat)),o9,o10] H10
        have nm10:=s2 _ _ (B' nm _ nnm nnf (s9 _ _ n8))
        have cn10:=s2 _ _ (B' cn _ ncn ncf (s9 _ _ hc))
        have fd10:=s2 _ _ hpv
        refine ⟨_,rfl,_,rfl,_,_,rfl,.inl ⟨_,SqL.of nm10,rfl⟩,st,_,k',rfl,S'.same s2,by lia,by rw [List.length_map];lia,by rw [List.length_map];lia,fun t H11 t0 t1 S11 B11=>?_⟩
        obtain ⟨tn,rfl⟩:∃ j:Nat,t=(j:Int):=⟨t.toNat,by lia⟩
        show t_program_3 K _ [some (.ref st),some (.int (m:Nat)),some (.int f),some (.ref wp),some (.ref nm),some (.ref cn),some (.ref fd),some (.str w),some (.int (c:Nat)),some (.int (tn:Nat)),o10] H11
        have nm11:=B11 nm _ nnm nm10
        have cn11:=B11 cn _ ncn cn10
        have fd11:=B11 fd _ nfd fd10
        refine ⟨_,rfl,_,rfl,_,rfl,.inl ⟨nm,_,rfl,SqL.of nm11,fun a1 ha1=>?_⟩⟩
        rw [cut_drop,← List.map_drop]
        have nm12:(upd H11 a1 (.lst ((ys.drop tn).map V.str))) nm=some (.lst (ys.map V.str)):=by rw [upd_ne (ne_of_none nm11 ha1)];exact nm11
        refine ⟨_,rfl,_,rfl,_,rfl,.inl ⟨nm,_,rfl,SqL.of nm12,fun a2 ha2=>?_⟩⟩
        rw [cut_take,← List.map_take]
        have n12:a1≠a2:=ne_of_none upd_same ha2
        refine .inr (.inr (.inl ⟨a1,a2,_,_,rfl,rfl,by rw [upd_ne n12,upd_same],upd_same,?_,fun a3 ha3=>?_⟩))
        · have:=smallL (n:=100) (by decide)
          rw [List.length_map,List.length_map,List.length_drop,List.length_take];lia
        rw [← List.map_append]
        refine ⟨_,rfl,_,rfl,.inl ⟨a3,_,rfl,SqL.of upd_same,fun pr hpr=>?_⟩⟩
        rw [cut_take,← List.map_take]
        have pin:∀ y∈(ys.drop tn++ys.take tn).take c,y∈ys:=fun y hy=>by
          rcases List.mem_append.mp (List.mem_of_mem_take hy) with z | z
          · exact List.mem_of_mem_drop z
          · exact List.mem_of_mem_take z
        have pnd:((ys.drop tn++ys.take tn).take c).Nodup:=by
          refine (List.take_sublist c _).nodup ?_
          have z:(ys.take tn++ys.drop tn).Nodup:=by rw [List.take_append_drop];exact ynd
          exact (List.perm_append_comm.nodup_iff).mp z
        have plc:((ys.drop tn++ys.take tn).take c).length=c:=by
          have:=(c4 c (List.mem_of_getElem? hcc)).2
          rw [List.length_take,List.length_append,List.length_drop,List.length_take];lia
        have pl:((ys.drop tn++ys.take tn).take c).length≤100:=by
          rw [List.length_take,List.length_append,List.length_drop,List.length_take];lia
        have s13:Same H11 (upd (upd (upd (upd H11 a1 (.lst ((ys.drop tn).map V.str))) a2 (.lst ((ys.take tn).map V.str))) a3 (.lst ((ys.drop tn++ys.take tn).map V.str))) pr (.lst (((ys.drop tn++ys.take tn).take c).map V.str))):=((((Same.refl H11).new ha1).new ha2).new ha3).new hpr
        have g13:(upd (upd (upd (upd H11 a1 (.lst ((ys.drop tn).map V.str))) a2 (.lst ((ys.take tn).map V.str))) a3 (.lst ((ys.drop tn++ys.take tn).map V.str))) pr (.lst (((ys.drop tn++ys.take tn).take c).map V.str))) pr=some (.lst (((ys.drop tn++ys.take tn).take c).map V.str)):=upd_same
        show t_program_2 K _ [some (.ref st),some (.int (m:Nat)),some (.int f),some (.ref wp),some (.ref nm),some (.ref cn),some (.ref fd),some (.str w),some (.int (c:Nat)),some (.int (tn:Nat)),some (.ref pr)] (upd (upd (upd (upd H11 a1 (.lst ((ys.drop tn).map V.str))) a2 (.lst ((ys.take tn).map V.str))) a3 (.lst ((ys.drop tn++ys.take tn).map V.str))) pr (.lst (((ys.drop tn++ys.take tn).take c).map V.str)))
        generalize upd (upd (upd (upd H11 a1 (.lst ((ys.drop tn).map V.str))) a2 (.lst ((ys.take tn).map V.str))) a3 (.lst ((ys.drop tn++ys.take tn).map V.str))) pr (.lst (((ys.drop tn++ys.take tn).take c).map V.str))=H13 at s13 g13 ⊢
        generalize (ys.drop tn++ys.take tn).take c=ps at pin pl pnd plc g13
        have S13:=S11.same s13
        have npr:pr≠st:=fun z=>by
          have:=txts_ne S13 (v:=.ref pr) ⟨pr,rfl,g13⟩
          exact this (by rw [z])
        have fd13:=s13 _ _ fd11
        refine ⟨_,rfl,.inl ⟨rfl,_,SqL.of fd13⟩,_,rfl,_,rfl,_,rfl,_,rfl,_,rfl,_,rfl,st,nm,pr,cn,w,m,k' + 1,ys,ps,cs,rfl,S13,by lia,s13 _ _ nm11,ysne,by lia,yne,g13,pl,pnd,pin,s13 _ _ cn11,csne,by lia,fun x hx=>(c4 x hx).1,m1,m50,nnm,npr,ncn,fun v b k14 H14 hv hbn hbp bok br S14 l14 B14=>?_⟩
        have fd14:=B14 fd _ nfd fd13
        obtain ⟨_,e11⟩:=(S'.same s2).lst
        obtain ⟨_,e13⟩:=S13.lst
        have t14:Tp H' H14:=(((Tp.of_same s2).trans (.of_but B11 e11)).trans (.of_same s13)).trans (.of_but B14 e13)
        have t15:Tp H14 (upd H14 fd (.lst (pvs++[v]))):=(Tp.refl H14).lst fd14
        refine ⟨fd,_,_,rfl,rfl,fd14,smallL (by rw [hA.len];lia),?_⟩
        refine ⟨pvs++[v],bs++[b],k14,_,_,_,_,rfl,upd_same,(hA.imp fun _ _ z=>(z.mono t14).mono t15).snoc (hv.mono t15),by simp [bl],fun b' hb'=>(List.mem_append.mp hb').elim (b100 b') (fun z=>by rw [List.mem_singleton.mp z];exact ⟨bok,br⟩),by rw [List.map_append,bnm,List.take_add_one,hw,List.map_singleton,hbn];rfl,by rw [List.map_append,bct,List.take_add_one,hcc,List.map_singleton,hbp,plc];rfl,S14.mono .upd_at fd14 (Ne.symm nfd),by lia,?_⟩
        exact fun e u n1 n2 h=>by rw [upd_ne n2];exact B14 e u n1 (s13 _ _ (B11 e u n1 (s2 _ _ (B' e u n1 n2 h))))
      · rintro σ' H' ⟨pvs,bs,k',o7,o8,o9,o10,rfl,hpv,hA,bl,b100,bnm,bct,S',hk',B'⟩
        rw [List.length_map] at bl hk'
        refine ⟨_,rfl,fd,_,rfl,.inl ⟨SqL.of hpv,fun l hl=>?_⟩⟩
        rw [List.length_map,← cl] at bct
        rw [List.length_map] at bnm
        rw [List.take_length] at bnm bct
        have ok:ProgOk ys cs bs:=⟨ynd,yok,by lia,by lia,by lia,by lia,by rw [bnm];exact wwnd,fun b hb=>wwnm _ (by rw [← bnm];exact List.mem_map_of_mem hb),bct,fun x hx=>(c4 x hx).1,fun b hb=>(b100 b hb).1⟩
        refine q l pvs bs ys cs k' _ upd_same (hA.imp fun _ _ z=>z.mono ((Tp.refl H').new hl)) ok (fun b hb=>(b100 b hb).2) (S'.new hl) (by lia) (But.new ?_ hl)
        exact fun e u n1 h=>B' e u n1 (ne_of_none h HF) (s9 _ _ (BH8 e u n1 h))
  rcases f01 with rfl | rfl
  · refine ⟨_,rfl,ixL (SqL.of g4) (by decide) rfl ⟨_,rfl,?_⟩⟩
    obtain ⟨c5,h5,c1,c2⟩:∃ c5:Nat,(1:Int) + d=(c5:Int)∧1≤c5∧c5≤5:=⟨(1 + d).toNat,by lia,by lia,by lia⟩
    have z:=words c5 c1 c2
    rw [← h5] at z
    exact z
  · refine ⟨_,rfl,ixL (SqL.of g4) (by decide) rfl ⟨_,rfl,?_⟩⟩
    exact words 5 (by decide) (by decide)
theorem at_new {H H1:Hp} {a:Addr} {o:HO} (s:Same H H1) (h:H a=none):Same H (upd H1 a o):=fun b u e=>by
  rw [upd_ne (ne_of_none e h)];exact s b u e
theorem r_p_stands {K:Fg} {vs:List V} {H:Hp} {Q:VK} {E:XK} (h:sp_p_stands K vs H Q E):t_p_stands K { nx:=fun _ H'=>Q .non H',rt:=Q } (start N_p_stands vs) H:=by
  obtain ⟨rt,n,rvs,rs,rfl,hrt,hA,g,hn,q⟩:=h
  refine ⟨_,rfl,?_⟩
  show t_p_stands_3 K _ [some (.ref rt),some (.int (n:Nat)),some (.int (n:Nat))] H
  refine ⟨fun m σ' H'=>∃ k,k≤rs.length∧m=rs.length - k∧σ'=[some (.ref rt),some (.int (n:Nat)),some (.int (runJ rs k n:Nat))]∧H'=H,⟨_,0,Nat.zero_le _,rfl,rfl,rfl⟩,?_⟩
  rintro m σ' H' ⟨k,hk,rfl,rfl,rfl⟩
  have lt:=runJ_lt g k hn
  obtain ⟨v,r,e1,e2,hra⟩:=hA.get lt
  obtain ⟨p,xs,rfl,hp⟩:=hra.ref
  have e1':rvs[((runJ rs k n:Nat):Int).toNat]?=some (.ref p):=by simpa using e1
  refine ⟨_,rfl,_,rfl,ixT hrt (by lia) e1' (ixT hp (by decide) rfl (.inl ⟨rfl,_,rfl,if_dec (fun hw=>?_) (fun hw=>?_)⟩))⟩
  · obtain ⟨t',rfl⟩:=word_jump (str_inj hw)
    have kl:k < rs.length:=by
      by_cases c:k < rs.length
      · exact c
      · have:k=rs.length:=by lia
        subst this
        have:=g.ring n hn _ e2
        cases this
    refine ⟨fun σ' H''=>σ'=[some (.ref rt),some (.int (n:Nat)),some (.int (runJ rs (k + 1) n:Nat))]∧H''=H',?_,?_⟩
    · rintro σ4 H4 ⟨rfl,rfl⟩
      exact ⟨rs.length - (k + 1),by lia,k + 1,kl,rfl,rfl,rfl⟩
    · refine ⟨_,rfl,_,rfl,ixT hrt (by lia) e1' ⟨.ref p,.jump t',rfl,hra,?_⟩⟩
      have e:runJ rs (k + 1) n=t':=by rw [runJ_succ];unfold stp;rw [e2]
      rw [e]
      exact ⟨rfl,rfl⟩
  · have e:=runJ_end (rs:=rs) (k:=k) (n:=n) hk fun r' hr'=>by
      rw [e2] at hr';cases hr'
      exact not_jump fun z=>hw (by rw [z])
    rw [e] at q
    exact ⟨_,rfl,q⟩
def keyF (F:List Nat):List (Key × V):=F.map fun (n:Nat)=>(Sum.inl ((n:Nat):Int),V.bl true)
theorem valF:∀ (F:List Nat) (m:Nat),(valV (keyF F) (Sum.inl (m:Int))).isSome=decide (m∈F)
  | [],m=>rfl
  | a::r,m=>by
    unfold valV keyF
    rw [List.map_cons,List.find?_cons]
    by_cases c:m=a
    · subst c
      rw [decide_eq_true (by rfl:((Sum.inl (m:Int),V.bl true):Key × V).1=Sum.inl (m:Int))]
      rw [decide_eq_true List.mem_cons_self]
      rfl
    · have e:decide (((Sum.inl (a:Int),V.bl true):Key × V).1=Sum.inl (m:Int))=false:=decide_eq_false fun z=>c (by injection z with z;lia)
      rw [e]
      have ih:=valF r m
      unfold valV keyF at ih
      refine Eq.trans ih ?_
      rw [Bool.eq_iff_iff,decide_eq_true_eq,decide_eq_true_eq,List.mem_cons]
      exact ⟨.inr,fun z=>z.resolve_left c⟩
theorem putF {F:List Nat} {m:Nat} (h:m∉F):putK (keyF F) (Sum.inl (m:Int)) (V.bl true)=keyF (F++[m]):=by
  have e:valV (keyF F) (Sum.inl (m:Int))=none:=by
    have:=valF F m
    rw [decide_eq_false h] at this
    cases q:valV (keyF F) (Sum.inl (m:Int)) with
    | none=>rfl
    | some v=>rw [q] at this;cases this
  rw [putK_new _ e]
  unfold keyF
  rw [List.map_append]
  rfl
theorem keyF_len (F:List Nat):(keyF F).length=F.length:=by unfold keyF;rw [List.length_map]
def Done (rs:List BRow) (un:Option Str) (F:List Nat) (n:Nat):Prop:=∀ r,rs[n]?=some r→(∀ y,un=some y→setsOf r≠.str y)→∀ m∈leadsL n r,m∈F
theorem Done.mono {rs:List BRow} {un:Option Str} {F F':List Nat} {n:Nat} (h:Done rs un F n) (s:∀ x∈F,x∈F'):Done rs un F' n:=fun r e hy m hm=>s m (h r e hy m hm)
structure WI (rs:List BRow) (un:Option Str) (F W:List Nat) (now:Nat→Prop):Prop where
  nd:F.Nodup
  way:∀ x∈F,Way rs un x
  zero:0∈F
  sub:∀ x∈W,x∈F
  cl:∀ x∈F,x∈W∨now x∨Done rs un F x
theorem WI.add {rs:List BRow} {un:Option Str} {F W:List Nat} {now:Nat→Prop} {m:Nat} (i:WI rs un F W now) (h:m∉F) (w:Way rs un m):WI rs un (F++[m]) (W++[m]) now:=by
  refine ⟨nd_snoc i.nd h,fun x hx=>?_,List.mem_append_left _ i.zero,fun x hx=>?_,fun x hx=>?_⟩
  · rcases List.mem_append.mp hx with z | z
    · exact i.way x z
    · rw [List.mem_singleton.mp z];exact w
  · rcases List.mem_append.mp hx with z | z
    · exact List.mem_append_left _ (i.sub x z)
    · exact List.mem_append_right _ z
  · rcases List.mem_append.mp hx with z | z
    · rcases i.cl x z with a | a | a
      · exact .inl (List.mem_append_left _ a)
      · exact .inr (.inl a)
      · exact .inr (.inr (a.mono fun y hy=>List.mem_append_left _ hy))
    · exact .inl (List.mem_append_right _ z)
def WkP (rt fd wl:Addr) (H:Hp) (rs:List BRow) (un:Option Str) (m:Nat):St→Hp→Prop:=fun σ' H'=>∃ (F W:List Nat) (o4 o5:Option V),σ'=[some (.ref rt),some (uOf un),some (.ref fd),some (.ref wl),o4,o5]∧H' fd=some (.dK (keyF F))∧H' wl=some (.lst (intsV W))∧WI rs un F W (fun _=>False)∧Same H H'∧2 * (rs.length - F.length) + W.length≤m
def WkQ (rt fd wl tp:Addr) (H:Hp) (rs:List BRow) (un:Option Str) (ms:List Nat) (n m j:Nat):St→Hp→Prop:=fun σ' H'=>∃ (F W:List Nat) (o5:Option V),σ'=[some (.ref rt),some (uOf un),some (.ref fd),some (.ref wl),some (.int (n:Nat)),o5]∧H' fd=some (.dK (keyF F))∧H' wl=some (.lst (intsV W))∧H' tp=some (.tup (intsV ms))∧WI rs un F W (fun x=>x=n)∧Same H H'∧2 * (rs.length - F.length) + W.length≤m∧∀ i,i < j→∀ x,ms[i]?=some x→x∈F
theorem intsV_snoc (ns:List Nat) (n:Nat):intsV (ns++[n])=intsV ns++[V.int (n:Nat)]:=by unfold intsV;rw [List.map_append];rfl
theorem WI.done {rs:List BRow} {un:Option Str} {F:List Nat} (i:WI rs un F [] (fun _=>False)) (m:Nat):m∈F↔Way rs un m:=by
  refine ⟨i.way m,fun h=>?_⟩
  induction h with
  | zero=>exact i.zero
  | step _ e hy hm ih=>
    rcases i.cl _ ih with z | z | z
    · cases z
    · exact z.elim
    · exact z _ e hy _ hm
theorem WI.len {rs:List BRow} {un:Option Str} {F W:List Nat} {now:Nat→Prop} (g:RowsGood rs) (i:WI rs un F W now):F.length≤rs.length:=nodup_lt i.nd fun x hx=>(i.way x hx).lt g
theorem wk_on {K:Fg} {rt fd wl:Addr} {H H1:Hp} {rvs:List V} {rs:List BRow} {un:Option Str} {F W:List Nat} {n m:Nat} {r:BRow} {v:V} {o5:Option V} {D:Ends} (hrt:H rt=some (.tup rvs)) (hfd:H fd=none) (hwl:H wl=none) (nfw:fd≠wl) (g:RowsGood rs)
    (e1:rvs[n]?=some v) (e2:rs[n]?=some r) (hra:RowAt H v r) (hy:∀ y,un=some y→setsOf r≠.str y) (hn:Way rs un n) (h1:H1 fd=some (.dK (keyF F))) (h2:H1 wl=some (.lst (intsV W))) (i:WI rs un F W (fun x=>x=n)) (s:Same H H1) (hm:2 * (rs.length - F.length) + W.length≤m) (hmb:m≤1000)
    (q:∀ (σ':St) (H':Hp),WkP rt fd wl H rs un m σ' H'→D.nx σ' H') :
    tFor (iSeq K (tCall (sp_p_leads K) [] E0 (tCons (tVar 0) (tCons (tVar 4) tNil)))) (gName 5) (t_p_walked_3 K) D [some (.ref rt),some (uOf un),some (.ref fd),some (.ref wl),some (.int (n:Nat)),o5] H1:=by
  refine .inr ⟨_,rfl,_,rfl,rt,n,rvs,v,r,rfl,s _ _ hrt,e1,hra.mono (.of_same s),fun tp H2 htp s2=>⟨tp,rfl,⟨_,SqT.of htp⟩,for_tup (xs:=intsV (leadsL n r)) (WkQ rt fd wl tp H rs un (leadsL n r) n m) ?_ ?_ ?_ ?_⟩⟩
  · exact ⟨F,W,_,rfl,s2 _ _ h1,s2 _ _ h2,htp,i,s.trans s2,hm,fun i hi=>absurd hi (Nat.not_lt_zero _)⟩
  · rintro j σ' H' _ ⟨_,_,_,_,_,_,h3,_⟩
    exact SqT.of h3
  · rintro j x σ' H' hx ⟨F',W',p5,rfl,h3,h4,h5,i',s',hm',hj⟩
    obtain ⟨to,hto,rfl⟩:=intsV_of hx
    have hw:Way rs un to:=.step hn e2 hy (List.mem_of_getElem? hto)
    have fl:=i'.len g
    have few:=g.few
    show t_p_walked_3 K _ [some (.ref rt),some (uOf un),some (.ref fd),some (.ref wl),some (.int (n:Nat)),some (.int (to:Nat))] H'
    refine ⟨_,rfl,_,rfl,fd,_,rfl,DGet.k (k:=Sum.inl (to:Int)) h3,_,rfl,?_⟩
    show if (!(valV (keyF F') (Sum.inl (to:Int))).isSome)=true then _ else _
    rw [valF]
    refine if_not (fun hin=>?_) (fun hin=>?_)
    · have nd':=nodup_lt (nd_snoc i'.nd hin) (n:=rs.length) fun y hy'=>by
        rcases List.mem_append.mp hy' with z | z
        · exact (i'.way y z).lt g
        · rw [List.mem_singleton.mp z];exact hw.lt g
      rw [List.length_append,List.length_singleton] at nd'
      refine ⟨_,rfl,_,rfl,fd,_,rfl,DPut.k (k:=Sum.inl (to:Int)) h3 (smallL (by rw [keyF_len];lia)),?_⟩
      rw [putF hin]
      have h4':(upd H' fd (.dK (keyF (F'++[to])))) wl=some (.lst (intsV W')):=by rw [upd_ne (Ne.symm nfw)];exact h4
      have nwl:W'.length≤100000:=by lia
      refine ⟨_,rfl,.inl ⟨rfl,_,SqL.of h4'⟩,_,rfl,wl,_,_,rfl,rfl,h4',smallL (by rw [intsV_len];exact nwl),?_⟩
      have ntf:tp≠fd:=fun z=>by rw [z,h3] at h5;cases h5
      have ntw:tp≠wl:=fun z=>by rw [z,h4] at h5;cases h5
      refine ⟨F'++[to],W'++[to],_,rfl,by rw [upd_ne nfw,upd_same],by rw [upd_same,intsV_snoc],by rw [upd_ne ntw,upd_ne ntf];exact h5,i'.add hin hw,at_new (at_new s' hfd) hwl,?_,fun k hk x hxk=>?_⟩
      · simp only [List.length_append,List.length_singleton];lia
      · by_cases c:k < j
        · exact List.mem_append_left _ (hj k c x hxk)
        · have:k=j:=by lia
          subst this
          rw [hto] at hxk;cases hxk
          exact List.mem_append_right _ (List.mem_singleton.mpr rfl)
    · refine ⟨F',W',_,rfl,h3,h4,h5,i',s',hm',fun k hk x hxk=>?_⟩
      by_cases c:k < j
      · exact hj k c x hxk
      · have:k=j:=by lia
        subst this
        rw [hto] at hxk;cases hxk
        exact hin
  · rintro σ' H' ⟨F',W',p5,rfl,h3,h4,h5,i',s',hm',hj⟩
    rw [intsV_len] at hj
    refine q _ _ ⟨F',W',_,_,rfl,h3,h4,⟨i'.nd,i'.way,i'.zero,i'.sub,fun x hx=>?_⟩,s',hm'⟩
    rcases i'.cl x hx with z | z | z
    · exact .inl z
    · subst z
      refine .inr (.inr fun r' e _ m' hm'=>?_)
      rw [e2] at e;cases e
      obtain ⟨k,hk,ek⟩:=List.mem_iff_getElem.mp hm'
      exact hj k hk m' (by rw [List.getElem?_eq_getElem hk,ek])
    · exact .inr (.inr z)
theorem r_p_walked {K:Fg} {vs:List V} {H:Hp} {Q:VK} {E:XK} (h:sp_p_walked K vs H Q E):t_p_walked K { nx:=fun _ H'=>Q .non H',rt:=Q } (start N_p_walked vs) H:=by
  obtain ⟨rt,un,rvs,rs,rfl,hrt,hA,g,q⟩:=h
  refine fun fd hfd=>⟨upd_same,[(Sum.inl 0,V.bl true)],rfl,by decide,?_⟩
  have e0:upd (upd H fd (.dK [])) fd (.dK (mergeK [] [(Sum.inl 0,V.bl true)]))=upd H fd (.dK (keyF [0])):=by
    rw [upd_upd]
    have:mergeK [] [((Sum.inl 0:Key),V.bl true)]=keyF [0]:=by
      show putK [] (Sum.inl 0) (V.bl true)=_
      rw [putK_new _ valV_nil];rfl
    rw [this]
  show t_p_walked_7 K _ [some (.ref rt),some (uOf un),some (.ref fd),none,none,none] (upd (upd H fd (.dK [])) fd (.dK (mergeK [] [(Sum.inl 0,V.bl true)])))
  rw [e0]
  refine ⟨(by show 1≤sizeLine;decide),fun wl hwl0=>?_⟩
  have nfw:fd≠wl:=ne_of_none upd_same hwl0
  have hwl:H wl=none:=by
    have:(upd H fd (.dK (keyF [0]))) wl=H wl:=upd_ne (Ne.symm nfw)
    rw [← this];exact hwl0
  show t_p_walked_6 K _ [some (.ref rt),some (uOf un),some (.ref fd),some (.ref wl),none,none] (upd (upd H fd (.dK (keyF [0]))) wl (.lst [V.int 0]))
  have few0:=g.few
  refine ⟨fun m σ' H'=>m≤1000∧WkP rt fd wl H rs un m σ' H',⟨2 * (rs.length - 1) + 1,by lia,[0],[0],none,none,rfl,by rw [upd_ne nfw,upd_same],upd_same,⟨by simp,fun x hx=>by rw [List.mem_singleton.mp hx];exact .zero,by simp,fun x hx=>hx,fun x hx=>.inl hx⟩,at_new (at_new (Same.refl H) hfd) hwl,by simp⟩,?_⟩
  rintro m σ' H1 ⟨hmb,F,W,o4,o5,rfl,h1,h2,i,s,hm⟩
  refine ⟨_,rfl,_,_,rfl,.inl ⟨_,SqL.of h2,rfl⟩,_,_,rfl,rfl,_,rfl,if_dec (fun hl=>?_) (fun hl=>?_)⟩
  · rw [intsV_len] at hl
    obtain ⟨L,n,rfl⟩:∃ L n,W=L++[n]:=by
      rcases List.eq_nil_or_concat W with z | ⟨L,n,z⟩
      · subst z;simp at hl
      · exact ⟨L,n,by rw [z,List.concat_eq_append]⟩
    have hnF:=i.sub n (List.mem_append_right _ (List.mem_singleton.mpr rfl))
    have hn:=i.way n hnF
    have nl:=hn.lt g
    obtain ⟨v,r,e1,e2,hra⟩:=hA.get nl
    have hm1:2 * (rs.length - F.length) + L.length≤m - 1:=by rw [List.length_append,List.length_singleton] at hm;lia
    have m0:0 < m:=by rw [List.length_append,List.length_singleton] at hm;lia
    refine ⟨WkP rt fd wl H rs un (m - 1),fun σ4 H4 h4=>⟨m - 1,by lia,by lia,h4⟩,?_⟩
    rw [intsV_snoc] at h2
    refine ⟨_,rfl,.inl ⟨rfl,_,SqL.of h2⟩,wl,_,V.int (n:Nat),rfl,rfl,h2,?_,?_⟩
    · rw [List.length_append,List.length_singleton,Nat.add_sub_cancel,List.getElem?_append_right (Nat.le_refl _),Nat.sub_self];rfl
    rw [List.dropLast_concat]
    show t_p_walked_4 K _ [some (.ref rt),some (uOf un),some (.ref fd),some (.ref wl),some (.int (n:Nat)),o5] (upd H1 wl (.lst (intsV L)))
    have h1':(upd H1 wl (.lst (intsV L))) fd=some (.dK (keyF F)):=by rw [upd_ne nfw];exact h1
    have h2':(upd H1 wl (.lst (intsV L))) wl=some (.lst (intsV L)):=upd_same
    have s':Same H (upd H1 wl (.lst (intsV L))):=at_new s hwl
    generalize upd H1 wl (.lst (intsV L))=H2 at h1' h2' s'
    have i':WI rs un F L (fun x=>x=n):=⟨i.nd,i.way,i.zero,fun x hx=>i.sub x (List.mem_append_left _ hx),fun x hx=>by
      rcases i.cl x hx with z | z | z
      · rcases List.mem_append.mp z with z | z
        · exact .inl z
        · exact .inr (.inl (List.mem_singleton.mp z))
      · exact z.elim
      · exact .inr (.inr z)⟩
    have e1':rvs[((n:Nat):Int).toNat]?=some v:=by simpa using e1
    cases un with
    | none=>
      refine ⟨_,rfl,rfl,_,rfl,iteT (iteT ?_)⟩
      exact wk_on hrt hfd hwl nfw g e1 e2 hra (fun y z=>by cases z) hn h1' h2' i' s' hm1 (by lia) fun _ _ z=>z
    | some y=>
      refine ⟨_,rfl,rfl,_,rfl,iteF ?_⟩
      refine ⟨_,rfl,_,rfl,ixT (s' _ _ hrt) (by lia) e1' ⟨v,r,rfl,hra.mono (.of_same s'),fun H3 s3=>⟨_,rfl,.inl ⟨?_,_,rfl,?_⟩⟩⟩⟩
      · cases r <;> rfl
      · refine if_not (fun hne=>?_) (fun he=>?_)
        · exact wk_on hrt hfd hwl nfw g e1 e2 hra (fun y' z=>by cases z;exact hne) hn (s3 _ _ h1') (s3 _ _ h2') i' (s'.trans s3) hm1 (by lia) fun _ _ z=>z
        · refine ⟨F,L,_,_,rfl,s3 _ _ h1',s3 _ _ h2',⟨i'.nd,i'.way,i'.zero,i'.sub,fun x hx=>?_⟩,s'.trans s3,hm1⟩
          rcases i'.cl x hx with z | z | z
          · exact .inl z
          · subst z
            refine .inr (.inr fun r' e hy=>?_)
            rw [e2] at e;cases e
            exact absurd he (hy y rfl)
          · exact .inr (.inr z)
  · rw [intsV_len] at hl
    have:W=[]:=List.length_eq_zero_iff.mp (by lia)
    subst this
    have fl:=i.len g
    have few:=g.few
    refine ⟨_,rfl,fd,_,F.map (fun n=>((n:Nat):Int)),rfl,h1,?_,by rw [List.length_map];lia,fun l ns' hl' hp hs=>?_⟩
    · unfold keyF;rw [List.map_map,List.map_map];rfl
    · obtain ⟨ks,rfl,hk,hr⟩:=perm_nats hp hs i.nd
      have e:(ks.map fun n=>((n:Nat):Int)).map V.int=intsV ks:=by unfold intsV;rw [List.map_map];rfl
      rw [e]
      refine q l ks _ (fun m=>(hk m).trans (i.done m)) hr upd_same (s.free hl') (s.new hl')
def noJ (rs:List BRow) (m:Nat):Bool:=match rs[m]? with
  | some r=>!isJump r
  | none=>false
theorem noJ_iff {rs:List BRow} {m:Nat} (h:m < rs.length):noJ rs m=true↔∀ r,rs[m]?=some r→isJump r=false:=by
  unfold noJ
  rw [List.getElem?_eq_getElem h]
  constructor
  · intro z r e;cases e;simpa using z
  · intro z;simpa using z _ rfl
theorem word_noJ {r:BRow} {rs:List BRow} {m:Nat} (e:rs[m]?=some r):(!decide (V.str (word r)=V.str "jump"))=noJ rs m:=by
  unfold noJ
  rw [e]
  cases r with
  | jump t=>show (!decide (V.str "jump"=V.str "jump"))=false;decide +kernel
  | num x z=>show (!decide (V.str "num"=V.str "jump"))=true;decide +kernel
  | op x s a b=>show (!decide (V.str "op"=V.str "jump"))=true;decide +kernel
  | call x k as=>show (!decide (V.str "call"=V.str "jump"))=true;decide +kernel
  | say a=>show (!decide (V.str "say"=V.str "jump"))=true;decide +kernel
  | test a t=>show (!decide (V.str "test"=V.str "jump"))=true;decide +kernel
  | give a=>show (!decide (V.str "give"=V.str "jump"))=true;decide +kernel
theorem intsV_append (a b:List Nat):intsV (a++b)=intsV a++intsV b:=by unfold intsV;rw [List.map_append]
theorem r_p_come_to {K:Fg} {vs:List V} {H:Hp} {Q:VK} {E:XK} (h:sp_p_come_to K vs H Q E):t_p_come_to K { nx:=fun _ H'=>Q .non H',rt:=Q } (start N_p_come_to vs) H:=by
  obtain ⟨rt,rvs,rs,rfl,hrt,hA,g,q⟩:=h
  refine .inl ⟨_,rfl,rt,none,rvs,rs,rfl,hrt,hA,g,fun l ns H1 hns hr hl hl0 s1=>⟨l,rfl,⟨_,SqL.of hl⟩,fun D hD=>?_⟩⟩
  have nD:l≠D:=ne_of_none hl hD
  have nlt:∀ m∈ns,m < rs.length:=fun m hm=>((hns m).mp hm).lt g
  refine comp_list (xs:=intsV ns) (fun j σ' H'=>∃ o,σ'=[some (.ref rt),o]∧H'=upd H1 D (.lst (intsV ((ns.take j).filter (noJ rs))))) ?_ ?_ ?_ ?_
  · exact ⟨none,rfl,rfl⟩
  · rintro j σ' H' _ ⟨o,_,rfl⟩
    exact SqL.of (by rw [upd_ne nD];exact hl)
  · rintro j x σ' H' hx ⟨o,rfl,rfl⟩
    obtain ⟨m,hm,rfl⟩:=intsV_of hx
    have ml:=nlt m (List.mem_of_getElem? hm)
    obtain ⟨v,r,e1,e2,hra⟩:=(hA.imp fun _ _ z=>z.mono (Tp.of_same s1)).get ml
    have nj:j < ns.length:=(List.getElem?_eq_some_iff.mp hm).1
    have few:=g.few
    have nsl:ns.length≤rs.length:=nodup_lt (hr.imp fun h=>Nat.ne_of_lt h) nlt
    have ft:=filter_take (noJ rs) ns j m hm
    have fl:((ns.take j).filter (noJ rs)).length≤100:=Nat.le_trans (List.length_filter_le _ _) (by rw [List.length_take];lia)
    obtain ⟨p,xs,rfl,hp⟩:=hra.ref
    have e1':rvs[((m:Nat):Int).toNat]?=some (.ref p):=by simpa using e1
    have nrt:rt≠D:=ne_of_none (s1 _ _ hrt) hD
    have np:p≠D:=ne_of_none hp hD
    refine ⟨_,rfl,_,rfl,ixT (by rw [upd_ne nrt];exact s1 _ _ hrt) (by lia) e1' (ixT (by rw [upd_ne np];exact hp) (by decide) rfl (.inl ⟨rfl,_,rfl,?_⟩))⟩
    rw [word_noJ e2]
    refine if_bl (fun hb=>?_) (fun hb=>?_)
    · refine ⟨_,rfl,_,upd_same,smallL (by rw [intsV_len];lia),_,rfl,?_⟩
      rw [upd_upd,ft,if_pos hb,intsV_append]
      rfl
    · refine ⟨_,rfl,?_⟩
      rw [ft,if_neg (by rw [hb];decide),List.append_nil]
  · rintro σ' H2 ⟨o,_,rfl⟩
    have et:ns.take (intsV ns).length=ns:=List.take_of_length_le (by rw [intsV_len];exact Nat.le_refl _)
    rw [et]
    refine q D _ _ (fun m=>?_) (hr.filter _) upd_same (s1.free hD) (s1.new hD)
    rw [List.mem_filter]
    constructor
    · rintro ⟨h1,h2⟩
      exact ⟨(hns m).mp h1,(noJ_iff (nlt m h1)).mp h2⟩
    · rintro ⟨h1,h2⟩
      have h1':=(hns m).mpr h1
      exact ⟨h1',(noJ_iff (nlt m h1')).mpr h2⟩
structure AheadTo (rs:List BRow) (ns:List Nat) (pss:List (List Nat)) (i:Nat) (n:Nat) (ms:List Nat):Prop where
  len:pss.length=ns.length
  at_:∀ (j t:Nat) ps,ns[j]?=some t→pss[j]?=some ps→(∀ x,x∈ps↔(x∈ns.take i∧Edge rs x t)∨(x=n∧∃ m∈ms,Sd rs m=t))∧ps.length≤2 * i + ms.length
theorem AheadTo.add {rs:List BRow} {ns:List Nat} {pss:List (List Nat)} {i n:Nat} {ms:List Nat} (h:AheadTo rs ns pss i n ms) (nd:ns.Nodup) {m:Nat} {j:Nat} {ps:List Nat} (hj:ns[j]?=some (Sd rs m)) (hp:pss[j]?=some ps):AheadTo rs ns (pss.set j (ps++[n])) i n (ms++[m]):=by
  refine ⟨by rw [List.length_set];exact h.len,fun j' t ps' e1 e2=>?_⟩
  have jl:=(List.getElem?_eq_some_iff.mp hp).1
  by_cases c:j'=j
  · subst c
    rw [hj] at e1;cases e1
    rw [List.getElem?_set_self jl] at e2
    cases e2
    obtain ⟨h1,h2⟩:=h.at_ j' _ ps hj hp
    refine ⟨fun x=>?_,by rw [List.length_append,List.length_append,List.length_singleton,List.length_singleton];lia⟩
    rw [List.mem_append,h1 x,List.mem_singleton]
    constructor
    · rintro ((z | ⟨z,m',hm,hs⟩) | z)
      · exact .inl z
      · exact .inr ⟨z,m',List.mem_append_left _ hm,hs⟩
      · exact .inr ⟨z,m,List.mem_append_right _ List.mem_cons_self,rfl⟩
    · rintro (z | ⟨z,m',hm,hs⟩)
      · exact .inl (.inl z)
      · rcases List.mem_append.mp hm with z' | z'
        · exact .inl (.inr ⟨z,m',z',hs⟩)
        · exact .inr z
  · rw [List.getElem?_set_ne (Ne.symm c)] at e2
    obtain ⟨h1,h2⟩:=h.at_ j' t ps' e1 e2
    refine ⟨fun x=>?_,by rw [List.length_append];lia⟩
    rw [h1 x]
    constructor
    · rintro (z | ⟨z,m',hm,hs⟩)
      · exact .inl z
      · exact .inr ⟨z,m',List.mem_append_left _ hm,hs⟩
    · rintro (z | ⟨z,m',hm,hs⟩)
      · exact .inl z
      · rcases List.mem_append.mp hm with z' | z'
        · exact .inr ⟨z,m',z',hs⟩
        · exfalso
          rw [List.mem_singleton.mp z'] at hs
          rw [hs] at hj
          obtain ⟨a1,a2⟩:=List.getElem?_eq_some_iff.mp e1
          obtain ⟨b1,b2⟩:=List.getElem?_eq_some_iff.mp hj
          exact c ((List.getElem_inj nd).mp (a2.trans b2.symm))
theorem AheadTo.next {rs:List BRow} {ns:List Nat} {pss:List (List Nat)} {i n:Nat} {r:BRow} (h:AheadTo rs ns pss i n (leadsL n r)) (hi:ns[i]?=some n) (hr:rs[n]?=some r) (n':Nat):AheadTo rs ns pss (i + 1) n' []:=by
  have two:(leadsL n r).length≤2:=by cases r <;> simp [leadsL]
  refine ⟨h.len,fun j t ps e1 e2=>?_⟩
  obtain ⟨h1,h2⟩:=h.at_ j t ps e1 e2
  refine ⟨fun x=>?_,by simp only [List.length_nil];lia⟩
  rw [h1 x,List.take_succ,hi]
  simp only [Option.toList_some,List.mem_append,List.mem_singleton,List.not_mem_nil,false_and,exists_false,and_false,or_false]
  constructor
  · rintro (⟨z,e⟩ | ⟨rfl,m,hm,hs⟩)
    · exact ⟨.inl z,e⟩
    · exact ⟨.inr rfl,r,m,hr,hm,hs⟩
  · rintro ⟨z | rfl,e⟩
    · exact .inl ⟨z,e⟩
    · obtain ⟨r',m,hr',hm,hs⟩:=e
      rw [hr] at hr';cases hr'
      exact .inr ⟨rfl,m,hm,hs⟩
theorem AheadTo.done {rs:List BRow} {ns:List Nat} {pss:List (List Nat)} {n:Nat} (hn:∀ m,m∈ns↔Stood rs m) (h:AheadTo rs ns pss ns.length n []):Ahead rs ns pss:=⟨h.len,fun j t ps e1 e2=>by
  obtain ⟨h1,h2⟩:=h.at_ j t ps e1 e2
  refine ⟨fun x=>?_,by simpa using h2⟩
  rw [h1 x,List.take_length,hn x]
  simp⟩
theorem AheadTo.zero {rs:List BRow} {ns:List Nat} (n:Nat):AheadTo rs ns (List.replicate ns.length []) 0 n []:=⟨List.length_replicate,fun j t ps e1 e2=>by
  have hv:ps=[]:=(List.mem_replicate.mp (List.mem_of_getElem? e2)).2
  subst hv
  exact ⟨fun x=>by simp,Nat.zero_le _⟩⟩
theorem intsV_app (ps:List Nat) (n:Nat):intsV ps++[.int (n:Nat)]=intsV (ps++[n]):=by unfold intsV;rw [List.map_append];rfl
theorem map_set_ints (pss:List (List Nat)) (j:Nat) (ps:List Nat):(pss.map intsV).set j (intsV ps)=(pss.set j ps).map intsV:=by rw [List.map_set]
theorem r_p_ra {K:Fg} {vs:List V} {H:Hp} {Q:VK} {E:XK} (h:sp_p_ra K vs H Q E):t_p_ra K { nx:=fun _ H'=>Q .non H',rt:=Q } (start N_p_ra vs) H:=by
  obtain ⟨rt,rvs,rs,rfl,hrt,hA,g,q⟩:=h
  refine ⟨_,rfl,rt,rvs,rs,rfl,hrt,hA,g,fun l0 ns H1 hn hp hl0 nl0 s1=>?_⟩
  show t_p_ra_5 K _ [some (.ref rt),some (.ref l0),none,none,none] H1
  have nlen:ns.length≤64:=by
    have:=nodup_lt (n:=rs.length) (l:=ns) (hp.imp fun z=>Nat.ne_of_lt z) fun x hx=>stood_lt g ((hn x).mp hx)
    have:=g.few
    lia
  have nnd:ns.Nodup:=hp.imp fun z=>Nat.ne_of_lt z
  refine .inl ⟨_,rfl,l0,rfl,⟨_,SqL.of hl0⟩,fun D nD=>?_⟩
  refine comp_list (xs:=intsV ns) (fun i σ' H'=>∃ (ts ls:List Addr) (o:Option V),σ'=[some (.ref rt),some (.ref l0),none,o,none]∧Prs H1 H' D ((ns.take i).map nk) ts ls) ?_ ?_ ?_ ?_
  · exact ⟨[],[],none,rfl,Prs.nil nD⟩
  · rintro i σ' H' _ ⟨ts,ls,o,_,p⟩
    exact SqL.of (p.sm _ _ (ne_of_none hl0 nD) hl0)
  · rintro i x σ' H' hx ⟨ts,ls,o,rfl,p⟩
    obtain ⟨n,hni,rfl⟩:∃ n:Nat,ns[i]?=some n∧x=.int (n:Nat):=by
      unfold intsV at hx
      rw [List.getElem?_map] at hx
      cases e:ns[i]? with
      | none=>rw [e] at hx;cases hx
      | some n=>rw [e] at hx;exact ⟨n,rfl,(Option.some.inj hx).symm⟩
    refine app_yes ⟨_,rfl,(by show 0≤sizeLine;decide),fun l nl=>⟨(by show 2≤sizeLine;decide),fun t nt=>?_⟩⟩
    have st:=p.step nD (k:=nk n) nl nt
    have lD:l≠D:=fun z=>by rw [z,p.at_] at nl;cases nl
    have tl:t≠l:=fun z=>by rw [z,upd_same] at nt;cases nt
    have tD:t≠D:=fun z=>by rw [z,upd_ne (Ne.symm lD),p.at_] at nt;cases nt
    have tlen:ts.length < sizeLine:=smallL (by rw [p.l1,List.length_map,List.length_take];lia)
    refine ⟨ts.map V.ref,by rw [upd_ne (Ne.symm tD),upd_ne (Ne.symm lD)];exact p.at_,by rw [List.length_map];exact tlen,ts++[t],ls++[l],_,rfl,?_⟩
    rw [List.take_succ,hni,List.map_append]
    exact st
  · rintro σ' H2 ⟨ts,ls,o,_,p⟩
    have il:(intsV ns).length=ns.length:=intsV_len ns
    rw [il,List.take_length] at p
    show tNil _ _ _
    unfold tNil
    dsimp only
    refine p.dict nD (nk_nodup hp) (by rw [List.length_map];lia) fun d H3 nd nls dl s3=>?_
    rw [List.length_map] at dl
    show t_p_ra_4 K _ [some (.ref rt),some (.ref l0),some (.ref d),none,none] H3
    have dl0:DL H3 d (ns.map nk) ls ((List.replicate ns.length ([]:List Nat)).map intsV):=by
      rw [List.map_replicate];exact dl
    refine .inl ⟨_,rfl,l0,rfl,⟨_,SqL.of (s3 _ _ hl0)⟩,for_list (xs:=intsV ns) (fun i σ' H'=>∃ (pss:List (List Nat)) (o3 o4:Option V),σ'=[some (.ref rt),some (.ref l0),some (.ref d),o3,o4]∧DL H' d (ns.map nk) ls (pss.map intsV)∧AheadTo rs ns pss i 0 []∧Same H1 H') ⟨_,_,_,rfl,dl0,.zero 0,s3⟩ ?_ ?_ ?_⟩
    · rintro i σ' H' _ ⟨pss,o3,o4,_,_,_,s'⟩
      exact SqL.of (s' _ _ hl0)
    · rintro i x σ' H' hx ⟨pss,o3,o4,rfl,dl',ah,s'⟩
      obtain ⟨n,hni,rfl⟩:∃ n:Nat,ns[i]?=some n∧x=.int (n:Nat):=by
        unfold intsV at hx
        rw [List.getElem?_map] at hx
        cases e:ns[i]? with
        | none=>rw [e] at hx;cases hx
        | some n=>rw [e] at hx;exact ⟨n,rfl,(Option.some.inj hx).symm⟩
      have ilt:i < ns.length:=(List.getElem?_eq_some_iff.mp hni).1
      have stn:Stood rs n:=(hn n).mp (List.mem_of_getElem? hni)
      have nlt:=stood_lt g stn
      obtain ⟨v,r,ev,er,ra⟩:=hA.get nlt
      have S':=s1.trans s'
      show t_p_ra_3 K _ [some (.ref rt),some (.ref l0),some (.ref d),some (.int (n:Nat)),o4] H'
      refine .inr ⟨_,rfl,_,rfl,rt,n,rvs,v,r,rfl,S' _ _ hrt,ev,ra.mono (.of_same S'),fun p H4 hp4 s4=>⟨p,rfl,⟨_,SqT.of hp4⟩,?_⟩⟩
      refine for_tup (xs:=intsV (leadsL n r)) (fun e σ' H'=>∃ (pss:List (List Nat)) (o4:Option V),σ'=[some (.ref rt),some (.ref l0),some (.ref d),some (.int (n:Nat)),o4]∧DL H' d (ns.map nk) ls (pss.map intsV)∧AheadTo rs ns pss i n ((leadsL n r).take e)∧Same H1 H'∧H' p=some (.tup (intsV (leadsL n r)))) ⟨pss,_,rfl,dl'.same s4,⟨ah.len,fun j t ps e1 e2=>by
          obtain ⟨h1,h2⟩:=ah.at_ j t ps e1 e2
          refine ⟨fun x=>?_,by simpa using h2⟩
          rw [h1 x]
          simp⟩,s'.trans s4,hp4⟩ ?_ ?_ ?_
      · rintro e σ' H' _ ⟨_,_,_,_,_,_,hp'⟩
        exact SqT.of hp'
      · rintro e x σ' H5 hx ⟨pss5,o5,rfl,dl5,ah5,s5,hp5⟩
        obtain ⟨m,hme,rfl⟩:∃ m:Nat,(leadsL n r)[e]?=some m∧x=.int (m:Nat):=by
          unfold intsV at hx
          rw [List.getElem?_map] at hx
          cases ee:(leadsL n r)[e]? with
          | none=>rw [ee] at hx;cases hx
          | some m=>rw [ee] at hx;exact ⟨m,rfl,(Option.some.inj hx).symm⟩
        have hm:m∈leadsL n r:=List.mem_of_getElem? hme
        have mlt:=g.inr n m r er hm
        have stt:Stood rs (Sd rs m):=stood_edge g stn ⟨r,m,er,hm,rfl⟩
        obtain ⟨j,hj⟩:=List.mem_iff_getElem?.mp ((hn _).mpr stt)
        have S5:=s1.trans s5
        obtain ⟨l,v5,el,ev5,hl5,hval⟩:=dl5.get (j:=j) (k:=nk (Sd rs m)) (by rw [List.getElem?_map,hj];rfl)
        obtain ⟨ps,eps,hps⟩:∃ ps,pss5[j]?=some ps∧v5=intsV ps:=by
          rw [List.getElem?_map] at ev5
          cases ee:pss5[j]? with
          | none=>rw [ee] at ev5;cases ev5
          | some ps=>rw [ee] at ev5;exact ⟨ps,rfl,(Option.some.inj ev5).symm⟩
        subst hps
        have bound:=(ah5.at_ j _ ps hj eps).2
        have two:(leadsL n r).length≤2:=by cases r <;> simp [leadsL]
        have gg:=DGet.k (k:=nk (Sd rs m)) dl5.at_
        rw [hval] at gg
        refine ⟨_,rfl,_,rfl,_,rfl,rt,m,rvs,rs,rfl,S5 _ _ hrt,hA.imp fun _ _ z=>z.mono (.of_same S5),g,mlt,d,.ref l,rfl,gg,.inl ⟨rfl,_,SqL.of hl5⟩,_,rfl,l,_,_,rfl,rfl,hl5,smallL (by rw [intsV_len];rw [List.length_take] at bound;lia),?_⟩
        refine ⟨pss5.set j (ps++[n]),_,rfl,?_,?_,?_,?_⟩
        · have:=dl5.app el ev5 (.int (n:Nat))
          rw [intsV_app] at this ⊢
          rw [← map_set_ints]
          exact this
        · rw [List.take_succ,hme]
          exact ah5.add nnd hj eps
        · have hl1:H1 l=none:=nls l (List.mem_of_getElem? el)
          exact fun b u e=>by rw [upd_ne (ne_of_none e hl1)];exact s5 b u e
        · rw [upd_ne (ne_of hp5 hl5 (by intro z;cases z))];exact hp5
      · rintro σ' H5 ⟨pss5,o5,rfl,dl5,ah5,s5,_⟩
        rw [intsV_len,List.take_length] at ah5
        exact ⟨pss5,_,_,rfl,dl5,ah5.next hni er 0,s5⟩
    · rintro σ' H4 ⟨pss,o3,o4,rfl,dl4,ah4,s4⟩
      rw [il] at ah4
      have dn:H d=none:=by
        cases e:H d with
        | none=>rfl
        | some u=>rw [s1 _ _ e] at nd;cases nd
      exact ⟨_,rfl,q d ns ls pss H4 hn hp dl4 (ah4.done hn) dn (fun l m=>by
        have:=nls l m
        cases e:H l with
        | none=>rfl
        | some u=>rw [s1 _ _ e] at this;cases this) (s1.trans s4)⟩
theorem DL.add {H:Hp} {d:Addr} {ks:List Key} {ls:List Addr} {vss:List (List V)} (h:DL H d ks ls vss) {k:Key} {l:Addr} (nk:k∉ks) (hl:H l=some (.lst [])) (nl:l∉ls) :
    valV (ks.zip (ls.map V.ref)) k=none∧DL (upd H d (.dK (putK (ks.zip (ls.map V.ref)) k (.ref l)))) d (ks++[k]) (ls++[l]) (vss++[[]]):=by
  have hn:valV (ks.zip (ls.map V.ref)) k=none:=valV_zip_none nk
  have ez:putK (ks.zip (ls.map V.ref)) k (.ref l)=(ks++[k]).zip ((ls++[l]).map V.ref):=by
    rw [putK_new _ hn,List.map_append,List.zip_append (by rw [List.length_map,h.l1])];rfl
  refine ⟨hn,by rw [upd_same,ez],?_,?_,by rw [List.length_append,List.length_append,h.l1];rfl,by rw [List.length_append,List.length_append,h.l2];rfl,fun j l' v e1 e2=>?_⟩
  · refine List.nodup_append.mpr ⟨h.kn,by simp,fun a ha b hb z=>?_⟩
    rw [List.mem_singleton.mp hb] at z
    exact nk (by rw [← z];exact ha)
  · refine List.nodup_append.mpr ⟨h.ln,by simp,fun a ha b hb z=>?_⟩
    rw [List.mem_singleton.mp hb] at z
    exact nl (by rw [← z];exact ha)
  · have ll:ls.length=vss.length:=by rw [h.l1,h.l2]
    rcases snocI e1 with ⟨c1,f1⟩ | ⟨c1,f1⟩ <;> rcases snocI e2 with ⟨c2,f2⟩ | ⟨c2,f2⟩
    · have:=h.vs j l' v f1 f2
      rw [upd_ne (ne_of this h.at_ (by intro z;cases z))];exact this
    · exfalso;lia
    · exfalso;lia
    · subst f1 f2
      rw [upd_ne (ne_of hl h.at_ (by intro z;cases z))];exact hl
theorem ReadTo.old {rs:List BRow} {ns:List Nat} {ys:List Str} {pss:List (List Nat)} {i n e:Nat} {zs:List Str} (h:ReadTo rs ns ys pss i n e zs) {y:Str} {j:Nat} {ps:List Nat} (hj:ys[j]?=some y) (hp:pss[j]?=some ps):ReadTo rs ns ys (pss.set j (ps++[n])) i n (e + 1) (zs++[y]):=by
  have jl:=(List.getElem?_eq_some_iff.mp hp).1
  refine ⟨h.nd,by rw [List.length_set];exact h.len,fun y'=>?_,fun j' y' ps' e1 e2=>?_⟩
  · rw [h.all y',List.mem_append,List.mem_singleton]
    constructor
    · rintro (z | z)
      · exact .inl z
      · exact .inr (.inl z)
    · rintro (z | z | rfl)
      · exact .inl z
      · exact .inr z
      · exact (h.all y').mp (List.mem_of_getElem? hj)
  · by_cases c:j'=j
    · subst c
      rw [hj] at e1;cases e1
      rw [List.getElem?_set_self jl] at e2
      cases e2
      obtain ⟨h1,h2⟩:=h.at_ j' _ ps hj hp
      refine ⟨fun x=>?_,by rw [List.length_append,List.length_singleton];lia⟩
      rw [List.mem_append,h1 x,List.mem_singleton,List.mem_append,List.mem_singleton]
      constructor
      · rintro ((z | ⟨z,z'⟩) | z)
        · exact .inl z
        · exact .inr ⟨z,.inl z'⟩
        · exact .inr ⟨z,.inr rfl⟩
      · rintro (z | ⟨z,z'⟩)
        · exact .inl (.inl z)
        · exact .inr z
    · rw [List.getElem?_set_ne (Ne.symm c)] at e2
      obtain ⟨h1,h2⟩:=h.at_ j' y' ps' e1 e2
      refine ⟨fun x=>?_,by lia⟩
      have ne:y'≠y:=fun z=>by
        subst z
        obtain ⟨a1,a2⟩:=List.getElem?_eq_some_iff.mp e1
        obtain ⟨b1,b2⟩:=List.getElem?_eq_some_iff.mp hj
        exact c ((List.getElem_inj h.nd).mp (a2.trans b2.symm))
      rw [h1 x,List.mem_append,List.mem_singleton]
      constructor
      · rintro (z | ⟨z,z'⟩)
        · exact .inl z
        · exact .inr ⟨z,.inl z'⟩
      · rintro (z | ⟨z,z' | z'⟩)
        · exact .inl z
        · exact .inr ⟨z,z'⟩
        · exact absurd z' ne
theorem ReadTo.new {rs:List BRow} {ns:List Nat} {ys:List Str} {pss:List (List Nat)} {i n e:Nat} {zs:List Str} (h:ReadTo rs ns ys pss i n e zs) {y:Str} (hy:y∉ys):ReadTo rs ns (ys++[y]) (pss++[[n]]) i n (e + 1) (zs++[y]):=by
  have ny:∀ x,¬ ((x∈ns.take i∧Rds rs x y)∨(x=n∧y∈zs)):=fun x z=>by
    rcases z with ⟨z,z'⟩ | ⟨_,z'⟩
    · exact hy ((h.all y).mpr (.inl ⟨x,z,z'⟩))
    · exact hy ((h.all y).mpr (.inr z'))
  refine ⟨?_,by rw [List.length_append,List.length_append,h.len];rfl,fun y'=>?_,fun j' y' ps' e1 e2=>?_⟩
  · refine List.nodup_append.mpr ⟨h.nd,by simp,fun a ha b hb z=>?_⟩
    rw [List.mem_singleton.mp hb] at z
    exact hy (by rw [← z];exact ha)
  · rw [List.mem_append,List.mem_singleton,h.all y',List.mem_append,List.mem_singleton]
    constructor
    · rintro ((z | z) | z)
      · exact .inl z
      · exact .inr (.inl z)
      · exact .inr (.inr z)
    · rintro (z | z | z)
      · exact .inl (.inl z)
      · exact .inl (.inr z)
      · exact .inr z
  · have hl:=h.len
    rcases snocI e1 with ⟨c1,f1⟩ | ⟨c1,f1⟩ <;> rcases snocI e2 with ⟨c2,f2⟩ | ⟨c2,f2⟩
    · obtain ⟨h1,h2⟩:=h.at_ j' y' ps' f1 f2
      refine ⟨fun x=>?_,by lia⟩
      have ne:y'≠y:=fun z=>hy (by rw [← z];exact List.mem_of_getElem? f1)
      rw [h1 x,List.mem_append,List.mem_singleton]
      constructor
      · rintro (z | ⟨z,z'⟩)
        · exact .inl z
        · exact .inr ⟨z,.inl z'⟩
      · rintro (z | ⟨z,z' | z'⟩)
        · exact .inl z
        · exact .inr ⟨z,z'⟩
        · exact absurd z' ne
    · exfalso;lia
    · exfalso;lia
    · subst f1 f2
      refine ⟨fun x=>?_,by simp⟩
      rw [List.mem_singleton,List.mem_append,List.mem_singleton]
      constructor
      · intro z
        exact .inr ⟨z,.inr rfl⟩
      · rintro (z | ⟨z,_⟩)
        · exact absurd (.inl z) (ny x)
        · exact z
theorem ReadTo.next {rs:List BRow} {ns:List Nat} {ys:List Str} {pss:List (List Nat)} {i n e e':Nat} {r:BRow} (h:ReadTo rs ns ys pss i n e (readsOf r)) (hi:ns[i]?=some n) (hr:rs[n]?=some r) (le:e≤e') (n':Nat):ReadTo rs ns ys pss (i + 1) n' e' []:=by
  have rd:∀ y,Rds rs n y↔y∈readsOf r:=fun y=>⟨fun ⟨r',a,b⟩=>by rw [hr] at a;cases a;exact b,fun b=>⟨r,hr,b⟩⟩
  refine ⟨h.nd,h.len,fun y=>?_,fun j y ps e1 e2=>?_⟩
  · rw [h.all y,List.take_succ,hi]
    simp only [Option.toList_some,List.mem_append,List.mem_singleton,List.not_mem_nil,or_false]
    constructor
    · rintro (⟨x,z,z'⟩ | z)
      · exact ⟨x,.inl z,z'⟩
      · exact ⟨n,.inr rfl,(rd y).mpr z⟩
    · rintro ⟨x,z | rfl,z'⟩
      · exact .inl ⟨x,z,z'⟩
      · exact .inr ((rd y).mp z')
  · obtain ⟨h1,h2⟩:=h.at_ j y ps e1 e2
    refine ⟨fun x=>?_,Nat.le_trans h2 le⟩
    rw [h1 x,List.take_succ,hi]
    simp only [Option.toList_some,List.mem_append,List.mem_singleton,List.not_mem_nil,and_false,or_false]
    constructor
    · rintro (⟨z,z'⟩ | ⟨rfl,z⟩)
      · exact ⟨.inl z,z'⟩
      · exact ⟨.inr rfl,(rd y).mpr z⟩
    · rintro ⟨z | rfl,z'⟩
      · exact .inl ⟨z,z'⟩
      · exact .inr ⟨rfl,(rd y).mp z'⟩
theorem ReadTo.done {rs:List BRow} {ns:List Nat} {ys:List Str} {pss:List (List Nat)} {n e:Nat} (hn:∀ m,m∈ns↔Stood rs m) (h:ReadTo rs ns ys pss ns.length n e []) (he:e≤6400):Readers rs ys pss:=by
  refine ⟨h.nd,h.len,fun y=>?_,fun j y ps e1 e2=>?_⟩
  · rw [h.all y,List.take_length]
    simp only [List.not_mem_nil,or_false]
    exact ⟨fun ⟨x,a,b⟩=>⟨x,(hn x).mp a,b⟩,fun ⟨x,a,b⟩=>⟨x,(hn x).mpr a,b⟩⟩
  · obtain ⟨h1,h2⟩:=h.at_ j y ps e1 e2
    refine ⟨fun x=>?_,by lia⟩
    rw [h1 x,List.take_length,hn x]
    simp
theorem ints_at {ns:List Nat} {i:Nat} {x:V} (hx:(intsV ns)[i]?=some x):∃ n:Nat,ns[i]?=some n∧x=.int (n:Nat):=by
  unfold intsV at hx
  rw [List.getElem?_map] at hx
  cases e:ns[i]? with
  | none=>rw [e] at hx;cases hx
  | some n=>rw [e] at hx;exact ⟨n,rfl,(Option.some.inj hx).symm⟩
theorem strs_at {ys:List Str} {i:Nat} {x:V} (hx:(ys.map V.str)[i]?=some x):∃ y:Str,ys[i]?=some y∧x=.str y:=by
  rw [List.getElem?_map] at hx
  cases e:ys[i]? with
  | none=>rw [e] at hx;cases hx
  | some n=>rw [e] at hx;exact ⟨n,rfl,(Option.some.inj hx).symm⟩
structure RdInv (H:Hp) (l0 d:Addr) (rs:List BRow) (ns:List Nat) (H':Hp) (i n e:Nat) (zs:List Str):Prop where
  ex:∃ (ys:List Str) (ls:List Addr) (pss:List (List Nat)),DL H' d (ys.map Sum.inr) ls (pss.map intsV)∧ReadTo rs ns ys pss i n e zs∧ys.length≤e∧∀ l∈ls,H l=none∧l≠l0
  sm:Same H H'
  l0:H' l0=some (.lst (intsV ns))
theorem RdInv.same {H H' H2:Hp} {l0 d:Addr} {rs:List BRow} {ns:List Nat} {i n e:Nat} {zs:List Str} (h:RdInv H l0 d rs ns H' i n e zs) (s:Same H' H2):RdInv H l0 d rs ns H2 i n e zs:=by
  obtain ⟨ys,ls,pss,a,b⟩:=h.ex
  exact ⟨⟨ys,ls,pss,a.same s,b⟩,h.sm.trans s,s _ _ h.l0⟩
theorem r_p_rt {K:Fg} {vs:List V} {H:Hp} {Q:VK} {E:XK} (h:sp_p_rt K vs H Q E):t_p_rt K { nx:=fun _ H'=>Q .non H',rt:=Q } (start N_p_rt vs) H:=by
  obtain ⟨rt,rvs,rs,rfl,hrt,hA,g,hr100,q⟩:=h
  refine fun d nd=>?_
  have s0:Same H (upd H d (.dK [])):=(Same.refl H).new nd
  have hd0:upd H d (.dK []) d=some (.dK []):=upd_same
  show t_p_rt_4 K _ [some (.ref rt),some (.ref d),none,none] (upd H d (.dK []))
  generalize upd H d (.dK [])=H1 at s0 hd0 ⊢
  refine .inl ⟨_,rfl,rt,rvs,rs,rfl,s0 _ _ hrt,hA.imp fun _ _ z=>z.mono (.of_same s0),g,fun l0 ns H2 hn hp hl0 nl0 s1=>⟨l0,rfl,⟨_,SqL.of hl0⟩,?_⟩⟩
  have nlen:ns.length≤64:=by
    have:=nodup_lt (n:=rs.length) (l:=ns) (hp.imp fun z=>Nat.ne_of_lt z) fun x hx=>stood_lt g ((hn x).mp hx)
    have:=g.few
    lia
  refine for_list (xs:=intsV ns) (fun i σ' H'=>∃ (o2 o3:Option V),σ'=[some (.ref rt),some (.ref d),o2,o3]∧RdInv H l0 d rs ns H' i 0 (100 * i) []) ⟨_,_,rfl,⟨[],[],[],⟨s1 _ _ hd0,List.nodup_nil,List.nodup_nil,rfl,rfl,fun j l v e=>by simp at e⟩,⟨List.nodup_nil,rfl,fun y=>by simp,fun j y ps e=>by simp at e⟩,Nat.zero_le _,fun l m=>by (cases m)⟩,s0.trans s1,hl0⟩ ?_ ?_ ?_
  · rintro i σ' H' _ ⟨o2,o3,_,R⟩
    exact SqL.of R.l0
  · rintro i x σ' H' hx ⟨o2,o3,rfl,R⟩
    obtain ⟨n,hni,rfl⟩:=ints_at hx
    have ilt:i < ns.length:=(List.getElem?_eq_some_iff.mp hni).1
    have nlt:=stood_lt g ((hn n).mp (List.mem_of_getElem? hni))
    obtain ⟨v,r,ev,er,ra⟩:=hA.get nlt
    have r100:=hr100 r (List.mem_of_getElem? er)
    have S':=R.sm
    show t_p_rt_3 K _ [some (.ref rt),some (.ref d),some (.int (n:Nat)),o3] H'
    refine .inr ⟨_,rfl,_,rfl,ixT (S' _ _ hrt) (by lia) (show rvs[((n:Nat):Int).toNat]?=some v by simpa using ev) ⟨v,r,rfl,ra.mono (.of_same S'),fun p H4 hp4 s4=>⟨p,rfl,⟨_,SqT.of hp4⟩,?_⟩⟩⟩
    have R4:=R.same s4
    refine for_tup (xs:=(readsOf r).map V.str) (fun e σ' H'=>∃ (o3:Option V),σ'=[some (.ref rt),some (.ref d),some (.int (n:Nat)),o3]∧RdInv H l0 d rs ns H' i n (100 * i + e) ((readsOf r).take e)∧H' p=some (.tup ((readsOf r).map V.str))) ⟨_,rfl,?_,hp4⟩ ?_ ?_ ?_
    · obtain ⟨ys,ls,pss,a,b,c⟩:=R4.ex
      refine ⟨⟨ys,ls,pss,a,⟨b.nd,b.len,b.all,fun j y ps e1 e2=>?_⟩,c⟩,R4.sm,R4.l0⟩
      obtain ⟨h1,h2⟩:=b.at_ j y ps e1 e2
      refine ⟨fun x=>?_,h2⟩
      rw [h1 x]
      simp
    · rintro e σ' H' _ ⟨_,_,_,hp'⟩
      exact SqT.of hp'
    · rintro e x σ' H5 hx ⟨o5,rfl,R5,hp5⟩
      obtain ⟨y,hye,rfl⟩:=strs_at hx
      have elt:e < (readsOf r).length:=(List.getElem?_eq_some_iff.mp hye).1
      obtain ⟨ys,ls,pss,dl,rd,yl,hls⟩:=R5.ex
      have tk:(readsOf r).take (e + 1)=(readsOf r).take e++[y]:=by rw [List.take_succ,hye];rfl
      refine ⟨_,rfl,d,rfl,.inl ⟨_,.inl dl.at_⟩,_,rfl,(by show 0≤sizeLine;decide),fun l nl=>?_⟩
      have s6:Same H5 (upd H5 l (.lst [])):=(Same.refl H5).new nl
      have hl6:upd H5 l (.lst []) l=some (.lst []):=upd_same
      have l0l:l≠l0:=fun z=>by rw [z,R5.l0] at nl;cases nl
      have Hl:H l=none:=by
        cases ee:H l with
        | none=>rfl
        | some u=>rw [R5.sm _ _ ee] at nl;cases nl
      have nlls:l∉ls:=fun m=>by
        obtain ⟨j,hj⟩:=List.mem_iff_getElem?.mp m
        have jl:j < (pss.map intsV).length:=by rw [dl.l2,← dl.l1];exact (List.getElem?_eq_some_iff.mp hj).1
        rw [dl.vs j l _ hj (List.getElem?_eq_getElem jl)] at nl;cases nl
      generalize upd H5 l (.lst [])=H6 at s6 hl6 ⊢
      have dl6:=dl.same s6
      refine ⟨_,Sum.inr y,dl6.at_,rfl,smallL (by rw [List.length_zip,List.length_map,List.length_map];have:=Nat.min_le_left ys.length ls.length;lia),?_⟩
      by_cases c:y∈ys
      · obtain ⟨j,hj⟩:=List.mem_iff_getElem?.mp c
        obtain ⟨lj,v6,el,ev6,hlj,hval⟩:=dl6.get (j:=j) (k:=Sum.inr y) (by rw [List.getElem?_map,hj];rfl)
        obtain ⟨ps,eps,hps⟩:∃ ps,pss[j]?=some ps∧v6=intsV ps:=by
          rw [List.getElem?_map] at ev6
          cases ee:pss[j]? with
          | none=>rw [ee] at ev6;cases ev6
          | some ps=>rw [ee] at ev6;exact ⟨ps,rfl,(Option.some.inj ev6).symm⟩
        subst hps
        have bound:=(rd.at_ j _ ps hj eps).2
        refine ⟨fun w hw=>?_,fun z=>by rw [hval] at z;cases z⟩
        rw [hval] at hw;cases hw
        refine ⟨.inl ⟨rfl,_,SqL.of hlj⟩,_,rfl,lj,_,_,rfl,rfl,hlj,smallL (by rw [intsV_len];lia),_,rfl,?_,?_⟩
        · have ljls:=List.mem_of_getElem? el
          refine ⟨⟨ys,ls,pss.set j (ps++[n]),?_,by rw [tk];exact rd.old hj eps,by lia,hls⟩,?_,?_⟩
          · have:=dl6.app el ev6 (.int (n:Nat))
            rw [intsV_app] at this ⊢
            rw [← map_set_ints]
            exact this
          · exact fun b u ee=>by rw [upd_ne (ne_of_none ee (hls lj ljls).1)];exact s6 _ _ (R5.sm b u ee)
          · rw [upd_ne (Ne.symm (hls lj ljls).2)];exact s6 _ _ R5.l0
        · rw [upd_ne (ne_of (s6 _ _ hp5) hlj (by intro z;cases z))];exact s6 _ _ hp5
      · have nk:(Sum.inr y:Key)∉ys.map Sum.inr:=fun m=>by
          obtain ⟨y',m',e'⟩:=List.mem_map.mp m
          injection e' with e'
          exact c (by rw [← e'];exact m')
        obtain ⟨hval,dl7⟩:=dl6.add nk hl6 nlls
        refine ⟨fun w hw=>by rw [hval] at hw;(cases hw),fun _=>?_⟩
        have el:(ls++[l])[ls.length]?=some l:=by rw [List.getElem?_append_right (Nat.le_refl _),Nat.sub_self];rfl
        have lv:(pss.map intsV).length=ls.length:=by rw [dl.l2,dl.l1]
        have ev:(pss.map intsV++[[]])[ls.length]?=some []:=by rw [List.getElem?_append_right (by lia),lv,Nat.sub_self];rfl
        have dlt:d≠l:=ne_of dl6.at_ hl6 (by intro z;cases z)
        have hl7:=dl7.vs ls.length l [] el ev
        have s7:∀ b u,b≠d→H6 b=some u→upd H6 d (.dK (putK ((ys.map Sum.inr).zip (ls.map V.ref)) (Sum.inr y) (.ref l))) b=some u:=fun b u nb ee=>by rw [upd_ne nb];exact ee
        generalize upd H6 d (.dK (putK ((ys.map Sum.inr).zip (ls.map V.ref)) (Sum.inr y) (.ref l)))=H7 at dl7 hl7 s7 ⊢
        refine ⟨.inl ⟨rfl,_,SqL.of hl7⟩,_,rfl,l,_,_,rfl,rfl,hl7,(by show 0 < sizeLine;decide),_,rfl,?_,?_⟩
        · refine ⟨⟨ys++[y],ls++[l],pss++[[n]],?_,by rw [tk];exact rd.new c,by rw [List.length_append,List.length_singleton];lia,fun l' m=>?_⟩,?_,?_⟩
          · have:=dl7.app el ev (.int (n:Nat))
            rw [List.map_append,List.map_append]
            have es:(pss.map intsV++[[]]).set ls.length ([]++[V.int (n:Nat)])=pss.map intsV++[[n]].map intsV:=by
              rw [List.set_append_right _ _ (by lia),lv,Nat.sub_self];rfl
            rw [es] at this
            exact this
          · rcases List.mem_append.mp m with z | z
            · exact hls l' z
            · rw [List.mem_singleton.mp z];exact ⟨Hl,l0l⟩
          · exact fun b u ee=>by
              have bd:b≠d:=ne_of_none ee nd
              rw [upd_ne (ne_of_none ee Hl)]
              exact s7 b u bd (s6 _ _ (R5.sm b u ee))
          · rw [upd_ne (Ne.symm l0l)]
            exact s7 l0 _ (ne_of (s6 _ _ R5.l0) dl6.at_ (by intro z;cases z)) (s6 _ _ R5.l0)
        · have hp6:=s6 _ _ hp5
          have hp7:=s7 p _ (ne_of hp6 dl6.at_ (by intro z;cases z)) hp6
          rw [upd_ne (ne_of hp7 hl7 (by intro z;cases z))];exact hp7
    · rintro σ' H5 ⟨o5,rfl,R5,_⟩
      obtain ⟨ys,ls,pss,dl,rd,yl,hls⟩:=R5.ex
      rw [List.length_map,List.take_length] at rd
      rw [List.length_map] at yl
      exact ⟨_,_,rfl,⟨ys,ls,pss,dl,rd.next hni er (by lia) 0,by lia,hls⟩,R5.sm,R5.l0⟩
  · rintro σ' H4 ⟨o2,o3,rfl,R⟩
    obtain ⟨ys,ls,pss,dl,rd,yl,hls⟩:=R.ex
    rw [intsV_len] at rd
    exact ⟨_,rfl,q d ys ls pss H4 dl (rd.done hn (by lia)) nd (fun l m=>(hls l m).1) R.sm⟩
structure WnI (rs:List BRow) (y:Str) (P W:List Nat):Prop where
  nd:P.Nodup
  sound:∀ x,x∈P∨x∈W→Stood rs x∧Wnt rs y x
  seeds:∀ x,Stood rs x→Rds rs x y→x∈P∨x∈W
  closed:∀ n∈P,∀ m r,Stood rs m→Edge rs m n→rs[m]?=some r→setsOf r≠.str y→m∈P∨m∈W
theorem WnI.done {rs:List BRow} {y:Str} {P:List Nat} (g:RowsGood rs) (h:WnI rs y P []):∀ x,x∈P↔Stood rs x∧Wnt rs y x:=by
  have back:∀ x,Wnt rs y x→Stood rs x→x∈P:=by
    intro x w
    induction w with
    | @here n r hr hy=>
      intro s
      rcases h.seeds n s ⟨r,hr,hy⟩ with z | z
      · exact z
      · cases z
    | @on n t r hr hs he _ ih=>
      intro s
      have ht:=ih (stood_edge g s he)
      rcases h.closed t ht n r s he hr hs with z | z
      · exact z
      · cases z
  exact fun x=>⟨fun z=>h.sound x (.inl z),fun ⟨s,w⟩=>back x w s⟩
theorem WnI.skip {rs:List BRow} {y:Str} {P W:List Nat} {n:Nat} (h:WnI rs y P (W++[n])) (hn:n∈P):WnI rs y P W:=by
  have key:∀ x,x∈P∨x∈W++[n]→x∈P∨x∈W:=fun x z=>by
    rcases z with z | z
    · exact .inl z
    · rcases List.mem_append.mp z with z | z
      · exact .inr z
      · rw [List.mem_singleton.mp z];exact .inl hn
  exact ⟨h.nd,fun x z=>h.sound x (z.imp id fun z=>List.mem_append_left _ z),fun x a b=>key x (h.seeds x a b),fun n' a m r b c d e=>key m (h.closed n' a m r b c d e)⟩
theorem WnI.take {rs:List BRow} {y:Str} {P W qs:List Nat} {n:Nat} (h:WnI rs y P (W++[n])) (hn:n∉P) (hq:∀ m,m∈qs↔Stood rs m∧Edge rs m n∧∃ r,rs[m]?=some r∧setsOf r≠.str y):WnI rs y (P++[n]) (W++qs):=by
  have sn:=h.sound n (.inr (List.mem_append_right _ List.mem_cons_self))
  have key:∀ x,x∈P∨x∈W++[n]→x∈P++[n]∨x∈W++qs:=fun x z=>by
    rcases z with z | z
    · exact .inl (List.mem_append_left _ z)
    · rcases List.mem_append.mp z with z | z
      · exact .inr (List.mem_append_left _ z)
      · exact .inl (List.mem_append_right _ z)
  refine ⟨nd_snoc h.nd hn,fun x z=>?_,fun x a b=>key x (h.seeds x a b),fun n' a m r b c d e=>?_⟩
  · rcases z with z | z
    · rcases List.mem_append.mp z with z | z
      · exact h.sound x (.inl z)
      · rw [List.mem_singleton.mp z];exact sn
    · rcases List.mem_append.mp z with z | z
      · exact h.sound x (.inr (List.mem_append_left _ z))
      · obtain ⟨a,b,r,c,d⟩:=(hq x).mp z
        exact ⟨a,.on c d b sn.2⟩
  · rcases List.mem_append.mp a with z | z
    · exact key m (h.closed n' z m r b c d e)
    · rw [List.mem_singleton.mp z] at c
      exact .inr (List.mem_append_right _ ((hq m).mpr ⟨b,c,r,d,e⟩))
def noSet (rs:List BRow) (y:Str) (m:Nat):Bool:=match rs[m]? with
  | some r=>!decide (setsOf r=.str y)
  | none=>false
theorem sets_scal (r:BRow) (y:Str):scal (setsOf r) (.str y)=true:=by cases r <;> rfl
theorem keyF_keys (F:List Nat):(keyF F).map (fun kv=>kV kv.1)=intsV F:=by
  unfold keyF intsV
  rw [List.map_map];rfl
theorem r_p_rw {K:Fg} {vs:List V} {H:Hp} {Q:VK} {E:XK} (h:sp_p_rw K vs H Q E):t_p_rw K { nx:=fun _ H'=>Q .non H',rt:=Q } (start N_p_rw vs) H:=by
  obtain ⟨rt,d,rl,y,rvs,rs,ns,ls,pss,ps,rfl,hrt,hA,g,hn,hp,dl,ah,hrl,hps,psl,q⟩:=h
  have nlen:ns.length≤64:=by
    have:=nodup_lt (n:=rs.length) (l:=ns) (hp.imp fun z=>Nat.ne_of_lt z) fun x hx=>stood_lt g ((hn x).mp hx)
    have:=g.few
    lia
  refine fun pd npd=>?_
  have s0:Same H (upd H pd (.dK [])):=(Same.refl H).new npd
  have hpd:upd H pd (.dK []) pd=some (.dK (keyF [])):=upd_same
  show t_p_rw_6 K _ [some (.ref rt),some (.ref d),some (.ref rl),some (.str y),some (.ref pd),none,none] (upd H pd (.dK []))
  generalize upd H pd (.dK [])=H1 at s0 hpd ⊢
  refine ⟨_,rfl,rl,_,rfl,.inl (SqL.of (s0 _ _ hrl)),fun wl nwl=>?_⟩
  have s1:Same H1 (upd H1 wl (.lst (intsV ps))):=(Same.refl H1).new nwl
  have hwl:upd H1 wl (.lst (intsV ps)) wl=some (.lst (intsV ps)):=upd_same
  have Hwl:H wl=none:=by
    cases ee:H wl with
    | none=>rfl
    | some u=>rw [s0 _ _ ee] at nwl;cases nwl
  have npw:pd≠wl:=ne_of_none hpd nwl
  show t_p_rw_5 K _ [some (.ref rt),some (.ref d),some (.ref rl),some (.str y),some (.ref pd),some (.ref wl),none] (upd H1 wl (.lst (intsV ps)))
  have hpd2:=s1 _ _ hpd
  have S0:=s0.trans s1
  generalize upd H1 wl (.lst (intsV ps))=H2 at s1 hwl hpd2 S0 ⊢
  refine ⟨fun u σ' H'=>∃ (P W:List Nat) (o:Option V),u=(65 - P.length) * 200 + W.length∧σ'=[some (.ref rt),some (.ref d),some (.ref rl),some (.str y),some (.ref pd),some (.ref wl),o]∧WnI rs y P W∧W.length≤6400 + 128 * P.length∧H' pd=some (.dK (keyF P))∧H' wl=some (.lst (intsV W))∧Same H H',⟨_,[],ps,_,rfl,rfl,⟨List.nodup_nil,fun x z=>?_,fun x a b=>.inr ((hps x).mpr ⟨a,b⟩),fun n z=>by (cases z)⟩,by lia,hpd2,hwl,S0⟩,?_⟩
  · rcases z with z | z
    · cases z
    · obtain ⟨a,r,b,c⟩:=(hps x).mp z
      exact ⟨a,.here b c⟩
  rintro u σ' H' ⟨P,W,o,rfl,rfl,I,wb,hpd',hwl',S'⟩
  have Pb:∀ (P':List Nat),P'.Nodup→(∀ x∈P',Stood rs x)→P'.length≤64:=fun P' a b=>by
    have:=nodup_lt (n:=rs.length) a fun x hx=>stood_lt g (b x hx)
    have:=g.few
    lia
  have pl:=Pb P I.nd fun x hx=>(I.sound x (.inl hx)).1
  refine ⟨_,rfl,_,_,rfl,.inl ⟨_,SqL.of hwl',rfl⟩,_,_,rfl,rfl,_,rfl,if_dec (fun hw=>?_) fun hw=>?_⟩
  · rw [intsV_len] at hw
    obtain ⟨W',n,rfl⟩:∃ W' n,W=W'++[n]:=by
      rcases List.eq_nil_or_concat W with z | ⟨a,b,z⟩
      · rw [z] at hw;simp at hw
      · exact ⟨a,b,by rw [z,List.concat_eq_append]⟩
    have wl1:(W'++[n]).length=W'.length + 1:=by rw [List.length_append];rfl
    have stn:=I.sound n (.inr (List.mem_append_right _ List.mem_cons_self))
    refine ⟨fun σ2 H3=>∃ (P2 W2:List Nat) (o:Option V),(65 - P2.length) * 200 + W2.length < (65 - P.length) * 200 + (W'++[n]).length∧σ2=[some (.ref rt),some (.ref d),some (.ref rl),some (.str y),some (.ref pd),some (.ref wl),o]∧WnI rs y P2 W2∧W2.length≤6400 + 128 * P2.length∧H3 pd=some (.dK (keyF P2))∧H3 wl=some (.lst (intsV W2))∧Same H H3,?_,?_⟩
    · rintro σ2 H3 ⟨P2,W2,o2,lt,e,r⟩
      exact ⟨_,lt,P2,W2,o2,rfl,e,r⟩
    · refine ⟨_,rfl,.inl ⟨rfl,_,SqL.of hwl'⟩,wl,_,.int (n:Nat),rfl,rfl,hwl',?_,?_⟩
      · rw [intsV_len,wl1,Nat.add_sub_cancel]
        exact intsV_get (by rw [List.getElem?_append_right (Nat.le_refl _),Nat.sub_self];rfl)
      have ed:(intsV (W'++[n])).dropLast=intsV W':=by rw [← intsV_app,List.dropLast_concat]
      rw [ed]
      have h3p:upd H' wl (.lst (intsV W')) pd=some (.dK (keyF P)):=by rw [upd_ne npw];exact hpd'
      have h3w:upd H' wl (.lst (intsV W')) wl=some (.lst (intsV W')):=upd_same
      have S3:Same H (upd H' wl (.lst (intsV W'))):=fun b u e=>by rw [upd_ne (ne_of_none e Hwl)];exact S' b u e
      show t_p_rw_3 K _ [some (.ref rt),some (.ref d),some (.ref rl),some (.str y),some (.ref pd),some (.ref wl),some (.int (n:Nat))] (upd H' wl (.lst (intsV W')))
      generalize upd H' wl (.lst (intsV W'))=H3 at h3p h3w S3 ⊢
      refine ⟨_,rfl,_,rfl,pd,_,rfl,DGet.k (k:=Sum.inl (n:Int)) h3p,_,rfl,?_⟩
      show if (!(valV (keyF P) (Sum.inl (n:Int))).isSome)=true then _ else _
      rw [valF]
      refine if_not (fun hin=>?_) (fun hin=>?_)
      · have pl2:=Pb (P++[n]) (nd_snoc I.nd hin) fun x hx=>by
          rcases List.mem_append.mp hx with z | z
          · exact (I.sound x (.inl z)).1
          · rw [List.mem_singleton.mp z];exact stn.1
        have pl3:(P++[n]).length=P.length + 1:=by rw [List.length_append];rfl
        refine ⟨_,rfl,_,rfl,pd,_,rfl,DPut.k (k:=Sum.inl (n:Int)) h3p (smallL (by rw [keyF_len];lia)),?_⟩
        rw [Bg.putF hin]
        have h4p:upd H3 pd (.dK (keyF (P++[n]))) pd=some (.dK (keyF (P++[n]))):=upd_same
        have h4w:upd H3 pd (.dK (keyF (P++[n]))) wl=some (.lst (intsV W')):=by rw [upd_ne (Ne.symm npw)];exact h3w
        have S4:Same H (upd H3 pd (.dK (keyF (P++[n])))):=fun b u e=>by rw [upd_ne (ne_of_none e npd)];exact S3 b u e
        generalize upd H3 pd (.dK (keyF (P++[n])))=H4 at h4p h4w S4 ⊢
        have dl4:=dl.same S4
        obtain ⟨j,hj⟩:=List.mem_iff_getElem?.mp ((hn n).mpr stn.1)
        obtain ⟨l,v5,el,ev5,hl5,hval⟩:=dl4.get (j:=j) (k:=nk n) (by rw [List.getElem?_map,hj];rfl)
        obtain ⟨qs,eqs,hqs⟩:∃ qs,pss[j]?=some qs∧v5=intsV qs:=by
          rw [List.getElem?_map] at ev5
          cases ee:pss[j]? with
          | none=>rw [ee] at ev5;cases ev5
          | some qs=>rw [ee] at ev5;exact ⟨qs,rfl,(Option.some.inj ev5).symm⟩
        subst hqs
        obtain ⟨aq,lq⟩:=ah.at_ j n qs hj eqs
        have gg:=DGet.k (k:=nk n) dl4.at_
        rw [hval] at gg
        show t_p_rw_2 K _ [some (.ref rt),some (.ref d),some (.ref rl),some (.str y),some (.ref pd),some (.ref wl),some (.int (n:Nat))] H4
        refine ⟨_,rfl,.inl ⟨rfl,_,SqL.of h4w⟩,.inl ⟨_,rfl,_,rfl,d,.ref l,rfl,gg,l,rfl,⟨_,SqL.of hl5⟩,fun D nD=>?_⟩⟩
        refine comp_list (xs:=intsV qs) (fun i σ' H'=>∃ (o7:Option V),σ'=[some (.ref rt),some (.ref d),some (.ref rl),some (.str y),some (.ref pd),some (.ref wl),some (.int (n:Nat)),o7]∧H' D=some (.lst (intsV ((qs.take i).filter (noSet rs y))))∧Same H4 H') ?_ ?_ ?_ ?_
        · exact ⟨none,rfl,upd_same,(Same.refl H4).new nD⟩
        · rintro i σ' H5 _ ⟨o7,_,_,s5⟩
          exact SqL.of (s5 _ _ hl5)
        · rintro i x σ' H5 hx ⟨o7,rfl,hD,s5⟩
          obtain ⟨m,hmi,rfl⟩:=ints_at hx
          have stm:=((aq m).mp (List.mem_of_getElem? hmi)).1
          obtain ⟨v,r,ev,er,ra⟩:=hA.get (stood_lt g stm)
          have S5:=S4.trans s5
          have fl:((qs.take i).filter (noSet rs y)).length≤qs.length:=Nat.le_trans (List.length_filter_le _ _) (by rw [List.length_take];exact Nat.min_le_right _ _)
          refine ⟨_,rfl,_,rfl,ixT (S5 _ _ hrt) (by lia) (show rvs[((m:Nat):Int).toNat]?=some v by simpa using ev) ⟨v,r,rfl,ra.mono (.of_same S5),fun H6 s6=>⟨_,rfl,.inl ⟨sets_scal r y,_,rfl,?_⟩⟩⟩⟩
          have ns':noSet rs y m=!decide (setsOf r=.str y):=by unfold noSet;rw [er]
          have tk:(qs.take (i + 1)).filter (noSet rs y)=(qs.take i).filter (noSet rs y)++if noSet rs y m=true then [m] else []:=by
            rw [List.take_succ,hmi,List.filter_append]
            congr 1
            show [m].filter _=_
            rw [List.filter_cons]
            split <;> simp_all
          refine if_not (fun hs=>?_) (fun hs=>?_)
          · rw [decide_eq_false hs] at ns'
            refine ⟨_,rfl,_,s6 _ _ hD,smallL (by rw [intsV_len];lia),_,rfl,?_,?_⟩
            · rw [upd_same,tk,ns',intsV_app];rfl
            · exact fun b u e=>by rw [upd_ne (ne_of_none e nD)];exact s6 _ _ (s5 b u e)
          · rw [decide_eq_true hs] at ns'
            refine ⟨_,rfl,?_,s5.trans s6⟩
            rw [tk,ns']
            simpa using s6 _ _ hD
        · rintro σ' H5 ⟨o7,_,hD,s5⟩
          rw [intsV_len,List.take_length] at hD
          have fl:(qs.filter (noSet rs y)).length≤qs.length:=List.length_filter_le _ _
          have nDw:D≠wl:=fun z=>by rw [z,h4w] at nD;cases nD
          refine ⟨wl,D,_,_,rfl,rfl,s5 _ _ h4w,hD,Nat.le_of_lt (smallL (by rw [intsV_len,intsV_len];lia)),?_⟩
          have ea:intsV W'++intsV (qs.filter (noSet rs y))=intsV (W'++qs.filter (noSet rs y)):=by unfold intsV;rw [List.map_append]
          rw [ea]
          refine ⟨P++[n],W'++qs.filter (noSet rs y),_,by rw [pl3,wl1,List.length_append];lia,rfl,I.take hin fun m=>?_,by rw [pl3,List.length_append];lia,by rw [upd_ne npw];exact s5 _ _ h4p,upd_same,fun b u e=>by rw [upd_ne (ne_of_none e Hwl)];exact s5 _ _ (S4 b u e)⟩
          rw [List.mem_filter,aq m]
          unfold noSet
          constructor
          · rintro ⟨⟨a,b⟩,c⟩
            refine ⟨a,b,?_⟩
            cases ee:rs[m]? with
            | none=>rw [ee] at c;cases c
            | some r=>rw [ee] at c;exact ⟨r,rfl,by simpa using c⟩
          · rintro ⟨a,b,r,c,d⟩
            refine ⟨⟨a,b⟩,?_⟩
            rw [c]
            simpa using d
      · exact ⟨P,W',_,by lia,rfl,I.skip hin,by lia,h3p,h3w,S3⟩
  · have w0:W=[]:=by
      rw [intsV_len] at hw
      exact List.length_eq_zero_iff.mp (by lia)
    subst w0
    refine ⟨_,rfl,pd,_,rfl,.inl hpd',fun l nl=>?_⟩
    have Hl:H l=none:=by
      cases ee:H l with
      | none=>rfl
      | some u=>rw [S' _ _ ee] at nl;cases nl
    rw [keyF_keys]
    exact q l P _ (I.done g) I.nd upd_same Hl (S'.trans ((Same.refl H').new nl))
theorem comp_keys {js:List Nat} {k:Nat} {d:Addr} {kvs:List (Key × V)} {o:Obj} {g:TG} {tc:TT} {te:TE} {R:Hp→Prop} {σ:St} {H:Hp} {D:Addr} (Pv:Nat→St→Hp→Prop) (h0:Pv 0 (emS js k σ) (upd H D (.lst []))) (hl:∀ i σ H,i≤kvs.length→Pv i σ H→H d=some (.frz o (.dK kvs)))
    (hs:∀ i kk v σ H,kvs[i]?=some (kk,v)→Pv i σ H→g (kV kk) σ H fun σ2 H2=>sApp D tc te { nx:=Pv (i + 1),rt:=fun _ _=>False,ct:=Pv (i + 1),bk:=fun _ H'=>R H' } σ2 H2) (hd:∀ σ H,Pv kvs.length σ H→R H) :
    ∃ W:Nat→Nat→St→Hp→Prop,(∃ m,W 0 m (emS js k σ) (upd H D (.lst [])))∧∀ i m σ H,W i m σ H→
      ((Itk d kvs o).stop i H∧R H)∨((Itk d kvs o).go i H∧∃ N:St→Hp→Prop,(∀ σ' H',N σ' H'→∃ m',m' < m∧W (i + 1) m' σ' H')∧∀ x H',(Itk d kvs o).yld i H x H'→g x σ H' fun σ2 H2=>sApp D tc te { nx:=N,rt:=fun _ _=>False,ct:=N,bk:=fun _ H'=>R H' } σ2 H2):=by
  refine ⟨fun i m σ H=>m=kvs.length - i∧i≤kvs.length∧Pv i σ H,⟨kvs.length,by simp,Nat.zero_le _,h0⟩,?_⟩
  rintro i m σ H ⟨rfl,hi,p⟩
  have q:=hl i σ H hi p
  by_cases c:i < kvs.length
  · refine .inr ⟨⟨q,c⟩,Pv (i + 1),fun σ' H' p'=>⟨kvs.length - (i + 1),by omega,rfl,c,p'⟩,?_⟩
    rintro x H' ⟨rfl,kk,v,e,rfl⟩
    exact hs i kk v σ _ e p
  · have:i=kvs.length:=by omega
    subst this
    exact .inl ⟨⟨q,Nat.le_refl _⟩,hd σ H p⟩
theorem comp_items {js:List Nat} {k:Nat} {d:Addr} {kvs:List (Key × V)} {o:Obj} {g:TG} {tc:TT} {te:TE} {R:Hp→Prop} {σ:St} {H:Hp} {D:Addr} (Pv:Nat→St→Hp→Prop) (h0:Pv 0 (emS js k σ) (upd H D (.lst []))) (hl:∀ i σ H,i≤kvs.length→Pv i σ H→H d=some (.frz o (.dK kvs)))
    (hs:∀ i kk v p σ H,kvs[i]?=some (kk,v)→H p=none→Pv i σ H→g (.ref p) σ (upd H p (.tup [kV kk,v])) fun σ2 H2=>sApp D tc te { nx:=Pv (i + 1),rt:=fun _ _=>False,ct:=Pv (i + 1),bk:=fun _ H'=>R H' } σ2 H2) (hd:∀ σ H,Pv kvs.length σ H→R H) :
    ∃ W:Nat→Nat→St→Hp→Prop,(∃ m,W 0 m (emS js k σ) (upd H D (.lst [])))∧∀ i m σ H,W i m σ H→
      ((Iti d kvs o).stop i H∧R H)∨((Iti d kvs o).go i H∧∃ N:St→Hp→Prop,(∀ σ' H',N σ' H'→∃ m',m' < m∧W (i + 1) m' σ' H')∧∀ x H',(Iti d kvs o).yld i H x H'→g x σ H' fun σ2 H2=>sApp D tc te { nx:=N,rt:=fun _ _=>False,ct:=N,bk:=fun _ H'=>R H' } σ2 H2):=by
  refine ⟨fun i m σ H=>m=kvs.length - i∧i≤kvs.length∧Pv i σ H,⟨kvs.length,by simp,Nat.zero_le _,h0⟩,?_⟩
  rintro i m σ H ⟨rfl,hi,p⟩
  have q:=hl i σ H hi p
  by_cases c:i < kvs.length
  · refine .inr ⟨⟨q,c⟩,Pv (i + 1),fun σ' H' p'=>⟨kvs.length - (i + 1),by omega,rfl,c,p'⟩,?_⟩
    rintro x H' ⟨pp,kk,v,e1,rfl,rfl,e2⟩
    exact hs i kk v pp σ _ e2 e1 p
  · have:i=kvs.length:=by omega
    subst this
    exact .inl ⟨⟨q,Nat.le_refl _⟩,hd σ H p⟩
theorem Prs.thaw {H2 H:Hp} {D d:Addr} {o:Obj} {kvs:List (Key × V)} {ks:List Key} {ts ls:List Addr} (p:Prs (upd H2 d (.frz o (.dK kvs))) H D ks ts ls) (e:H2 d=some (.dK kvs)) (nD:D≠d) (hf:H d=some (.frz o (.dK kvs))):Prs H2 (upd H d (.dK kvs)) D ks ts ls:=by
  refine ⟨by rw [upd_ne nD];exact p.at_,p.l1,p.l2,p.ln,fun j t k l e1 e2 e3=>?_,fun l m=>?_,fun b u nb eb=>?_⟩
  · have:=p.pr j t k l e1 e2 e3
    rw [upd_ne (ne_of this hf (by intro z;cases z))];exact this
  · obtain ⟨a,b,c⟩:=p.em l m
    have ld:l≠d:=ne_of a hf (by intro z;cases z)
    rw [upd_ne ld] at c ⊢
    exact ⟨a,b,c⟩
  · by_cases c:b=d
    · subst c
      rw [e] at eb;cases eb
      exact upd_same
    · rw [upd_ne c]
      exact p.sm b u nb (by rw [upd_ne c];exact eb)
theorem wnt_read {rs:List BRow} (g:RowsGood rs) {y:Str} {n:Nat} (w:Wnt rs y n):Stood rs n→∃ x,Stood rs x∧Rds rs x y:=by
  induction w with
  | @here n r hr h=>exact fun s=>⟨n,s,r,hr,h⟩
  | @on n t r hr hs he _ ih=>exact fun s=>ih (stood_edge g s he)
theorem len_le {l:List Str}:∀ {zs:List Str},l.Nodup→(∀ y∈l,y∈zs)→l.length≤zs.length:=by
  induction l with
  | nil=>intro zs _ _;exact Nat.zero_le _
  | cons a r ih=>
    intro zs nd h
    obtain ⟨na,nr⟩:=List.nodup_cons.mp nd
    have ha:a∈zs:=h a List.mem_cons_self
    have:=ih (zs:=zs.erase a) nr fun y hy=>(List.mem_erase_of_ne (fun z=>na (by rw [← z];exact hy))).mpr (h y (List.mem_cons_of_mem _ hy))
    rw [List.length_erase_of_mem ha] at this
    have:0 < zs.length:=List.length_pos_of_mem ha
    simp only [List.length_cons]
    omega
structure WTo (rs:List BRow) (ns:List Nat) (ss:List Str) (wss:List (List Str)) (i:Nat) (y:Str) (qs:List Nat):Prop where
  len:wss.length=ns.length
  at_:∀ (j n:Nat) ws,ns[j]?=some n→wss[j]?=some ws→∃ w0,w0.Sublist (ss.take i)∧(∀ z,z∈w0↔z∈ss.take i∧Wnt rs z n)∧((n∈qs∧ws=w0++[y])∨(n∉qs∧ws=w0))
theorem WTo.add {rs:List BRow} {ns:List Nat} {ss:List Str} {wss:List (List Str)} {i:Nat} {y:Str} {qs:List Nat} (h:WTo rs ns ss wss i y qs) (nd:ns.Nodup) {n j:Nat} {ws:List Str} (hj:ns[j]?=some n) (hw:wss[j]?=some ws) (hn:n∉qs):WTo rs ns ss (wss.set j (ws++[y])) i y (qs++[n]):=by
  refine ⟨by rw [List.length_set];exact h.len,fun j' n' ws' e1 e2=>?_⟩
  by_cases c:j'=j
  · subst c
    rw [hj] at e1;cases e1
    rw [List.getElem?_set_self (List.getElem?_eq_some_iff.mp hw).1] at e2
    cases e2
    obtain ⟨w0,a,b,d | d⟩:=h.at_ j' n ws hj hw
    · exact absurd d.1 hn
    · exact ⟨w0,a,b,.inl ⟨List.mem_append_right _ List.mem_cons_self,by rw [d.2]⟩⟩
  · rw [List.getElem?_set_ne (Ne.symm c)] at e2
    obtain ⟨w0,a,b,d⟩:=h.at_ j' n' ws' e1 e2
    have ne:n'≠n:=fun z=>by
      subst z
      obtain ⟨a1,a2⟩:=List.getElem?_eq_some_iff.mp e1
      obtain ⟨b1,b2⟩:=List.getElem?_eq_some_iff.mp hj
      exact c ((List.getElem_inj nd).mp (a2.trans b2.symm))
    refine ⟨w0,a,b,d.imp (fun z=>⟨List.mem_append_left _ z.1,z.2⟩) fun z=>⟨fun m=>?_,z.2⟩⟩
    rcases List.mem_append.mp m with z' | z'
    · exact z.1 z'
    · exact ne (List.mem_singleton.mp z')
theorem WTo.next {rs:List BRow} {ns:List Nat} {ss:List Str} {wss:List (List Str)} {i:Nat} {y y':Str} {qs:List Nat} (h:WTo rs ns ss wss i y qs) (hs:∀ n∈ns,Stood rs n) (hy:ss[i]?=some y) (hq:∀ x,x∈qs↔Stood rs x∧Wnt rs y x):WTo rs ns ss wss (i + 1) y' []:=by
  have tk:ss.take (i + 1)=ss.take i++[y]:=by rw [List.take_succ,hy];rfl
  refine ⟨h.len,fun j n ws e1 e2=>?_⟩
  have sn:=hs n (List.mem_of_getElem? e1)
  obtain ⟨w0,a,b,⟨c,rfl⟩ | ⟨c,rfl⟩⟩:=h.at_ j n ws e1 e2
  · refine ⟨w0++[y],by rw [tk];exact a.append (List.Sublist.refl _),fun z=>?_,.inr ⟨by simp,rfl⟩⟩
    rw [tk,List.mem_append,List.mem_append,b z,List.mem_singleton]
    constructor
    · rintro (z1 | rfl)
      · exact ⟨.inl z1.1,z1.2⟩
      · exact ⟨.inr rfl,((hq n).mp c).2⟩
    · rintro ⟨z1 | z1,z2⟩
      · exact .inl ⟨z1,z2⟩
      · exact .inr z1
  · refine ⟨ws,by rw [tk];exact a.trans (List.sublist_append_left _ _),fun z=>?_,.inr ⟨by simp,rfl⟩⟩
    rw [tk,List.mem_append,b z,List.mem_singleton]
    constructor
    · exact fun z1=>⟨.inl z1.1,z1.2⟩
    · rintro ⟨z1 | rfl,z2⟩
      · exact ⟨z1,z2⟩
      · exact absurd ((hq n).mpr ⟨sn,z2⟩) c
theorem WTo.done {rs:List BRow} (g:RowsGood rs) {ns:List Nat} {ss ys:List Str} {wss:List (List Str)} {pss:List (List Nat)} {y:Str} (hs:∀ n∈ns,Stood rs n) (h:WTo rs ns ss wss ss.length y []) (rd:Readers rs ys pss) (pm:ss.Perm ys) (srt:PyProof.Rows.sortedS ss=true):Want rs ns wss ss:=by
  refine ⟨srt,pm.symm.nodup rd.nd,h.len,fun j n ws e1 e2=>?_⟩
  have sn:=hs n (List.mem_of_getElem? e1)
  obtain ⟨w0,a,b,⟨c,_⟩ | ⟨_,rfl⟩⟩:=h.at_ j n ws e1 e2
  · cases c
  · rw [List.take_length] at a b
    refine ⟨a,fun z=>?_⟩
    rw [b z]
    exact ⟨fun q=>q.2,fun q=>⟨pm.mem_iff.mpr ((rd.all z).mpr (wnt_read g q sn)),q⟩⟩
def strsV (ws:List Str):List V:=ws.map V.str
theorem strsV_app (ws:List Str) (y:Str):strsV ws++[.str y]=strsV (ws++[y]):=by unfold strsV;rw [List.map_append];rfl
structure FdInv (Hb:Hp) (fd sl:Addr) (fls:List Addr) (rs:List BRow) (ns:List Nat) (ss:List Str) (H':Hp) (i:Nat) (y:Str) (qs:List Nat):Prop where
  ex:∃ wss:List (List Str),DL H' fd (ns.map nk) fls (wss.map strsV)∧WTo rs ns ss wss i y qs
  sm:Same Hb H'
  sl:H' sl=some (.lst (ss.map V.str))
theorem r_p_wanted {K:Fg} {vs:List V} {H:Hp} {Q:VK} {E:XK} (h:sp_p_wanted K vs H Q E):t_p_wanted K { nx:=fun _ H'=>Q .non H',rt:=Q } (start N_p_wanted vs) H:=by
  obtain ⟨rt,rvs,rs,zs,rfl,hrt,hA,g,hr100,hz64,hzs,q⟩:=h
  refine ⟨_,rfl,rt,rvs,rs,rfl,hrt,hA,g,fun d ns ls pss H1 hn hp dl ah nd nls s1=>?_⟩
  refine ⟨_,rfl,rt,rvs,rs,rfl,s1 _ _ hrt,hA.imp fun _ _ z=>z.mono (.of_same s1),g,hr100,fun d2 ys ls2 pss2 H2 dl2 rd nd2 nls2 s2=>?_⟩
  have S2:=s1.trans s2
  have dl':=dl.same s2
  have nnd:ns.Nodup:=hp.imp fun z=>Nat.ne_of_lt z
  have hst:∀ n∈ns,Stood rs n:=fun n m=>(hn n).mp m
  have nlen:ns.length≤64:=by
    have:=nodup_lt (n:=rs.length) (l:=ns) nnd fun x hx=>stood_lt g (hst x hx)
    have:=g.few
    lia
  have y64:ys.length < 64:=by
    have:=len_le (zs:=zs) rd.nd fun y hy=>by
      obtain ⟨x,sx,r,er,yr⟩:=(rd.all y).mp hy
      exact hzs r (List.mem_of_getElem? er) y yr
    lia
  show t_p_wanted_5 K _ [some (.ref rt),some (.ref d),some (.ref d2),none,none,none] H2
  refine ⟨_,rfl,d,_,rfl,dl'.at_,fun o D nD=>?_⟩
  have zl:((ns.map nk).zip (ls.map V.ref)).length=ns.length:=by rw [List.length_zip,List.length_map,List.length_map,dl'.l1,List.length_map,Nat.min_self]
  have hf:upd H2 d (.frz o (.dK ((ns.map nk).zip (ls.map V.ref)))) d=some (.frz o (.dK ((ns.map nk).zip (ls.map V.ref)))):=upd_same
  have Dd:D≠d:=fun z=>by rw [z,hf] at nD;cases nD
  refine comp_keys (fun i σ' H'=>∃ (ts ls':List Addr) (o5:Option V),σ'=[some (.ref rt),some (.ref d),some (.ref d2),none,none,o5]∧Prs (upd H2 d (.frz o (.dK ((ns.map nk).zip (ls.map V.ref))))) H' D ((ns.take i).map nk) ts ls') ?_ ?_ ?_ ?_
  · exact ⟨[],[],none,rfl,Prs.nil nD⟩
  · rintro i σ' H' _ ⟨ts,ls',o5,_,p⟩
    exact p.sm d _ (Ne.symm Dd) hf
  · rintro i kk v σ' H' e ⟨ts,ls',o5,rfl,p⟩
    have il:i < ns.length:=by have:=(List.getElem?_eq_some_iff.mp e).1;lia
    have ek:kk=nk ns[i]:=by
      rw [List.getElem?_eq_getElem (by rw [zl];exact il),List.getElem_zip,List.getElem_map] at e
      exact (congrArg Prod.fst (Option.some.inj e)).symm
    subst ek
    refine app_yes ⟨_,rfl,(by show 0≤sizeLine;decide),fun l nl=>⟨(by show 2≤sizeLine;decide),fun t nt=>?_⟩⟩
    have st:=p.step nD (k:=nk ns[i]) nl nt
    have lD:l≠D:=fun z=>by rw [z,p.at_] at nl;cases nl
    have tl:t≠l:=fun z=>by rw [z,upd_same] at nt;cases nt
    have tD:t≠D:=fun z=>by rw [z,upd_ne (Ne.symm lD),p.at_] at nt;cases nt
    refine ⟨ts.map V.ref,by rw [upd_ne (Ne.symm tD),upd_ne (Ne.symm lD)];exact p.at_,smallL (by rw [List.length_map,p.l1,List.length_map,List.length_take];lia),ts++[t],ls'++[l],_,rfl,?_⟩
    rw [List.take_succ,List.getElem?_eq_getElem il,List.map_append]
    exact st
  · rintro σ' H3 ⟨ts,ls',o5,_,p⟩
    rw [zl,List.take_length] at p
    have hf3:=p.sm d _ (Ne.symm Dd) hf
    refine .inr ⟨d,_,_,o,dl'.at_,hf3,?_⟩
    have p2:=p.thaw dl'.at_ Dd hf3
    have nD2:H2 D=none:=by rw [upd_ne Dd] at nD;exact nD
    show tNil _ _ _
    unfold tNil
    dsimp only
    refine p2.dict nD2 (nk_nodup hp) (by rw [List.length_map];lia) fun fd H4 nfd nfls fl s4=>?_
    rw [List.length_map] at fl
    have S4:=S2.trans s4
    show t_p_wanted_4 K _ [some (.ref rt),some (.ref d),some (.ref d2),some (.ref fd),none,none] H4
    have dl4:=dl'.same s4
    have d24:=dl2.same s4
    have km:(((ys.map Sum.inr).zip (ls2.map V.ref)).map (·.1):List Key)=ys.map Sum.inr:=by
      rw [List.map_fst_zip]
      have:=d24.l1
      rw [List.length_map] at this ⊢
      rw [List.length_map]
      lia
    refine .inl ⟨_,rfl,d2,_,ys,rfl,.inl d24.at_,km,y64,fun sl ss nsl pm srt=>⟨sl,rfl,⟨_,SqL.of upd_same⟩,?_⟩⟩
    have s5:Same H4 (upd H4 sl (.lst (ss.map V.str))):=(Same.refl H4).new nsl
    have hsl:upd H4 sl (.lst (ss.map V.str)) sl=some (.lst (ss.map V.str)):=upd_same
    have fslne:∀ l∈ls',l≠sl:=fun l m z=>by
      obtain ⟨j,hj⟩:=List.mem_iff_getElem?.mp m
      have jl:j < (List.replicate ns.length ([]:List V)).length:=by rw [fl.l2,← fl.l1];exact (List.getElem?_eq_some_iff.mp hj).1
      have:=fl.vs j l _ hj (List.getElem?_eq_getElem jl)
      rw [z,nsl] at this;cases this
    have sslen:ss.length < 64:=by rw [pm.length_eq];exact y64
    refine for_list (xs:=ss.map V.str) (fun i σ' H'=>∃ (o4 o5:Option V),σ'=[some (.ref rt),some (.ref d),some (.ref d2),some (.ref fd),o4,o5]∧FdInv H2 fd sl ls' rs ns ss H' i "" []) ⟨_,_,rfl,⟨List.replicate ns.length [],?_,⟨List.length_replicate,fun j n ws e1 e2=>?_⟩⟩,s4.trans s5,hsl⟩ ?_ ?_ ?_
    · rw [List.map_replicate]
      exact fl.same s5
    · have hv:ws=[]:=(List.mem_replicate.mp (List.mem_of_getElem? e2)).2
      subst hv
      exact ⟨[],List.nil_sublist _,fun z=>by simp,.inr ⟨by simp,rfl⟩⟩
    · rintro i σ' H' _ ⟨o4,o5,_,F⟩
      exact SqL.of F.sl
    · rintro i x σ' H' hx ⟨o4,o5,rfl,F⟩
      obtain ⟨y,hyi,rfl⟩:=strs_at hx
      have yin:y∈ys:=pm.mem_iff.mp (List.mem_of_getElem? hyi)
      obtain ⟨jy,hjy⟩:=List.mem_iff_getElem?.mp yin
      have SF:=S2.trans F.sm
      have dF:=dl'.same F.sm
      have d2F:=dl2.same F.sm
      obtain ⟨l,v5,el,ev5,hl5,hval⟩:=d2F.get (j:=jy) (k:=Sum.inr y) (by rw [List.getElem?_map,hjy];rfl)
      obtain ⟨ps,eps,hps⟩:∃ ps,pss2[jy]?=some ps∧v5=intsV ps:=by
        rw [List.getElem?_map] at ev5
        cases ee:pss2[jy]? with
        | none=>rw [ee] at ev5;cases ev5
        | some ps=>rw [ee] at ev5;exact ⟨ps,rfl,(Option.some.inj ev5).symm⟩
      subst hps
      obtain ⟨hpr,pb⟩:=rd.at_ jy y ps hjy eps
      have gg:=DGet.k (k:=Sum.inr y) d2F.at_
      rw [hval] at gg
      show t_p_wanted_3 K _ [some (.ref rt),some (.ref d),some (.ref d2),some (.ref fd),some (.str y),o5] H'
      refine .inl ⟨_,rfl,_,rfl,_,rfl,_,rfl,d2,.ref l,rfl,gg,_,rfl,rt,d,l,y,rvs,rs,ns,ls,pss,ps,rfl,SF _ _ hrt,hA.imp fun _ _ z=>z.mono (.of_same SF),g,hn,hp,dF,ah,hl5,hpr,pb,fun wl ws H5 hws wnd hwl nwl s5'=>⟨wl,rfl,⟨_,SqL.of hwl⟩,?_⟩⟩
      have F5:FdInv H2 fd sl ls' rs ns ss H5 i y []:=by
        obtain ⟨wss,a,b⟩:=F.ex
        refine ⟨⟨wss,a.same s5',⟨b.len,fun j n ws' e1 e2=>?_⟩⟩,F.sm.trans s5',s5' _ _ F.sl⟩
        obtain ⟨w0,c1,c2,⟨c3,_⟩ | c3⟩:=b.at_ j n ws' e1 e2
        · cases c3
        · exact ⟨w0,c1,c2,.inr c3⟩
      refine for_list (xs:=intsV ws) (fun e σ' H'=>∃ (o5:Option V),σ'=[some (.ref rt),some (.ref d),some (.ref d2),some (.ref fd),some (.str y),o5]∧FdInv H2 fd sl ls' rs ns ss H' i y (ws.take e)∧H' wl=some (.lst (intsV ws))) ⟨_,rfl,F5,hwl⟩ ?_ ?_ ?_
      · rintro e σ' H' _ ⟨_,_,_,hw'⟩
        exact SqL.of hw'
      · rintro e x σ' H6 hx ⟨o6,rfl,F6,hwl6⟩
        obtain ⟨n,hne,rfl⟩:=ints_at hx
        obtain ⟨sn,wn⟩:=(hws n).mp (List.mem_of_getElem? hne)
        obtain ⟨j,hj⟩:=List.mem_iff_getElem?.mp ((hn n).mpr sn)
        obtain ⟨wss,a,b⟩:=F6.ex
        obtain ⟨lj,v6,elj,ev6,hlj,hvj⟩:=a.get (j:=j) (k:=nk n) (by rw [List.getElem?_map,hj];rfl)
        obtain ⟨w,ew,hw⟩:∃ w,wss[j]?=some w∧v6=strsV w:=by
          rw [List.getElem?_map] at ev6
          cases ee:wss[j]? with
          | none=>rw [ee] at ev6;cases ev6
          | some w=>rw [ee] at ev6;exact ⟨w,rfl,(Option.some.inj ev6).symm⟩
        subst hw
        have ljm:=List.mem_of_getElem? elj
        have Hlj:H2 lj=none:=nfls lj ljm
        have nin:n∉ws.take e:=fun m=>by
          obtain ⟨e',he'⟩:=List.mem_iff_getElem?.mp m
          have lt:e' < e:=by
            have:=(List.getElem?_eq_some_iff.mp he').1
            rw [List.length_take] at this
            lia
          rw [List.getElem?_take_of_lt lt] at he'
          obtain ⟨a1,a2⟩:=List.getElem?_eq_some_iff.mp he'
          obtain ⟨b1,b2⟩:=List.getElem?_eq_some_iff.mp hne
          have:=(List.getElem_inj wnd).mp (a2.trans b2.symm)
          lia
        have wlen:w.length≤64:=by
          obtain ⟨w0,c1,_,c3⟩:=b.at_ j n w hj ew
          have l0:w0.length≤ss.length:=Nat.le_trans c1.length_le (by rw [List.length_take];exact Nat.min_le_right _ _)
          rcases c3 with ⟨c,_⟩ | ⟨_,rfl⟩
          · exact absurd c nin
          · lia
        have gj:=DGet.k (k:=nk n) a.at_
        rw [hvj] at gj
        have wlj:wl≠lj:=fun z=>by
          have:H' lj=some (.lst (strsV w))∨True:=.inr trivial
          have e1:H' wl=none:=nwl
          have:DL H' fd (ns.map nk) ls' (F.ex.choose.map strsV):=F.ex.choose_spec.1
          have jl:j < (F.ex.choose.map strsV).length:=by rw [this.l2,← this.l1];exact (List.getElem?_eq_some_iff.mp elj).1
          have:=this.vs j lj _ elj (List.getElem?_eq_getElem jl)
          rw [← z,e1] at this;cases this
        refine ⟨_,rfl,_,rfl,fd,.ref lj,rfl,gj,.inl ⟨rfl,_,SqL.of hlj⟩,_,rfl,lj,_,_,rfl,rfl,hlj,smallL (by unfold strsV;rw [List.length_map];lia),_,rfl,?_,by rw [upd_ne wlj];exact hwl6⟩
        refine ⟨⟨wss.set j (w++[y]),?_,?_⟩,fun b' u ee=>by rw [upd_ne (ne_of_none ee Hlj)];exact F6.sm b' u ee,by rw [upd_ne (Ne.symm (fslne lj ljm))];exact F6.sl⟩
        · have:=a.app elj ev6 (.str y)
          rw [strsV_app] at this ⊢
          rw [List.map_set]
          exact this
        · rw [List.take_succ,hne]
          exact b.add nnd hj ew nin
      · rintro σ' H6 ⟨o6,rfl,F6,_⟩
        obtain ⟨wss,a,b⟩:=F6.ex
        rw [intsV_len,List.take_length] at b
        exact ⟨_,_,rfl,⟨wss,a,b.next hst hyi hws⟩,F6.sm,F6.sl⟩
    · rintro σ' H5 ⟨o4,o5,rfl,F⟩
      obtain ⟨wss,a,b⟩:=F.ex
      rw [List.length_map] at b
      have wn:=b.done g hst rd pm srt
      show t_p_wanted_1 K _ _ H5
      have zl2:((ns.map nk).zip (ls'.map V.ref)).length=ns.length:=by rw [List.length_zip,List.length_map,List.length_map,a.l1,List.length_map,Nat.min_self]
      refine ⟨_,rfl,fd,_,rfl,a.at_,fun o D nD=>?_⟩
      have hf5:upd H5 fd (.frz o (.dK ((ns.map nk).zip (ls'.map V.ref)))) fd=some (.frz o (.dK ((ns.map nk).zip (ls'.map V.ref)))):=upd_same
      have Df:D≠fd:=fun z=>by rw [z,hf5] at nD;cases nD
      have nD5:H5 D=none:=by rw [upd_ne Df] at nD;exact nD
      have ls'5:∀ (j:Nat) l w,ls'[j]?=some l→wss[j]?=some w→upd H5 fd (.frz o (.dK ((ns.map nk).zip (ls'.map V.ref)))) l=some (.lst (strsV w)):=fun j l w e1 e2=>by
        have:=a.vs j l (strsV w) e1 (by rw [List.getElem?_map,e2];rfl)
        rw [upd_ne (ne_of this a.at_ (by intro z;cases z))];exact this
      have S5:∀ b u,b≠fd→H5 b=some u→upd H5 fd (.frz o (.dK ((ns.map nk).zip (ls'.map V.ref)))) b=some u:=fun b u n e=>by rw [upd_ne n];exact e
      generalize hH6:upd H5 fd (.frz o (.dK ((ns.map nk).zip (ls'.map V.ref))))=H6 at hf5 nD ls'5 S5 ⊢
      refine comp_items (fun i σ' H'=>∃ (ts us:List Addr) (o5 o6:Option V),σ'=[some (.ref rt),some (.ref d),some (.ref d2),some (.ref fd),o4,o5,o6]∧H' D=some (.lst (ts.map V.ref))∧ts.length=i∧us.length=i∧(∀ (j:Nat) t u n,ts[j]?=some t→us[j]?=some u→ns[j]?=some n→H' t=some (.tup [kV (nk n),.ref u]))∧(∀ (j:Nat) u w,us[j]?=some u→wss[j]?=some w→H' u=some (.tup (strsV w)))∧But D H6 H') ?_ ?_ ?_ ?_
      · exact ⟨[],[],_,_,rfl,upd_same,rfl,rfl,fun j t u n e=>by simp at e,fun j u w e=>by simp at e,fun b u n e=>by rw [upd_ne n];exact e⟩
      · rintro i σ' H' _ ⟨ts,us,o5,o6,_,_,_,_,_,_,s'⟩
        exact s' fd _ (Ne.symm Df) hf5
      · rintro i kk v p σ' H' e np ⟨ts,us,o5,o6,rfl,hD,tl,ul,h1,h2,s'⟩
        have il:i < ns.length:=by have:=(List.getElem?_eq_some_iff.mp e).1;lia
        have il':i < ls'.length:=by rw [a.l1,List.length_map];exact il
        have iw:i < wss.length:=by rw [wn.len];exact il
        rw [List.getElem?_eq_getElem (by rw [zl2];exact il),List.getElem_zip,List.getElem_map,List.getElem_map] at e
        have e':=Option.some.inj e
        have ek:nk ns[i]=kk:=congrArg Prod.fst e'
        have ev:V.ref ls'[i]=v:=congrArg Prod.snd e'
        subst ek ev
        have pD:D≠p:=fun z=>by rw [← z,hD] at np;cases np
        have hli:=s' ls'[i] _ (fun z=>by
          have:=ls'5 i ls'[i] wss[i] (List.getElem?_eq_getElem il') (List.getElem?_eq_getElem iw)
          rw [z,nD] at this;cases this) (ls'5 i ls'[i] wss[i] (List.getElem?_eq_getElem il') (List.getElem?_eq_getElem iw))
        have s7:Same H' (upd H' p (.tup [kV (nk ns[i]),.ref ls'[i]])):=(Same.refl H').new np
        have hp7:upd H' p (.tup [kV (nk ns[i]),.ref ls'[i]]) p=some (.tup [kV (nk ns[i]),.ref ls'[i]]):=upd_same
        generalize upd H' p (.tup [kV (nk ns[i]),.ref ls'[i]])=H7 at s7 hp7 ⊢
        refine ⟨p,_,rfl,SqT.of hp7,rfl,_,_,rfl,_,_,rfl,rfl,?_⟩
        refine app_yes ⟨_,rfl,_,rfl,ls'[i],_,rfl,.inl ⟨SqL.of (s7 _ _ hli),fun u nu=>⟨(by show 2≤sizeLine;decide),fun t nt=>?_⟩⟩⟩
        have s8:Same H7 (upd (upd H7 u (.tup (strsV wss[i]))) t (.tup [kV (nk ns[i]),.ref u])):=((Same.refl H7).new nu).trans ((Same.refl _).new nt)
        have tu:t≠u:=fun z=>by rw [z,upd_same] at nt;cases nt
        have hu8:upd (upd H7 u (.tup (strsV wss[i]))) t (.tup [kV (nk ns[i]),.ref u]) u=some (.tup (strsV wss[i])):=by rw [upd_ne (Ne.symm tu)];exact upd_same
        have ht8:upd (upd H7 u (.tup (strsV wss[i]))) t (.tup [kV (nk ns[i]),.ref u]) t=some (.tup [kV (nk ns[i]),.ref u]):=upd_same
        show ∃ ys,(upd (upd H7 u (.tup (strsV wss[i]))) t (.tup [kV (nk ns[i]),.ref u])) D=some (.lst ys)∧_
        generalize upd (upd H7 u (.tup (strsV wss[i]))) t (.tup [kV (nk ns[i]),.ref u])=H8 at s8 hu8 ht8 ⊢
        have S8:=s7.trans s8
        have hD8:=S8 _ _ hD
        have kp:∀ b x,b≠D→H8 b=some x→upd H8 D (.lst (ts.map V.ref++[.ref t])) b=some x:=fun b x n e=>by rw [upd_ne n];exact e
        refine ⟨_,hD8,smallL (by rw [List.length_map];lia),ts++[t],us++[u],_,_,rfl,by rw [upd_same,List.map_append];rfl,by rw [List.length_append,tl];rfl,by rw [List.length_append,ul];rfl,fun j t' u' n' e1 e2 e3=>?_,fun j u' w' e1 e2=>?_,fun b x n ee=>kp b x n (S8 _ _ (s' b x n ee))⟩
        · rcases snocI e1 with ⟨c1,f1⟩ | ⟨c1,f1⟩ <;> rcases snocI e2 with ⟨c2,f2⟩ | ⟨c2,f2⟩
          · have:=h1 j t' u' n' f1 f2 e3
            exact kp t' _ (ne_of this hD (by intro z;cases z)) (S8 _ _ this)
          · exfalso;lia
          · exfalso;lia
          · subst f1 f2
            have ej:j=i:=by lia
            subst ej
            rw [List.getElem?_eq_getElem il] at e3
            rw [← Option.some.inj e3]
            exact kp t' _ (ne_of ht8 hD8 (by intro z;cases z)) ht8
        · rcases snocI e1 with ⟨c1,f1⟩ | ⟨c1,f1⟩
          · have:=h2 j u' w' f1 e2
            exact kp u' _ (ne_of this hD (by intro z;cases z)) (S8 _ _ this)
          · subst f1
            have ej:j=i:=by lia
            subst ej
            rw [List.getElem?_eq_getElem iw] at e2
            rw [← Option.some.inj e2]
            exact kp u' _ (ne_of hu8 hD8 (by intro z;cases z)) hu8
      · rintro σ' H7 ⟨ts,us,o5,o6,_,hD,tl,ul,h1,h2,s'⟩
        rw [zl2] at tl ul
        have hz:((ns.map nk).zip (us.map V.ref)).length=ns.length:=by rw [List.length_zip,List.length_map,List.length_map,ul,Nat.min_self]
        have hm:(((ns.map nk).zip (us.map V.ref)).map (·.1):List Key)=ns.map nk:=by
          rw [List.map_fst_zip]
          rw [List.length_map,List.length_map];lia
        refine .inl ⟨D,ts.map V.ref,(ns.map nk).zip (us.map V.ref),rfl,hD,by rw [List.length_map,hz,tl],by lia,fun j x k v e1 e2=>?_,fun rd' nrd=>?_⟩
        · rw [List.getElem?_map] at e1
          cases et:ts[j]? with
          | none=>rw [et] at e1;cases e1
          | some t=>
            rw [et] at e1
            have e1':V.ref t=x:=Option.some.inj e1
            subst e1'
            have jn:j < ns.length:=by have:=(List.getElem?_eq_some_iff.mp et).1;lia
            have ju:j < us.length:=by lia
            rw [List.getElem?_eq_getElem (by rw [hz];exact jn),List.getElem_zip,List.getElem_map,List.getElem_map] at e2
            have e2':=Option.some.inj e2
            have k1:nk ns[j]=k:=congrArg Prod.fst e2'
            have v1:V.ref us[j]=v:=congrArg Prod.snd e2'
            refine ⟨t,rfl,?_⟩
            rw [← k1,← v1]
            exact h1 j t us[j] ns[j] et (List.getElem?_eq_getElem ju) (List.getElem?_eq_getElem jn)
        · have e0:mergeK [] ((ns.map nk).zip (us.map V.ref))=(ns.map nk).zip (us.map V.ref):=mergeK_new _ [] (by rw [List.nil_append,hm];exact nk_nodup hp)
          rw [e0]
          have HD:H D=none:=by
            cases ee:H D with
            | none=>rfl
            | some u=>rw [F.sm _ _ (S2 _ _ ee)] at nD5;cases nD5
          have Hfd:H fd=none:=by
            cases ee:H fd with
            | none=>rfl
            | some u=>rw [S2 _ _ ee] at nfd;cases nfd
          have keep:∀ b u,H b=some u→H7 b=some u:=fun b u ee=>s' b u (ne_of_none ee HD) (S5 b u (ne_of_none ee Hfd) (F.sm _ _ (S2 _ _ ee)))
          have Hrd:H rd'=none:=by
            cases ee:H rd' with
            | none=>rfl
            | some u=>rw [keep _ _ ee] at nrd;cases nrd
          refine q rd' ns us wss ss _ hn hp upd_same ul (fun j t ws e1 e2=>?_) wn Hrd fun b u ee=>by rw [upd_ne (ne_of_none ee Hrd)];exact keep b u ee
          have:=h2 j t ws e1 e2
          rw [upd_ne (ne_of_none this nrd)];exact this
theorem r_stand {K:Fg} {vs:List V} {H:Hp} {Q:VK} {E:XK} (h:sp_stand K vs H Q E):t_stand K { nx:=fun _ H'=>Q .non H',rt:=Q } (start N_stand vs) H:=by
  obtain ⟨rt,n,rvs,rs,rfl,hrt,hA,g,hn,q⟩:=h
  refine ⟨fun m σ' H'=>∃ k,k≤rs.length∧m=rs.length - k∧σ'=[some (.ref rt),some (.int (runJ rs k n:Nat))]∧H'=H,⟨_,0,Nat.zero_le _,rfl,rfl,rfl⟩,?_⟩
  rintro m σ' H' ⟨k,hk,rfl,rfl,rfl⟩
  have lt:=runJ_lt g k hn
  obtain ⟨v,r,e1,e2,hra⟩:=hA.get lt
  obtain ⟨p,xs,rfl,hp⟩:=hra.ref
  have e1':rvs[((runJ rs k n:Nat):Int).toNat]?=some (.ref p):=by simpa using e1
  refine ⟨_,rfl,_,rfl,ixT hrt (by lia) e1' (ixT hp (by decide) rfl (.inl ⟨rfl,_,rfl,if_dec (fun hw=>?_) (fun hw=>?_)⟩))⟩
  · obtain ⟨t',rfl⟩:=word_jump (str_inj hw)
    have kl:k < rs.length:=by
      by_cases c:k < rs.length
      · exact c
      · have:k=rs.length:=by lia
        subst this
        have:=g.ring n hn _ e2
        cases this
    refine ⟨fun σ' H''=>σ'=[some (.ref rt),some (.int (runJ rs (k + 1) n:Nat))]∧H''=H',?_,?_⟩
    · rintro σ4 H4 ⟨rfl,rfl⟩
      exact ⟨rs.length - (k + 1),by lia,k + 1,kl,rfl,rfl,rfl⟩
    · obtain ⟨p',ep,hp'⟩:=hra
      cases ep
      refine ⟨_,rfl,_,rfl,ixT hrt (by lia) e1' (ixT hp' (by decide) rfl ?_)⟩
      have e:runJ rs (k + 1) n=t':=by rw [runJ_succ];unfold stp;rw [e2]
      rw [e]
      exact ⟨rfl,rfl⟩
  · have e:=runJ_end (rs:=rs) (k:=k) (n:=n) hk fun r' hr'=>by
      rw [e2] at hr';cases hr'
      exact not_jump fun z=>hw (by rw [z])
    unfold Sd at q
    rw [e] at q
    exact ⟨_,rfl,q⟩
theorem tup_open {t:TA} {σ:St} {H:Hp} {Q:VK} (h:t σ H fun xs H1=>xs.length≤sizeLine∧∀ p,H1 p=none→Q (.ref p) (upd H1 p (.tup xs))):tTup t σ H Q:=h
theorem asg_open {te:TE} {g:TG} {u:TS} {D:Ends} {σ:St} {H:Hp} (h:te σ H fun x H1=>g x σ H1 (u D)):tSeq (tAsg te g) u D σ H:=h
theorem ret_open {te:TE} {D:Ends} {σ:St} {H:Hp} (h:te σ H D.rt):tRet te D σ H:=h
theorem cons_open {ta:TE} {tr:TA} {σ:St} {H:Hp} {Q:List V→Hp→Prop} (h:ta σ H fun x H1=>tr σ H1 fun xs H2=>Q (x::xs) H2):tCons ta tr σ H Q:=h
theorem cons_v {i:Nat} {v:V} {tr:TA} {σ:St} {H:Hp} {Q:List V→Hp→Prop} (e:σ[i]?=some (some v)) (h:tr σ H fun xs H2=>Q (v::xs) H2):tCons (tVar i) tr σ H Q:=⟨v,e,h⟩
theorem lst_open {t:TA} {σ:St} {H:Hp} {Q:VK} (h:t σ H fun xs H1=>xs.length≤sizeLine∧∀ p,H1 p=none→Q (.ref p) (upd H1 p (.lst xs))):tLst t σ H Q:=h
theorem r_args {K:Fg} {vs:List V} {H:Hp} {Q:VK} {E:XK} (h:sp_args K vs H Q E):t_args K { nx:=fun _ H'=>Q .non H',rt:=Q } (start N_args vs) H:=by
  obtain ⟨st,pp,k,m,ys,cs,bs,b,rfl,S,hk,P,hb,hl,q⟩:=h
  obtain ⟨pvs,pt,pa,rt,rvs,h1,e1,h2,h3,h4,hR⟩:=P.rows hb
  refine .inr ⟨_,rfl,_,rfl,ixT h1 (by lia) e1 (ixT h2 (by decide) rfl ⟨pa,rfl,⟨_,SqT.of h3⟩,fun D hD=>?_⟩)⟩
  have nD:D≠st:=fun z=>by rw [z,S.lst.choose_spec] at hD;cases hD
  refine comp_tup (xs:=b.params.map V.str) (fun i σ' H'=>∃ (zs:List Int) (k':Nat) (o:Option V),σ'=[some (.ref st),some (.ref pp),some (.int (m:Nat)),o]∧H' D=some (.lst (zs.map V.int))∧zs.length=i∧(∀ z∈zs,Wth z)∧Stt K H' st k'∧k'≤k + 4 * i∧But st H H'∧H' pa=some (.tup (b.params.map V.str))) ?_ ?_ ?_ ?_
  · exact ⟨[],k,none,rfl,upd_same,rfl,by simp,S.new hD,by lia,fun c o _ e=>((Same.refl H).new hD) c o e,((Same.refl H).new hD) _ _ h3⟩
  · rintro i σ' H' _ ⟨_,_,_,_,_,_,_,_,_,_,hp⟩
    exact SqT.of hp
  · rintro i x σ' H1 hx ⟨zs,k',o,rfl,hw,zl,zw,S1,hk',b1,hp⟩
    have il:i < b.params.length:=by have:=(List.getElem?_eq_some_iff.mp hx).1;rw [List.length_map] at this;exact this
    refine app_yes ⟨_,rfl,st,k',rfl,S1,by lia,fun z k2 H2 z0 z1 S2 l2 B2=>?_⟩
    have h2':=B2 D _ nD hw
    refine ⟨_,h2',smallL (by rw [List.length_map];lia),zs++[z],k2,_,rfl,by rw [upd_same,List.map_append];rfl,by simp [zl],fun y hy=>?_,S2.mono .upd_at h2' (Ne.symm nD),by lia,fun c o nc e=>?_,?_⟩
    · rcases List.mem_append.mp hy with y' | y'
      · exact zw y y'
      · rw [List.mem_singleton.mp y'];exact ⟨z0,z1⟩
    · rw [upd_ne (ne_of_none e hD)];exact B2 c o nc (b1 c o nc e)
    · have npD:pa≠D:=ne_of_none h3 hD
      have nps:pa≠st:=fun z=>by rw [z,S1.lst.choose_spec] at hp;cases hp
      rw [upd_ne npD];exact B2 _ _ nps hp
  · rintro σ' H1 ⟨zs,k',o,_,hw,zl,zw,S1,hk',b1,hp⟩
    rw [List.length_map] at zl
    exact q D zs k' H1 hD hw zl zw S1 (by rw [List.length_map] at hk';lia) b1
theorem r_opened {K:Fg} {vs:List V} {H:Hp} {Q:VK} {E:XK} (h:sp_opened K vs H Q E):t_opened K { nx:=fun _ H'=>Q .non H',rt:=Q } (start N_opened vs) H:=by
  obtain ⟨pp,q0,k,zs,ys,cs,bs,b,rfl,P,hb,hl,h10,hq,q⟩:=h
  obtain ⟨pvs,pt,pa,rt,rvs,h1,e1,h2,h3,h4,hR⟩:=P.rows hb
  have g:=P.ok.good hb
  refine ⟨_,rfl,_,rfl,ixT h1 (by lia) e1 ⟨pt,_,rfl,SqT.of h2,rfl,_,_,rfl,_,_,rfl,_,_,rfl,rfl,?_⟩⟩
  show t_opened_1 K _ [some (.ref pp),some (.int (k:Nat)),some (.ref q0),some (.str b.name),some (.ref pa),some (.ref rt)] H
  unfold t_opened_1
  refine ret_open (tup_open (cons_v rfl (cons_open ?_)))
  refine ⟨_,rfl,rt,0,rvs,b.rows,rfl,h4,hR,g,g.pos,?_⟩
  refine cons_open ⟨_,rfl,_,rfl,pa,q0,b.params,zs.map V.int,rfl,SqT.of h3,hq.imp SqL.of SqT.of,by rw [List.length_map];exact hl,by lia,fun d nd=>?_⟩
  refine nil_open ⟨(by show 3≤sizeLine;decide),fun p np=>?_⟩
  have ndp:d≠p:=fun z=>by rw [z,upd_same] at np;cases np
  refine q _ _ ⟨p,d,rfl,?_,?_⟩ (((Same.refl H).new nd).new np)
  · rw [upd_same];unfold opn;rw [rws_eq hb]
  · rw [upd_ne ndp,upd_same];unfold opn;rw [prm_eq hb]
theorem op_open {r:R2} {ta tb:TE} {σ:St} {H:Hp} {Q:VK} (h:ta σ H fun x H1=>tb σ H1 fun y H2=>r x y H2 Q):tOp r ta tb σ H Q:=h
theorem dget_open {td ty:TE} {σ:St} {H:Hp} {Q:VK} (h:td σ H fun x H1=>ty σ H1 fun y H2=>∃ a v,x=.ref a∧DGet H2 a y (some v)∧Q v H2):tDGet td ty σ H Q:=h
theorem val3 {a b c:V}:valV [((Sum.inr ("+":Str):Key),a),(Sum.inr ("-":Str),b),(Sum.inr ("*":Str),c)] (Sum.inr ("+":Str))=some a∧valV [((Sum.inr ("+":Str):Key),a),(Sum.inr ("-":Str),b),(Sum.inr ("*":Str),c)] (Sum.inr ("-":Str))=some b∧valV [((Sum.inr ("+":Str):Key),a),(Sum.inr ("-":Str),b),(Sum.inr ("*":Str),c)] (Sum.inr ("*":Str))=some c:=by
  have n1:¬ ((Sum.inr ("+":Str):Key)=Sum.inr ("-":Str)):=by decide
  have n2:¬ ((Sum.inr ("+":Str):Key)=Sum.inr ("*":Str)):=by decide
  have n3:¬ ((Sum.inr ("-":Str):Key)=Sum.inr ("*":Str)):=by decide
  refine ⟨valV_pos rfl,?_,?_⟩
  · rw [valV_neg n1,valV_pos rfl]
  · rw [valV_neg n2,valV_neg n3,valV_pos rfl]
theorem r_reckoned {K:Fg} {vs:List V} {H:Hp} {Q:VK} {E:XK} (h:sp_reckoned K vs H Q E):t_reckoned K { nx:=fun _ H'=>Q .non H',rt:=Q } (start N_reckoned vs) H:=by
  obtain ⟨s,x,y,rfl,hs,wi,wj,q⟩:=h
  have q':∀ (z:Int) (H':Hp),z=wth s x y→Same H H'→Q (.int z) H':=fun z H' e s'=>by subst e;exact q H' s'
  have e64:(2:Int) ^ 64=18446744073709551616:=by decide
  have disp:∀ {R:VK},(∀ (dp:Addr) (H2:Hp),Same H H2→H2 dp=some (.dK [(Sum.inr ("+":Str),.int (x + y)),(Sum.inr ("-":Str),.int (x - y)),(Sum.inr ("*":Str),.int (x * y))])→R (.ref dp) H2)→
      tDisp [((tC (.str "+")),(tOp (rPlus K) (tVar 1) (tVar 2))),((tC (.str "-")),(tOp (rSub2) (tVar 1) (tVar 2))),((tC (.str "*")),(tOp (rTimes K) (tVar 1) (tVar 2)))] [some (.str s),some (.int x),some (.int y)] H R:=fun {R} r=>by
    intro dp ndp
    refine ⟨_,rfl,_,rfl,.inl ⟨_,_,rfl,rfl,_,rfl,_,rfl,_,_,rfl,rfl,_,rfl,_,rfl,.inl ⟨_,_,rfl,rfl,.inl ⟨by have:=wi.1;omega,wi.2⟩,upd_same,[(Sum.inr "+",.int (x + y)),(Sum.inr "-",.int (x - y)),(Sum.inr "*",.int (x * y))],rfl,(by show 3≤15;decide),?_⟩⟩⟩
    rw [upd_upd]
    exact r dp _ ((Same.refl H).new ndp) upd_same
  refine ⟨_,rfl,.inl ⟨rfl,_,rfl,if_dec (fun h=>?_) (fun h=>?_)⟩⟩
  · have e:s="<":=V.str.inj h
    refine ⟨_,rfl,_,rfl,_,_,rfl,rfl,.inr ⟨_,rfl,?_⟩⟩
    have ew:wth s x y=if x < y then 1 else 0:=by unfold wth;rw [if_pos e]
    refine q' _ H ?_ (Same.refl H)
    rw [ew]
    by_cases c:x < y <;> simp [c]
  refine ⟨_,rfl,.inl ⟨rfl,_,rfl,if_dec (fun h'=>?_) (fun h'=>?_)⟩⟩
  · have e:s="=":=V.str.inj h'
    refine ⟨_,rfl,_,rfl,.inl ⟨rfl,.inr ⟨_,rfl,?_⟩⟩⟩
    have ew:wth s x y=if x=y then 1 else 0:=by unfold wth;rw [if_neg (fun z=>h (by rw [z])),if_pos e]
    refine q' _ H ?_ (Same.refl H)
    rw [ew]
    by_cases c:x=y
    · subst c;simp
    · have:¬ (V.int x=V.int y):=fun z=>c (V.int.inj z)
      simp [c,this]
  show t_reckoned_1 K _ [some (.str s),some (.int x),some (.int y)] H
  unfold t_reckoned_1
  have n1:¬ s="<":=fun z=>h (by rw [z])
  have n2:¬ s="=":=fun z=>h' (by rw [z])
  rcases (by simpa [signs] using hs:s="+"∨s="-"∨s="*"∨s="<"∨s="=") with rfl | rfl | rfl | rfl | rfl
  · refine ret_open (op_open (dget_open (disp fun dp H2 s2 hd=>?_)))
    refine ⟨_,rfl,dp,.int (x + y),rfl,?_,?_⟩
    · have:=DGet.k (k:=Sum.inr ("+":Str)) hd
      rw [val3.1] at this
      exact this
    · refine ⟨_,_,rfl,rfl,⟨by decide,by decide,by decide⟩,_,_,rfl,rfl,(by show (0:Int) < 2 ^ 64;decide),q' _ _ ?_ s2⟩
      show (x + y) % 2 ^ 64=wth "+" x y
      rw [e64];rfl
  · refine ret_open (op_open (dget_open (disp fun dp H2 s2 hd=>?_)))
    refine ⟨_,rfl,dp,.int (x - y),rfl,?_,?_⟩
    · have:=DGet.k (k:=Sum.inr ("-":Str)) hd
      rw [val3.2.1] at this
      exact this
    · refine ⟨_,_,rfl,rfl,⟨by decide,by decide,by decide⟩,_,_,rfl,rfl,(by show (0:Int) < 2 ^ 64;decide),q' _ _ ?_ s2⟩
      show (x - y) % 2 ^ 64=wth "-" x y
      rw [e64];rfl
  · refine ret_open (op_open (dget_open (disp fun dp H2 s2 hd=>?_)))
    refine ⟨_,rfl,dp,.int (x * y),rfl,?_,?_⟩
    · have:=DGet.k (k:=Sum.inr ("*":Str)) hd
      rw [val3.2.2] at this
      exact this
    · refine ⟨_,_,rfl,rfl,⟨by decide,by decide,by decide⟩,_,_,rfl,rfl,(by show (0:Int) < 2 ^ 64;decide),q' _ _ ?_ s2⟩
      show (x * y) % 2 ^ 64=wth "*" x y
      rw [e64];rfl
  · exact absurd rfl n1
  · exact absurd rfl n2
theorem AllAt.last {α:Type} {R:V→α→Prop} {vs:List V} {rs:List α} {r:α} (h:AllAt R vs (rs++[r])):∃ vs' v,vs=vs'++[v]∧AllAt R vs' rs∧R v r:=by
  have hl:=h.len
  rcases List.eq_nil_or_concat vs with e | ⟨vs',v,e⟩
  · rw [e] at hl;simp at hl
  · rw [List.concat_eq_append] at e
    subst e
    have hl':vs'.length=rs.length:=by simp at hl;exact hl
    refine ⟨vs',v,rfl,⟨hl',fun i x y hx hy=>h.at_ i x y ?_ ?_⟩,h.at_ vs'.length v r ?_ ?_⟩
    · rw [List.getElem?_append_left (List.getElem?_eq_some_iff.mp hx).1];exact hx
    · rw [List.getElem?_append_left (List.getElem?_eq_some_iff.mp hy).1];exact hy
    · simp
    · rw [hl'];simp
theorem next_ok {rs:List BRow} (g:RowsGood rs) {n:Nat} {x:Str} {k:Nat} {as:List Str} (h:rs[n]?=some (.call x k as)):n + 1 < rs.length:=g.inr n (n + 1) _ h (by unfold leadsL;exact List.mem_cons_self)
theorem last_at {xs:List V} {v:V}:(xs++[v])[(xs++[v]).length - 1]?=some v:=by simp
theorem r_shut {K:Fg} {vs:List V} {H:Hp} {Q:VK} {E:XK} (h:sp_shut K vs H Q E):t_shut K { nx:=fun _ H'=>Q .non H',rt:=Q } (start N_shut vs) H:=by
  obtain ⟨pp,L,z,n,fvs,fs,f,ys,cs,bs,rfl,P,hL,A,lo,hn,q⟩:=h
  obtain ⟨fvs0,v,rfl,A0,_⟩:=A.last
  have ll:=lo.few
  have l0:=A0.len
  rw [List.length_append] at ll
  refine ⟨_,rfl,.inl ⟨rfl,_,SqL.of hL⟩,L,_,v,rfl,rfl,hL,last_at,?_⟩
  rw [List.dropLast_concat]
  have t1:Td H (upd H L (.lst fvs0)):=.lst hL
  have hL1:upd H L (.lst fvs0) L=some (.lst fvs0):=upd_same
  have b1:But L H (upd H L (.lst fvs0)):=.upd_at
  show t_shut_7 K _ [some (.ref pp),some (.ref L),some (.int z),none,none,none,none] (upd H L (.lst fvs0))
  generalize upd H L (.lst fvs0)=H1 at t1 hL1 b1 ⊢
  have A1:=A0.imp fun _ _ y=>y.mono t1
  refine ⟨_,rfl,(by show 0≤sizeLine;decide),fun M nM=>?_⟩
  have s2:Same H1 (upd H1 M (.lst [])):=(Same.refl H1).new nM
  have hM:upd H1 M (.lst []) M=some (.lst []):=upd_same
  generalize upd H1 M (.lst [])=H2 at s2 hM ⊢
  have hL2:=s2 _ _ hL1
  have A2:=A1.imp fun _ _ y=>y.mono (.of_same s2)
  have b2:But L H H2:=fun c o nc e=>s2 c o (b1 c o nc e)
  rcases List.eq_nil_or_concat fs with e | ⟨fs1,g,e⟩
  · subst e
    have e0:fvs0=[]:=List.length_eq_zero_iff.mp l0
    subst e0
    refine .inl ⟨L,M,[],[],rfl,rfl,.inl ⟨SqL.of hL2,SqL.of hM⟩,.inr ⟨[],rfl,rfl,fun j a b e ha=>by simp at ha,_,rfl,if_t rfl ?_⟩⟩
    refine ⟨_,rfl,(by show 1≤sizeLine;decide),fun e' ne=>?_⟩
    have s3:Same H2 (upd H2 e' (.lst [.int z])):=(Same.refl H2).new ne
    have He:H e'=none:=by
      have nL:e'≠L:=fun y=>by rw [y,hL2] at ne;cases ne
      cases e:H e' with
      | none=>rfl
      | some o=>rw [b2 e' o nL e] at ne;cases ne
    exact q e' [] _ (s3 _ _ hL2) .nil upd_same He fun c o nc e=>s3 c o (b2 c o nc e)
  · rw [List.concat_eq_append] at e
    subst e
    obtain ⟨fvs1,v1,rfl,A3,g1⟩:=A2.last
    have gk:FOk bs n g:=lo.frs g (List.mem_append_left _ (List.mem_append_right _ List.mem_cons_self))
    obtain ⟨x,k,as,ec⟩:=lo.wait g (by rw [List.dropLast_concat];exact List.mem_append_right _ List.mem_cons_self)
    obtain ⟨b,r,hb,hr,_,sd,er,ro,rd⟩:=gk.reads P.ok
    rw [er] at ec
    have g0:=P.ok.good hb
    have nl:=next_ok g0 ec
    refine .inl ⟨L,M,_,[],rfl,rfl,.inl ⟨SqL.of hL2,SqL.of hM⟩,.inl ⟨by simp,_,rfl,if_f rfl ?_⟩⟩
    show t_shut_6 K _ [some (.ref pp),some (.ref L),some (.int z),none,none,none,none] H2
    obtain ⟨p,d,rfl,hp,hd⟩:=g1
    refine ⟨_,rfl,.inl ⟨rfl,_,SqL.of hL2⟩,L,_,.ref p,rfl,rfl,hL2,last_at,?_⟩
    rw [List.dropLast_concat]
    have t3:Td H2 (upd H2 L (.lst fvs1)):=.lst hL2
    have hL3:upd H2 L (.lst fvs1) L=some (.lst fvs1):=upd_same
    have b3:But L H (upd H2 L (.lst fvs1)):=fun c o nc e=>by rw [upd_ne nc];exact b2 c o nc e
    generalize upd H2 L (.lst fvs1)=H3 at t3 hL3 b3 ⊢
    have A4:=A3.imp fun _ _ y=>y.mono t3
    have hp3:=t3.tp _ _ hp
    have hd3:=t3.dp _ _ hd
    have P3:=P.mono ((t1.trans (.of_same s2)).trans t3).tp
    obtain ⟨pvs,pt,pa,rt,rvs,h1,e1,h2,h3,h4,hR⟩:=P3.rows hb
    refine ⟨p,_,rfl,SqT.of hp3,rfl,_,_,rfl,_,_,rfl,_,_,rfl,rfl,?_⟩
    show t_shut_5 K _ [some (.ref pp),some (.ref L),some (.int z),some (.int (g.part:Nat)),some (.int (g.row:Nat)),some (.ref d),none] H3
    refine ⟨_,rfl,_,rfl,ixT h1 (by lia) e1 (ixT h2 (by decide) rfl ?_)⟩
    show t_shut_4 K _ [some (.ref pp),some (.ref L),some (.int z),some (.int (g.part:Nat)),some (.int (g.row:Nat)),some (.ref d),some (.ref rt)] H3
    refine ⟨_,rfl,d,_,rfl,hd3,fun d' nd'=>?_⟩
    have s4:Same H3 (upd H3 d' (.dK g.nm)):=(Same.refl H3).new nd'
    have hd4:upd H3 d' (.dK g.nm) d'=some (.dK g.nm):=upd_same
    show t_shut_3 K _ [some (.ref pp),some (.ref L),some (.int z),some (.int (g.part:Nat)),some (.int (g.row:Nat)),some (.ref d'),some (.ref rt)] _
    obtain ⟨v2,r2,e3,e4,hra⟩:=hR.get (List.getElem?_eq_some_iff.mp ec).1
    rw [ec] at e4;cases e4
    obtain ⟨pr,qr,rfl,hpr,_⟩:=hra
    refine ⟨_,rfl,_,rfl,_,rfl,_,rfl,ixT (s4 _ _ h4) (by lia) (by simpa using e3) (ixT (s4 _ _ hpr) (by decide) rfl ⟨d',_,rfl,DPut.k (k:=Sum.inr x) hd4 (smallL (by have:=gk.few;lia)),?_⟩)⟩
    rw [upd_upd]
    have s5:Same H3 (upd H3 d' (.dK (putK g.nm (Sum.inr x) (.int z)))):=(Same.refl H3).new nd'
    have hd5:upd H3 d' (.dK (putK g.nm (Sum.inr x) (.int z))) d'=some (.dK (putK g.nm (Sum.inr x) (.int z))):=upd_same
    show t_shut_2 K _ [some (.ref pp),some (.ref L),some (.int z),some (.int (g.part:Nat)),some (.int (g.row:Nat)),some (.ref d'),some (.ref rt)] (upd H3 d' (.dK (putK g.nm (Sum.inr x) (.int z))))
    generalize upd H3 d' (.dK (putK g.nm (Sum.inr x) (.int z)))=H5 at s5 hd5 ⊢
    have hL5:=s5 _ _ hL3
    have rt5:=s5 _ _ h4
    have R5:=hR.imp fun _ _ y=>y.mono (.of_same s5)
    refine ⟨_,rfl,.inl ⟨rfl,_,SqL.of hL5⟩,?_⟩
    refine cons_open (tup_open (cons_v rfl (cons_open ⟨_,rfl,_,rfl,.inl ⟨_,_,rfl,rfl,nil_open ⟨rt,g.row + 1,rvs,b.rows,rfl,rt5,R5,g0,nl,cons_v rfl (nil_open ⟨(by show 3≤sizeLine;decide),fun p6 n6=>nil_open ?_⟩)⟩⟩⟩)))
    have s6:Same H5 (upd H5 p6 (.tup [.int (g.part:Nat),.int (Sd b.rows (g.row + 1):Nat),.ref d'])):=(Same.refl H5).new n6
    have h6:upd H5 p6 (.tup [.int (g.part:Nat),.int (Sd b.rows (g.row + 1):Nat),.ref d']) p6=some (.tup [.int (g.part:Nat),.int (Sd b.rows (g.row + 1):Nat),.ref d']):=upd_same
    generalize upd H5 p6 (.tup [.int (g.part:Nat),.int (Sd b.rows (g.row + 1):Nat),.ref d'])=H6 at s6 h6 ⊢
    have hL6:=s6 _ _ hL5
    refine ⟨L,_,_,rfl,rfl,hL6,smallL (by have:=A4.len;simp at ll;lia),?_⟩
    have t7:Td H6 (upd H6 L (.lst (fvs1++[.ref p6]))):=.lst hL6
    have hL7:upd H6 L (.lst (fvs1++[.ref p6])) L=some (.lst (fvs1++[.ref p6])):=upd_same
    have b7:But L H (upd H6 L (.lst (fvs1++[.ref p6]))):=fun c o nc e=>by rw [upd_ne nc];exact s6 c o (s5 c o (b3 c o nc e))
    show t_shut_1 K _ [some (.ref pp),some (.ref L),some (.int z),some (.int (g.part:Nat)),some (.int (g.row:Nat)),some (.ref d'),some (.ref rt)] (upd H6 L (.lst (fvs1++[.ref p6])))
    generalize upd H6 L (.lst (fvs1++[.ref p6]))=H7 at t7 hL7 b7 ⊢
    refine ⟨(by show 0≤sizeLine;decide),fun e' ne=>?_⟩
    have s8:Same H7 (upd H7 e' (.lst [])):=(Same.refl H7).new ne
    have He:H e'=none:=by
      have nL:e'≠L:=fun y=>by rw [y,hL7] at ne;cases ne
      cases e:H e' with
      | none=>rfl
      | some o=>rw [b7 e' o nL e] at ne;cases ne
    have es:sht bs g z=⟨g.part,Sd b.rows (g.row + 1),put g.nm x z⟩:=by unfold sht;rw [er,ec]
    refine q e' (fvs1++[.ref p6]) _ (s8 _ _ hL7) ?_ (by rw [upd_same,List.getLast?_concat]) He fun c o nc e=>s8 c o (b7 c o nc e)
    rw [List.getLast?_concat,List.dropLast_concat]
    show AllAt _ _ (fs1++[sht bs g z])
    rw [es]
    have t57:Td H5 H7:=(Td.of_same s6).trans t7
    exact (A4.imp fun _ _ y=>((y.mono (.of_same s5)).mono t57).mono (.of_same s8)).snoc ⟨p6,d',rfl,s8 _ _ (t7.tp _ _ h6),s8 _ _ (t57.dp _ _ hd5)⟩
theorem at_end {xs:List V} {v:V}:atI (xs++[v]) (-1)=some v:=by
  unfold atI ixN
  rw [if_neg (by decide),List.length_append,List.length_singleton,if_pos (by omega)]
  show (xs++[v])[_]?=_
  have:((-1:Int) + ((xs.length + 1:Nat):Int)).toNat=xs.length:=by omega
  rw [this,List.getElem?_append_right (Nat.le_refl _),Nat.sub_self];rfl
theorem ixEnd {K:Fg} {p:Addr} {xs:List V} {v:V} {H:Hp} {Q:VK} (h:H p=some (.lst (xs++[v]))) (q:Q v H):rIx K (.ref p) (.int (-1)) H Q:=.inl ⟨p,_,_,v,rfl,rfl,SqL.of h,at_end,q⟩
theorem set_end {xs:List V} {v w:V}:(xs++[v]).set xs.length w=xs++[w]:=by simp
theorem ix_end {xs:List V} {v:V}:ixN (xs++[v]).length (-1)=some xs.length:=by
  unfold ixN
  rw [if_neg (by decide),List.length_append,List.length_singleton,if_pos (by omega)]
  congr 1
  omega
theorem dget_has {H:Hp} {d:Addr} {nm:List (Key × V)} {y:Str} (hd:H d=some (.dK nm)) (h:Has nm y):DGet H d (.str y) (some (.int (vl nm y))):=by
  obtain ⟨i,g⟩:=h
  have:=DGet.k (k:=Sum.inr y) hd
  rw [g.1] at this
  rw [vl_got g]
  exact this
theorem r_step {K:Fg} {vs:List V} {H:Hp} {Q:VK} {E:XK} (h:sp_step K vs H Q E):t_step K { nx:=fun _ H'=>Q .non H',rt:=Q } (start N_step vs) H:=by
  obtain ⟨pp,L,W,n,fvs,fs,said,ys,cs,bs,rfl,P,hL,A,hW,nLW,lo,ne,hn,hs,q⟩:=h
  rcases List.eq_nil_or_concat fs with e | ⟨fs0,f,e⟩
  · exact absurd e ne
  rw [List.concat_eq_append] at e
  subst e
  obtain ⟨fvs0,v,rfl,A0,fv⟩:=A.last
  obtain ⟨p,d,rfl,hp,hd⟩:=fv
  have fo:FOk bs n f:=lo.frs f (List.mem_append_right _ List.mem_cons_self)
  obtain ⟨b,r,hb,hr,hj,sd,er,ro,rd⟩:=fo.reads P.ok
  have g0:=P.ok.good hb
  obtain ⟨pvs,pt,pa,rt,rvs,h1,e1,h2,h3,h4,hR⟩:=P.rows hb
  obtain ⟨rv,r',e3,e4,hra⟩:=hR.get (List.getElem?_eq_some_iff.mp hr).1
  rw [hr] at e4;cases e4
  have nm:=fo.few
  have l0:=A0.len
  have ll:=lo.few
  rw [List.length_append] at ll
  have ll:fs0.length + 1≤n:=ll
  refine ⟨_,rfl,1,rfl,ixEnd hL ⟨p,_,rfl,SqT.of hp,rfl,_,_,rfl,_,_,rfl,_,_,rfl,rfl,?_⟩⟩
  refine ⟨_,rfl,_,rfl,ixT h1 (by omega) e1 (ixT h2 (by decide) rfl ?_)⟩
  refine ⟨_,rfl,_,rfl,ixT h4 (by omega) (by simpa using e3) ?_⟩
  refine ⟨_,rfl,.inl ⟨_,_,rfl,rfl,?_⟩⟩
  show t_step_10 K _ [some (.ref pp),some (.ref L),some (.ref W),some (.int (f.part:Nat)),some (.int (f.row:Nat)),some (.ref d),some (.ref rt),some rv,some (.int ((f.row:Nat) + 1))] H
  have ls:lstep bs (fs0++[f]) said=lstepF bs fs0 f said:=lstep_snoc
  rw [ls] at q
  unfold lstepF at q
  rw [er] at q
  have fin:∀ (d':Addr) (to:Nat) (said':List Int) (nm':List (Key × V)) (tv:Int) (H3:Hp),tv=(to:Int)→to < b.rows.length→H d'=none→H3 d'=some (.dK nm')→H3 L=some (.lst (fvs0++[.ref p]))→H3 W=some (.lst (said'.map V.int))→But W H H3→
      (∀ (e:Addr) (fvs':List V) (H':Hp),H' L=some (.lst fvs')→AllAt (FrA H') fvs' (fs0++[⟨f.part,Sd b.rows to,nm'⟩])→H' W=some (.lst (said'.map V.int))→H' e=some (.lst [])→H e=none→But2 L W H H'→Q (.ref e) H')→
      t_step_2 K { nx:=fun _ H'=>Q .non H',rt:=Q } [some (.ref pp),some (.ref L),some (.ref W),some (.int (f.part:Nat)),some (.int (f.row:Nat)),some (.ref d'),some (.ref rt),some rv,some (.int tv)] H3:=by
    intro d' to said' nm' tv H3 et tl nd' hd' hL3 hW3 b3 q'
    subst et
    have t3:Td H H3:=.of_but b3 hW
    unfold t_step_2
    refine asg_open (tup_open (cons_v rfl (cons_open ⟨_,rfl,_,rfl,nil_open ⟨rt,to,rvs,b.rows,rfl,t3.tp _ _ h4,hR.imp fun _ _ y=>y.mono t3.tp,g0,tl,cons_v rfl (nil_open ⟨(by show 3≤sizeLine;decide),fun p6 n6=>?_⟩)⟩⟩)))
    have s6:Same H3 (upd H3 p6 (.tup [.int (f.part:Nat),.int (Sd b.rows to:Nat),.ref d'])):=(Same.refl H3).new n6
    have h6:upd H3 p6 (.tup [.int (f.part:Nat),.int (Sd b.rows to:Nat),.ref d']) p6=some (.tup [.int (f.part:Nat),.int (Sd b.rows to:Nat),.ref d']):=upd_same
    generalize upd H3 p6 (.tup [.int (f.part:Nat),.int (Sd b.rows to:Nat),.ref d'])=H6 at s6 h6 ⊢
    have hL6:=s6 _ _ hL3
    refine ⟨_,rfl,1,rfl,L,_,_,_,rfl,rfl,hL6,ix_end,?_⟩
    rw [set_end]
    have t7:Td H6 (upd H6 L (.lst (fvs0++[.ref p6]))):=.lst hL6
    have hL7:upd H6 L (.lst (fvs0++[.ref p6])) L=some (.lst (fvs0++[.ref p6])):=upd_same
    have hW7:upd H6 L (.lst (fvs0++[.ref p6])) W=some (.lst (said'.map V.int)):=by rw [upd_ne (Ne.symm nLW)];exact s6 _ _ hW3
    have b7:But2 L W H (upd H6 L (.lst (fvs0++[.ref p6]))):=fun c o nc nw e=>by rw [upd_ne nc];exact s6 c o (b3 c o nw e)
    show t_step_1 K _ [some (.ref pp),some (.ref L),some (.ref W),some (.int (f.part:Nat)),some (.int (f.row:Nat)),some (.ref d'),some (.ref rt),some rv,some (.int (to:Nat))] (upd H6 L (.lst (fvs0++[.ref p6])))
    generalize upd H6 L (.lst (fvs0++[.ref p6]))=H7 at t7 hL7 hW7 b7 ⊢
    refine ⟨(by show 0≤sizeLine;decide),fun e' ne=>?_⟩
    have s8:Same H7 (upd H7 e' (.lst [])):=(Same.refl H7).new ne
    have He:H e'=none:=by
      have nL:e'≠L:=fun y=>by rw [y,hL7] at ne;cases ne
      have nW:e'≠W:=fun y=>by rw [y,hW7] at ne;cases ne
      cases e:H e' with
      | none=>rfl
      | some o=>rw [b7 e' o nL nW e] at ne;cases ne
    have t37:Td H3 H7:=(Td.of_same s6).trans t7
    refine q' e' (fvs0++[.ref p6]) _ (s8 _ _ hL7) ?_ (s8 _ _ hW7) upd_same He fun c o nc nw e=>s8 c o (b7 c o nc nw e)
    exact (A0.imp fun _ _ y=>((y.mono t3).mono t37).mono (.of_same s8)).snoc ⟨p6,d',rfl,s8 _ _ (t7.tp _ _ h6),s8 _ _ (t37.dp _ _ hd')⟩
  have lt1:f.row + 1∈leadsL f.row r→f.row + 1 < b.rows.length:=fun hm=>g0.inr _ _ _ hr hm
  have copy:∀ (d':Addr) (nm':List (Key × V)),H d'=none→Same H (upd H d' (.dK nm')):=fun d' nm' nd'=>(Same.refl H).new nd'
  have bW:∀ {H3:Hp},Same H H3→But W H H3:=fun s c o _ e=>s c o e
  cases r with
  | jump t=>cases hj
  | num x z=>
    obtain ⟨pr,rfl,hpr⟩:=hra
    refine ⟨_,rfl,ixT hpr (by decide) rfl (.inl ⟨rfl,_,rfl,no (by decide +kernel) ?_⟩)⟩
    refine ⟨_,rfl,ixT hpr (by decide) rfl (.inl ⟨rfl,_,rfl,no (by decide +kernel) ?_⟩)⟩
    refine ⟨_,rfl,d,_,rfl,hd,fun d' nd'=>?_⟩
    have s1:=copy d' f.nm nd'
    refine ⟨_,rfl,ixT (s1 _ _ hpr) (by decide) rfl (.inl ⟨rfl,_,rfl,yes ?_⟩)⟩
    refine ⟨_,rfl,ixT (s1 _ _ hpr) (by decide) rfl ⟨_,rfl,_,rfl,ixT (s1 _ _ hpr) (by decide) rfl ⟨d',_,rfl,DPut.k (k:=Sum.inr x) upd_same (smallL (by omega)),?_⟩⟩⟩
    rw [upd_upd]
    have s2:=copy d' (putK f.nm (Sum.inr x) (.int z)) nd'
    refine ⟨_,rfl,ixT (s2 _ _ hpr) (by decide) rfl (.inl ⟨rfl,_,rfl,no (by decide +kernel) ?_⟩)⟩
    refine ⟨_,rfl,ixT (s2 _ _ hpr) (by decide) rfl (.inl ⟨rfl,_,rfl,no (by decide +kernel) ?_⟩)⟩
    refine ⟨_,rfl,ixT (s2 _ _ hpr) (by decide) rfl (.inl ⟨rfl,_,rfl,no (by decide +kernel) (iteF ?_)⟩)⟩
    refine fin d' (f.row + 1) said _ _ _ (by omega) (lt1 (by unfold leadsL;exact List.mem_cons_self)) nd' upd_same (s2 _ _ hL) (s2 _ _ hW) (bW s2) fun e fvs' H' a1 a2 a3 a4 a5 a6=>?_
    simp only [hr] at q
    exact q e fvs' H' a1 a2 a3 a4 a5 a6
  | op x s y1 y2=>
    obtain ⟨pr,rfl,hpr⟩:=hra
    have hy1:=rd y1 List.mem_cons_self
    have hy2:=rd y2 (List.mem_cons_of_mem _ List.mem_cons_self)
    refine ⟨_,rfl,ixT hpr (by decide) rfl (.inl ⟨rfl,_,rfl,no (by decide +kernel) ?_⟩)⟩
    refine ⟨_,rfl,ixT hpr (by decide) rfl (.inl ⟨rfl,_,rfl,no (by decide +kernel) ?_⟩)⟩
    refine ⟨_,rfl,d,_,rfl,hd,fun d' nd'=>?_⟩
    have s1:=copy d' f.nm nd'
    have hd1:upd H d' (.dK f.nm) d'=some (.dK f.nm):=upd_same
    refine ⟨_,rfl,ixT (s1 _ _ hpr) (by decide) rfl (.inl ⟨rfl,_,rfl,no (by decide +kernel) ?_⟩)⟩
    refine ⟨_,rfl,ixT (s1 _ _ hpr) (by decide) rfl (.inl ⟨rfl,_,rfl,yes ?_⟩)⟩
    refine ⟨_,rfl,ixT (s1 _ _ hpr) (by decide) rfl ⟨_,rfl,_,rfl,ixT (s1 _ _ hpr) (by decide) rfl ⟨d',_,rfl,dget_has hd1 hy1,_,rfl,_,rfl,ixT (s1 _ _ hpr) (by decide) rfl ⟨d',_,rfl,dget_has hd1 hy2,?_⟩⟩⟩⟩
    refine nil_open ⟨s,vl f.nm y1,vl f.nm y2,rfl,ro.2.1,vl_wth hy1,vl_wth hy2,fun H2 s2=>?_⟩
    have hd2:=s2 _ _ hd1
    have hpr2:=s2 _ _ (s1 _ _ hpr)
    refine ⟨_,rfl,_,rfl,ixT hpr2 (by decide) rfl ⟨d',_,rfl,DPut.k (k:=Sum.inr x) hd2 (smallL (by omega)),?_⟩⟩
    have s3:Same H (upd H2 d' (.dK (putK f.nm (Sum.inr x) (.int (wth s (vl f.nm y1) (vl f.nm y2)))))):=fun c o e=>by
      rw [upd_ne (ne_of_none e nd')];exact s2 _ _ (s1 _ _ e)
    have hd3:upd H2 d' (.dK (putK f.nm (Sum.inr x) (.int (wth s (vl f.nm y1) (vl f.nm y2))))) d'=some (.dK (putK f.nm (Sum.inr x) (.int (wth s (vl f.nm y1) (vl f.nm y2))))):=upd_same
    generalize upd H2 d' (.dK (putK f.nm (Sum.inr x) (.int (wth s (vl f.nm y1) (vl f.nm y2)))))=H3 at s3 hd3 ⊢
    refine ⟨_,rfl,ixT (s3 _ _ hpr) (by decide) rfl (.inl ⟨rfl,_,rfl,no (by decide +kernel) ?_⟩)⟩
    refine ⟨_,rfl,ixT (s3 _ _ hpr) (by decide) rfl (.inl ⟨rfl,_,rfl,no (by decide +kernel) (iteF ?_)⟩)⟩
    refine fin d' (f.row + 1) said _ _ _ (by omega) (lt1 (by unfold leadsL;exact List.mem_cons_self)) nd' hd3 (s3 _ _ hL) (s3 _ _ hW) (bW s3) fun e fvs' H' a1 a2 a3 a4 a5 a6=>?_
    simp only [hr] at q
    exact q e fvs' H' a1 a2 a3 a4 a5 a6
  | say y1=>
    obtain ⟨pr,rfl,hpr⟩:=hra
    have hy1:=rd y1 List.mem_cons_self
    refine ⟨_,rfl,ixT hpr (by decide) rfl (.inl ⟨rfl,_,rfl,no (by decide +kernel) ?_⟩)⟩
    refine ⟨_,rfl,ixT hpr (by decide) rfl (.inl ⟨rfl,_,rfl,no (by decide +kernel) ?_⟩)⟩
    refine ⟨_,rfl,d,_,rfl,hd,fun d' nd'=>?_⟩
    have s1:=copy d' f.nm nd'
    have hd1:upd H d' (.dK f.nm) d'=some (.dK f.nm):=upd_same
    have hW1:=s1 _ _ hW
    refine ⟨_,rfl,ixT (s1 _ _ hpr) (by decide) rfl (.inl ⟨rfl,_,rfl,no (by decide +kernel) ?_⟩)⟩
    refine ⟨_,rfl,ixT (s1 _ _ hpr) (by decide) rfl (.inl ⟨rfl,_,rfl,no (by decide +kernel) ?_⟩)⟩
    refine ⟨_,rfl,ixT (s1 _ _ hpr) (by decide) rfl (.inl ⟨rfl,_,rfl,yes ?_⟩)⟩
    refine ⟨_,rfl,.inl ⟨rfl,_,SqL.of hW1⟩,_,rfl,_,rfl,ixT (s1 _ _ hpr) (by decide) rfl ⟨d',_,rfl,dget_has hd1 hy1,nil_open ⟨W,_,_,rfl,rfl,hW1,smallL (by rw [List.length_map];omega),?_⟩⟩⟩
    have b2:But W H (upd (upd H d' (.dK f.nm)) W (.lst (said.map V.int++[.int (vl f.nm y1)]))):=fun c o nc e=>by rw [upd_ne nc];exact s1 _ _ e
    have hd2:upd (upd H d' (.dK f.nm)) W (.lst (said.map V.int++[.int (vl f.nm y1)])) d'=some (.dK f.nm):=by rw [upd_ne (fun z=>by rw [z,hW] at nd';cases nd')];exact hd1
    have hW2:upd (upd H d' (.dK f.nm)) W (.lst (said.map V.int++[.int (vl f.nm y1)])) W=some (.lst ((said++[vl f.nm y1]).map V.int)):=by rw [upd_same,List.map_append];rfl
    generalize upd (upd H d' (.dK f.nm)) W (.lst (said.map V.int++[.int (vl f.nm y1)]))=H2 at b2 hd2 hW2 ⊢
    have hpr2:=(Td.of_but b2 hW).tp _ _ hpr
    refine ⟨_,rfl,ixT hpr2 (by decide) rfl (.inl ⟨rfl,_,rfl,no (by decide +kernel) (iteF ?_)⟩)⟩
    refine fin d' (f.row + 1) _ _ _ _ (by omega) (lt1 (by unfold leadsL;exact List.mem_cons_self)) nd' hd2 (b2 _ _ nLW hL) hW2 b2 fun e fvs' H' a1 a2 a3 a4 a5 a6=>?_
    simp only [hr] at q
    exact q e fvs' H' a1 a2 a3 a4 a5 a6
  | test y1 to=>
    obtain ⟨pr,rfl,hpr⟩:=hra
    have hy1:=rd y1 List.mem_cons_self
    refine ⟨_,rfl,ixT hpr (by decide) rfl (.inl ⟨rfl,_,rfl,no (by decide +kernel) ?_⟩)⟩
    refine ⟨_,rfl,ixT hpr (by decide) rfl (.inl ⟨rfl,_,rfl,no (by decide +kernel) ?_⟩)⟩
    refine ⟨_,rfl,d,_,rfl,hd,fun d' nd'=>?_⟩
    have s1:=copy d' f.nm nd'
    have hd1:upd H d' (.dK f.nm) d'=some (.dK f.nm):=upd_same
    refine ⟨_,rfl,ixT (s1 _ _ hpr) (by decide) rfl (.inl ⟨rfl,_,rfl,no (by decide +kernel) ?_⟩)⟩
    refine ⟨_,rfl,ixT (s1 _ _ hpr) (by decide) rfl (.inl ⟨rfl,_,rfl,no (by decide +kernel) ?_⟩)⟩
    refine ⟨_,rfl,ixT (s1 _ _ hpr) (by decide) rfl (.inl ⟨rfl,_,rfl,no (by decide +kernel) ?_⟩)⟩
    refine ⟨_,rfl,ixT (s1 _ _ hpr) (by decide) rfl (.inl ⟨rfl,_,rfl,yes ?_⟩)⟩
    simp only [hr] at q
    refine ⟨_,rfl,_,rfl,ixT (s1 _ _ hpr) (by decide) rfl ⟨d',_,rfl,dget_has hd1 hy1,.inl ⟨rfl,_,rfl,if_not (fun c=>?_) (fun c=>?_)⟩⟩⟩
    · refine ⟨_,rfl,ixT (s1 _ _ hpr) (by decide) rfl ?_⟩
      have c':¬ vl f.nm y1=0:=fun z=>c (by rw [z])
      refine fin d' to said _ _ _ rfl ro.2 nd' hd1 (s1 _ _ hL) (s1 _ _ hW) (bW s1) fun e fvs' H' a1 a2 a3 a4 a5 a6=>?_
      rw [if_neg c'] at q
      exact q e fvs' H' a1 a2 a3 a4 a5 a6
    · have c':vl f.nm y1=0:=V.int.inj c
      refine fin d' (f.row + 1) said _ _ _ (by omega) (lt1 (by unfold leadsL;exact List.mem_cons_self)) nd' hd1 (s1 _ _ hL) (s1 _ _ hW) (bW s1) fun e fvs' H' a1 a2 a3 a4 a5 a6=>?_
      rw [if_pos c'] at q
      exact q e fvs' H' a1 a2 a3 a4 a5 a6
  | call x k as=>
    obtain ⟨pr,qr,rfl,hpr,hqr⟩:=hra
    obtain ⟨c,hc,cl,cn,c4⟩:=P.ok.call ro.2.1
    refine ⟨_,rfl,ixT hpr (by decide) rfl (.inl ⟨rfl,_,rfl,no (by decide +kernel) ?_⟩)⟩
    refine ⟨_,rfl,ixT hpr (by decide) rfl (.inl ⟨rfl,_,rfl,yes ?_⟩)⟩
    refine ⟨_,rfl,.inl ⟨rfl,_,SqL.of hL⟩,?_⟩
    refine cons_open ⟨_,rfl,_,rfl,ixT hpr (by decide) rfl (cons_open (.inr ⟨_,rfl,ixT hpr (by decide) rfl ⟨qr,rfl,⟨_,SqT.of hqr⟩,fun D hD=>?_⟩⟩))⟩
    refine comp_tup (xs:=as.map V.str) (fun i σ' H'=>∃ o,σ'=[some (.ref pp),some (.ref L),some (.ref W),some (.int (f.part:Nat)),some (.int (f.row:Nat)),some (.ref d),some (.ref rt),some (.ref pr),some (.int ((f.row:Nat) + 1)),o]∧H' D=some (.lst (((as.take i).map (vl f.nm)).map V.int))∧Same H H') ?_ ?_ ?_ ?_
    · exact ⟨none,rfl,upd_same,(Same.refl H).new hD⟩
    · rintro i σ' H' _ ⟨_,_,_,s'⟩
      exact SqT.of (s' _ _ hqr)
    · rintro i y σ' H1 hx ⟨o,rfl,hw,s1⟩
      rw [List.getElem?_map] at hx
      cases ea:as[i]? with
      | none=>rw [ea] at hx;cases hx
      | some y1=>
        rw [ea] at hx
        cases hx
        have il:=(List.getElem?_eq_some_iff.mp ea).1
        refine app_yes ⟨_,rfl,_,rfl,d,_,rfl,dget_has (s1 _ _ hd) (rd y1 (List.mem_of_getElem? ea)),_,hw,smallL (by rw [List.length_map,List.length_map,List.length_take];omega),_,rfl,?_,fun b' o' e'=>?_⟩
        · rw [upd_same,List.take_succ,ea];simp
        · rw [upd_ne (ne_of_none e' hD)];exact s1 _ _ e'
    · rintro σ' H1 ⟨o,_,hw,s1⟩
      rw [List.length_map,List.take_length] at hw
      refine nil_open ⟨pp,D,k,as.map (vl f.nm),ys,cs,bs,c,rfl,P.mono (.of_same s1),hc,by rw [List.length_map];exact cl,by rw [List.length_map];omega,.inl hw,fun v2 H2 fa s2=>nil_open ?_⟩
      have hL2:=s2 _ _ (s1 _ _ hL)
      refine ⟨L,_,_,rfl,rfl,hL2,smallL (by rw [List.length_append,l0];show fs0.length + 1≤100000;omega),?_⟩
      have t3:Td H2 (upd H2 L (.lst (fvs0++[.ref p]++[v2]))):=.lst hL2
      have hL3:upd H2 L (.lst (fvs0++[.ref p]++[v2])) L=some (.lst (fvs0++[.ref p]++[v2])):=upd_same
      have hW3:upd H2 L (.lst (fvs0++[.ref p]++[v2])) W=some (.lst (said.map V.int)):=by rw [upd_ne (Ne.symm nLW)];exact s2 _ _ (s1 _ _ hW)
      have b3:But2 L W H (upd H2 L (.lst (fvs0++[.ref p]++[v2]))):=fun c o nc nw e=>by rw [upd_ne nc];exact s2 _ _ (s1 _ _ e)
      show t_step_8 K _ [some (.ref pp),some (.ref L),some (.ref W),some (.int (f.part:Nat)),some (.int (f.row:Nat)),some (.ref d),some (.ref rt),some (.ref pr),some (.int ((f.row:Nat) + 1))] (upd H2 L (.lst (fvs0++[.ref p]++[v2])))
      generalize upd H2 L (.lst (fvs0++[.ref p]++[v2]))=H3 at t3 hL3 hW3 b3 ⊢
      refine ⟨(by show 0≤sizeLine;decide),fun e' ne=>?_⟩
      have s8:Same H3 (upd H3 e' (.lst [])):=(Same.refl H3).new ne
      have He:H e'=none:=by
        have nL:e'≠L:=fun y=>by rw [y,hL3] at ne;cases ne
        have nW:e'≠W:=fun y=>by rw [y,hW3] at ne;cases ne
        cases e:H e' with
        | none=>rfl
        | some o=>rw [b3 e' o nL nW e] at ne;cases ne
      simp only [hr] at q
      refine q e' _ _ (s8 _ _ hL3) ?_ (s8 _ _ hW3) upd_same He fun c o nc nw e=>s8 c o (b3 c o nc nw e)
      have t13:Td H H3:=(Td.of_same (s1.trans s2)).trans t3
      exact ((A0.imp fun _ _ y=>(y.mono t13).mono (.of_same s8)).snoc ⟨p,d,rfl,s8 _ _ (t13.tp _ _ hp),s8 _ _ (t13.dp _ _ hd)⟩).snoc ((fa.mono t3).mono (.of_same s8))
  | give y1=>
    obtain ⟨pr,rfl,hpr⟩:=hra
    have hy1:=rd y1 List.mem_cons_self
    refine ⟨_,rfl,ixT hpr (by decide) rfl (.inl ⟨rfl,_,rfl,yes ?_⟩)⟩
    refine ⟨_,rfl,_,rfl,_,rfl,_,rfl,ixT hpr (by decide) rfl ⟨d,_,rfl,dget_has hd hy1,nil_open ⟨pp,L,vl f.nm y1,n,_,fs0,f,ys,cs,bs,rfl,P,hL,A,lo,hn,fun e' fvs' H' a1 a2 a3 a4 a5=>?_⟩⟩⟩
    have hW':=a5 _ _ (Ne.symm nLW) hW
    simp only [hr] at q
    cases eg:fs0.getLast? with
    | none=>
      rw [eg] at a2 a3
      simp only [eg] at q
      exact q e' fvs' H' a1 a2 hW' a3 a4 fun c o nc _ e=>a5 c o nc e
    | some g=>
      rw [eg] at a2 a3
      simp only [eg] at q
      exact q e' fvs' H' a1 a2 hW' a3 a4 fun c o nc _ e=>a5 c o nc e
theorem valV_mem {nm:List (Key × V)} {k:Key} {v:V} (h:valV nm k=some v):(k,v)∈nm:=by
  unfold valV at h
  cases e:nm.find? fun kv=>decide (kv.1=k) with
  | none=>rw [e] at h;cases h
  | some kv=>
    rw [e] at h
    have h:kv.2=v:=Option.some.inj h
    have m:=List.mem_of_find?_eq_some e
    have p:=List.find?_some e
    have p:kv.1=k:=of_decide_eq_true p
    obtain ⟨a,c⟩:=kv
    subst h p
    exact m
theorem has_key {nm:List (Key × V)} (K:Kys nm) {y:Str} (h:(Sum.inr y:Key)∈nm.map (·.1)):Has nm y:=by
  cases e:valV nm (Sum.inr y) with
  | none=>exact absurd h (valV_not e)
  | some v=>
    obtain ⟨y',i,e',hi⟩:=K _ (valV_mem e)
    injection e' with e1 e2
    exact ⟨i,by rw [e,e2],hi⟩
theorem key_has {nm:List (Key × V)} {y:Str} (h:Has nm y):(Sum.inr y:Key)∈nm.map (·.1):=by
  obtain ⟨i,g⟩:=h
  exact valV_in g.1
theorem keys_put {nm:List (Key × V)} {x:Str} {i:Int} (h:(Sum.inr x:Key)∈nm.map (·.1)):(put nm x i).map (·.1)=nm.map (·.1):=by
  unfold put putK
  have:(nm.any fun kv=>decide (kv.1=(Sum.inr x:Key)))=true:=by
    rw [List.any_eq_true]
    obtain ⟨kv,m,e⟩:=List.mem_map.mp h
    exact ⟨kv,m,decide_eq_true e⟩
  rw [if_pos this,List.map_map]
  have:((fun (kv:Key × V)=>kv.1) ∘ fun kv=>if kv.1=Sum.inr x then (kv.1,V.int i) else kv)=fun kv=>kv.1:=by
    funext kv
    show (if kv.1=Sum.inr x then (kv.1,V.int i) else kv).1=kv.1
    split <;> rfl
  rw [this]
theorem agrs_take {bs:List BPart} {fs gs:List Fr} {i:Nat} {f g:Fr} (h:Agrs bs (fs.take i) gs) (e:fs[i]?=some f) (a:Agr bs f g):Agrs bs (fs.take (i + 1)) (gs++[g]):=by
  rw [List.take_succ,e]
  exact .snoc h a
theorem r_turned {K:Fg} {vs:List V} {H:Hp} {Q:VK} {E:XK} (h:sp_turned K vs H Q E):t_turned K { nx:=fun _ H'=>Q .non H',rt:=Q } (start N_turned vs) H:=by
  obtain ⟨st,pp,L,k,n,fvs,fs,ys,cs,bs,rfl,S,hk,P,hL,A,lo,hn,nL,q⟩:=h
  have ll:=lo.few
  have fl:=A.len
  refine ⟨(by show 0≤sizeLine;decide),fun M nM=>?_⟩
  have s1:Same H (upd H M (.lst [])):=(Same.refl H).new nM
  have hM:upd H M (.lst []) M=some (.lst []):=upd_same
  show t_turned_7 K _ [some (.ref st),some (.ref pp),some (.ref L),some (.ref M),none,none,none,none,none,none] (upd H M (.lst []))
  generalize upd H M (.lst [])=H1 at s1 hM ⊢
  have nMs:M≠st:=fun z=>by rw [z,S.lst.choose_spec] at nM;cases nM
  refine .inl ⟨_,rfl,L,rfl,⟨_,SqL.of (s1 _ _ hL)⟩,for_list (xs:=fvs) (fun i σ' H'=>∃ (ws:List V) (gs:List Fr) (k':Nat) (o4 o5 o6 o7 o8 o9:Option V),σ'=[some (.ref st),some (.ref pp),some (.ref L),some (.ref M),o4,o5,o6,o7,o8,o9]∧H' M=some (.lst ws)∧AllAt (FrA H') ws gs∧Agrs bs (fs.take i) gs∧(∀ g∈gs,FOk bs n g)∧Stt K H' st k'∧k'≤k + 400 * i∧But st H H'∧gs.length=i) ⟨[],[],k,none,none,none,none,none,none,rfl,hM,.nil,.nil,fun g hg=>(by cases hg),S.same s1,by lia,fun c o _ e=>s1 c o e,rfl⟩ ?_ ?_ ?_⟩
  · rintro i σ' H' _ ⟨_,_,_,_,_,_,_,_,_,_,_,_,_,_,_,_,b,_⟩
    exact SqL.of (b _ _ nL hL)
  · rintro i v σ' H2 hv ⟨ws,gs,k2,o4,o5,o6,o7,o8,o9,rfl,hM2,A2,ag,gk,S2,hk2,b2,gl⟩
    have il:i < fvs.length:=(List.getElem?_eq_some_iff.mp hv).1
    obtain ⟨f,hf,fa⟩:=A.of_v hv
    have t2:Td H H2:=.of_but b2 S.lst.choose_spec
    obtain ⟨p,d,rfl,hp,hd⟩:=fa.mono t2
    have fo:=lo.frs f (List.mem_of_getElem? hf)
    obtain ⟨b,r,hb,hr,hj,sd,er,ro,rd⟩:=fo.reads P.ok
    have g0:=P.ok.good hb
    have P2:=P.mono t2.tp
    obtain ⟨pvs,pt,pa,rt,rvs,h1,e1,h2,h3,h4,hR⟩:=P2.rows hb
    have nmf:=fo.few
    refine ⟨p,_,rfl,SqT.of hp,rfl,_,_,rfl,_,_,rfl,_,_,rfl,rfl,?_⟩
    show t_turned_6 K _ [some (.ref st),some (.ref pp),some (.ref L),some (.ref M),some (.int (f.part:Nat)),some (.int (f.row:Nat)),some (.ref d),o7,o8,o9] H2
    have few:∀ r∈b.rows,(readsOf r).length≤100:=fun r' hr'=>by
      have ro':=(P.ok.ok.part b (List.mem_of_getElem? hb)).rows r' hr'
      cases r' with
      | call x k as=>
        obtain ⟨c,hc,cl,_,c4⟩:=P.ok.call ro'.2.1
        show as.length≤100;lia
      | _=>simp [readsOf]
    have inys:∀ r∈b.rows,∀ y∈readsOf r,y∈ys:=fun r' hr' y hy=>by
      have ro':=(P.ok.ok.part b (List.mem_of_getElem? hb)).rows r' hr'
      cases r' with
      | num x z=>cases hy
      | jump t=>cases hy
      | op x s a c=>
        rcases List.mem_cons.mp hy with e | e
        · rw [e];exact ro'.2.2.1
        · rw [List.mem_singleton.mp e];exact ro'.2.2.2
      | call x k as=>exact ro'.2.2 y hy
      | say a=>rw [List.mem_singleton.mp hy];exact ro'
      | test a t=>rw [List.mem_singleton.mp hy];exact ro'.1
      | give a=>rw [List.mem_singleton.mp hy];exact ro'
    refine ⟨_,rfl,_,rfl,ixT h1 (by lia) e1 (ixT h2 (by decide) rfl (nil_open ⟨rt,rvs,b.rows,ys,rfl,h4,hR,g0,few,by have:=P.ok.ok.y6;lia,inys,fun dw ns ts wss ss H3 hns pw hdw tl tw wt nd3 s3=>?_⟩))⟩
    obtain ⟨j,hj'⟩:=List.getElem?_of_mem ((hns f.row).mpr sd)
    obtain ⟨tt,ett⟩:∃ tt,ts[j]?=some tt:=⟨_,List.getElem?_eq_getElem (by rw [tl];exact (List.getElem?_eq_some_iff.mp hj').1)⟩
    obtain ⟨wn,ewn⟩:∃ wn,wss[j]?=some wn:=⟨_,List.getElem?_eq_getElem (by rw [wt.len];exact (List.getElem?_eq_some_iff.mp hj').1)⟩
    have htt:=tw j _ _ ett ewn
    have hw:=(wt.at_ j _ _ hj' ewn).2
    have dg:DGet H3 dw (.int (f.row:Nat)) (some (.ref tt)):=by
      have:=DGet.k (k:=nk f.row) hdw
      rw [valV_zip (nk_nodup pw) (by rw [List.getElem?_map,hj'];rfl) (by rw [List.getElem?_map,ett];rfl)] at this
      exact this
    refine ⟨_,rfl,dw,_,rfl,dg,?_⟩
    show t_turned_5 K _ [some (.ref st),some (.ref pp),some (.ref L),some (.ref M),some (.int (f.part:Nat)),some (.int (f.row:Nat)),some (.ref d),some (.ref tt),o8,o9] H3
    have hd3:=s3 _ _ hd
    refine ⟨_,rfl,d,_,rfl,hd3,fun d' nd'=>?_⟩
    have s4:Same H3 (upd H3 d' (.dK f.nm)):=(Same.refl H3).new nd'
    have hd4:upd H3 d' (.dK f.nm) d'=some (.dK f.nm):=upd_same
    show t_turned_4 K _ [some (.ref st),some (.ref pp),some (.ref L),some (.ref M),some (.int (f.part:Nat)),some (.int (f.row:Nat)),some (.ref d),some (.ref tt),some (.ref d'),o9] (upd H3 d' (.dK f.nm))
    generalize upd H3 d' (.dK f.nm)=H4 at s4 hd4 ⊢
    refine .inl ⟨_,rfl,d,_,rfl,.inl (s4 _ _ hd3),fun kl nkl=>?_⟩
    have s5:Same H4 (upd H4 kl (.lst (f.nm.map fun kv=>kV kv.1))):=(Same.refl H4).new nkl
    have hkl:upd H4 kl (.lst (f.nm.map fun kv=>kV kv.1)) kl=some (.lst (f.nm.map fun kv=>kV kv.1)):=upd_same
    generalize upd H4 kl (.lst (f.nm.map fun kv=>kV kv.1))=H5 at s5 hkl ⊢
    have s25:Same H2 H5:=(s3.trans s4).trans s5
    have S5:=S2.same s25
    have nkst:kl≠st:=fun z=>by rw [z,(S2.same (s3.trans s4)).lst.choose_spec] at nkl;cases nkl
    have ndst:d'≠st:=fun z=>by rw [z,(S2.same s3).lst.choose_spec] at nd';cases nd'
    have H2d:H2 d'=none:=s3.free nd'
    refine ⟨kl,rfl,⟨_,SqL.of hkl⟩,for_list (xs:=f.nm.map fun kv=>kV kv.1) (fun c σ' H'=>∃ (nm':List (Key × V)) (k3:Nat) (o:Option V),σ'=[some (.ref st),some (.ref pp),some (.ref L),some (.ref M),some (.int (f.part:Nat)),some (.int (f.row:Nat)),some (.ref d),some (.ref tt),some (.ref d'),o]∧H' d'=some (.dK nm')∧nm'.map (·.1)=f.nm.map (·.1)∧Kys nm'∧(∀ y∈wn,vl nm' y=vl f.nm y)∧Stt K H' st k3∧k3≤k2 + 4 * c∧But st H2 H'∧H' kl=some (.lst (f.nm.map fun kv=>kV kv.1))∧H' tt=some (.tup (wn.map V.str))) ⟨f.nm,k2,_,rfl,s5 _ _ hd4,rfl,fo.kys,fun _ _=>rfl,S5,by lia,fun c o _ e=>s25 c o e,hkl,s5 _ _ (s4 _ _ htt)⟩ ?_ ?_ ?_⟩
    · rintro c σ' H' _ ⟨_,_,_,_,_,_,_,_,_,_,_,hk',_⟩
      exact SqL.of hk'
    · rintro c x σ' H6 hx ⟨nm',k3,o,rfl,hd6,ky,kk,ww,S6,hk3,b6,hkl6,htt6⟩
      rw [List.getElem?_map] at hx
      cases ek:f.nm[c]? with
      | none=>rw [ek] at hx;cases hx
      | some kv=>
        rw [ek] at hx
        have cl:=(List.getElem?_eq_some_iff.mp ek).1
        obtain ⟨y,iy,ey,_⟩:=fo.kys kv (List.mem_of_getElem? ek)
        have ex:x=.str y:=by rw [← Option.some.inj hx,ey];rfl
        subst ex
        have ky':(Sum.inr y:Key)∈nm'.map (·.1):=by
          rw [ky]
          exact List.mem_map.mpr ⟨kv,List.mem_of_getElem? ek,by rw [ey]⟩
        have nl:nm'.length≤100:=by
          have:=congrArg List.length ky
          rw [List.length_map,List.length_map] at this
          lia
        refine ⟨_,rfl,_,rfl,tt,_,rfl,.inr (SqT.of htt6),rfl,by simp [flatV],_,rfl,?_⟩
        rw [inV_strs]
        refine if_not (fun nw=>?_) (fun yw=>?_)
        · refine ⟨_,rfl,st,k3,rfl,S6,by lia,fun z k4 H7 z0 z1 S7 l7 B7=>?_⟩
          have hd7:=B7 d' _ ndst hd6
          refine ⟨_,rfl,_,rfl,d',_,rfl,DPut.k (k:=Sum.inr y) hd7 (smallL (by lia)),put nm' y z,k4,_,rfl,upd_same,by rw [keys_put ky'];exact ky,kys_put ⟨z0,z1⟩ kk,fun y2 hy2=>?_,?_,by lia,fun b' o' nb e'=>?_,?_,?_⟩
          · rw [vl_put,if_neg (fun z'=>nw (by rw [← z'];exact hy2))]
            exact ww y2 hy2
          · obtain ⟨scr,ns',c',e1',q1,l1⟩:=S7
            refine ⟨scr,ns',c',by rw [upd_ne (Ne.symm ndst)];exact e1',?_,l1⟩
            refine q1.mono fun p' o1 u1 e'=>?_
            have n1:p'≠d':=fun z'=>by rw [z',hd7] at e';cases e'
            rw [upd_ne n1];exact e'
          · rw [upd_ne (ne_of_none e' H2d)]
            exact B7 _ _ nb (b6 _ _ nb e')
          · have n1:kl≠d':=fun z'=>by rw [z',hd6] at hkl6;cases hkl6
            rw [upd_ne n1]
            exact B7 _ _ nkst hkl6
          · have nts:tt≠st:=fun z'=>by rw [z',S6.lst.choose_spec] at htt6;cases htt6
            have n1:tt≠d':=fun z'=>by rw [z',hd6] at htt6;cases htt6
            rw [upd_ne n1]
            exact B7 _ _ nts htt6
        · exact ⟨nm',k3,_,rfl,hd6,ky,kk,ww,S6,by lia,b6,hkl6,htt6⟩
    · rintro σ' H6 ⟨nm',k3,o,rfl,hd6,ky,kk,ww,S6,hk3,b6,hkl6,htt6⟩
      show t_turned_2 K _ [some (.ref st),some (.ref pp),some (.ref L),some (.ref M),some (.int (f.part:Nat)),some (.int (f.row:Nat)),some (.ref d),some (.ref tt),some (.ref d'),o] H6
      rw [List.length_map] at hk3
      have hM6:=b6 _ _ nMs hM2
      refine ⟨_,rfl,.inl ⟨rfl,_,SqL.of hM6⟩,?_⟩
      refine cons_open (tup_open (cons_v rfl (cons_v rfl (cons_v rfl (nil_open ⟨(by show 3≤sizeLine;decide),fun p6 n6=>nil_open ?_⟩)))))
      have s7:Same H6 (upd H6 p6 (.tup [.int (f.part:Nat),.int (f.row:Nat),.ref d'])):=(Same.refl H6).new n6
      have h7:upd H6 p6 (.tup [.int (f.part:Nat),.int (f.row:Nat),.ref d']) p6=some (.tup [.int (f.part:Nat),.int (f.row:Nat),.ref d']):=upd_same
      generalize upd H6 p6 (.tup [.int (f.part:Nat),.int (f.row:Nat),.ref d'])=H7 at s7 h7 ⊢
      have hM7:=s7 _ _ hM6
      have wl:=A2.len
      refine ⟨M,_,_,rfl,rfl,hM7,smallL (by lia),?_⟩
      have t8:Td H7 (upd H7 M (.lst (ws++[.ref p6]))):=.lst hM7
      have t28:Td H2 (upd H7 M (.lst (ws++[.ref p6]))):=((Td.of_but b6 S2.lst.choose_spec).trans (.of_same s7)).trans t8
      have nmk:((nm'.map (·.1))).Nodup:=by rw [ky];exact fo.nd
      have nml:nm'.length≤n:=by
        have:=congrArg List.length ky
        rw [List.length_map,List.length_map] at this
        lia
      have gg:FOk bs n ⟨f.part,f.row,nm'⟩:=by
        obtain ⟨b',hb',sd',kn'⟩:=fo.part
        exact ⟨⟨b',hb',sd',fun kss kl' Kn ks hks y hy=>has_key kk (by rw [ky];exact key_has (kn' kss kl' Kn ks hks y hy))⟩,kk,nmk,nml⟩
      have aa:Agr bs f ⟨f.part,f.row,nm'⟩:=⟨rfl,rfl,fun y hy=>ww y ((hw y).mpr (by rw [er] at hy;exact hy))⟩
      refine ⟨ws++[.ref p6],gs++[⟨f.part,f.row,nm'⟩],k3,_,_,_,_,_,_,rfl,upd_same,(A2.imp fun _ _ y=>y.mono t28).snoc ⟨p6,d',rfl,t8.tp _ _ h7,t8.dp _ _ (s7 _ _ hd6)⟩,agrs_take ag hf aa,fun g hg=>?_,?_,by lia,fun b' o' nb e'=>?_,by simp [gl]⟩
      · rcases List.mem_append.mp hg with z | z
        · exact gk g z
        · rw [List.mem_singleton.mp z];exact gg
      · exact (S6.same s7).mono .upd_at hM7 (Ne.symm nMs)
      · have e2:=b2 _ _ nb e'
        rw [upd_ne (ne_of_none e' nM)]
        exact s7 _ _ (b6 _ _ nb e2)
  · rintro σ' H2 ⟨ws,gs,k2,o4,o5,o6,o7,o8,o9,rfl,hM2,A2,ag,gk,S2,hk2,b2,gl⟩
    rw [fl,List.take_length] at ag
    exact ⟨_,rfl,q M ws gs k2 H2 nM hM2 A2 ag gk S2 (by rw [fl] at hk2;lia) b2⟩
theorem r_places {K:Fg} {vs:List V} {H:Hp} {Q:VK} {E:XK} (h:sp_places K vs H Q E):t_places K { nx:=fun _ H'=>Q .non H',rt:=Q } (start N_places vs) H:=by
  obtain ⟨L,fvs,fs,rfl,hL,A,hl,q⟩:=h
  have fl:=A.len
  refine .inl ⟨_,rfl,L,rfl,⟨_,SqL.of hL⟩,fun D hD=>?_⟩
  refine comp_list (xs:=fvs) (fun i σ' H'=>∃ (ws:List V) (o:Option V),σ'=[some (.ref L),o]∧H' D=some (.lst ws)∧AllAt (PlA H') ws (fs.take i)∧Same H H') ?_ ?_ ?_ ?_
  · exact ⟨[],none,rfl,upd_same,by rw [List.take_zero];exact .nil,(Same.refl H).new hD⟩
  · rintro i σ' H' _ ⟨_,_,_,_,_,s'⟩
    exact SqL.of (s' _ _ hL)
  · rintro i x σ' H1 hx ⟨ws,o,rfl,hw,A1,s1⟩
    obtain ⟨f,hf,p,d,rfl,hp,hd⟩:=A.of_v hx
    have il:=(List.getElem?_eq_some_iff.mp hf).1
    refine app_yes ⟨_,rfl,_,rfl,.inr ⟨p,_,rfl,SqT.of (s1 _ _ hp),(fun z=>by have z1:HT.sIx 3 3 (some 2)=3:=z.2;revert z1;decide),fun c nc=>?_⟩⟩
    have s2:Same H1 (upd H1 c (.tup [.int (f.part:Nat),.int (f.row:Nat)])):=(Same.refl H1).new nc
    have hc:upd H1 c (.tup [.int (f.part:Nat),.int (f.row:Nat)]) c=some (.tup [.int (f.part:Nat),.int (f.row:Nat)]):=upd_same
    have hw2:=s2 _ _ hw
    have wl:=A1.len
    rw [List.length_take] at wl
    refine ⟨_,hw2,smallL (by lia),ws++[.ref c],_,rfl,upd_same,?_,fun b' o' e'=>?_⟩
    · rw [List.take_succ,hf]
      refine (A1.imp fun _ _ y=>?_).snoc ?_
      · obtain ⟨p',e',h'⟩:=y
        exact ⟨p',e',(Td.lst hw2).tp _ _ (s2 _ _ h')⟩
      · exact ⟨c,rfl,(Td.lst hw2).tp _ _ hc⟩
    · rw [upd_ne (ne_of_none e' hD)]
      exact s2 _ _ (s1 _ _ e')
  · rintro σ' H1 ⟨ws,o,_,hw,A1,s1⟩
    rw [fl,List.take_length] at A1
    exact q D ws H1 hD hw A1 s1
theorem ints_top {K:Fg} {neg:Bool} {H:Hp} {l m:Addr} {zs:List Int} {Q:VK} (hl:H l=some (.lst (zs.map V.int))) (hm:H m=some (.lst (zs.map V.int))) (k:Q (.bl (!neg)) H):rEqN K neg (.ref l) (.ref m) H Q:=by
  refine ⟨l,m,_,_,rfl,rfl,.inl ⟨SqL.of hl,SqL.of hm⟩,.inr ⟨List.replicate (zs.map V.int).length true,rfl,by simp,fun j x y b hx hy hb=>?_,?_⟩⟩
  · rw [hx] at hy;cases hy
    have:b=true:=(List.mem_replicate.mp (List.mem_of_getElem? hb)).2
    subst this
    rw [List.getElem?_map] at hx
    cases e2:zs[j]? with
    | none=>rw [e2] at hx;cases hx
    | some z=>
      rw [e2] at hx
      cases hx
      have:eqV (.int z) (.int z)=true:=by show (z == z)=true;simp
      rw [← this]
      exact .flat rfl rfl
  · have ea:(List.replicate (zs.map V.int).length true).all id=true:=by simp
    rw [ea]
    cases neg <;> exact k
theorem list_none {K:Fg} {neg:Bool} {H:Hp} {l m:Addr} {vs':List V} {Q:VK} (hl:H l=some (.lst vs')) (hm:H m=some (.lst [])) (k1:vs'=[]→Q (.bl (!neg)) H) (k2:vs'≠[]→Q (.bl neg) H):rEqN K neg (.ref l) (.ref m) H Q:=by
  refine ⟨l,m,vs',[],rfl,rfl,.inl ⟨SqL.of hl,SqL.of hm⟩,?_⟩
  by_cases e:vs'=[]
  · right
    subst e
    exact ⟨[],rfl,rfl,fun j a b e ha=>by simp at ha,by have:=k1 rfl;cases neg <;> exact this⟩
  · left
    exact ⟨fun z=>e (List.length_eq_zero_iff.mp z),k2 e⟩
theorem Agrs.at_ {bs:List BPart} {fs gs:List Fr} (h:Agrs bs fs gs):∀ (j:Nat) f g,fs[j]?=some f→gs[j]?=some g→Agr bs f g:=by
  induction h with
  | nil=>intro j f g hf;simp at hf
  | @snoc fs fs' f0 f0' h a ih=>
    intro j f g hf hg
    have l:=h.len
    by_cases c:j < fs.length
    · rw [List.getElem?_append_left c] at hf
      rw [List.getElem?_append_left (by lia)] at hg
      exact ih j f g hf hg
    · have ej:j=fs.length:=by
        have:=(List.getElem?_eq_some_iff.mp hf).1
        simp at this;lia
      subst ej
      rw [List.getElem?_concat_length] at hf
      rw [← l,List.getElem?_concat_length] at hg
      cases hf;cases hg;exact a
theorem places_top {K:Fg} {neg:Bool} {bs:List BPart} {H:Hp} {l m:Addr} {ts us:List V} {fs gs:List Fr} {Q:VK} (hl:H l=some (.lst ts)) (hm:H m=some (.lst us)) (A:AllAt (PlA H) ts fs) (B:AllAt (PlA H) us gs) (ag:Agrs bs fs gs) (k:Q (.bl (!neg)) H):rEqN K neg (.ref l) (.ref m) H Q:=by
  have lt:ts.length=us.length:=by rw [A.len,B.len,ag.len]
  refine ⟨l,m,_,_,rfl,rfl,.inl ⟨SqL.of hl,SqL.of hm⟩,.inr ⟨List.replicate ts.length true,lt,by simp,fun j x y b hx hy hb=>?_,?_⟩⟩
  · have:b=true:=(List.mem_replicate.mp (List.mem_of_getElem? hb)).2
    subst this
    obtain ⟨f,hf,p,rfl,hp⟩:=A.of_v hx
    obtain ⟨g,hg,p',rfl,hp'⟩:=B.of_v hy
    have a:=ag.at_ j f g hf hg
    rw [a.1,a.2.1] at hp'
    by_cases e:p=p'
    · subst e;exact .same
    · have ea:([true,true]:List Bool).all id=true:=rfl
      rw [← ea]
      refine .tups (us:=[.int (f.part:Nat),.int (f.row:Nat)]) (vs:=[.int (f.part:Nat),.int (f.row:Nat)]) e (SqT.of hp) (SqT.of hp') rfl rfl fun j2 x2 y2 b2 h1 h2 h3=>?_
      have fl:∀ z:Int,EqN K H 3 (.int z) (.int z) true:=fun z=>by
        have:eqV (.int z) (.int z)=true:=by show (z == z)=true;simp
        rw [← this];exact .flat rfl rfl
      match j2 with
      | 0=>cases h1;cases h2;cases h3;exact fl _
      | 1=>cases h1;cases h2;cases h3;exact fl _
      | j2 + 2=>simp at h1
  · have ea:(List.replicate ts.length true).all id=true:=by simp
    rw [ea]
    cases neg <;> exact k
theorem PlA.same {H H':Hp} {v:V} {f:Fr} (h:PlA H v f) (s:Same H H'):PlA H' v f:=by
  obtain ⟨p,e,h⟩:=h
  exact ⟨p,e,s _ _ h⟩
structure Two (H:Hp) (F W G D:Addr) (bs:List BPart) (n:Nat) (fs gs:List Fr) (said:List Int):Prop where
  f:∃ fvs,H F=some (.lst fvs)∧AllAt (FrA H) fvs fs
  g:∃ gvs,H G=some (.lst gvs)∧AllAt (FrA H) gvs gs
  w:H W=some (.lst (said.map V.int))
  d:H D=some (.lst (said.map V.int))
  ag:Agrs bs fs gs
  lf:LOk bs n fs
  lg:LOk bs n gs
  sl:said.length≤n
structure Apart (F W G D:Addr):Prop where
  fw:F≠W
  fg:F≠G
  fd:F≠D
  wg:W≠G
  wd:W≠D
  gd:G≠D
theorem Two.same {H H':Hp} {F W G D:Addr} {bs:List BPart} {n:Nat} {fs gs:List Fr} {said:List Int} (T:Two H F W G D bs n fs gs said) (s:Same H H'):Two H' F W G D bs n fs gs said:=by
  obtain ⟨fvs,h1,h2⟩:=T.f
  obtain ⟨gvs,h3,h4⟩:=T.g
  exact ⟨⟨fvs,s _ _ h1,h2.imp fun _ _ y=>y.mono (.of_same s)⟩,⟨gvs,s _ _ h3,h4.imp fun _ _ y=>y.mono (.of_same s)⟩,s _ _ T.w,s _ _ T.d,T.ag,T.lf,T.lg,T.sl⟩
theorem LOk.up {bs:List BPart} {n n':Nat} {fs:List Fr} (h:LOk bs n fs) (l:n≤n'):LOk bs n' fs:=⟨fun f hf=>(h.frs f hf).up l,h.wait,Nat.le_trans h.few l⟩
theorem Two.up {H:Hp} {F W G D:Addr} {bs:List BPart} {n n':Nat} {fs gs:List Fr} {said:List Int} (T:Two H F W G D bs n fs gs said) (l:n≤n'):Two H F W G D bs n' fs gs said:=⟨T.f,T.g,T.w,T.d,T.ag,T.lf.up l,T.lg.up l,Nat.le_trans T.sl l⟩
theorem said_len {bs:List BPart} {fs:List Fr} {said:List Int}:(lstep bs fs said).said.length≤said.length + 1:=by
  rcases List.eq_nil_or_concat fs with rfl | ⟨fs0,f,e⟩
  · exact Nat.le_succ _
  rw [List.concat_eq_append] at e
  subst e
  rw [lstep_snoc]
  unfold lstepF
  cases e:(rws bs f.part)[f.row]? with
  | none=>simp only [e];exact Nat.le_succ _
  | some r=>
    cases r with
    | give p=>
      cases e2:fs0.getLast? with
      | none=>simp only [e,e2];exact Nat.le_succ _
      | some g=>simp only [e,e2];exact Nat.le_succ _
    | say p=>simp only [e];rw [List.length_append];exact Nat.le_refl _
    | _=>simp only [e];exact Nat.le_succ _
theorem td_but2 {H H':Hp} {L W:Addr} {xs ys:List V} (b:But2 L W H H') (hL:H L=some (.lst xs)) (hW:H W=some (.lst ys)):Td H H':=
  ⟨fun p vs e=>b p _ (fun z=>by rw [z,hL] at e;cases e) (fun z=>by rw [z,hW] at e;cases e) e,fun p k e=>b p _ (fun z=>by rw [z,hL] at e;cases e) (fun z=>by rw [z,hW] at e;cases e) e⟩
theorem stt_keep {K:Fg} {H H':Hp} {st:Addr} {k:Nat} (h:Stt K H st k) (e:∀ o,H st=some o→H' st=some o) (f:Fz H H'):Stt K H' st k:=by
  obtain ⟨scr,ns,c,e1,q,l⟩:=h
  exact ⟨scr,ns,c,e _ e1,q.mono f,l⟩
theorem fz_but2 {H H':Hp} {L W:Addr} {xs ys:List V} (b:But2 L W H H') (hL:H L=some (.lst xs)) (hW:H W=some (.lst ys)):Fz H H':=fun p o u e=>b p _ (fun z=>by rw [z,hL] at e;cases e) (fun z=>by rw [z,hW] at e;cases e) e
theorem r_law {K:Fg} {vs:List V} {H:Hp} {Q:VK} {E:XK} (h:sp_law K vs H Q E):t_law K { nx:=fun _ H'=>Q .non H',rt:=Q } (start N_law vs) H:=by
  obtain ⟨scr,ns,rfl,hscr,hns,q⟩:=h
  refine ⟨_,rfl,(by show 3≤sizeLine;decide),fun st hst=>?_⟩
  have S1:Stt K (upd H st (.lst [.ref scr,.int 0,.int 0])) st 0:=⟨scr,ns,0,upd_same,hscr.mono (.of_same ((Same.refl H).new hst)),hns⟩
  have hscr1:ScrAt K (upd H st (.lst [.ref scr,.int 0,.int 0])) scr ns:=hscr.mono (.of_same ((Same.refl H).new hst))
  show t_law_13 K _ [some (.ref scr),some (.ref st),none,none,none,none,none,none,none,none] (upd H st (.lst [.ref scr,.int 0,.int 0]))
  generalize upd H st (.lst [.ref scr,.int 0,.int 0])=H1 at S1 hscr1 ⊢
  have main:∀ (m:Nat) (H3:Hp) (R:VK),Stt K H3 st 0→(m=12∨m=24)→(∀ (p:Addr) (bs:List BPart) (ys:List Str) (cs:List Nat) (k':Nat) (H':Hp),PgA H' p ys cs bs→Stt K H' st k'→k'≤10000→R (.ref p) H')→sp_program K [.ref st,.int (m:Nat)] H3 R E0:=fun m H3 R S3 hm r=>
    ⟨st,m,0,rfl,S3,by lia,by lia,by lia,fun p pvs bs ys cs k' H' h1 h2 h3 _ h5 h6 _=>r p bs ys cs k' H' ⟨⟨pvs,h1,h2⟩,⟨h3⟩⟩ h5 (by lia)⟩
  refine ⟨_,rfl,(by show 2≤sizeLine;decide),fun L0 n0=>?_⟩
  have s2:Same H1 (upd H1 L0 (.lst [.int 12,.int 24])):=(Same.refl H1).new n0
  have hL0:upd H1 L0 (.lst [.int 12,.int 24]) L0=some (.lst [.int 12,.int 24]):=upd_same
  generalize upd H1 L0 (.lst [.int 12,.int 24])=H2 at s2 hL0 ⊢
  refine ⟨_,rfl,_,rfl,.inl ⟨scr,_,rfl,(hscr1.mono (.of_same s2)).sq,fun C nC=>?_⟩⟩
  have ecut:cutV (ns.map V.int) none (some (1:Int))=(ns.take 1).map V.int:=by rw [show (1:Int)=((1:Nat):Int) from rfl,cut_take,List.map_take]
  rw [ecut]
  have s3:Same H2 (upd H2 C (.lst ((ns.take 1).map V.int))):=(Same.refl H2).new nC
  have hC:upd H2 C (.lst ((ns.take 1).map V.int)) C=some (.lst ((ns.take 1).map V.int)):=upd_same
  generalize upd H2 C (.lst ((ns.take 1).map V.int))=H3 at s3 hC ⊢
  have S3:=(S1.same s2).same s3
  refine ⟨C,ns.take 1,rfl,SqL.of hC,fun z=>?_⟩
  refine ⟨_,_,rfl,rfl,⟨by decide,by decide⟩,_,_,rfl,rfl,(by show (0:Int) < 2;decide),?_⟩
  have rest:∀ (p:Addr) (bs:List BPart) (ys:List Str) (cs:List Nat) (k':Nat) (H':Hp),PgA H' p ys cs bs→Stt K H' st k'→k'≤10000→t_law_12 K { nx:=fun _ H'=>Q .non H',rt:=Q } [some (.ref scr),some (.ref st),some (.ref p),none,none,none,none,none,none,none] H':=by
    intro pp bs ys cs k4 H4 P4 S4 hk4
    obtain ⟨pvs,hpp,pA⟩:=P4.ex
    have pl:pvs.length=bs.length:=pA.len
    have b1:=P4.ok.ok.pos
    have b5:=P4.ok.ok.few
    refine ⟨_,rfl,_,rfl,_,_,rfl,.inr ⟨_,SqT.of hpp,rfl⟩,?_⟩
    refine ⟨st,_,k4,rfl,S4,by lia,by lia,by lia,fun e H5 e0 e1 S5 B5=>?_⟩
    obtain ⟨k,rfl⟩:∃ k:Nat,e=(k:Int):=⟨e.toNat,by lia⟩
    have kl:k < bs.length:=by lia
    have hb:=List.getElem?_eq_getElem kl
    generalize bs[k]=b at hb
    have P5:=P4.mono (.of_but B5 S4.lst.choose_spec)
    have p4:b.params.length≤4:=by
      have:b.params.length∈cs:=by rw [← P4.ok.ok.cnt];exact List.mem_map_of_mem (List.mem_of_getElem? hb)
      exact P4.ok.ok.c4 _ this
    show t_law_11 K _ [some (.ref scr),some (.ref st),some (.ref pp),some (.int (k:Nat)),none,none,none,none,none,none] H5
    unfold t_law_11
    refine asg_open (lst_open (cons_open ?_))
    refine ⟨_,rfl,_,rfl,_,rfl,_,rfl,_,rfl,nil_open ⟨st,pp,k4 + 1,k,ys,cs,bs,b,rfl,S5,by lia,P5,hb,by lia,fun AL zs k6 H6 nAL hAL zl zw S6 hk6 B6=>?_⟩⟩
    have P6:=P5.mono (.of_but B6 S5.lst.choose_spec)
    refine nil_open ⟨pp,AL,k,zs,ys,cs,bs,b,rfl,P6,hb,by lia,by lia,.inl hAL,fun v H7 fa s7=>?_⟩
    refine nil_open ⟨(by show 1≤sizeLine;decide),fun F nF=>?_⟩
    have s8:Same H7 (upd H7 F (.lst [v])):=(Same.refl H7).new nF
    have hF:upd H7 F (.lst [v]) F=some (.lst [v]):=upd_same
    show t_law_10 K _ [some (.ref scr),some (.ref st),some (.ref pp),some (.int (k:Nat)),some (.ref F),none,none,none,none,none] (upd H7 F (.lst [v]))
    generalize upd H7 F (.lst [v])=H8 at s8 hF ⊢
    have S8:=(S6.same s7).same s8
    have nFs:F≠st:=fun z=>by rw [z,(S6.same s7).lst.choose_spec] at nF;cases nF
    have P8:=(P6.mono (.of_same s7)).mono (.of_same s8)
    have fk:FOk bs 5 (opn bs k zs):=(opn_ok (P4.ok.good hb) hb (P4.ok.ok.part b (List.mem_of_getElem? hb)).pnd (by lia) zw).up (by lia)
    refine ⟨(by show 0≤sizeLine;decide),fun W nW=>?_⟩
    have s9:Same H8 (upd H8 W (.lst [])):=(Same.refl H8).new nW
    have hW:upd H8 W (.lst []) W=some (.lst []):=upd_same
    show t_law_9 K _ [some (.ref scr),some (.ref st),some (.ref pp),some (.int (k:Nat)),some (.ref F),some (.ref W),none,none,none,none] (upd H8 W (.lst []))
    generalize upd H8 W (.lst [])=H9 at s9 hW ⊢
    have nWs:W≠st:=fun z=>by rw [z,S8.lst.choose_spec] at nW;cases nW
    have nFW:F≠W:=ne_of_none hF nW
    have S9:=S8.same s9
    have P9:=P8.mono (.of_same s9)
    have A9:AllAt (FrA H9) [v] [opn bs k zs]:=AllAt.nil.snoc ((fa.mono (.of_same s8)).mono (.of_same s9))
    refine ⟨_,rfl,st,31,k6,rfl,S9,by lia,by decide,by decide,fun e H10 e0' e1' S10 B10=>nil_open ?_⟩
    have t10:Td H9 H10:=.of_but B10 S9.lst.choose_spec
    have hF10:=B10 _ _ nFs (s9 _ _ hF)
    have hW10:=B10 _ _ nWs hW
    refine ⟨e,rfl,by lia,by lia,for_range (n:=e.toNat) (fun i σ' H'=>∃ (fvs:List V) (fs:List Fr) (said:List Int) (o:Option V),σ'=[some (.ref scr),some (.ref st),some (.ref pp),some (.int (k:Nat)),some (.ref F),some (.ref W),o,none,none,none]∧H' F=some (.lst fvs)∧AllAt (FrA H') fvs fs∧H' W=some (.lst (said.map V.int))∧LOk bs (5 + i) fs∧said.length≤5 + i∧Stt K H' st (k6 + 1)∧PgA H' pp ys cs bs) ⟨[v],[opn bs k zs],[],none,rfl,hF10,A9.imp fun _ _ y=>y.mono t10,hW10,⟨fun f hf=>by rw [List.mem_singleton.mp hf];exact fk,fun f hf=>(by cases hf),by show 1≤5;decide⟩,by simp,S10,P9.mono t10.tp⟩ ?_ ?_⟩
    · rintro i σ' H11 hi ⟨fvs,fs,said,o,rfl,hF11,A11,hW11,lo,sl,S11,P11⟩
      have hi:i < 31:=by lia
      refine ⟨_,rfl,(by show 0≤sizeLine;decide),fun M nM=>?_⟩
      have s12:Same H11 (upd H11 M (.lst [])):=(Same.refl H11).new nM
      have hM:upd H11 M (.lst []) M=some (.lst []):=upd_same
      generalize upd H11 M (.lst [])=H12 at s12 hM ⊢
      have hF12:=s12 _ _ hF11
      have hW12:=s12 _ _ hW11
      have A12:=A11.imp fun _ _ y=>y.mono (.of_same s12)
      refine .inl (list_none hF12 hM (fun e=>⟨_,rfl,if_f (by rfl) ?_⟩) fun e=>⟨_,rfl,if_t (by rfl) ?_⟩)
      · exact ⟨fvs,fs,said,_,rfl,hF12,A12,hW12,lo.up (by lia),by lia,S11.same s12,P11.mono (.of_same s12)⟩
      · have fne:fs≠[]:=fun z=>e (List.length_eq_zero_iff.mp (by rw [A11.len,z];rfl))
        refine ⟨_,rfl,_,rfl,_,rfl,nil_open ⟨pp,F,W,5 + i,fvs,fs,said,ys,cs,bs,rfl,P11.mono (.of_same s12),hF12,A12,hW12,nFW,lo,fne,by lia,sl,fun e' fvs' H13 a1 a2 a3 a4 a5 a6=>?_⟩⟩
        have st13:=stt_keep (S11.same s12) (fun o' h'=>a6 _ _ (Ne.symm nFs) (Ne.symm nWs) h') (fz_but2 a6 hF12 hW12)
        have:=said_len (bs:=bs) (fs:=fs) (said:=said)
        exact ⟨fvs',_,_,_,rfl,a1,a2,a3,lo.step P11.ok (by lia),by lia,st13,(P11.mono (.of_same s12)).mono (td_but2 a6 hF12 hW12).tp⟩
    · rintro σ' H11 ⟨fvs,fs,said,o,rfl,hF11,A11,hW11,lo,sl,S11,P11⟩
      have lo40:LOk bs 40 fs:=lo.up (by lia)
      have sl40:said.length≤40:=by lia
      show t_law_7 K _ [some (.ref scr),some (.ref st),some (.ref pp),some (.int (k:Nat)),some (.ref F),some (.ref W),o,none,none,none] H11
      refine ⟨_,rfl,_,rfl,_,rfl,nil_open ⟨st,pp,F,k6 + 1,40,fvs,fs,ys,cs,bs,rfl,S11,by lia,P11,hF11,A11,lo40,by decide,nFs,fun G gvs gs k12 H12 nG hG AG ag gk S12 hk12 B12=>?_⟩⟩
      have t12:Td H11 H12:=.of_but B12 S11.lst.choose_spec
      have nFG:F≠G:=ne_of_none hF11 nG
      have nWG:W≠G:=ne_of_none hW11 nG
      show t_law_6 K _ [some (.ref scr),some (.ref st),some (.ref pp),some (.int (k:Nat)),some (.ref F),some (.ref W),o,some (.ref G),none,none] H12
      have hF12:=B12 _ _ nFs hF11
      have hW12:=B12 _ _ nWs hW11
      refine ⟨_,rfl,W,_,rfl,.inl (SqL.of hW12),fun D nD=>?_⟩
      have s13:Same H12 (upd H12 D (.lst (said.map V.int))):=(Same.refl H12).new nD
      have hD:upd H12 D (.lst (said.map V.int)) D=some (.lst (said.map V.int)):=upd_same
      show t_law_5 K _ [some (.ref scr),some (.ref st),some (.ref pp),some (.int (k:Nat)),some (.ref F),some (.ref W),o,some (.ref G),some (.ref D),none] (upd H12 D (.lst (said.map V.int)))
      generalize upd H12 D (.lst (said.map V.int))=H13 at s13 hD ⊢
      have ap:Apart F W G D:=⟨nFW,nFG,ne_of_none hF12 nD,nWG,ne_of_none hW12 nD,ne_of_none hG nD⟩
      have lg:LOk bs 40 gs:=⟨gk,lok_agree ag lo40.wait,by rw [ag.len];exact lo40.few⟩
      have t13:Td H11 H13:=t12.trans (.of_same s13)
      have T13:Two H13 F W G D bs 40 fs gs said:=⟨⟨fvs,s13 _ _ hF12,A11.imp fun _ _ y=>y.mono t13⟩,⟨gvs,s13 _ _ hG,AG.imp fun _ _ y=>y.mono (.of_same s13)⟩,s13 _ _ hW12,hD,ag,lo40,lg,sl40⟩
      have P13:=P11.mono t13.tp
      refine ⟨60,rfl,by decide,by decide,for_range (n:=60) (fun i σ' H'=>∃ (fs gs:List Fr) (said:List Int) (o6 o9:Option V),σ'=[some (.ref scr),some (.ref st),some (.ref pp),some (.int (k:Nat)),some (.ref F),some (.ref W),o6,some (.ref G),some (.ref D),o9]∧Two H' F W G D bs (40 + i) fs gs said∧PgA H' pp ys cs bs) ⟨fs,gs,said,_,_,rfl,T13,P13⟩ ?_ ?_⟩
      · rintro i σ' H14 hi ⟨fs,gs,said,o6,o9,rfl,T,P14⟩
        refine ⟨_,rfl,_,rfl,.inl (ints_top T.w T.d ⟨_,rfl,if_f (by rfl) ?_⟩)⟩
        obtain ⟨fvs,hf,fA⟩:=T.f
        have fl:=T.lf.few
        refine ⟨_,rfl,nil_open ⟨F,fvs,fs,rfl,hf,fA,by lia,fun M1 tvs H15 nM1 hM1 A1 s15=>?_⟩⟩
        obtain ⟨gvs,hg,gA⟩:=(T.same s15).g
        have gl:=T.lg.few
        refine ⟨_,rfl,nil_open ⟨G,gvs,gs,rfl,hg,gA,by lia,fun M2 uvs H16 nM2 hM2 A2 s16=>?_⟩⟩
        have T16:=(T.same s15).same s16
        have P16:=(P14.mono (.of_same s15)).mono (.of_same s16)
        refine .inl (places_top (s16 _ _ hM1) hM2 (A1.imp fun _ _ y=>y.same s16) A2 T.ag ⟨_,rfl,iteF ?_⟩)
        show t_law_3 K _ [some (.ref scr),some (.ref st),some (.ref pp),some (.int (k:Nat)),some (.ref F),some (.ref W),some (.int (0 + (i:Nat))),some (.ref G),some (.ref D),o9] H16
        refine ⟨_,rfl,(by show 0≤sizeLine;decide),fun M nM=>?_⟩
        have s17:Same H16 (upd H16 M (.lst [])):=(Same.refl H16).new nM
        have hM:upd H16 M (.lst []) M=some (.lst []):=upd_same
        generalize upd H16 M (.lst [])=H17 at s17 hM ⊢
        have T17:=T16.same s17
        have P17:=P16.mono (.of_same s17)
        obtain ⟨fvs7,hf7,fA7⟩:=T17.f
        refine .inl (list_none hf7 hM (fun e=>⟨_,rfl,if_f (by rfl) ?_⟩) fun e=>⟨_,rfl,if_t (by rfl) ?_⟩)
        · exact ⟨fs,gs,said,_,_,rfl,T17.up (by lia),P17⟩
        · have fne:fs≠[]:=fun z=>e (List.length_eq_zero_iff.mp (by rw [fA7.len,z];rfl))
          have gne:gs≠[]:=fun z=>fne (List.length_eq_zero_iff.mp (by rw [← T.ag.len,z];rfl))
          refine ⟨_,rfl,_,rfl,_,rfl,nil_open ⟨pp,F,W,40 + i,fvs7,fs,said,ys,cs,bs,rfl,P17,hf7,fA7,T17.w,ap.fw,T17.lf,fne,by lia,T17.sl,fun e1 fvs8 H18 a1 a2 a3 a4 a5 a6=>?_⟩⟩
          show t_law_2 K _ [some (.ref scr),some (.ref st),some (.ref pp),some (.int (k:Nat)),some (.ref F),some (.ref W),some (.int (0 + (i:Nat))),some (.ref G),some (.ref D),some (.ref e1)] H18
          obtain ⟨gvs7,hg7,gA7⟩:=T17.g
          have t18:Td H17 H18:=td_but2 a6 hf7 T17.w
          have hg8:=a6 _ _ (Ne.symm ap.fg) (Ne.symm ap.wg) hg7
          have hd8:=a6 _ _ (Ne.symm ap.fd) (Ne.symm ap.wd) T17.d
          have P18:=P17.mono t18.tp
          refine ⟨_,rfl,_,rfl,_,rfl,nil_open ⟨pp,G,D,40 + i,gvs7,gs,said,ys,cs,bs,rfl,P18,hg8,gA7.imp fun _ _ y=>y.mono t18,hd8,ap.gd,T17.lg,gne,by lia,T17.sl,fun e2 gvs9 H19 c1 c2 c3 c4 c5 c6=>?_⟩⟩
          have t19:Td H18 H19:=td_but2 c6 hg8 hd8
          obtain ⟨q1,q2,q3⟩:=agree_step P17.ok (said:=said) T17.lf T17.ag
          have ne1G:e1≠G:=fun z=>by rw [z,hg7] at a5;cases a5
          have ne1D:e1≠D:=fun z=>by rw [z,T17.d] at a5;cases a5
          have he1:=c6 _ _ ne1G ne1D a4
          rw [q2] at c4
          refine ⟨_,rfl,.inl (ints_top c4 he1 ⟨_,rfl,if_f (by rfl) ?_⟩)⟩
          have:=said_len (bs:=bs) (fs:=fs) (said:=said)
          have sl7:=T17.sl
          rw [q1] at c3
          refine ⟨_,_,_,_,_,rfl,⟨⟨fvs8,c6 _ _ ap.fg ap.fd a1,a2.imp fun _ _ y=>y.mono t19⟩,⟨gvs9,c1,c2⟩,c6 _ _ ap.wg ap.wd a3,c3,q3,T17.lf.step P17.ok (by lia),T17.lg.step P17.ok (by lia),by lia⟩,P18.mono t19.tp⟩
      · rintro σ' H14 _
        exact q H14
  have m2:z / 2 % 2=0∨z / 2 % 2=1:=by lia
  show rIx K (V.ref L0) (V.int (z / 2 % 2)) H3 _
  rcases m2 with e | e
  · rw [e]
    exact ixL (SqL.of (s3 _ _ hL0)) (by decide) rfl (nil_open (main 12 H3 _ S3 (.inl rfl) rest))
  · rw [e]
    exact ixL (SqL.of (s3 _ _ hL0)) (by decide) rfl (nil_open (main 24 H3 _ S3 (.inr rfl) rest))
end Bg
end
namespace Bg
open PySem PySem.Spec PyProof.Rows L2
section
variable {P:Program} {w:World} {K:Fg} {mg:Str→Option Value} {base:Heap}
theorem len_stand {vs:List V} {H:Hp} {Q:VK} {E:XK} (h:sp_stand K vs H Q E):vs.length=PS_stand.length:=by
  first | (obtain ⟨_,_,_,_,rfl,_⟩:=h;rfl)
theorem ok_stand {f:Addr} {fd:FuncData} (F:Fun K "_law_stand" "_law_stand" s_stand f fd) (B:Blt mg) :FnOk P w K mg base CX0 K_stand f fd PS_stand (sp_stand K):=
  F.ok sc_stand (fun vs H Q E h=>len_stand h) fun cdv A outer s H vs Q E hr h=>⟨_,d_stand B hr,r_stand (E:=E) h⟩
theorem len_reckoned {vs:List V} {H:Hp} {Q:VK} {E:XK} (h:sp_reckoned K vs H Q E):vs.length=PS_reckoned.length:=by
  first | (obtain ⟨_,_,_,rfl,_⟩:=h;rfl)
theorem ok_reckoned {f:Addr} {fd:FuncData} (F:Fun K "_law_reckoned" "_law_reckoned" s_reckoned f fd) (B:Blt mg) :FnOk P w K mg base CX0 K_reckoned f fd PS_reckoned (sp_reckoned K):=
  F.ok sc_reckoned (fun vs H Q E h=>len_reckoned h) fun cdv A outer s H vs Q E hr h=>⟨_,d_reckoned B hr,r_reckoned (E:=E) h⟩
theorem len_opened {vs:List V} {H:Hp} {Q:VK} {E:XK} (h:sp_opened K vs H Q E):vs.length=PS_opened.length:=by
  first | (obtain ⟨_,_,_,_,_,_,_,_,rfl,_⟩:=h;rfl)
theorem ok_opened {f:Addr} {fd:FuncData} (F:Fun K "_law_opened" "_law_opened" s_opened f fd) (B:Blt mg) (c_stand:Callee P w K mg base "_law_stand" PS_stand K_stand (sp_stand K)):FnOk P w K mg base CX0 K_opened f fd PS_opened (sp_opened K):=
  F.ok sc_opened (fun vs H Q E h=>len_opened h) fun cdv A outer s H vs Q E hr h=>⟨_,d_opened B c_stand hr,r_opened (E:=E) h⟩
theorem len_shut {vs:List V} {H:Hp} {Q:VK} {E:XK} (h:sp_shut K vs H Q E):vs.length=PS_shut.length:=by
  first | (obtain ⟨_,_,_,_,_,_,_,_,_,_,rfl,_⟩:=h;rfl)
theorem ok_shut {f:Addr} {fd:FuncData} (F:Fun K "_law_shut" "_law_shut" s_shut f fd) (B:Blt mg) (c_stand:Callee P w K mg base "_law_stand" PS_stand K_stand (sp_stand K)):FnOk P w K mg base CX0 K_shut f fd PS_shut (sp_shut K):=
  F.ok sc_shut (fun vs H Q E h=>len_shut h) fun cdv A outer s H vs Q E hr h=>⟨_,d_shut B c_stand hr,r_shut (E:=E) h⟩
theorem len_step {vs:List V} {H:Hp} {Q:VK} {E:XK} (h:sp_step K vs H Q E):vs.length=PS_step.length:=by
  first | (obtain ⟨_,_,_,_,_,_,rfl,_⟩:=h;rfl) | (obtain ⟨_,_,_,_,_,_,_,_,_,_,rfl,_⟩:=h;rfl)
theorem ok_step {f:Addr} {fd:FuncData} (F:Fun K "_law_step" "_law_step" s_step f fd) (B:Blt mg) (c_stand:Callee P w K mg base "_law_stand" PS_stand K_stand (sp_stand K)) (c_reckoned:Callee P w K mg base "_law_reckoned" PS_reckoned K_reckoned (sp_reckoned K)) (c_opened:Callee P w K mg base "_law_opened" PS_opened K_opened (sp_opened K)) (c_shut:Callee P w K mg base "_law_shut" PS_shut K_shut (sp_shut K)):FnOk P w K mg base CX0 K_step f fd PS_step (sp_step K):=
  F.ok sc_step (fun vs H Q E h=>len_step h) fun cdv A outer s H vs Q E hr h=>⟨_,d_step B c_stand c_reckoned c_opened c_shut hr,r_step (E:=E) h⟩
theorem len_places {vs:List V} {H:Hp} {Q:VK} {E:XK} (h:sp_places K vs H Q E):vs.length=PS_places.length:=by
  first | (obtain ⟨_,_,_,rfl,_⟩:=h;rfl)
theorem ok_places {f:Addr} {fd:FuncData} (F:Fun K "_law_places" "_law_places" s_places f fd) (B:Blt mg) :FnOk P w K mg base CX0 K_places f fd PS_places (sp_places K):=
  F.ok sc_places (fun vs H Q E h=>len_places h) fun cdv A outer s H vs Q E hr h=>⟨_,d_places B hr,r_places (E:=E) h⟩
theorem len_draw {vs:List V} {H:Hp} {Q:VK} {E:XK} (h:sp_draw K vs H Q E):vs.length=PS_draw.length:=by
  first | (obtain ⟨_,_,_,rfl,_⟩:=h;rfl)
theorem ok_draw {f:Addr} {fd:FuncData} (F:Fun K "_law_draw" "_law_draw" s_draw f fd) (B:Blt mg) :FnOk P w K mg base CX0 K_draw f fd PS_draw (sp_draw K):=
  F.ok sc_draw (fun vs H Q E h=>len_draw h) fun cdv A outer s H vs Q E hr h=>⟨_,d_draw B hr,r_draw (E:=E) h⟩
theorem len_worth {vs:List V} {H:Hp} {Q:VK} {E:XK} (h:sp_worth K vs H Q E):vs.length=PS_worth.length:=by
  first | (obtain ⟨_,_,rfl,_⟩:=h;rfl)
theorem ok_worth {f:Addr} {fd:FuncData} (F:Fun K "_law_worth" "_law_worth" s_worth f fd) (B:Blt mg) (c_draw:Callee P w K mg base "_law_draw" PS_draw K_draw (sp_draw K)):FnOk P w K mg base CX0 K_worth f fd PS_worth (sp_worth K):=
  F.ok sc_worth (fun vs H Q E h=>len_worth h) fun cdv A outer s H vs Q E hr h=>⟨_,d_worth B c_draw hr,r_worth (E:=E) h⟩
theorem len_p_sets {vs:List V} {H:Hp} {Q:VK} {E:XK} (h:sp_p_sets K vs H Q E):vs.length=PS_p_sets.length:=by
  first | (obtain ⟨_,_,rfl,_⟩:=h;rfl)
theorem ok_p_sets {f:Addr} {fd:FuncData} (F:Fun K "sets" "sets" s_p_sets f fd) (B:Blt mg) :FnOk P w K mg base CX0 K_p_sets f fd PS_p_sets (sp_p_sets K):=
  F.ok sc_p_sets (fun vs H Q E h=>len_p_sets h) fun cdv A outer s H vs Q E hr h=>⟨_,d_p_sets B hr,r_p_sets (E:=E) h⟩
theorem len_p_rw {vs:List V} {H:Hp} {Q:VK} {E:XK} (h:sp_p_rw K vs H Q E):vs.length=PS_p_rw.length:=by
  first | (obtain ⟨_,_,_,_,_,_,_,_,_,_,rfl,_⟩:=h;rfl)
theorem ok_p_rw {f:Addr} {fd:FuncData} (F:Fun K "rows_wanting" "rows_wanting" s_p_rw f fd) (B:Blt mg) (c_p_sets:Callee P w K mg base "sets" PS_p_sets K_p_sets (sp_p_sets K)):FnOk P w K mg base CX0 K_p_rw f fd PS_p_rw (sp_p_rw K):=
  F.ok sc_p_rw (fun vs H Q E h=>len_p_rw h) fun cdv A outer s H vs Q E hr h=>⟨_,d_p_rw B c_p_sets hr,r_p_rw (E:=E) h⟩
theorem len_p_goal {vs:List V} {H:Hp} {Q:VK} {E:XK} (h:sp_p_goal K vs H Q E):vs.length=PS_p_goal.length:=by
  first | (obtain ⟨_,_,rfl,_⟩:=h;rfl)
theorem ok_p_goal {f:Addr} {fd:FuncData} (F:Fun K "goal" "goal" s_p_goal f fd) (B:Blt mg) :FnOk P w K mg base CX0 K_p_goal f fd PS_p_goal (sp_p_goal K):=
  F.ok sc_p_goal (fun vs H Q E h=>len_p_goal h) fun cdv A outer s H vs Q E hr h=>⟨_,d_p_goal B hr,r_p_goal (E:=E) h⟩
theorem len_p_leads {vs:List V} {H:Hp} {Q:VK} {E:XK} (h:sp_p_leads K vs H Q E):vs.length=PS_p_leads.length:=by
  first | (obtain ⟨rfl,_⟩:=h;rfl) | (obtain ⟨_,rfl,_⟩:=h;rfl) | (obtain ⟨_,_,rfl,_⟩:=h;rfl) | (obtain ⟨_,_,_,rfl,_⟩:=h;rfl) | (obtain ⟨_,_,_,_,rfl,_⟩:=h;rfl) | (obtain ⟨_,_,_,_,_,rfl,_⟩:=h;rfl) | (obtain ⟨_,_,_,_,_,_,rfl,_⟩:=h;rfl) | (obtain ⟨_,_,_,_,_,_,_,rfl,_⟩:=h;rfl) | (obtain ⟨_,_,_,_,_,_,_,_,rfl,_⟩:=h;rfl) | (obtain ⟨_,_,_,_,_,_,_,_,_,rfl,_⟩:=h;rfl) | (obtain ⟨_,_,_,_,_,_,_,_,_,_,rfl,_⟩:=h;rfl) | (obtain ⟨_,_,_,_,_,_,_,_,_,_,_,rfl,_⟩:=h;rfl) | (obtain ⟨_,_,_,_,_,_,_,_,_,_,_,_,rfl,_⟩:=h;rfl) | (obtain ⟨_,_,_,_,_,_,_,_,_,_,_,_,_,rfl,_⟩:=h;rfl) | (obtain ⟨_,_,_,_,_,_,_,_,_,_,_,_,_,_,rfl,_⟩:=h;rfl) | (obtain ⟨_,_,_,_,_,_,_,_,_,_,_,_,_,_,_,rfl,_⟩:=h;rfl) | (obtain ⟨_,_,_,_,_,_,_,_,_,_,_,_,_,_,_,_,rfl,_⟩:=h;rfl) | (obtain ⟨_,_,_,_,_,_,_,_,_,_,_,_,_,_,_,_,_,rfl,_⟩:=h;rfl) | (obtain ⟨_,_,_,_,_,_,_,_,_,_,_,_,_,_,_,_,_,_,rfl,_⟩:=h;rfl) | (obtain ⟨_,_,_,_,_,_,_,_,_,_,_,_,_,_,_,_,_,_,_,rfl,_⟩:=h;rfl) | (obtain ⟨_,_,_,_,_,_,_,_,_,_,_,_,_,_,_,_,_,_,_,_,rfl,_⟩:=h;rfl) | (obtain ⟨_,_,_,_,_,_,_,_,_,_,_,_,_,_,_,_,_,_,_,_,_,rfl,_⟩:=h;rfl) | (obtain ⟨_,_,_,_,_,_,_,_,_,_,_,_,_,_,_,_,_,_,_,_,_,_,rfl,_⟩:=h;rfl) | (obtain ⟨_,_,_,_,_,_,_,_,_,_,_,_,_,_,_,_,_,_,_,_,_,_,_,rfl,_⟩:=h;rfl) | (obtain ⟨_,_,_,_,_,_,_,_,_,_,_,_,_,_,_,_,_,_,_,_,_,_,_,_,rfl,_⟩:=h;rfl) | (obtain ⟨_,_,_,_,_,_,_,_,_,_,_,_,_,_,_,_,_,_,_,_,_,_,_,_,_,rfl,_⟩:=h;rfl)
theorem ok_p_leads {f:Addr} {fd:FuncData} (F:Fun K "leads" "leads" s_p_leads f fd) (B:Blt mg) (c_p_goal:Callee P w K mg base "goal" PS_p_goal K_p_goal (sp_p_goal K)):FnOk P w K mg base CX0 K_p_leads f fd PS_p_leads (sp_p_leads K):=
  F.ok sc_p_leads (fun vs H Q E h=>len_p_leads h) fun cdv A outer s H vs Q E hr h=>⟨_,d_p_leads B c_p_goal hr,r_p_leads (E:=E) h⟩
theorem len_p_walked {vs:List V} {H:Hp} {Q:VK} {E:XK} (h:sp_p_walked K vs H Q E):vs.length=PS_p_walked.length:=by
  first | (obtain ⟨_,_,_,_,rfl,_⟩:=h;rfl)
theorem ok_p_walked {f:Addr} {fd:FuncData} {dV:Value} (F:FunD K "walked" "walked" s_p_walked dV f fd) (B:Blt mg) (c_p_sets:Callee P w K mg base "sets" PS_p_sets K_p_sets (sp_p_sets K)) (c_p_leads:Callee P w K mg base "leads" PS_p_leads K_p_leads (sp_p_leads K)):FnOk P w K mg base CX0 K_p_walked f fd PS_p_walked (sp_p_walked K):=
  F.ok sc_p_walked (fun vs H Q E h=>len_p_walked h) fun cdv A outer s H vs Q E hr h=>⟨_,d_p_walked B c_p_sets c_p_leads hr,r_p_walked (E:=E) h⟩
theorem len_p_come_to {vs:List V} {H:Hp} {Q:VK} {E:XK} (h:sp_p_come_to K vs H Q E):vs.length=PS_p_come_to.length:=by
  first | (obtain ⟨rfl,_⟩:=h;rfl) | (obtain ⟨_,rfl,_⟩:=h;rfl) | (obtain ⟨_,_,rfl,_⟩:=h;rfl) | (obtain ⟨_,_,_,rfl,_⟩:=h;rfl) | (obtain ⟨_,_,_,_,rfl,_⟩:=h;rfl) | (obtain ⟨_,_,_,_,_,rfl,_⟩:=h;rfl) | (obtain ⟨_,_,_,_,_,_,rfl,_⟩:=h;rfl) | (obtain ⟨_,_,_,_,_,_,_,rfl,_⟩:=h;rfl) | (obtain ⟨_,_,_,_,_,_,_,_,rfl,_⟩:=h;rfl) | (obtain ⟨_,_,_,_,_,_,_,_,_,rfl,_⟩:=h;rfl) | (obtain ⟨_,_,_,_,_,_,_,_,_,_,rfl,_⟩:=h;rfl) | (obtain ⟨_,_,_,_,_,_,_,_,_,_,_,rfl,_⟩:=h;rfl) | (obtain ⟨_,_,_,_,_,_,_,_,_,_,_,_,rfl,_⟩:=h;rfl) | (obtain ⟨_,_,_,_,_,_,_,_,_,_,_,_,_,rfl,_⟩:=h;rfl) | (obtain ⟨_,_,_,_,_,_,_,_,_,_,_,_,_,_,rfl,_⟩:=h;rfl) | (obtain ⟨_,_,_,_,_,_,_,_,_,_,_,_,_,_,_,rfl,_⟩:=h;rfl) | (obtain ⟨_,_,_,_,_,_,_,_,_,_,_,_,_,_,_,_,rfl,_⟩:=h;rfl) | (obtain ⟨_,_,_,_,_,_,_,_,_,_,_,_,_,_,_,_,_,rfl,_⟩:=h;rfl) | (obtain ⟨_,_,_,_,_,_,_,_,_,_,_,_,_,_,_,_,_,_,rfl,_⟩:=h;rfl) | (obtain ⟨_,_,_,_,_,_,_,_,_,_,_,_,_,_,_,_,_,_,_,rfl,_⟩:=h;rfl) | (obtain ⟨_,_,_,_,_,_,_,_,_,_,_,_,_,_,_,_,_,_,_,_,rfl,_⟩:=h;rfl) | (obtain ⟨_,_,_,_,_,_,_,_,_,_,_,_,_,_,_,_,_,_,_,_,_,rfl,_⟩:=h;rfl) | (obtain ⟨_,_,_,_,_,_,_,_,_,_,_,_,_,_,_,_,_,_,_,_,_,_,rfl,_⟩:=h;rfl) | (obtain ⟨_,_,_,_,_,_,_,_,_,_,_,_,_,_,_,_,_,_,_,_,_,_,_,rfl,_⟩:=h;rfl) | (obtain ⟨_,_,_,_,_,_,_,_,_,_,_,_,_,_,_,_,_,_,_,_,_,_,_,_,rfl,_⟩:=h;rfl) | (obtain ⟨_,_,_,_,_,_,_,_,_,_,_,_,_,_,_,_,_,_,_,_,_,_,_,_,_,rfl,_⟩:=h;rfl)
theorem ok_p_come_to {f:Addr} {fd:FuncData} (F:Fun K "come_to" "come_to" s_p_come_to f fd) (B:Blt mg) (c_p_walked_d1:CalleeD P w K mg base "walked" PS_p_walked K_p_walked [.non] (sp_p_walked K)):FnOk P w K mg base CX0 K_p_come_to f fd PS_p_come_to (sp_p_come_to K):=
  F.ok sc_p_come_to (fun vs H Q E h=>len_p_come_to h) fun cdv A outer s H vs Q E hr h=>⟨_,d_p_come_to B c_p_walked_d1 hr,r_p_come_to (E:=E) h⟩
theorem len_p_reads {vs:List V} {H:Hp} {Q:VK} {E:XK} (h:sp_p_reads K vs H Q E):vs.length=PS_p_reads.length:=by
  first | (obtain ⟨rfl,_⟩:=h;rfl) | (obtain ⟨_,rfl,_⟩:=h;rfl) | (obtain ⟨_,_,rfl,_⟩:=h;rfl) | (obtain ⟨_,_,_,rfl,_⟩:=h;rfl) | (obtain ⟨_,_,_,_,rfl,_⟩:=h;rfl) | (obtain ⟨_,_,_,_,_,rfl,_⟩:=h;rfl) | (obtain ⟨_,_,_,_,_,_,rfl,_⟩:=h;rfl) | (obtain ⟨_,_,_,_,_,_,_,rfl,_⟩:=h;rfl) | (obtain ⟨_,_,_,_,_,_,_,_,rfl,_⟩:=h;rfl) | (obtain ⟨_,_,_,_,_,_,_,_,_,rfl,_⟩:=h;rfl) | (obtain ⟨_,_,_,_,_,_,_,_,_,_,rfl,_⟩:=h;rfl) | (obtain ⟨_,_,_,_,_,_,_,_,_,_,_,rfl,_⟩:=h;rfl) | (obtain ⟨_,_,_,_,_,_,_,_,_,_,_,_,rfl,_⟩:=h;rfl) | (obtain ⟨_,_,_,_,_,_,_,_,_,_,_,_,_,rfl,_⟩:=h;rfl) | (obtain ⟨_,_,_,_,_,_,_,_,_,_,_,_,_,_,rfl,_⟩:=h;rfl) | (obtain ⟨_,_,_,_,_,_,_,_,_,_,_,_,_,_,_,rfl,_⟩:=h;rfl) | (obtain ⟨_,_,_,_,_,_,_,_,_,_,_,_,_,_,_,_,rfl,_⟩:=h;rfl) | (obtain ⟨_,_,_,_,_,_,_,_,_,_,_,_,_,_,_,_,_,rfl,_⟩:=h;rfl) | (obtain ⟨_,_,_,_,_,_,_,_,_,_,_,_,_,_,_,_,_,_,rfl,_⟩:=h;rfl) | (obtain ⟨_,_,_,_,_,_,_,_,_,_,_,_,_,_,_,_,_,_,_,rfl,_⟩:=h;rfl) | (obtain ⟨_,_,_,_,_,_,_,_,_,_,_,_,_,_,_,_,_,_,_,_,rfl,_⟩:=h;rfl) | (obtain ⟨_,_,_,_,_,_,_,_,_,_,_,_,_,_,_,_,_,_,_,_,_,rfl,_⟩:=h;rfl) | (obtain ⟨_,_,_,_,_,_,_,_,_,_,_,_,_,_,_,_,_,_,_,_,_,_,rfl,_⟩:=h;rfl) | (obtain ⟨_,_,_,_,_,_,_,_,_,_,_,_,_,_,_,_,_,_,_,_,_,_,_,rfl,_⟩:=h;rfl) | (obtain ⟨_,_,_,_,_,_,_,_,_,_,_,_,_,_,_,_,_,_,_,_,_,_,_,_,rfl,_⟩:=h;rfl) | (obtain ⟨_,_,_,_,_,_,_,_,_,_,_,_,_,_,_,_,_,_,_,_,_,_,_,_,_,rfl,_⟩:=h;rfl)
theorem ok_p_reads {f:Addr} {fd:FuncData} (F:Fun K "reads" "reads" s_p_reads f fd) (B:Blt mg) :FnOk P w K mg base CX0 K_p_reads f fd PS_p_reads (sp_p_reads K):=
  F.ok sc_p_reads (fun vs H Q E h=>len_p_reads h) fun cdv A outer s H vs Q E hr h=>⟨_,d_p_reads B hr,r_p_reads (E:=E) h⟩
theorem len_p_rt {vs:List V} {H:Hp} {Q:VK} {E:XK} (h:sp_p_rt K vs H Q E):vs.length=PS_p_rt.length:=by
  first | (obtain ⟨_,_,_,rfl,_⟩:=h;rfl)
theorem ok_p_rt {f:Addr} {fd:FuncData} (F:Fun K "rows_that_read" "rows_that_read" s_p_rt f fd) (B:Blt mg) (c_p_come_to:Callee P w K mg base "come_to" PS_p_come_to K_p_come_to (sp_p_come_to K)) (c_p_reads:Callee P w K mg base "reads" PS_p_reads K_p_reads (sp_p_reads K)):FnOk P w K mg base CX0 K_p_rt f fd PS_p_rt (sp_p_rt K):=
  F.ok sc_p_rt (fun vs H Q E h=>len_p_rt h) fun cdv A outer s H vs Q E hr h=>⟨_,d_p_rt B c_p_come_to c_p_reads hr,r_p_rt (E:=E) h⟩
theorem len_p_stands {vs:List V} {H:Hp} {Q:VK} {E:XK} (h:sp_p_stands K vs H Q E):vs.length=PS_p_stands.length:=by
  first | (obtain ⟨_,_,_,_,rfl,_⟩:=h;rfl)
theorem ok_p_stands {f:Addr} {fd:FuncData} (F:Fun K "stands" "stands" s_p_stands f fd) (B:Blt mg) (c_p_goal:Callee P w K mg base "goal" PS_p_goal K_p_goal (sp_p_goal K)):FnOk P w K mg base CX0 K_p_stands f fd PS_p_stands (sp_p_stands K):=
  F.ok sc_p_stands (fun vs H Q E h=>len_p_stands h) fun cdv A outer s H vs Q E hr h=>⟨_,d_p_stands B c_p_goal hr,r_p_stands (E:=E) h⟩
theorem len_p_ra {vs:List V} {H:Hp} {Q:VK} {E:XK} (h:sp_p_ra K vs H Q E):vs.length=PS_p_ra.length:=by
  first | (obtain ⟨_,_,_,rfl,_⟩:=h;rfl)
theorem ok_p_ra {f:Addr} {fd:FuncData} (F:Fun K "rows_ahead" "rows_ahead" s_p_ra f fd) (B:Blt mg) (c_p_leads:Callee P w K mg base "leads" PS_p_leads K_p_leads (sp_p_leads K)) (c_p_stands:Callee P w K mg base "stands" PS_p_stands K_p_stands (sp_p_stands K)) (c_p_come_to:Callee P w K mg base "come_to" PS_p_come_to K_p_come_to (sp_p_come_to K)):FnOk P w K mg base CX0 K_p_ra f fd PS_p_ra (sp_p_ra K):=
  F.ok sc_p_ra (fun vs H Q E h=>len_p_ra h) fun cdv A outer s H vs Q E hr h=>⟨_,d_p_ra B c_p_leads c_p_stands c_p_come_to hr,r_p_ra (E:=E) h⟩
theorem len_p_wanted {vs:List V} {H:Hp} {Q:VK} {E:XK} (h:sp_p_wanted K vs H Q E):vs.length=PS_p_wanted.length:=by
  first | (obtain ⟨_,_,_,_,rfl,_⟩:=h;rfl)
theorem ok_p_wanted {f:Addr} {fd:FuncData} (F:Fun K "wanted" "wanted" s_p_wanted f fd) (B:Blt mg) (c_p_rw:Callee P w K mg base "rows_wanting" PS_p_rw K_p_rw (sp_p_rw K)) (c_p_rt:Callee P w K mg base "rows_that_read" PS_p_rt K_p_rt (sp_p_rt K)) (c_p_ra:Callee P w K mg base "rows_ahead" PS_p_ra K_p_ra (sp_p_ra K)):FnOk P w K mg base CX0 K_p_wanted f fd PS_p_wanted (sp_p_wanted K):=
  F.ok sc_p_wanted (fun vs H Q E h=>len_p_wanted h) fun cdv A outer s H vs Q E hr h=>⟨_,d_p_wanted B c_p_rw c_p_rt c_p_ra hr,r_p_wanted (E:=E) h⟩
theorem len_turned {vs:List V} {H:Hp} {Q:VK} {E:XK} (h:sp_turned K vs H Q E):vs.length=PS_turned.length:=by
  first | (obtain ⟨_,_,_,_,_,_,_,_,_,_,rfl,_⟩:=h;rfl)
theorem ok_turned {f:Addr} {fd:FuncData} (F:Fun K "_law_turned" "_law_turned" s_turned f fd) (B:Blt mg) (c_worth:Callee P w K mg base "_law_worth" PS_worth K_worth (sp_worth K)) (c_p_wanted:Callee P w K mg base "wanted" PS_p_wanted K_p_wanted (sp_p_wanted K)):FnOk P w K mg base CX0 K_turned f fd PS_turned (sp_turned K):=
  F.ok sc_turned (fun vs H Q E h=>len_turned h) fun cdv A outer s H vs Q E hr h=>⟨_,d_turned B c_worth c_p_wanted hr,r_turned (E:=E) h⟩
theorem len_args {vs:List V} {H:Hp} {Q:VK} {E:XK} (h:sp_args K vs H Q E):vs.length=PS_args.length:=by
  first | (obtain ⟨_,_,_,_,_,_,_,_,rfl,_⟩:=h;rfl)
theorem ok_args {f:Addr} {fd:FuncData} (F:Fun K "_law_args" "_law_args" s_args f fd) (B:Blt mg) (c_worth:Callee P w K mg base "_law_worth" PS_worth K_worth (sp_worth K)):FnOk P w K mg base CX0 K_args f fd PS_args (sp_args K):=
  F.ok sc_args (fun vs H Q E h=>len_args h) fun cdv A outer s H vs Q E hr h=>⟨_,d_args B c_worth hr,r_args (E:=E) h⟩
theorem len_filled {vs:List V} {H:Hp} {Q:VK} {E:XK} (h:sp_filled K vs H Q E):vs.length=PS_filled.length:=by
  first | (obtain ⟨_,_,_,_,_,_,_,_,_,_,rfl,_⟩:=h;rfl)
theorem ok_filled {f:Addr} {fd:FuncData} (F:Fun K "_law_filled" "_law_filled" s_filled f fd) (B:Blt mg) (c_draw:Callee P w K mg base "_law_draw" PS_draw K_draw (sp_draw K)):FnOk P w K mg base CX0 K_filled f fd PS_filled (sp_filled K):=
  F.ok sc_filled (fun vs H Q E h=>len_filled h) fun cdv A outer s H vs Q E hr h=>⟨_,d_filled B c_draw hr,r_filled (E:=E) h⟩
theorem len_leads {vs:List V} {H:Hp} {Q:VK} {E:XK} (h:sp_leads K vs H Q E):vs.length=PS_leads.length:=by
  first | (obtain ⟨_,_,_,_,_,rfl,_⟩:=h;rfl)
theorem ok_leads {f:Addr} {fd:FuncData} (F:Fun K "_law_leads" "_law_leads" s_leads f fd) (B:Blt mg) :FnOk P w K mg base CX0 K_leads f fd PS_leads (sp_leads K):=
  F.ok sc_leads (fun vs H Q E h=>len_leads h) fun cdv A outer s H vs Q E hr h=>⟨_,d_leads B hr,r_leads (E:=E) h⟩
theorem len_set_names {vs:List V} {H:Hp} {Q:VK} {E:XK} (h:sp_set_names K vs H Q E):vs.length=PS_set_names.length:=by
  first | (obtain ⟨_,_,_,_,_,_,_,_,rfl,_⟩:=h;rfl)
theorem ok_set_names {f:Addr} {fd:FuncData} (F:Fun K "_law_set_names" "_law_set_names" s_set_names f fd) (B:Blt mg) (c_leads:Callee P w K mg base "_law_leads" PS_leads K_leads (sp_leads K)):FnOk P w K mg base CX0 K_set_names f fd PS_set_names (sp_set_names K):=
  F.ok sc_set_names (fun vs H Q E h=>len_set_names h) fun cdv A outer s H vs Q E hr h=>⟨_,d_set_names B c_leads hr,r_set_names (E:=E) h⟩
theorem len_mended {vs:List V} {H:Hp} {Q:VK} {E:XK} (h:sp_mended K vs H Q E):vs.length=PS_mended.length:=by
  first | (obtain ⟨_,_,_,_,_,_,_,rfl,_⟩:=h;rfl)
theorem ok_mended {f:Addr} {fd:FuncData} (F:Fun K "_law_mended" "_law_mended" s_mended f fd) (B:Blt mg) :FnOk P w K mg base CX0 K_mended f fd PS_mended (sp_mended K):=
  F.ok sc_mended (fun vs H Q E h=>len_mended h) fun cdv A outer s H vs Q E hr h=>⟨_,d_mended B hr,r_mended (E:=E) h⟩
theorem len_rough_row {vs:List V} {H:Hp} {Q:VK} {E:XK} (h:sp_rough_row K vs H Q E):vs.length=PS_rough_row.length:=by
  first | (obtain ⟨_,_,_,_,_,_,_,rfl,_⟩:=h;rfl)
theorem ok_rough_row {f:Addr} {fd:FuncData} (F:Fun K "_law_rough_row" "_law_rough_row" s_rough_row f fd) (B:Blt mg) (c_draw:Callee P w K mg base "_law_draw" PS_draw K_draw (sp_draw K)) (c_worth:Callee P w K mg base "_law_worth" PS_worth K_worth (sp_worth K)):FnOk P w K mg base CX0 K_rough_row f fd PS_rough_row (sp_rough_row K):=
  F.ok sc_rough_row (fun vs H Q E h=>len_rough_row h) fun cdv A outer s H vs Q E hr h=>⟨_,d_rough_row B c_draw c_worth hr,r_rough_row (E:=E) h⟩
theorem len_part {vs:List V} {H:Hp} {Q:VK} {E:XK} (h:sp_part K vs H Q E):vs.length=PS_part.length:=by
  first | (obtain ⟨_,_,_,_,_,_,_,_,_,_,rfl,_⟩:=h;rfl)
theorem ok_part {f:Addr} {fd:FuncData} (F:Fun K "_law_part" "_law_part" s_part f fd) (B:Blt mg) (c_filled:Callee P w K mg base "_law_filled" PS_filled K_filled (sp_filled K)) (c_set_names:Callee P w K mg base "_law_set_names" PS_set_names K_set_names (sp_set_names K)) (c_mended:Callee P w K mg base "_law_mended" PS_mended K_mended (sp_mended K)) (c_rough_row:Callee P w K mg base "_law_rough_row" PS_rough_row K_rough_row (sp_rough_row K)) (c_draw:Callee P w K mg base "_law_draw" PS_draw K_draw (sp_draw K)):FnOk P w K mg base CX0 K_part f fd PS_part (sp_part K):=
  F.ok sc_part (fun vs H Q E h=>len_part h) fun cdv A outer s H vs Q E hr h=>⟨_,d_part B c_filled c_set_names c_mended c_rough_row c_draw hr,r_part (E:=E) h⟩
theorem len_names {vs:List V} {H:Hp} {Q:VK} {E:XK} (h:sp_names K vs H Q E):vs.length=PS_names.length:=by
  first | (obtain ⟨_,_,_,rfl,_⟩:=h;rfl)
theorem ok_names {f:Addr} {fd:FuncData} (F:Fun K "_law_names" "_law_names" s_names f fd) (B:Blt mg) (c_draw:Callee P w K mg base "_law_draw" PS_draw K_draw (sp_draw K)):FnOk P w K mg base CX0 K_names f fd PS_names (sp_names K):=
  F.ok sc_names (fun vs H Q E h=>len_names h) fun cdv A outer s H vs Q E hr h=>⟨_,d_names B c_draw hr,r_names (E:=E) h⟩
theorem len_program {vs:List V} {H:Hp} {Q:VK} {E:XK} (h:sp_program K vs H Q E):vs.length=PS_program.length:=by
  first | (obtain ⟨_,_,_,rfl,_⟩:=h;rfl)
theorem ok_program {f:Addr} {fd:FuncData} (F:Fun K "_law_program" "_law_program" s_program f fd) (B:Blt mg) (c_part:Callee P w K mg base "_law_part" PS_part K_part (sp_part K)) (c_draw:Callee P w K mg base "_law_draw" PS_draw K_draw (sp_draw K)) (c_names:Callee P w K mg base "_law_names" PS_names K_names (sp_names K)):FnOk P w K mg base CX0 K_program f fd PS_program (sp_program K):=
  F.ok sc_program (fun vs H Q E h=>len_program h) fun cdv A outer s H vs Q E hr h=>⟨_,d_program B c_part c_draw c_names hr,r_program (E:=E) h⟩
theorem len_law {vs:List V} {H:Hp} {Q:VK} {E:XK} (h:sp_law K vs H Q E):vs.length=PS_law.length:=by
  first | (obtain ⟨_,_,rfl,_⟩:=h;rfl)
theorem ok_law {f:Addr} {fd:FuncData} (F:Fun K "law" "law" s_law f fd) (B:Blt mg) (c_step:Callee P w K mg base "_law_step" PS_step K_step (sp_step K)) (c_places:Callee P w K mg base "_law_places" PS_places K_places (sp_places K)) (c_turned:Callee P w K mg base "_law_turned" PS_turned K_turned (sp_turned K)) (c_draw:Callee P w K mg base "_law_draw" PS_draw K_draw (sp_draw K)) (c_args:Callee P w K mg base "_law_args" PS_args K_args (sp_args K)) (c_opened:Callee P w K mg base "_law_opened" PS_opened K_opened (sp_opened K)) (c_program:Callee P w K mg base "_law_program" PS_program K_program (sp_program K)):FnOk P w K mg base CX0 K_law f fd PS_law (sp_law K):=
  F.ok sc_law (fun vs H Q E h=>len_law h) fun cdv A outer s H vs Q E hr h=>⟨_,d_law B c_step c_places c_turned c_draw c_args c_opened c_program hr,r_law (E:=E) h⟩
end
theorem all_mk {l:PySem.W.OpenLaw} {w:World} {K:Fg} {h:Heap} {mg:Str→Option Value} {fa:Addr} (X:K.In h) (G:h.Ns mainGlobals mg) (hfa:mg "law"=some (.ref fa))
    {od0 an0:Option Addr} {sl0:Array (Option Value)} {oc0 kV0 dc0 pm0 cd0 ct0:Value} {f0:Addr}
    (a0:PySem.W.nsIn K mainGlobals "_law_stand"=some (some (.ref f0)))
    (l0:K.lookup f0=some ⟨oc0,od0,.func (PySem.W.fnOf "_law_stand" "_law_stand" (defArgs s_stand) (defBody s_stand) (defScope s_stand) .none kV0 dc0 pm0 an0 cd0 ct0),sl0⟩) (c0:PySem.W.codeIn K cd0 "_law_stand"=true) (k0:PySem.W.keepIn K (.ref f0)=true)
    {od1 an1:Option Addr} {sl1:Array (Option Value)} {oc1 kV1 dc1 pm1 cd1 ct1:Value} {f1:Addr}
    (a1:PySem.W.nsIn K mainGlobals "_law_reckoned"=some (some (.ref f1)))
    (l1:K.lookup f1=some ⟨oc1,od1,.func (PySem.W.fnOf "_law_reckoned" "_law_reckoned" (defArgs s_reckoned) (defBody s_reckoned) (defScope s_reckoned) .none kV1 dc1 pm1 an1 cd1 ct1),sl1⟩) (c1:PySem.W.codeIn K cd1 "_law_reckoned"=true) (k1:PySem.W.keepIn K (.ref f1)=true)
    {od2 an2:Option Addr} {sl2:Array (Option Value)} {oc2 kV2 dc2 pm2 cd2 ct2:Value} {f2:Addr}
    (a2:PySem.W.nsIn K mainGlobals "_law_opened"=some (some (.ref f2)))
    (l2:K.lookup f2=some ⟨oc2,od2,.func (PySem.W.fnOf "_law_opened" "_law_opened" (defArgs s_opened) (defBody s_opened) (defScope s_opened) .none kV2 dc2 pm2 an2 cd2 ct2),sl2⟩) (c2:PySem.W.codeIn K cd2 "_law_opened"=true) (k2:PySem.W.keepIn K (.ref f2)=true)
    {od3 an3:Option Addr} {sl3:Array (Option Value)} {oc3 kV3 dc3 pm3 cd3 ct3:Value} {f3:Addr}
    (a3:PySem.W.nsIn K mainGlobals "_law_shut"=some (some (.ref f3)))
    (l3:K.lookup f3=some ⟨oc3,od3,.func (PySem.W.fnOf "_law_shut" "_law_shut" (defArgs s_shut) (defBody s_shut) (defScope s_shut) .none kV3 dc3 pm3 an3 cd3 ct3),sl3⟩) (c3:PySem.W.codeIn K cd3 "_law_shut"=true) (k3:PySem.W.keepIn K (.ref f3)=true)
    {od4 an4:Option Addr} {sl4:Array (Option Value)} {oc4 kV4 dc4 pm4 cd4 ct4:Value} {f4:Addr}
    (a4:PySem.W.nsIn K mainGlobals "_law_step"=some (some (.ref f4)))
    (l4:K.lookup f4=some ⟨oc4,od4,.func (PySem.W.fnOf "_law_step" "_law_step" (defArgs s_step) (defBody s_step) (defScope s_step) .none kV4 dc4 pm4 an4 cd4 ct4),sl4⟩) (c4:PySem.W.codeIn K cd4 "_law_step"=true) (k4:PySem.W.keepIn K (.ref f4)=true)
    {od5 an5:Option Addr} {sl5:Array (Option Value)} {oc5 kV5 dc5 pm5 cd5 ct5:Value} {f5:Addr}
    (a5:PySem.W.nsIn K mainGlobals "_law_places"=some (some (.ref f5)))
    (l5:K.lookup f5=some ⟨oc5,od5,.func (PySem.W.fnOf "_law_places" "_law_places" (defArgs s_places) (defBody s_places) (defScope s_places) .none kV5 dc5 pm5 an5 cd5 ct5),sl5⟩) (c5:PySem.W.codeIn K cd5 "_law_places"=true) (k5:PySem.W.keepIn K (.ref f5)=true)
    {od6 an6:Option Addr} {sl6:Array (Option Value)} {oc6 kV6 dc6 pm6 cd6 ct6:Value} {f6:Addr}
    (a6:PySem.W.nsIn K mainGlobals "_law_draw"=some (some (.ref f6)))
    (l6:K.lookup f6=some ⟨oc6,od6,.func (PySem.W.fnOf "_law_draw" "_law_draw" (defArgs s_draw) (defBody s_draw) (defScope s_draw) .none kV6 dc6 pm6 an6 cd6 ct6),sl6⟩) (c6:PySem.W.codeIn K cd6 "_law_draw"=true) (k6:PySem.W.keepIn K (.ref f6)=true)
    {od7 an7:Option Addr} {sl7:Array (Option Value)} {oc7 kV7 dc7 pm7 cd7 ct7:Value} {f7:Addr}
    (a7:PySem.W.nsIn K mainGlobals "_law_worth"=some (some (.ref f7)))
    (l7:K.lookup f7=some ⟨oc7,od7,.func (PySem.W.fnOf "_law_worth" "_law_worth" (defArgs s_worth) (defBody s_worth) (defScope s_worth) .none kV7 dc7 pm7 an7 cd7 ct7),sl7⟩) (c7:PySem.W.codeIn K cd7 "_law_worth"=true) (k7:PySem.W.keepIn K (.ref f7)=true)
    {od8 an8:Option Addr} {sl8:Array (Option Value)} {oc8 kV8 dc8 pm8 cd8 ct8:Value} {f8:Addr}
    (a8:PySem.W.nsIn K mainGlobals "sets"=some (some (.ref f8)))
    (l8:K.lookup f8=some ⟨oc8,od8,.func (PySem.W.fnOf "sets" "sets" (defArgs s_p_sets) (defBody s_p_sets) (defScope s_p_sets) .none kV8 dc8 pm8 an8 cd8 ct8),sl8⟩) (c8:PySem.W.codeIn K cd8 "sets"=true) (k8:PySem.W.keepIn K (.ref f8)=true)
    {od9 an9:Option Addr} {sl9:Array (Option Value)} {oc9 kV9 dc9 pm9 cd9 ct9:Value} {f9:Addr}
    (a9:PySem.W.nsIn K mainGlobals "rows_wanting"=some (some (.ref f9)))
    (l9:K.lookup f9=some ⟨oc9,od9,.func (PySem.W.fnOf "rows_wanting" "rows_wanting" (defArgs s_p_rw) (defBody s_p_rw) (defScope s_p_rw) .none kV9 dc9 pm9 an9 cd9 ct9),sl9⟩) (c9:PySem.W.codeIn K cd9 "rows_wanting"=true) (k9:PySem.W.keepIn K (.ref f9)=true)
    {od10 an10:Option Addr} {sl10:Array (Option Value)} {oc10 kV10 dc10 pm10 cd10 ct10:Value} {f10:Addr}
    (a10:PySem.W.nsIn K mainGlobals "goal"=some (some (.ref f10)))
    (l10:K.lookup f10=some ⟨oc10,od10,.func (PySem.W.fnOf "goal" "goal" (defArgs s_p_goal) (defBody s_p_goal) (defScope s_p_goal) .none kV10 dc10 pm10 an10 cd10 ct10),sl10⟩) (c10:PySem.W.codeIn K cd10 "goal"=true) (k10:PySem.W.keepIn K (.ref f10)=true)
    {od11 an11:Option Addr} {sl11:Array (Option Value)} {oc11 kV11 dc11 pm11 cd11 ct11:Value} {f11:Addr}
    (a11:PySem.W.nsIn K mainGlobals "leads"=some (some (.ref f11)))
    (l11:K.lookup f11=some ⟨oc11,od11,.func (PySem.W.fnOf "leads" "leads" (defArgs s_p_leads) (defBody s_p_leads) (defScope s_p_leads) .none kV11 dc11 pm11 an11 cd11 ct11),sl11⟩) (c11:PySem.W.codeIn K cd11 "leads"=true) (k11:PySem.W.keepIn K (.ref f11)=true)
    {od12 an12:Option Addr} {sl12:Array (Option Value)} {oc12 kV12 dc12 pm12 cd12 ct12:Value} {f12:Addr}
    {T12:Addr} {ocT12:Value} {odT12:Option Addr} {nT12:Nat} {slT12:Array (Option Value)}
    (a12:PySem.W.nsIn K mainGlobals "walked"=some (some (.ref f12)))
    (l12:K.lookup f12=some ⟨oc12,od12,.func (PySem.W.fnOf "walked" "walked" (defArgs s_p_walked) (defBody s_p_walked) (defScope s_p_walked) (.ref T12) kV12 dc12 pm12 an12 cd12 ct12),sl12⟩) (c12:PySem.W.codeIn K cd12 "walked"=true) (k12:PySem.W.keepIn K (.ref f12)=true)
    (t12:K.lookup T12=some ⟨ocT12,odT12,.seq #[Value.none] nT12,slT12⟩)
    {od13 an13:Option Addr} {sl13:Array (Option Value)} {oc13 kV13 dc13 pm13 cd13 ct13:Value} {f13:Addr}
    (a13:PySem.W.nsIn K mainGlobals "come_to"=some (some (.ref f13)))
    (l13:K.lookup f13=some ⟨oc13,od13,.func (PySem.W.fnOf "come_to" "come_to" (defArgs s_p_come_to) (defBody s_p_come_to) (defScope s_p_come_to) .none kV13 dc13 pm13 an13 cd13 ct13),sl13⟩) (c13:PySem.W.codeIn K cd13 "come_to"=true) (k13:PySem.W.keepIn K (.ref f13)=true)
    {od14 an14:Option Addr} {sl14:Array (Option Value)} {oc14 kV14 dc14 pm14 cd14 ct14:Value} {f14:Addr}
    (a14:PySem.W.nsIn K mainGlobals "reads"=some (some (.ref f14)))
    (l14:K.lookup f14=some ⟨oc14,od14,.func (PySem.W.fnOf "reads" "reads" (defArgs s_p_reads) (defBody s_p_reads) (defScope s_p_reads) .none kV14 dc14 pm14 an14 cd14 ct14),sl14⟩) (c14:PySem.W.codeIn K cd14 "reads"=true) (k14:PySem.W.keepIn K (.ref f14)=true)
    {od15 an15:Option Addr} {sl15:Array (Option Value)} {oc15 kV15 dc15 pm15 cd15 ct15:Value} {f15:Addr}
    (a15:PySem.W.nsIn K mainGlobals "rows_that_read"=some (some (.ref f15)))
    (l15:K.lookup f15=some ⟨oc15,od15,.func (PySem.W.fnOf "rows_that_read" "rows_that_read" (defArgs s_p_rt) (defBody s_p_rt) (defScope s_p_rt) .none kV15 dc15 pm15 an15 cd15 ct15),sl15⟩) (c15:PySem.W.codeIn K cd15 "rows_that_read"=true) (k15:PySem.W.keepIn K (.ref f15)=true)
    {od16 an16:Option Addr} {sl16:Array (Option Value)} {oc16 kV16 dc16 pm16 cd16 ct16:Value} {f16:Addr}
    (a16:PySem.W.nsIn K mainGlobals "stands"=some (some (.ref f16)))
    (l16:K.lookup f16=some ⟨oc16,od16,.func (PySem.W.fnOf "stands" "stands" (defArgs s_p_stands) (defBody s_p_stands) (defScope s_p_stands) .none kV16 dc16 pm16 an16 cd16 ct16),sl16⟩) (c16:PySem.W.codeIn K cd16 "stands"=true) (k16:PySem.W.keepIn K (.ref f16)=true)
    {od17 an17:Option Addr} {sl17:Array (Option Value)} {oc17 kV17 dc17 pm17 cd17 ct17:Value} {f17:Addr}
    (a17:PySem.W.nsIn K mainGlobals "rows_ahead"=some (some (.ref f17)))
    (l17:K.lookup f17=some ⟨oc17,od17,.func (PySem.W.fnOf "rows_ahead" "rows_ahead" (defArgs s_p_ra) (defBody s_p_ra) (defScope s_p_ra) .none kV17 dc17 pm17 an17 cd17 ct17),sl17⟩) (c17:PySem.W.codeIn K cd17 "rows_ahead"=true) (k17:PySem.W.keepIn K (.ref f17)=true)
    {od18 an18:Option Addr} {sl18:Array (Option Value)} {oc18 kV18 dc18 pm18 cd18 ct18:Value} {f18:Addr}
    (a18:PySem.W.nsIn K mainGlobals "wanted"=some (some (.ref f18)))
    (l18:K.lookup f18=some ⟨oc18,od18,.func (PySem.W.fnOf "wanted" "wanted" (defArgs s_p_wanted) (defBody s_p_wanted) (defScope s_p_wanted) .none kV18 dc18 pm18 an18 cd18 ct18),sl18⟩) (c18:PySem.W.codeIn K cd18 "wanted"=true) (k18:PySem.W.keepIn K (.ref f18)=true)
    {od19 an19:Option Addr} {sl19:Array (Option Value)} {oc19 kV19 dc19 pm19 cd19 ct19:Value} {f19:Addr}
    (a19:PySem.W.nsIn K mainGlobals "_law_turned"=some (some (.ref f19)))
    (l19:K.lookup f19=some ⟨oc19,od19,.func (PySem.W.fnOf "_law_turned" "_law_turned" (defArgs s_turned) (defBody s_turned) (defScope s_turned) .none kV19 dc19 pm19 an19 cd19 ct19),sl19⟩) (c19:PySem.W.codeIn K cd19 "_law_turned"=true) (k19:PySem.W.keepIn K (.ref f19)=true)
    {od20 an20:Option Addr} {sl20:Array (Option Value)} {oc20 kV20 dc20 pm20 cd20 ct20:Value} {f20:Addr}
    (a20:PySem.W.nsIn K mainGlobals "_law_args"=some (some (.ref f20)))
    (l20:K.lookup f20=some ⟨oc20,od20,.func (PySem.W.fnOf "_law_args" "_law_args" (defArgs s_args) (defBody s_args) (defScope s_args) .none kV20 dc20 pm20 an20 cd20 ct20),sl20⟩) (c20:PySem.W.codeIn K cd20 "_law_args"=true) (k20:PySem.W.keepIn K (.ref f20)=true)
    {od21 an21:Option Addr} {sl21:Array (Option Value)} {oc21 kV21 dc21 pm21 cd21 ct21:Value} {f21:Addr}
    (a21:PySem.W.nsIn K mainGlobals "_law_filled"=some (some (.ref f21)))
    (l21:K.lookup f21=some ⟨oc21,od21,.func (PySem.W.fnOf "_law_filled" "_law_filled" (defArgs s_filled) (defBody s_filled) (defScope s_filled) .none kV21 dc21 pm21 an21 cd21 ct21),sl21⟩) (c21:PySem.W.codeIn K cd21 "_law_filled"=true) (k21:PySem.W.keepIn K (.ref f21)=true)
    {od22 an22:Option Addr} {sl22:Array (Option Value)} {oc22 kV22 dc22 pm22 cd22 ct22:Value} {f22:Addr}
    (a22:PySem.W.nsIn K mainGlobals "_law_leads"=some (some (.ref f22)))
    (l22:K.lookup f22=some ⟨oc22,od22,.func (PySem.W.fnOf "_law_leads" "_law_leads" (defArgs s_leads) (defBody s_leads) (defScope s_leads) .none kV22 dc22 pm22 an22 cd22 ct22),sl22⟩) (c22:PySem.W.codeIn K cd22 "_law_leads"=true) (k22:PySem.W.keepIn K (.ref f22)=true)
    {od23 an23:Option Addr} {sl23:Array (Option Value)} {oc23 kV23 dc23 pm23 cd23 ct23:Value} {f23:Addr}
    (a23:PySem.W.nsIn K mainGlobals "_law_set_names"=some (some (.ref f23)))
    (l23:K.lookup f23=some ⟨oc23,od23,.func (PySem.W.fnOf "_law_set_names" "_law_set_names" (defArgs s_set_names) (defBody s_set_names) (defScope s_set_names) .none kV23 dc23 pm23 an23 cd23 ct23),sl23⟩) (c23:PySem.W.codeIn K cd23 "_law_set_names"=true) (k23:PySem.W.keepIn K (.ref f23)=true)
    {od24 an24:Option Addr} {sl24:Array (Option Value)} {oc24 kV24 dc24 pm24 cd24 ct24:Value} {f24:Addr}
    (a24:PySem.W.nsIn K mainGlobals "_law_mended"=some (some (.ref f24)))
    (l24:K.lookup f24=some ⟨oc24,od24,.func (PySem.W.fnOf "_law_mended" "_law_mended" (defArgs s_mended) (defBody s_mended) (defScope s_mended) .none kV24 dc24 pm24 an24 cd24 ct24),sl24⟩) (c24:PySem.W.codeIn K cd24 "_law_mended"=true) (k24:PySem.W.keepIn K (.ref f24)=true)
    {od25 an25:Option Addr} {sl25:Array (Option Value)} {oc25 kV25 dc25 pm25 cd25 ct25:Value} {f25:Addr}
    (a25:PySem.W.nsIn K mainGlobals "_law_rough_row"=some (some (.ref f25)))
    (l25:K.lookup f25=some ⟨oc25,od25,.func (PySem.W.fnOf "_law_rough_row" "_law_rough_row" (defArgs s_rough_row) (defBody s_rough_row) (defScope s_rough_row) .none kV25 dc25 pm25 an25 cd25 ct25),sl25⟩) (c25:PySem.W.codeIn K cd25 "_law_rough_row"=true) (k25:PySem.W.keepIn K (.ref f25)=true)
    {od26 an26:Option Addr} {sl26:Array (Option Value)} {oc26 kV26 dc26 pm26 cd26 ct26:Value} {f26:Addr}
    (a26:PySem.W.nsIn K mainGlobals "_law_part"=some (some (.ref f26)))
    (l26:K.lookup f26=some ⟨oc26,od26,.func (PySem.W.fnOf "_law_part" "_law_part" (defArgs s_part) (defBody s_part) (defScope s_part) .none kV26 dc26 pm26 an26 cd26 ct26),sl26⟩) (c26:PySem.W.codeIn K cd26 "_law_part"=true) (k26:PySem.W.keepIn K (.ref f26)=true)
    {od27 an27:Option Addr} {sl27:Array (Option Value)} {oc27 kV27 dc27 pm27 cd27 ct27:Value} {f27:Addr}
    (a27:PySem.W.nsIn K mainGlobals "_law_names"=some (some (.ref f27)))
    (l27:K.lookup f27=some ⟨oc27,od27,.func (PySem.W.fnOf "_law_names" "_law_names" (defArgs s_names) (defBody s_names) (defScope s_names) .none kV27 dc27 pm27 an27 cd27 ct27),sl27⟩) (c27:PySem.W.codeIn K cd27 "_law_names"=true) (k27:PySem.W.keepIn K (.ref f27)=true)
    {od28 an28:Option Addr} {sl28:Array (Option Value)} {oc28 kV28 dc28 pm28 cd28 ct28:Value} {f28:Addr}
    (a28:PySem.W.nsIn K mainGlobals "_law_program"=some (some (.ref f28)))
    (l28:K.lookup f28=some ⟨oc28,od28,.func (PySem.W.fnOf "_law_program" "_law_program" (defArgs s_program) (defBody s_program) (defScope s_program) .none kV28 dc28 pm28 an28 cd28 ct28),sl28⟩) (c28:PySem.W.codeIn K cd28 "_law_program"=true) (k28:PySem.W.keepIn K (.ref f28)=true)
    {od29 an29:Option Addr} {sl29:Array (Option Value)} {oc29 kV29 dc29 pm29 cd29 ct29:Value} {f29:Addr}
    (a29:PySem.W.nsIn K mainGlobals "law"=some (some (.ref f29)))
    (l29:K.lookup f29=some ⟨oc29,od29,.func (PySem.W.fnOf "law" "law" (defArgs s_law) (defBody s_law) (defScope s_law) .none kV29 dc29 pm29 an29 cd29 ct29),sl29⟩) (c29:PySem.W.codeIn K cd29 "law"=true) (k29:PySem.W.keepIn K (.ref f29)=true)
    (z_len:PySem.W.nsIn K mainGlobals "len"=some none) (z_range:PySem.W.nsIn K mainGlobals "range"=some none) (z_divmod:PySem.W.nsIn K mainGlobals "divmod"=some none) (z_max:PySem.W.nsIn K mainGlobals "max"=some none) (z_min:PySem.W.nsIn K mainGlobals "min"=some none) (z_sum:PySem.W.nsIn K mainGlobals "sum"=some none) (z_all:PySem.W.nsIn K mainGlobals "all"=some none) (z_isinstance:PySem.W.nsIn K mainGlobals "isinstance"=some none) (z_int:PySem.W.nsIn K mainGlobals "int"=some none) (z_bool:PySem.W.nsIn K mainGlobals "bool"=some none) (z_list:PySem.W.nsIn K mainGlobals "list"=some none) (z_tuple:PySem.W.nsIn K mainGlobals "tuple"=some none) (z_enumerate:PySem.W.nsIn K mainGlobals "enumerate"=some none) (z_zip:PySem.W.nsIn K mainGlobals "zip"=some none) (z_sorted:PySem.W.nsIn K mainGlobals "sorted"=some none) (z_set:PySem.W.nsIn K mainGlobals "set"=some none) (z_dict:PySem.W.nsIn K mainGlobals "dict"=some none) (z_str:PySem.W.nsIn K mainGlobals "str"=some none) (z_any:PySem.W.nsIn K mainGlobals "any"=some none) (z_reversed:PySem.W.nsIn K mainGlobals "reversed"=some none) (z_abs:PySem.W.nsIn K mainGlobals "abs"=some none) :
    ∃ fd:FuncData,(∀ (s:Shared) (v:Value),BindsTo s fd ⟨[v],[]⟩ [("_law_script",v)])∧∀ base:Heap,K.In base→base.Ns mainGlobals mg→FnOk l.prog w K mg base CX0 K_law fa fd PS_law (sp_law K):=by
  have e:=hfa.symm.trans (PySem.W.mg_of X G a29)
  cases e
  have B:Blt mg:=⟨PySem.W.mg_none_of X G z_len,PySem.W.mg_none_of X G z_range,PySem.W.mg_none_of X G z_divmod,PySem.W.mg_none_of X G z_max,PySem.W.mg_none_of X G z_min,PySem.W.mg_none_of X G z_sum,PySem.W.mg_none_of X G z_all,PySem.W.mg_none_of X G z_isinstance,PySem.W.mg_none_of X G z_int,PySem.W.mg_none_of X G z_bool,PySem.W.mg_none_of X G z_list,PySem.W.mg_none_of X G z_tuple,PySem.W.mg_none_of X G z_enumerate,PySem.W.mg_none_of X G z_zip,PySem.W.mg_none_of X G z_sorted,PySem.W.mg_none_of X G z_set,PySem.W.mg_none_of X G z_dict,PySem.W.mg_none_of X G z_str,PySem.W.mg_none_of X G z_any,PySem.W.mg_none_of X G z_reversed,PySem.W.mg_none_of X G z_abs⟩
  have F0:=fun_mk (st:=s_stand) l0 c0 k0
  have b0:=F0.binds (ps:=PS_stand) fun _ _ _ _ _ _ us hl=>by (obtain ⟨_,_,rfl⟩:=le2 (us:=us) hl);rfl
  have F1:=fun_mk (st:=s_reckoned) l1 c1 k1
  have b1:=F1.binds (ps:=PS_reckoned) fun _ _ _ _ _ _ us hl=>by (obtain ⟨_,_,_,rfl⟩:=le3 (us:=us) hl);rfl
  have F2:=fun_mk (st:=s_opened) l2 c2 k2
  have b2:=F2.binds (ps:=PS_opened) fun _ _ _ _ _ _ us hl=>by (obtain ⟨_,_,_,rfl⟩:=le3 (us:=us) hl);rfl
  have F3:=fun_mk (st:=s_shut) l3 c3 k3
  have b3:=F3.binds (ps:=PS_shut) fun _ _ _ _ _ _ us hl=>by (obtain ⟨_,_,_,rfl⟩:=le3 (us:=us) hl);rfl
  have F4:=fun_mk (st:=s_step) l4 c4 k4
  have b4:=F4.binds (ps:=PS_step) fun _ _ _ _ _ _ us hl=>by (obtain ⟨_,_,_,rfl⟩:=le3 (us:=us) hl);rfl
  have F5:=fun_mk (st:=s_places) l5 c5 k5
  have b5:=F5.binds (ps:=PS_places) fun _ _ _ _ _ _ us hl=>by (obtain ⟨_,rfl⟩:=le1 (us:=us) hl);rfl
  have F6:=fun_mk (st:=s_draw) l6 c6 k6
  have b6:=F6.binds (ps:=PS_draw) fun _ _ _ _ _ _ us hl=>by (obtain ⟨_,_,rfl⟩:=le2 (us:=us) hl);rfl
  have F7:=fun_mk (st:=s_worth) l7 c7 k7
  have b7:=F7.binds (ps:=PS_worth) fun _ _ _ _ _ _ us hl=>by (obtain ⟨_,rfl⟩:=le1 (us:=us) hl);rfl
  have F8:=fun_mk (st:=s_p_sets) l8 c8 k8
  have b8:=F8.binds (ps:=PS_p_sets) fun _ _ _ _ _ _ us hl=>by (obtain ⟨_,rfl⟩:=le1 (us:=us) hl);rfl
  have F9:=fun_mk (st:=s_p_rw) l9 c9 k9
  have b9:=F9.binds (ps:=PS_p_rw) fun _ _ _ _ _ _ us hl=>by (obtain ⟨_,_,_,_,rfl⟩:=le4 (us:=us) hl);rfl
  have F10:=fun_mk (st:=s_p_goal) l10 c10 k10
  have b10:=F10.binds (ps:=PS_p_goal) fun _ _ _ _ _ _ us hl=>by (obtain ⟨_,rfl⟩:=le1 (us:=us) hl);rfl
  have F11:=fun_mk (st:=s_p_leads) l11 c11 k11
  have b11:=F11.binds (ps:=PS_p_leads) fun _ _ _ _ _ _ us hl=>by (obtain ⟨_,_,rfl⟩:=le2 (us:=us) hl);rfl
  have F12:=funD_mk (st:=s_p_walked) l12 c12 k12
  have F13:=fun_mk (st:=s_p_come_to) l13 c13 k13
  have b13:=F13.binds (ps:=PS_p_come_to) fun _ _ _ _ _ _ us hl=>by (obtain ⟨_,rfl⟩:=le1 (us:=us) hl);rfl
  have F14:=fun_mk (st:=s_p_reads) l14 c14 k14
  have b14:=F14.binds (ps:=PS_p_reads) fun _ _ _ _ _ _ us hl=>by (obtain ⟨_,rfl⟩:=le1 (us:=us) hl);rfl
  have F15:=fun_mk (st:=s_p_rt) l15 c15 k15
  have b15:=F15.binds (ps:=PS_p_rt) fun _ _ _ _ _ _ us hl=>by (obtain ⟨_,rfl⟩:=le1 (us:=us) hl);rfl
  have F16:=fun_mk (st:=s_p_stands) l16 c16 k16
  have b16:=F16.binds (ps:=PS_p_stands) fun _ _ _ _ _ _ us hl=>by (obtain ⟨_,_,rfl⟩:=le2 (us:=us) hl);rfl
  have F17:=fun_mk (st:=s_p_ra) l17 c17 k17
  have b17:=F17.binds (ps:=PS_p_ra) fun _ _ _ _ _ _ us hl=>by (obtain ⟨_,rfl⟩:=le1 (us:=us) hl);rfl
  have F18:=fun_mk (st:=s_p_wanted) l18 c18 k18
  have b18:=F18.binds (ps:=PS_p_wanted) fun _ _ _ _ _ _ us hl=>by (obtain ⟨_,rfl⟩:=le1 (us:=us) hl);rfl
  have F19:=fun_mk (st:=s_turned) l19 c19 k19
  have b19:=F19.binds (ps:=PS_turned) fun _ _ _ _ _ _ us hl=>by (obtain ⟨_,_,_,rfl⟩:=le3 (us:=us) hl);rfl
  have F20:=fun_mk (st:=s_args) l20 c20 k20
  have b20:=F20.binds (ps:=PS_args) fun _ _ _ _ _ _ us hl=>by (obtain ⟨_,_,_,rfl⟩:=le3 (us:=us) hl);rfl
  have F21:=fun_mk (st:=s_filled) l21 c21 k21
  have b21:=F21.binds (ps:=PS_filled) fun _ _ _ _ _ _ us hl=>by (obtain ⟨_,_,_,rfl⟩:=le3 (us:=us) hl);rfl
  have F22:=fun_mk (st:=s_leads) l22 c22 k22
  have b22:=F22.binds (ps:=PS_leads) fun _ _ _ _ _ _ us hl=>by (obtain ⟨_,_,rfl⟩:=le2 (us:=us) hl);rfl
  have F23:=fun_mk (st:=s_set_names) l23 c23 k23
  have b23:=F23.binds (ps:=PS_set_names) fun _ _ _ _ _ _ us hl=>by (obtain ⟨_,_,_,rfl⟩:=le3 (us:=us) hl);rfl
  have F24:=fun_mk (st:=s_mended) l24 c24 k24
  have b24:=F24.binds (ps:=PS_mended) fun _ _ _ _ _ _ us hl=>by (obtain ⟨_,_,_,rfl⟩:=le3 (us:=us) hl);rfl
  have F25:=fun_mk (st:=s_rough_row) l25 c25 k25
  have b25:=F25.binds (ps:=PS_rough_row) fun _ _ _ _ _ _ us hl=>by (obtain ⟨_,_,_,_,rfl⟩:=le4 (us:=us) hl);rfl
  have F26:=fun_mk (st:=s_part) l26 c26 k26
  have b26:=F26.binds (ps:=PS_part) fun _ _ _ _ _ _ us hl=>by (obtain ⟨_,_,_,_,_,_,rfl⟩:=le6 (us:=us) hl);rfl
  have F27:=fun_mk (st:=s_names) l27 c27 k27
  have b27:=F27.binds (ps:=PS_names) fun _ _ _ _ _ _ us hl=>by (obtain ⟨_,_,rfl⟩:=le2 (us:=us) hl);rfl
  have F28:=fun_mk (st:=s_program) l28 c28 k28
  have b28:=F28.binds (ps:=PS_program) fun _ _ _ _ _ _ us hl=>by (obtain ⟨_,_,rfl⟩:=le2 (us:=us) hl);rfl
  have F29:=fun_mk (st:=s_law) l29 c29 k29
  refine ⟨PySem.W.fnOf "law" "law" (defArgs s_law) (defBody s_law) (defScope s_law) .none kV29 dc29 pm29 an29 cd29 ct29,fun s v=>.of_eq rfl,fun base _ _=>?_⟩
  have c_stand:Callee l.prog w K mg base "_law_stand" PS_stand K_stand (sp_stand K):=⟨⟨_,_,PySem.W.mg_of X G a0,k0,b0,ok_stand F0 B⟩⟩
  have c_reckoned:Callee l.prog w K mg base "_law_reckoned" PS_reckoned K_reckoned (sp_reckoned K):=⟨⟨_,_,PySem.W.mg_of X G a1,k1,b1,ok_reckoned F1 B⟩⟩
  have c_opened:Callee l.prog w K mg base "_law_opened" PS_opened K_opened (sp_opened K):=⟨⟨_,_,PySem.W.mg_of X G a2,k2,b2,ok_opened F2 B c_stand⟩⟩
  have c_shut:Callee l.prog w K mg base "_law_shut" PS_shut K_shut (sp_shut K):=⟨⟨_,_,PySem.W.mg_of X G a3,k3,b3,ok_shut F3 B c_stand⟩⟩
  have c_step:Callee l.prog w K mg base "_law_step" PS_step K_step (sp_step K):=⟨⟨_,_,PySem.W.mg_of X G a4,k4,b4,ok_step F4 B c_stand c_reckoned c_opened c_shut⟩⟩
  have c_places:Callee l.prog w K mg base "_law_places" PS_places K_places (sp_places K):=⟨⟨_,_,PySem.W.mg_of X G a5,k5,b5,ok_places F5 B⟩⟩
  have c_draw:Callee l.prog w K mg base "_law_draw" PS_draw K_draw (sp_draw K):=⟨⟨_,_,PySem.W.mg_of X G a6,k6,b6,ok_draw F6 B⟩⟩
  have c_worth:Callee l.prog w K mg base "_law_worth" PS_worth K_worth (sp_worth K):=⟨⟨_,_,PySem.W.mg_of X G a7,k7,b7,ok_worth F7 B c_draw⟩⟩
  have c_p_sets:Callee l.prog w K mg base "sets" PS_p_sets K_p_sets (sp_p_sets K):=⟨⟨_,_,PySem.W.mg_of X G a8,k8,b8,ok_p_sets F8 B⟩⟩
  have c_p_rw:Callee l.prog w K mg base "rows_wanting" PS_p_rw K_p_rw (sp_p_rw K):=⟨⟨_,_,PySem.W.mg_of X G a9,k9,b9,ok_p_rw F9 B c_p_sets⟩⟩
  have c_p_goal:Callee l.prog w K mg base "goal" PS_p_goal K_p_goal (sp_p_goal K):=⟨⟨_,_,PySem.W.mg_of X G a10,k10,b10,ok_p_goal F10 B⟩⟩
  have c_p_leads:Callee l.prog w K mg base "leads" PS_p_leads K_p_leads (sp_p_leads K):=⟨⟨_,_,PySem.W.mg_of X G a11,k11,b11,ok_p_leads F11 B c_p_goal⟩⟩
  have b12_1:Binds K _ PS_p_walked [Value.none]:=fun s us X hl=>by (obtain ⟨_,rfl⟩:=le1 (us:=us) (show us.length=1 from by rw [List.length_append] at hl;exact Nat.succ.inj hl));exact PySem.W.binds_K (fd:=PySem.W.fnOf "walked" "walked" (defArgs s_p_walked) (defBody s_p_walked) (defScope s_p_walked) (.ref T12) kV12 dc12 pm12 an12 cd12 ct12) X rfl t12 rfl rfl rfl
  have c_p_walked_d1:CalleeD l.prog w K mg base "walked" PS_p_walked K_p_walked [.non] (sp_p_walked K):=⟨⟨_,_,_,PySem.W.mg_of X G a12,k12,b12_1,.cons rfl .nil,ok_p_walked F12 B c_p_sets c_p_leads⟩⟩
  have c_p_come_to:Callee l.prog w K mg base "come_to" PS_p_come_to K_p_come_to (sp_p_come_to K):=⟨⟨_,_,PySem.W.mg_of X G a13,k13,b13,ok_p_come_to F13 B c_p_walked_d1⟩⟩
  have c_p_reads:Callee l.prog w K mg base "reads" PS_p_reads K_p_reads (sp_p_reads K):=⟨⟨_,_,PySem.W.mg_of X G a14,k14,b14,ok_p_reads F14 B⟩⟩
  have c_p_rt:Callee l.prog w K mg base "rows_that_read" PS_p_rt K_p_rt (sp_p_rt K):=⟨⟨_,_,PySem.W.mg_of X G a15,k15,b15,ok_p_rt F15 B c_p_come_to c_p_reads⟩⟩
  have c_p_stands:Callee l.prog w K mg base "stands" PS_p_stands K_p_stands (sp_p_stands K):=⟨⟨_,_,PySem.W.mg_of X G a16,k16,b16,ok_p_stands F16 B c_p_goal⟩⟩
  have c_p_ra:Callee l.prog w K mg base "rows_ahead" PS_p_ra K_p_ra (sp_p_ra K):=⟨⟨_,_,PySem.W.mg_of X G a17,k17,b17,ok_p_ra F17 B c_p_leads c_p_stands c_p_come_to⟩⟩
  have c_p_wanted:Callee l.prog w K mg base "wanted" PS_p_wanted K_p_wanted (sp_p_wanted K):=⟨⟨_,_,PySem.W.mg_of X G a18,k18,b18,ok_p_wanted F18 B c_p_rw c_p_rt c_p_ra⟩⟩
  have c_turned:Callee l.prog w K mg base "_law_turned" PS_turned K_turned (sp_turned K):=⟨⟨_,_,PySem.W.mg_of X G a19,k19,b19,ok_turned F19 B c_worth c_p_wanted⟩⟩
  have c_args:Callee l.prog w K mg base "_law_args" PS_args K_args (sp_args K):=⟨⟨_,_,PySem.W.mg_of X G a20,k20,b20,ok_args F20 B c_worth⟩⟩
  have c_filled:Callee l.prog w K mg base "_law_filled" PS_filled K_filled (sp_filled K):=⟨⟨_,_,PySem.W.mg_of X G a21,k21,b21,ok_filled F21 B c_draw⟩⟩
  have c_leads:Callee l.prog w K mg base "_law_leads" PS_leads K_leads (sp_leads K):=⟨⟨_,_,PySem.W.mg_of X G a22,k22,b22,ok_leads F22 B⟩⟩
  have c_set_names:Callee l.prog w K mg base "_law_set_names" PS_set_names K_set_names (sp_set_names K):=⟨⟨_,_,PySem.W.mg_of X G a23,k23,b23,ok_set_names F23 B c_leads⟩⟩
  have c_mended:Callee l.prog w K mg base "_law_mended" PS_mended K_mended (sp_mended K):=⟨⟨_,_,PySem.W.mg_of X G a24,k24,b24,ok_mended F24 B⟩⟩
  have c_rough_row:Callee l.prog w K mg base "_law_rough_row" PS_rough_row K_rough_row (sp_rough_row K):=⟨⟨_,_,PySem.W.mg_of X G a25,k25,b25,ok_rough_row F25 B c_draw c_worth⟩⟩
  have c_part:Callee l.prog w K mg base "_law_part" PS_part K_part (sp_part K):=⟨⟨_,_,PySem.W.mg_of X G a26,k26,b26,ok_part F26 B c_filled c_set_names c_mended c_rough_row c_draw⟩⟩
  have c_names:Callee l.prog w K mg base "_law_names" PS_names K_names (sp_names K):=⟨⟨_,_,PySem.W.mg_of X G a27,k27,b27,ok_names F27 B c_draw⟩⟩
  have c_program:Callee l.prog w K mg base "_law_program" PS_program K_program (sp_program K):=⟨⟨_,_,PySem.W.mg_of X G a28,k28,b28,ok_program F28 B c_part c_draw c_names⟩⟩
  exact ok_law F29 B c_step c_places c_turned c_draw c_args c_opened c_program
theorem scr_of {K:Fg} {H:Hp} {a:Addr} {ns:List Int} (o:Only H) (h:SqL K H a (ns.map V.int)):ScrAt K H a ns:=by
  rcases h with (h | h) | h
  · rcases o a with z | ⟨ob,xs,z⟩ <;> rw [h] at z <;> cases z
  · exact .inl h
  · exact .inr h
theorem walk {l:PySem.W.OpenLaw} {q:Program} {loose:List Str} {XP:(Str→Option Value)→Heap→Prop} {YP:World→Heap→Prop} {d:DefRec} {K:Params→Fg} (hn:l.most=some 63) (hdf:d.params.defaults=[])
    (hY:∀ (w:World) (h:Heap),YP w h→(K w.params).In h)
    (F:∀ (w:World) (mg:Str→Option Value) (fa:Addr) (h:Heap),(K w.params).In h→h.Ns mainGlobals mg→mg d.name=some (.ref fa)→
      ∃ fd:FuncData,(∀ (s:Shared) (u:Value),BindsTo s fd ⟨[u],[]⟩ [("_law_script",u)])∧∀ base:Heap,(K w.params).In base→base.Ns mainGlobals mg→FnOk l.prog w (K w.params) mg base CX0 K_law fa fd PS_law (sp_law (K w.params))) :
    PySem.W.WalkO q loose XP YP l.row.toRowW d [] (fun f vs=>PySem.call f vs):=
  L2.walk_of (n:=63) (k:=K_law) (x:="_law_script") (CX:=fun _=>CX0) (sp:=fun w=>sp_law (K w.params)) hn (by decide) hdf ⟨rfl,by decide,by decide⟩ hY F (fun _ _ a ns hl hO hS=>⟨a,ns,rfl,scr_of hO hS,hl,fun _=>rfl⟩) fun _ _ _ _ _ z=>z
end Bg
open PySem PySem.W PyProof.Rows
set_option maxRecDepth 100000 in
set_option maxHeartbeats 0 in
theorem PySem.Challenge.cw_beltgarth_k36_whole_unwanted_names_holds : PySem.Challenge.rw_beltgarth_k36_whole_unwanted_names.Holds := by
  w_on;o_law;k_head;(case hw=>w_witness2)
  k_fill
  refine Bg.walk (l:=PySem.Challenge.rw_beltgarth_k36_whole_unwanted_names) rfl rfl (fun w h Y=>PySem.W.kIn_of Y) ?F
  case F=>
    intro w mg fa h KX G hmg
    refine' Bg.all_mk KX G hmg ?a0 ?l0 ?c0 ?k0 ?a1 ?l1 ?c1 ?k1 ?a2 ?l2 ?c2 ?k2 ?a3 ?l3 ?c3 ?k3 ?a4 ?l4 ?c4 ?k4 ?a5 ?l5 ?c5 ?k5 ?a6 ?l6 ?c6 ?k6 ?a7 ?l7 ?c7 ?k7 ?a8 ?l8 ?c8 ?k8 ?a9 ?l9 ?c9 ?k9 ?a10 ?l10 ?c10 ?k10 ?a11 ?l11 ?c11 ?k11 ?a12 ?l12 ?c12 ?k12 ?t12 ?a13 ?l13 ?c13 ?k13 ?a14 ?l14 ?c14 ?k14 ?a15 ?l15 ?c15 ?k15 ?a16 ?l16 ?c16 ?k16 ?a17 ?l17 ?c17 ?k17 ?a18 ?l18 ?c18 ?k18 ?a19 ?l19 ?c19 ?k19 ?a20 ?l20 ?c20 ?k20 ?a21 ?l21 ?c21 ?k21 ?a22 ?l22 ?c22 ?k22 ?a23 ?l23 ?c23 ?k23 ?a24 ?l24 ?c24 ?k24 ?a25 ?l25 ?c25 ?k25 ?a26 ?l26 ?c26 ?k26 ?a27 ?l27 ?c27 ?k27 ?a28 ?l28 ?c28 ?k28 ?a29 ?l29 ?c29 ?k29 ?z_len ?z_range ?z_divmod ?z_max ?z_min ?z_sum ?z_all ?z_isinstance ?z_int ?z_bool ?z_list ?z_tuple ?z_enumerate ?z_zip ?z_sorted ?z_set ?z_dict ?z_str ?z_any ?z_reversed ?z_abs
    (case a0=>k_is)
    (case l0=>k_is)
    (case c0=>k_is)
    (case k0=>k_is)
    (case a1=>k_is)
    (case l1=>k_is)
    (case c1=>k_is)
    (case k1=>k_is)
    (case a2=>k_is)
    (case l2=>k_is)
    (case c2=>k_is)
    (case k2=>k_is)
    (case a3=>k_is)
    (case l3=>k_is)
    (case c3=>k_is)
    (case k3=>k_is)
    (case a4=>k_is)
    (case l4=>k_is)
    (case c4=>k_is)
    (case k4=>k_is)
    (case a5=>k_is)
    (case l5=>k_is)
    (case c5=>k_is)
    (case k5=>k_is)
    (case a6=>k_is)
    (case l6=>k_is)
    (case c6=>k_is)
    (case k6=>k_is)
    (case a7=>k_is)
    (case l7=>k_is)
    (case c7=>k_is)
    (case k7=>k_is)
    (case a8=>k_is)
    (case l8=>k_is)
    (case c8=>k_is)
    (case k8=>k_is)
    (case a9=>k_is)
    (case l9=>k_is)
    (case c9=>k_is)
    (case k9=>k_is)
    (case a10=>k_is)
    (case l10=>k_is)
    (case c10=>k_is)
    (case k10=>k_is)
    (case a11=>k_is)
    (case l11=>k_is)
    (case c11=>k_is)
    (case k11=>k_is)
    (case a12=>k_is)
    (case l12=>k_is)
    (case c12=>k_is)
    (case k12=>k_is)
    (case t12=>k_is)
    (case a13=>k_is)
    (case l13=>k_is)
    (case c13=>k_is)
    (case k13=>k_is)
    (case a14=>k_is)
    (case l14=>k_is)
    (case c14=>k_is)
    (case k14=>k_is)
    (case a15=>k_is)
    (case l15=>k_is)
    (case c15=>k_is)
    (case k15=>k_is)
    (case a16=>k_is)
    (case l16=>k_is)
    (case c16=>k_is)
    (case k16=>k_is)
    (case a17=>k_is)
    (case l17=>k_is)
    (case c17=>k_is)
    (case k17=>k_is)
    (case a18=>k_is)
    (case l18=>k_is)
    (case c18=>k_is)
    (case k18=>k_is)
    (case a19=>k_is)
    (case l19=>k_is)
    (case c19=>k_is)
    (case k19=>k_is)
    (case a20=>k_is)
    (case l20=>k_is)
    (case c20=>k_is)
    (case k20=>k_is)
    (case a21=>k_is)
    (case l21=>k_is)
    (case c21=>k_is)
    (case k21=>k_is)
    (case a22=>k_is)
    (case l22=>k_is)
    (case c22=>k_is)
    (case k22=>k_is)
    (case a23=>k_is)
    (case l23=>k_is)
    (case c23=>k_is)
    (case k23=>k_is)
    (case a24=>k_is)
    (case l24=>k_is)
    (case c24=>k_is)
    (case k24=>k_is)
    (case a25=>k_is)
    (case l25=>k_is)
    (case c25=>k_is)
    (case k25=>k_is)
    (case a26=>k_is)
    (case l26=>k_is)
    (case c26=>k_is)
    (case k26=>k_is)
    (case a27=>k_is)
    (case l27=>k_is)
    (case c27=>k_is)
    (case k27=>k_is)
    (case a28=>k_is)
    (case l28=>k_is)
    (case c28=>k_is)
    (case k28=>k_is)
    (case a29=>k_is)
    (case l29=>k_is)
    (case c29=>k_is)
    (case k29=>k_is)
    (case z_len=>k_is)
    (case z_range=>k_is)
    (case z_divmod=>k_is)
    (case z_max=>k_is)
    (case z_min=>k_is)
    (case z_sum=>k_is)
    (case z_all=>k_is)
    (case z_isinstance=>k_is)
    (case z_int=>k_is)
    (case z_bool=>k_is)
    (case z_list=>k_is)
    (case z_tuple=>k_is)
    (case z_enumerate=>k_is)
    (case z_zip=>k_is)
    (case z_sorted=>k_is)
    (case z_set=>k_is)
    (case z_dict=>k_is)
    (case z_str=>k_is)
    (case z_any=>k_is)
    (case z_reversed=>k_is)
    (case z_abs=>k_is)
