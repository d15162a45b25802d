import PyProof.Rows.All
import Wide.All
import OpenK.AllK
import Wide.FinOn
import Lean
import PyProof.EqAt
import PyProof.EqKinds
import PyProof.TupleCall
import PyProof.SetKind
import PyProof.Rows.SetFrom
import PyProof.FactsAll.set
import PyProof.DictIter
import PyProof.DictWalks
import PyProof.WalksMore
import PyProof.MakeMany
import PyProof.FactsAll.subtypes_4
import KE.KDictSum
import KE.KRevIter
import PyProof.TupleOps
import PyProof.FactsAll.tuple
import PySem.Challenge.RW_beltgarth_k71_heads_and_orders
set_option Elab.async false
set_option autoImplicit true
set_option linter.all false
set_option maxHeartbeats 1000000
set_option maxHeartbeats 3200000
set_option maxHeartbeats 4000000
set_option maxRecDepth 100000
set_option relaxedAutoImplicit true
open List renaming getElem?_eq_getElem → aa, length_map → ab, mem_singleton → ae, getElem?_eq_some_iff → af, length_append → ai, size_toArray → ak, replicate → az, mem_of_getElem? → aA, mem_append → aB, getElem?_map → aC, mem_cons → aJ, mem_cons_self → aL, map_append → aN, mem_append_right → aQ, length_singleton → aS, getElem?_append_right → aX, length_take → be, length_replicate → bf, getElem?_set_self → bg, mem_append_left → bh, map_cons → bt, mem_cons_of_mem → bx, getElem?_set_ne → bC, getElem?_append_left → bJ, take_length → bK, length_cons → bM, getElem?_eq_none → bR, mem_map → bV, replicate_succ → ck, not_mem_nil → cq, map_nil → cr, map_map → cx, nodup_cons → cB, take_succ → cC, mem_iff_getElem? → cE, nodup_append → cF, append_nil → cQ, length_set → cR, pairwise_cons → dq, length_eq_zero_iff → du, getD_eq_getElem?_getD → dy, range → dz, take_of_length_le → dA, getLast?_eq_getElem? → dQ, length_filter_le → dR, getElem_mem → dS, length_drop → dU, mem_replicate → dW, append_assoc → eh, flatten_cons → eA, length_range → eB, length_pos_iff → eJ, all_eq_true → eT, lookup_cons → eU, nodup_nil → eW, find?_cons → fc, length_zip → ff, mem_filter → fg, mem_iff_getElem → fk, mem_of_mem_take → fo, pairwise_map → fq, take_add_one → fr, map_take → fI, map_congr_left → fO, getElem_inj → fQ, getElem_map → fR, foldl_cons → gk, getElem?_toArray → gt, take_sublist → gx, getElem?_of_mem → gA, lookup → gB, mem_range → gC, any_eq_true → gN, getElem_zip → gO, filterMap_cons → hU, getElem?_take_of_lt → hW, length_erase_of_mem → hZ, length_nil → ii, pairwise_singleton → iD, ext_getElem? → iK, foldl_append → iL, head?_eq_getElem? → iM, concat_eq_append → i6, eq_nil_or_concat → i7, any_cons → jq, dropLast_concat → jx, length → jz, reverse_reverse → jA, nil_append → jJ, getElem?_range → jS, length_reverse → jT, take_succ_cons → jU, map_replicate → ko, mem_filterMap → kq, not_lt → kG, reverse_cons → kH, map_fst_zip → ly, foldl → lV, of_mem_zip → mR, drop_zero → m7, map_drop → om, any_map → oZ, map_id → qS
open PySem.Heap renaming get?_push_of_some → aj, get?_push_size → aD, lt_size → aF, size_push → cA, get?_update_other → cV, get?_update_self → i5
open Nat renaming le_refl → aw, ne_of_lt → aH, le_trans → bn, lt_of_lt_of_le → bw, zero_le → bF, le_of_lt → bW, lt_succ_of_lt → cG, sub_self → dB, not_lt_zero → dO, lt_succ_self → dX, lt_irrefl → d5, lt_or_ge → fu, ne_of_gt → fz, lt_of_le_of_lt → fX, min_self → iN, le_succ → jB, lt_trans → jY, min_le_right → lz, not_lt → lW, min_eq_left → mU, mul_comm → o0
open PySem.W renaming nsIn → aG, keepIn → aM, codeIn → aR, fnOf → aT, mg_of → aZ, mg_none_of → bj, findIn → cu, emptyDict → df, instObj → eE, hasDictIn → iP, plainGet → jc, methodObj → kI, plainOver → kJ, kdl_dict → lB, makesIn → mV, takerIn → mW, lookIn → m8
open PySem.F renaming plainAttrs_list → aY, slot_list_append → bo, type_list_append → bp, args_tuple_add_2 → ia, entry_tuple_add → iE, plain_list_iadd → iF, slot_tuple_add → iO, slot_list_pop → i8, type_list_pop → i9
open Array renaming length_toList → bI, getElem?_eq_getElem → bP, getElem?_toList → bQ, getElem?_eq_some_iff → eV, toArray_toList → fj, getElem?_eq_none → iJ, toList_append → jR
open PySem renaming mem_of_lookup → cD, wpAny_setField_rec → di, intKind → jr, call → sf
open PyProof.Rows renaming callWith_type1 → cH, slot_tuple_getitem → dP
open Int renaming emod_lt_of_pos → cJ, emod_nonneg → cP, toNat_natCast → de, toNat → ef
open Option renaming map_some → cS, getD_some → gP, isSome_iff_exists → h9, toList_some → kr, getD_none → lA
abbrev Fg := PySem.W.Frag
section
namespace Bg
theorem M5{α:Type}{P:List α->Prop}{us:List α}(h:us.length=0)(k:P []):P us:=by cases us with|nil=>exact k|cons a r=>cases h
theorem MQ{α:Type}{P:List α->Prop}{us:List α}(h:us.length=1)(k:∀x0,P [x0]):P us:=by cases us with|nil=>cases h|cons a r=>exact M5 (P:=λr=>P (a::r)) (Nat.succ.inj h) (k a)
theorem Mm{α:Type}{P:List α->Prop}{us:List α}(h:us.length=2)(k:∀x0 x1,P [x0,x1]):P us:=by cases us with|nil=>cases h|cons a r=>exact MQ (P:=λr=>P (a::r)) (Nat.succ.inj h) (k a)
theorem MR{α:Type}{P:List α->Prop}{us:List α}(h:us.length=3)(k:∀x0 x1 x2,P [x0,x1,x2]):P us:=by cases us with|nil=>cases h|cons a r=>exact Mm (P:=λr=>P (a::r)) (Nat.succ.inj h) (k a)
theorem MS{α:Type}{P:List α->Prop}{us:List α}(h:us.length=4)(k:∀x0 x1 x2 x3,P [x0,x1,x2,x3]):P us:=by cases us with|nil=>cases h|cons a r=>exact MR (P:=λr=>P (a::r)) (Nat.succ.inj h) (k a)
theorem MT{α:Type}{P:List α->Prop}{us:List α}(h:us.length=5)(k:∀x0 x1 x2 x3 x4,P [x0,x1,x2,x3,x4]):P us:=by cases us with|nil=>cases h|cons a r=>exact MS (P:=λr=>P (a::r)) (Nat.succ.inj h) (k a)
theorem M6{α:Type}{P:List α->Prop}{us:List α}(h:us.length=6)(k:∀x0 x1 x2 x3 x4 x5,P [x0,x1,x2,x3,x4,x5]):P us:=by cases us with|nil=>cases h|cons a r=>exact MT (P:=λr=>P (a::r)) (Nat.succ.inj h) (k a)
theorem C4{α:Type}{us:List α}(h:us.length=1):∃x0,us=[x0]:=MQ (P:=λus=>∃x0,us=[x0]) h λx0=>⟨x0,rfl⟩
theorem EM{α:Type}{us:List α}(h:us.length=2):∃x0 x1,us=[x0,x1]:=Mm (P:=λus=>∃x0 x1,us=[x0,x1]) h λx0 x1=>⟨x0,x1,rfl⟩
theorem Lo{α:Type}{us:List α}(h:us.length=3):∃x0 x1 x2,us=[x0,x1,x2]:=MR (P:=λus=>∃x0 x1 x2,us=[x0,x1,x2]) h λx0 x1 x2=>⟨x0,x1,x2,rfl⟩
theorem MP{α:Type}{us:List α}(h:us.length=4):∃x0 x1 x2 x3,us=[x0,x1,x2,x3]:=MS (P:=λus=>∃x0 x1 x2 x3,us=[x0,x1,x2,x3]) h λx0 x1 x2 x3=>⟨x0,x1,x2,x3,rfl⟩
theorem M3{α:Type}{us:List α}(h:us.length=5):∃x0 x1 x2 x3 x4,us=[x0,x1,x2,x3,x4]:=MT (P:=λus=>∃x0 x1 x2 x3 x4,us=[x0,x1,x2,x3,x4]) h λx0 x1 x2 x3 x4=>⟨x0,x1,x2,x3,x4,rfl⟩
theorem M4{α:Type}{us:List α}(h:us.length=6):∃x0 x1 x2 x3 x4 x5,us=[x0,x1,x2,x3,x4,x5]:=M6 (P:=λus=>∃x0 x1 x2 x3 x4 x5,us=[x0,x1,x2,x3,x4,x5]) h λx0 x1 x2 x3 x4 x5=>⟨x0,x1,x2,x3,x4,x5,rfl⟩
end Bg
end
section
namespace L2
open PySem PySem.Spec PyProof.Rows
abbrev dY:=Sum Int Str
def uZ:dY->Value->Bool
 |.inl k,v=>Value.isInt k v
 |.inr x,v=>Value.isStrOf x v
def MB(w:World):dY->Int
 |.inl k=>hashInt k
 |.inr x=>hashStr w x
theorem fE:∀{k:dY} {v:Value},uZ k v=true->(∃i t,k=Sum.inl i/\v=Value.int i t)\/(∃x t,k=Sum.inr x/\v=Value.str x t)
 |.inl i,v,h=>by
  obtain⟨t,e⟩:=Value.isInt_shape (k:=i) (v:=v) h
  exact .inl ⟨i,t,rfl,e⟩
 |.inr x,v,h=>by
  obtain⟨t,e⟩:=Value.isStrOf_shape (x:=x) (v:=v) h
  exact .inr ⟨x,t,rfl,e⟩
theorem C0(i:Int)(t:Tok):uZ (.inl i) (.int i t)=true:=by simp[uZ,Value.isInt]
theorem C1(x:Str)(t:Tok):uZ (.inr x) (.str x t)=true:=by simp[uZ,Value.isStrOf]
theorem J5(a b:Int):decide ((Sum.inl a:dY)=Sum.inl b)=(a==b):=by
 by_cases e:a=b
 ·subst e;simp
 ·have h:¬(Sum.inl a:dY)=Sum.inl b:=λq=>e (Sum.inl.inj q)
  rw[decide_eq_false h]
  exact(beq_eq_false_iff_ne.mpr e).symm
theorem J8(a b:Str):decide ((Sum.inr a:dY)=Sum.inr b)=decide (a=b):=by
 by_cases e:a=b
 ·subst e;simp
 ·have h:¬(Sum.inr a:dY)=Sum.inr b:=λq=>e (Sum.inr.inj q)
  rw[decide_eq_false h,decide_eq_false e]
theorem J6(a:Int)(b:Str):decide ((Sum.inl a:dY)=Sum.inr b)=false:=decide_eq_false (λq=>nomatch q)
theorem J7(a:Str)(b:Int):decide ((Sum.inr a:dY)=Sum.inl b)=false:=decide_eq_false (λq=>nomatch q)
def dk(prog:Program)(w:World):PySem.KeyKind prog w dY where
 is:=uZ
 hash:=MB w
 inj:=λv a b ha hb=>by
  rcases fE ha with⟨i,t,rfl,rfl⟩|⟨x,t,rfl,rfl⟩
  ·rcases fE hb with⟨j,u,rfl,e⟩|⟨y,u,rfl,e⟩
   ·injection e with e1 _;rw[e1]
   ·exact nomatch e
  ·rcases fE hb with⟨j,u,rfl,e⟩|⟨y,u,rfl,e⟩
   ·exact nomatch e
   ·injection e with e1 _;rw[e1]
 byValue:=λk v h=>by
  rcases fE h with⟨i,t,rfl,rfl⟩|⟨x,t,rfl,rfl⟩<;>rfl
 pyHash:=λhv h=>by
  rcases fE hv with⟨i,t,rfl,rfl⟩|⟨x,t,rfl,rfl⟩
  ·exact wpAny_pyHash_int h
  ·exact wpAny_pyHash_str h
 eqBool:=λhu hv h=>by
  rcases fE hu with⟨i,t,rfl,rfl⟩|⟨x,t,rfl,rfl⟩
  ·rcases fE hv with⟨j,u,rfl,rfl⟩|⟨y,u,rfl,rfl⟩
   ·rw[J5] at h;exact wpAny_eqBool_int h
   ·rw[J6] at h;exact SeqAt.EqAt.int_str i t y u _ _ _ _ h
  ·rcases fE hv with⟨j,u,rfl,rfl⟩|⟨y,u,rfl,rfl⟩
   ·rw[J7] at h;exact SeqAt.EqAt.str_int x t j u _ _ _ _ h
   ·rw[J8] at h;exact wpAny_eqBool_str h
 «strs»:=λk x t v h=>by
  rcases fE h with⟨i,u,rfl,e⟩|⟨y,u,rfl,e⟩
  ·exact nomatch e
  ·injection e with e1 _
   subst e1
   cases v<;>rfl
theorem xV(prog:Program)(w:World)(i:Int)(t:Tok):(dk prog w).is (.inl i) (.int i t)=true:=C0 i t
theorem xW(prog:Program)(w:World)(x:Str)(t:Tok):(dk prog w).is (.inr x) (.str x t)=true:=C1 x t
inductive V where
 |non|bl (b:Bool)|int (i:Int)|str (x:Str)|byt (b:Array UInt8)|flt (b:UInt64)|ref (a:Addr)|ty (n:String)
 deriving DecidableEq
def cy:V->Value->Prop
 |.non,u=>u=Value.none
 |.bl b,u=>u=Value.bool b
 |.int i,u=>∃t,u=Value.int i t
 |.str x,u=>∃t,u=Value.str x t
 |.byt b,u=>∃t,u=Value.bytes b t
 |.flt b,u=>∃t,u=Value.float b t
 |.ref a,u=>u=Value.ref a
 |.ty n,u=>u=Value.type n
abbrev cv:List V->List Value->Prop:=Paired cy
theorem cv.length{xs:List V}{us:List Value}(r:cv xs us):xs.length=us.length:=Paired.length r
theorem cv.get:∀{xs:List V} {us:List Value} {i:Nat} {x:V},cv xs us->xs[i]?=some x->∃u,us[i]?=some u/\cy x u
 |_,_,_,_,.nil,e=>by simp at e
 |_,_,0,_,.cons r _,e=>by simp at e;subst e;exact⟨_,rfl,r⟩
 |_,_,i+1,x,.cons _ t,e=>by
  obtain⟨u,h1,h2⟩:=cv.get (i:=i) (x:=x) t (by simpa using e)
  exact⟨u,by simpa using h1,h2⟩
theorem cv.set{x:V}{u:Value}(r:cy x u):∀{xs:List V} {us:List Value} (i:Nat),cv xs us->cv (xs.set i x) (us.set i u)
 |_,_,_,.nil=>.nil
 |_,_,0,.cons _ t=>.cons r t
 |_,_,i+1,.cons q t=>.cons q (cv.set r i t)
theorem cv.append:∀{xs ys:List V} {us ws:List Value},cv xs us->cv ys ws->cv (xs++ys) (us++ws)
 |_,_,_,_,.nil,s=>s
 |_,_,_,_,.cons r t,s=>.cons r (cv.append t s)
theorem cv.take:∀{xs:List V} {us:List Value} (n:Nat),cv xs us->cv (xs.take n) (us.take n)
 |_,_,0,_=>.nil
 |_,_,_+1,.nil=>.nil
 |_,_,n+1,.cons r t=>.cons r (cv.take n t)
theorem cv.drop:∀{xs:List V} {us:List Value} (n:Nat),cv xs us->cv (xs.drop n) (us.drop n)
 |_,_,0,r=>r
 |_,_,_+1,.nil=>.nil
 |_,_,n+1,.cons _ t=>cv.drop n t
def pz:Option V->Option Value->Prop
 |some v,some u=>cy v u
 |none,none=>True
 |_,_=>False
def KV{κ:Type}:List (κ×V)->List (κ×Value)->Prop:=Paired λ(p:κ×V) (q:κ×Value)=>p.1=q.1/\cy p.2 q.2
def kV:dY->V
 |.inl i=>.int i
 |.inr x=>.str x
inductive HO where
  |lst (xs:List V)
  |tup (xs:List V)
  |dK (kvs:List (dY×V))|dT (kvs:List (List dY×V))
  |set (S:Int->Bool) (n:Nat)
  |ins (C dx:Addr) (fs:List (Str×V))
  |own (x:Addr)
  |xd (fs:List (Str×V))
  |met (f x:Addr)
  |rng (lo hi:Int)
  |frz (o:Obj) (u:HO)
  |tbl (ps:Array Value)
  |ext (φ:Heap->Prop)
abbrev Hp:=Addr->Option HO
def upd(H:Hp)(a:Addr)(o:HO):Hp:=λb=>if b=a then some o else H b
theorem ag{H:Hp}{a:Addr}{o:HO}:upd H a o a=some o:=by unfold upd;rw[if_pos rfl]
theorem ax{H:Hp}{a b:Addr}{o:HO}(h:b≠a):upd H a o b=H b:=by unfold upd;rw[if_neg h]
theorem wY{H:Hp}{a:Addr}{o u:HO}:upd (upd H a o) a u=upd H a u:=by
 funext b;unfold upd;split<;>rfl
theorem iH{H:Hp}{a b:Addr}{o u:HO}(h:H a=some o)(h':H b=some u)(d:o≠u):a≠b:=by
 intro e;subst e;rw[h] at h';exact d (Option.some.inj h')
theorem ar{H:Hp}{a b:Addr}{o:HO}(h:H a=some o)(h':H b=none):a≠b:=by
 intro e;subst e;rw[h] at h';cases h'
def kY(h:Heap)(a:Addr)(items:Array Value):Prop:=∃o,h.get? a=some o/\(o.cls=.type "tuple"/\o.dict=none)/\∃n,o.data=.seq items n
theorem kY.tup{h:Heap}{a:Addr}{items:Array Value}(x:kY h a items):IsTup h a items:=let⟨o,e,c,n⟩:=x;⟨o,e,c.1,n⟩
theorem kY.lt{h:Heap}{a:Addr}{items:Array Value}(x:kY h a items):a<h.objs.size:=let⟨_,e,_⟩:=x;aF e
theorem kY.new(h:Heap)(items:Array Value):kY (h.push {cls:=.type "tuple",data:=.seq items}) h.objs.size items:=⟨_,aD _ rfl,⟨rfl,rfl⟩,_,rfl⟩
section
variable(P:Program)(w:World)
def fA(H:Hp)(h:Heap)(a:Addr):HO->Prop
 |.lst xs=>xs.length<=sizeLine/\∃(its:List Value) (n:Nat),cv xs its/\h.get? a=some {cls:=.type "list",data:=.seq its.toArray n}
 |.tup xs=>xs.length<=sizeLine/\∃its:List Value,cv xs its/\kY h a its.toArray
 |.dK kvs=>kvs.length<=sizeLine/\(a==sysModules)=false/\∃vs,KV kvs vs/\h.DictOf (dk P w) a vs
 |.dT kvs=>kvs.length<=sizeLine/\(a==sysModules)=false/\∃xs:List (List dY×Addr×Value),
   Paired (λ(p:List dY×V) (q:List dY×Addr×Value)=>p.1=q.1/\H q.2.1=some (.tup (p.1.map kV))/\cy p.2 q.2.2) kvs xs/\
   ∃o es ep,h.get? a=some o/\o.ExactDict/\o.data=.dict es ep/\es.toList=xs.map (entryOfKey (tupleKind (dk P w)))/\(xs.map (·.1)).Nodup
 |.set S n=>h.SetOf (intKind P w) a S n
 |.ins C dx fs=>H dx=some (.own a)/\fs.length<=1000/\dx≠a/\h.get? a=some (eE C dx)/\
   ∃mA,h.Ns1 dx mA/\(∀f,pz (fs.lookup f) (mA f))/\PySem.Within mA (fs.map (·.1))
 |.own _=>∃o,h.get? a=some o
 |.xd fs=>∃mA,h.Ns1 a mA/\∀f,pz (fs.lookup f) (mA f)
 |.rng lo hi=>∃t u v,h.get? a=some {cls:=.type "range",data:=.fields #[.int lo t,.int hi u,.int 1 v]}
 |.frz o u=>h.get? a=some o/\fA H h a u
 |.tbl ps=>h.get? a=some {cls:=.none,data:=.fields ps}
 |.met f x=>h.get? a=some (kI (.ref f) (.ref x))
 |.ext φ=>φ h/\(∃o,h.get? a=some o)/\∀h1 h2:Heap,φ h1->(∀o,h1.get? a=some o->h2.get? a=some o)->φ h2
def oX(H:Hp)(h:Heap):Prop:=∀a o,H a=some o->fA P w H h a o
end
section
variable{P:Program}{w:World}{H H':Hp}{h h':Heap}{a:Addr}{o:HO}
theorem fA.lt(x:fA P w H h a o):a<h.objs.size:=by
 cases o with
 |lst xs=>obtain⟨_,_,_,_,e⟩:=x;exact aF e
 |tup xs=>obtain⟨_,_,_,p⟩:=x;exact p.lt
 |dK kvs=>obtain⟨_,_,_,_,o,_,_,e,_⟩:=x;exact aF e
 |dT kvs=>obtain⟨_,_,_,_,o,_,_,e,_⟩:=x;exact aF e
 |set S n=>obtain⟨o,_,_,_,e,_⟩:=x;exact aF e
 |ins C dx fs=>obtain⟨_,_,_,e,_⟩:=x;exact aF e
 |own y=>obtain⟨_,e⟩:=x;exact aF e
 |xd fs=>obtain⟨_,⟨_,_,_,e,_⟩,_⟩:=x;exact aF e
 |rng lo hi=>obtain⟨_,_,_,e⟩:=x;exact aF e
 |frz ob u=>obtain⟨e,_⟩:=x;exact aF e
 |tbl ps=>exact aF (show h.get? a=some _ from x)
 |met f y=>exact aF (show h.get? a=some _ from x)
 |ext φ=>obtain⟨_,⟨_,e⟩,_⟩:=x;exact aF e
theorem Paired.mapP{α β:Type}{F G:α->β->Prop}:∀{l₁:List α} {l₂:List β},Paired F l₁ l₂->(∀a b,F a b->G a b)->Paired G l₁ l₂
 |_,_,.nil,_=>.nil
 |_,_,.cons r t,f=>.cons (f _ _ r) (Paired.mapP t f)
theorem fA.stay(x:fA P w H h a o)(k:∀b u,(b=a\/H b=some (.own a))->h.get? b=some u->h'.get? b=some u)
  (ho:∀b,H b=some (.own a)->H' b=some (.own a)) (ht:∀b xs,H b=some (.tup xs)->H' b=some (.tup xs)):fA P w H' h' a o:=by
 induction o with
 |lst xs=>obtain⟨z,its,n,r,e⟩:=x;exact⟨z,its,n,r,k _ _ (.inl rfl) e⟩
 |tup xs=>obtain⟨z,its,r,ob,e,c⟩:=x;exact⟨z,its,r,ob,k _ _ (.inl rfl) e,c⟩
 |dK kvs=>obtain⟨z,y,vs,r,ob,es,ep,e,c⟩:=x;exact⟨z,y,vs,r,ob,es,ep,k _ _ (.inl rfl) e,c⟩
 |dT kvs=>
  obtain⟨z,y,xs,r,ob,es,ep,e,c⟩:=x
  exact⟨z,y,xs,Paired.mapP r λp q z=>⟨z.1,ht _ _ z.2.1,z.2.2⟩,ob,es,ep,k _ _ (.inl rfl) e,c⟩
 |set S n=>obtain⟨ob,es,ep,t,e,c⟩:=x;exact⟨ob,es,ep,t,k _ _ (.inl rfl) e,c⟩
 |ins C dx fs=>
  obtain⟨d,z,ne,e,mA,⟨od,es,ep,e2,c⟩,r⟩:=x
  exact⟨ho _ d,z,ne,k _ _ (.inl rfl) e,mA,⟨od,es,ep,k _ _ (.inr d) e2,c⟩,r⟩
 |own y=>obtain⟨ob,e⟩:=x;exact⟨ob,k _ _ (.inl rfl) e⟩
 |xd fs=>obtain⟨mA,⟨od,es,ep,e,c⟩,r⟩:=x;exact⟨mA,⟨od,es,ep,k _ _ (.inl rfl) e,c⟩,r⟩
 |rng lo hi=>obtain⟨t,u,v,e⟩:=x;exact⟨t,u,v,k _ _ (.inl rfl) e⟩
 |frz ob u ih=>obtain⟨e,q⟩:=x;exact⟨k _ _ (.inl rfl) e,ih q⟩
 |tbl ps=>
  have e:h.get? a=some {cls:=.none,data:=.fields ps}:=x
  show h'.get? a=some {cls:=.none,data:=.fields ps}
  exact k a _ (.inl rfl) e
 |met f y=>
  have e:h.get? a=some (kI (.ref f) (.ref y)):=x
  show h'.get? a=some (kI (.ref f) (.ref y))
  exact k a _ (.inl rfl) e
 |ext φ=>obtain⟨p,⟨o,e⟩,st⟩:=x;exact⟨st _ _ p λo q=>k _ _ (.inl rfl) q,⟨o,k _ _ (.inl rfl) e⟩,st⟩
theorem oX.lt(x:oX P w H h)(e:H a=some o):a<h.objs.size:=(x a o e).lt
theorem oX.fresh(x:oX P w H h)(e:h.objs.size<=a):H a=none:=by
 cases q:H a with
 |none=>rfl
 |some u=>exact absurd (bw (x.lt q) e) (d5 _)
theorem oX.kept(x:oX P w H h)(k:∀b u,h.get? b=some u->h'.get? b=some u):oX P w H h':=λa o e=>
 (x a o e).stay (λb u _ q=>k b u q) (λ_ q=>q) λ_ _ q=>q
theorem oX.laid(x:oX P w H h)(k:∀b u,h.get? b=some u->h'.get? b=some u)(hp:h.objs.size<=a)(new:fA P w (upd H a o) h' a o):oX P w (upd H a o) h':=λb u e=>by
 have hn:=x.fresh hp
 by_cases hb:b=a
 ·subst hb;rw[ag] at e;cases e;exact new
 ·rw[ax hb] at e
  exact(x b u e).stay (λc v _ q=>k c v q) (λc q=>by rw[ax (ar q hn)];exact q) λc xs q=>by rw[ax (ar q hn)];exact q
end
def Rd(H:Hp)(a:Addr)(u:HO):Prop:=H a=some u\/∃o,H a=some (.frz o u)
theorem Rd.ok{P:Program}{w:World}{H:Hp}{h:Heap}{a:Addr}{u:HO}(r:Rd H a u)(x:oX P w H h):fA P w H h a u:=by
 rcases r with r|⟨o,r⟩
 ·exact x a u r
 ·obtain⟨_,q⟩:=x a _ r
  exact q
def Lx:Option HO->Prop
 |some (.lst _)=>True
 |some (.dK _)=>True
 |some (.dT _)=>True
 |some (.set _ _)=>True
 |some (.ins _ _ _)=>True
 |some (.ext _)=>True
 |_=>False
section
variable{P:Program}{w:World}{H:Hp}{h h':Heap}{x e:Addr}{o':HO}
theorem oX.write(ok:oX P w H h)(mu:Lx (H x))(he:e=x\/H e=some (.own x))(k:∀b u,b≠e->h.get? b=some u->h'.get? b=some u)(heo:∃u,h'.get? e=some u)
  (new:fA P w (upd H x o') h' x o'):oX P w (upd H x o') h':=λb u q=>by
 have nown:∀c y,H c=some (.own y)->c≠x:=λc y r z=>by subst z;rw[r] at mu;exact mu
 have ntup:∀c xs,H c=some (.tup xs)->c≠x:=λc xs r z=>by subst z;rw[r] at mu;exact mu
 by_cases hb:b=x
 ·subst hb;rw[ag] at q;cases q;exact new
 ·rw[ax hb] at q
  by_cases hbe:b=e
  ·have q':H b=some (.own x):=by
    rcases he with z|z
    ·exact absurd (hbe.trans z) hb
    ·rw[hbe];exact z
   rw[q] at q';cases q'
   obtain⟨v,hv⟩:=heo
   exact⟨v,by rw[hbe];exact hv⟩
  ·refine(ok b u q).stay (λc v hc r=>k c v ?_ r) (λc r=>by rw[ax (nown c b r)];exact r) λc xs r=>by rw[ax (ntup c xs r)];exact r
   rcases hc with rfl|hc
   ·exact hbe
   ·rintro rfl
    rcases he with z|z
    ·exact nown c b hc z
    ·rw[hc] at z;cases z;exact hb rfl
end
structure Un(fs ex:List Addr)(H H':Hp)(h h':Heap):Prop where
 keep:∀b o,h.get? b=some o->H b=none->b∉fs->b∉ex->h'.get? b=some o
 slot:∀b o,h.get? b=some o->H b=none->b∈fs->b∉ex->∃sl,h'.get? b=some {o with slots:=sl}
 free:∀b o,h.get? b=some o->H b=none->b∉ex->H' b=none
 there:∀b o,h.get? b=some o->b∉ex->∃o',h'.get? b=some o'
 tups:∀b xs,H b=some (.tup xs)->H' b=some (.tup xs)
 frzs:∀b o u,H b=some (.frz o u)->H' b=some (.frz o u)
 tbls:∀b ps,H b=some (.tbl ps)->∃more,H' b=some (.tbl (ps++more))
section
variable{fs fs' ex ex':List Addr}{H H1 H2:Hp}{h h1 h2 h':Heap}{a x e:Addr}{o:HO}
theorem Un.any(u:Un fs ex H H1 h h1){b:Addr}{ob:Obj}(q:h.get? b=some ob)(n:H b=none)(hx:b∉ex):∃sl,h1.get? b=some {ob with slots:=sl}:=by
 by_cases hb:b∈fs
 ·exact u.slot b ob q n hb hx
 ·exact⟨ob.slots,u.keep b ob q n hb hx⟩
theorem Un.kept(k:∀b u,h.get? b=some u->h'.get? b=some u):Un fs ex H H h h':=
 ⟨λb ob q _ _ _=>k b ob q,λb ob q _ _ _=>⟨ob.slots,k b ob q⟩,λ_ _ _ n _=>n,λb ob q _=>⟨ob,k b ob q⟩,λ_ _ q=>q,λ_ _ _ q=>q,λ_ ps q=>⟨#[],by rw[q];simp⟩⟩
theorem Un.refl:Un fs ex H H h h:=Un.kept λ_ _ q=>q
theorem Un.laid(k:∀b u,h.get? b=some u->h'.get? b=some u)(hp:h.objs.size<=a)(hn:H a=none):Un fs ex H (upd H a o) h h' where
 keep:=λb u q _ _ _=>k b u q
 slot:=λb u q _ _ _=>⟨u.slots,k b u q⟩
 free:=λb u q n _=>by rw[ax (aH (bw (aF q) hp))];exact n
 there:=λb u q _=>⟨u,k b u q⟩
 tups:=λb xs q=>by rw[ax (ar q hn)];exact q
 frzs:=λb u xs q=>by rw[ax (ar q hn)];exact q
 tbls:=λb ps q=>⟨#[],by rw[ax (ar q hn),q];simp⟩
theorem Un.write(mu:Lx (H x))(he:e=x\/H e=some (.own x))(k:∀b u,b≠e->h.get? b=some u->h'.get? b=some u)(heo:∃u,h'.get? e=some u):Un fs ex H (upd H x o) h h':=by
 have hx:∀b,H b=none->b≠x:=λb n z=>by subst z;rw[n] at mu;exact mu
 have hb:∀b,H b=none->b≠e:=λb n z=>by
  subst z
  rcases he with r|r
  ·exact hx b n r
  ·rw[n] at r;cases r
 have hm:∀b u,H b=some u->¬Lx (some u)->b≠x:=λb u q nm z=>by subst z;rw[q] at mu;exact nm mu
 refine⟨λb u q n _ _=>k b u (hb b n) q,λb u q n _ _=>⟨u.slots,k b u (hb b n) q⟩,λb u q n _=>by rw[ax (hx b n)];exact n,λb u q _=>?_,
  λb xs q=>by rw[ax (hm b _ q λz=>z)];exact q,λb u xs q=>by rw[ax (hm b _ q λz=>z)];exact q,λb ps q=>⟨#[],by rw[ax (hm b _ q λz=>z),q];simp⟩⟩
 by_cases hbe:b=e
 ·subst hbe;exact heo
 ·exact⟨u,k b u hbe q⟩
end
def Mp(h:Heap)(H:Hp):List Addr:=(dz h.objs.size).filter λa=>(H a).isSome
def v7(h:Heap)(H:Hp):Heap:=PySem.W.hideAll h (Mp h H)
theorem CM(h:Heap)(H:Hp):(v7 h H).objs.size=h.objs.size:=PySem.W.hideAll_size _ _
theorem Ey{h:Heap}{H:Hp}{b:Addr}{o:Obj}(e:h.get? b=some o)(n:H b=none):(v7 h H).get? b=some o:=
 PySem.W.hideAll_get _ e λhm=>by
  have q:(H b).isSome=true:=(fg.mp hm).2
  rw[n] at q;simp at q
theorem Hk{h:Heap}{H:Hp}{b:Addr}{o:Obj}(e:(v7 h H).get? b=some o):h.get? b=some o/\H b=none:=by
 have e':h.get? b=some o:=PySem.W.of_hideAll (Mp h H) e
 refine⟨e',?_⟩
 cases q:H b with
 |none=>rfl
 |some x=>
  have hm:b∈Mp h H:=fg.mpr ⟨gC.mpr (aF e'),by simp[q]⟩
  have z:(v7 h H).get? b=none:=PySem.W.hideAll_none (Mp h H) hm
  rw[z] at e;cases e
structure Mod(K:Fg)(mg:Str->Option Value)(base:Heap):Prop where
 kin:K.In base
 glob:base.Ns mainGlobals mg
 blt:∃mb,base.Ns builtinsNs mb/\∀x:Str,x≠"__name__"->mb x=bootBuiltins x
 nolimit:base.NoLimit
structure Cx where
 prog:Program
 w:World
 K:Fg
 mg:Str->Option Value
 base:Heap
 A:Around
 N:List Str
 s₀:Shared
 H₀:Hp
 env:Env
 outer:List Env
 stack:List Env
 ex:List Addr
 fn:Str->Bool
 calm:Bool
 pn:List (Addr×Obj)
 xe:Value->Shared->Prop
def Ew(l:List Env):List Addr:=l.filterMap (·.frame)
abbrev Cx.fs(X:Cx):List Addr:=Ew X.outer
def Ml(sc:Scope)(x:Str):Prop:=sc.names.lookup x=some .local\/sc.names.lookup x=some .cell\/sc.names.lookup x=some .free
def Ji(sc:Scope)(x:Str):Prop:=sc.names.lookup x=some .local\/sc.names.lookup x=some .cell
def Ms(env:Env)(h:Heap)(m:Str->Option Value)(x:Str)(u:Value):Prop:=
 (env.kindOf x=some .local/\m x=some u)\/((env.kindOf x=some .cell\/env.kindOf x=some .free)/\∃c,env.cells.lookup x=some c/\h.IsCell c (some u))
structure Cx.Ok(X:Cx):Prop where
 mod:Mod X.K X.mg X.base
 kind:X.env.scope.kind=.function
 glob:X.env.globals=mainGlobals
 blt:X.env.builtins=builtinsNs
 above:X.s₀.heap.objs.size<=X.env.locals
 inj:∀x y c,X.env.cells.lookup x=some c->X.env.cells.lookup y=some c->x=y
 has:∀x,(X.env.kindOf x=some .cell\/X.env.kindOf x=some .free)->∃c,X.env.cells.lookup x=some c
 cab:∀x c,X.fn x=true->X.env.cells.lookup x=some c->X.s₀.heap.objs.size<=c
 hd:X.calm=true->X.A.handled=none
 frames:X.A.frames=some X.stack
 stk:X.stack=X.outer\/(X.stack=X.env::X.outer/\X.env.frame=some X.env.locals)
 exf:∀b∈X.ex,b≠X.env.locals/\∀x c,X.env.cells.lookup x=some c->c≠b
 bs:∀b o,X.base.get? b=some o->X.s₀.heap.get? b=some o/\X.H₀ b=none
 bsz:X.base.objs.size<=X.s₀.heap.objs.size
 noex:∀b o,X.base.get? b=some o->b∉X.ex
 exfs:∀b∈X.ex,b∉X.fs
 funs:X.s₀.heap.FunFrames X.base X.outer
 frf:∀b∈X.fs,X.H₀ b=none
structure bN(X:Cx)(pins:List (Addr×Obj))(σ:List (Option V))(H:Hp)(s:Shared):Prop where
 ok:X.Ok
 os:s.os=X.s₀.os
 bare:AllBare s.gens
 base:Un X.fs X.ex X.H₀ H X.s₀.heap s.heap
 loc:∃m,s.heap.Ns X.env.locals m/\∀(i:Nat) (x:Str) (v:V),X.N[i]?=some x->σ[i]?=some (some v)->Ml X.env.scope x->∃u,cy v u/\Ms X.env s.heap m x u
 cell:∀x c,X.env.cells.lookup x=some c->∃v,s.heap.IsCell c v
 free:H X.env.locals=none
 freeC:∀x c,X.env.cells.lookup x=some c->H c=none
 pin:∀p∈X.pn++pins,s.heap.get? p.1=some p.2/\H p.1=none/\p.1≠X.env.locals/\p.1∉X.fs/\∀v,p.2.data≠.cell v
 hok:oX X.prog X.w H s.heap
 len:σ.length=X.N.length
section
variable{X:Cx}{pins:List (Addr×Obj)}{σ:List (Option V)}{H H':Hp}{s:Shared}{h':Heap}
theorem Cx.Ok.nofr(ok:X.Ok){b:Addr}{o:Obj}(e:X.base.get? b=some o):b∉X.fs:=λhb=>by
 have:=(ok.funs.mem hb).1
 rw[e] at this;cases this
theorem bN.bs(I:bN X pins σ H s):∀b o,X.base.get? b=some o->s.heap.get? b=some o/\H b=none:=λb o e=>
 ⟨I.base.keep b o (I.ok.bs b o e).1 (I.ok.bs b o e).2 (I.ok.nofr e) (I.ok.noex b o e),I.base.free b o (I.ok.bs b o e).1 (I.ok.bs b o e).2 (I.ok.noex b o e)⟩
theorem bN.bk(I:bN X pins σ H s):∀b o,X.base.get? b=some o->s.heap.get? b=some o:=λb o e=>(I.bs b o e).1
theorem bN.mod(I:bN X pins σ H s):Mod X.K X.mg X.base:=I.ok.mod
theorem bN.kIn(I:bN X pins σ H s):X.K.In s.heap:=I.ok.mod.kin.keeps I.bk
theorem bN.lt(I:bN X pins σ H s):X.env.locals<s.heap.objs.size:=let⟨_,hn,_⟩:=I.loc;hn.lt
theorem bN.sz(I:bN X pins σ H s):X.s₀.heap.objs.size<=s.heap.objs.size:=bn I.ok.above (bW I.lt)
theorem bN.nofs(I:bN X pins σ H s){a:Addr}(h:s.heap.objs.size<=a):a∉X.fs:=λhb=>by
 obtain⟨_,o,ho,_⟩:=I.ok.funs.mem hb
 exact absurd (bw (aF ho) (bn I.sz h)) (d5 _)
theorem bN.cne(I:bN X pins σ H s):∀x c,X.env.cells.lookup x=some c->c≠X.env.locals:=λx c e z=>by
 obtain⟨v,o,ho,hd⟩:=I.cell x c e
 obtain⟨m,⟨o',es,ep,ho',hd',_⟩,_⟩:=I.loc
 rw[z,ho'] at ho;cases ho;rw[hd'] at hd;cases hd
theorem bN.funs(I:bN X pins σ H s):s.heap.FunFrames X.base X.outer:=by
 have all:∀(l:List Env),(∀b∈Ew l,b∈X.fs)->X.s₀.heap.FunFrames X.base l->s.heap.FunFrames X.base l:=by
  intro l
  induction l with
  |nil=>intro _ _;trivial
  |cons env r ih=>
   intro hs hl
   obtain⟨hk,⟨L,o,hf,hn,ho,hd⟩,hr⟩:=hl
   have hL:L∈X.fs:=hs L (by unfold Ew;rw[hU,hf];exact aL)
   obtain⟨sl,e⟩:=I.base.slot L o ho (I.ok.frf L hL) hL λz=>I.ok.exfs L z hL
   exact⟨hk,⟨L,_,hf,hn,e,hd⟩,ih (λb hb=>hs b (by unfold Ew;rw[hU,hf];exact bx _ hb)) hr⟩
 exact all X.outer (λ_ hb=>hb) I.ok.funs
theorem bN.stack(I:bN X pins σ H s):s.heap.FunFrames X.base X.stack:=by
 rcases I.ok.stk with e|⟨e,hf⟩
 ·rw[e];exact I.funs
 ·rw[e]
  obtain⟨m,hn,_⟩:=I.loc
  refine .cons (by rw[I.ok.kind];decide) hf hn ?_ I.funs
  exact Heap.get?_none_of_le (bn I.ok.bsz I.ok.above)
theorem bN.stkSub(I:bN X pins σ H s):∀b∈Ew X.stack,b∈X.env.locals::X.fs:=λb hb=>by
 rcases I.ok.stk with e|⟨e,hf⟩
 ·rw[e] at hb;exact bx _ hb
 ·rw[e] at hb
  unfold Ew at hb
  rw[hU,hf] at hb
  exact hb
theorem bN.stkFree(I:bN X pins σ H s):∀b∈Ew X.stack,H b=none:=λb hb=>by
 rcases aJ.mp (I.stkSub b hb) with e|hb
 ·rw[e];exact I.free
 ·obtain⟨_,o,ho,_⟩:=I.ok.funs.mem hb
  exact I.base.free b o ho (I.ok.frf b hb) λz=>I.ok.exfs b z hb
theorem bN.step{g':Array GenState}{t':Nat}{d':Drawn}{ch:List Addr}(I:bN X pins σ H s)
  (hch:∀b∈ch,(b∈X.ex\/X.s₀.heap.objs.size<=b)/\b≠X.env.locals/\(∀x c,X.env.cells.lookup x=some c->c≠b)/\∀p∈X.pn++pins,p.1≠b)
  (keep:∀b o,b≠X.env.locals->b∉X.fs->b∉ch->s.heap.get? b=some o->H b=none->h'.get? b=some o)
  (slot:∀b o,b≠X.env.locals->b∈X.fs->b∉ch->s.heap.get? b=some o->H b=none->∃sl,h'.get? b=some {o with slots:=sl}) (free:∀b o,b∉ch->s.heap.get? b=some o->H b=none->H' b=none)
  (there:∀b o,b∉ch->s.heap.get? b=some o->∃o',h'.get? b=some o')
  (tups:∀b xs,H b=some (.tup xs)->H' b=some (.tup xs)) (frzs:∀b o u,H b=some (.frz o u)->H' b=some (.frz o u)) (tbls:∀b ps,H b=some (.tbl ps)->∃more,H' b=some (.tbl (ps++more)))
  (ns:∀m,s.heap.Ns X.env.locals m->h'.Ns X.env.locals m) (hok:oX X.prog X.w H' h') (hg:AllBare g') :
  bN X pins σ H' {s with heap:=h',gens:=g',drawn:=d',toks:=t'}:=by
 have neL:∀b o,X.s₀.heap.get? b=some o->b≠X.env.locals:=λb o e=>aH (bw (aF e) I.ok.above)
 have neC:∀b o,X.s₀.heap.get? b=some o->b∉X.ex->b∉ch:=λb o e hx hb=>by
  rcases(hch b hb).1 with z|z
  ·exact hx z
  ·exact absurd (bw (aF e) z) (d5 _)
 have cellK:∀x c,X.env.cells.lookup x=some c->∀v,s.heap.IsCell c v->h'.IsCell c v:=λx c e v ⟨o,ho,hd⟩=>by
  have nch:c∉ch:=λz=>(hch c z).2.2.1 x c e rfl
  by_cases hc:c∈X.fs
  ·obtain⟨sl,q⟩:=slot c o (I.cne x c e) hc nch ho (I.freeC x c e)
   exact⟨_,q,hd⟩
  ·exact⟨o,keep c o (I.cne x c e) hc nch ho (I.freeC x c e),hd⟩
 refine⟨I.ok,I.os,hg,⟨λb o e n hb hx=>?_,λb o e n hb hx=>?_,λb o e n hx=>?_,λb o e hx=>?_,λb xs e=>tups b xs (I.base.tups b xs e),λb o xs e=>frzs b o xs (I.base.frzs b o xs e),λb ps e=>?_⟩,?_,λx c e=>?_,?_,λx c e=>?_,λp hp=>?_,hok,I.len⟩
 ·exact keep b o (neL b o e) hb (neC b o e hx) (I.base.keep b o e n hb hx) (I.base.free b o e n hx)
 ·obtain⟨sl,e1⟩:=I.base.slot b o e n hb hx
  obtain⟨sl',e2⟩:=slot b _ (neL b o e) hb (neC b o e hx) e1 (I.base.free b o e n hx)
  exact⟨sl',e2⟩
 ·obtain⟨o',e1⟩:=I.base.there b o e hx
  exact free b o' (neC b o e hx) e1 (I.base.free b o e n hx)
 ·obtain⟨o',e1⟩:=I.base.there b o e hx
  exact there b o' (neC b o e hx) e1
 ·obtain⟨m1,e1⟩:=I.base.tbls b ps e
  obtain⟨m2,e2⟩:=tbls b _ e1
  exact⟨m1++m2,by rw[e2,Array.append_assoc]⟩
 ·obtain⟨m,hn,hl⟩:=I.loc
  refine⟨m,ns m hn,λi x v e1 e2 e3=>?_⟩
  obtain⟨u,r,l⟩:=hl i x v e1 e2 e3
  refine⟨u,r,?_⟩
  rcases l with l|⟨k,c,e,z⟩
  ·exact .inl l
  ·exact .inr ⟨k,c,e,cellK x c e _ z⟩
 ·obtain⟨v,z⟩:=I.cell x c e
  exact⟨v,cellK x c e v z⟩
 ·obtain⟨m,⟨o,_,_,ho,_⟩,_⟩:=I.loc
  exact free _ o (λz=>(hch _ z).2.1 rfl) ho I.free
 ·obtain⟨v,o,ho,hd⟩:=I.cell x c e
  exact free c o (λz=>(hch c z).2.2.1 x c e rfl) ho (I.freeC x c e)
 ·obtain⟨e,n,ne,nf,d⟩:=I.pin p hp
  have nch:p.1∉ch:=λz=>(hch p.1 z).2.2.2 p hp rfl
  exact⟨keep p.1 p.2 ne nf nch e n,free p.1 p.2 nch e n,ne,nf,d⟩
theorem bN.un{t':Nat}(I:bN X pins σ H s)(u:Un X.fs [] H H' s.heap h')(hok:oX X.prog X.w H' h'):bN X pins σ H' {s with heap:=h',toks:=t'}:=by
 obtain⟨m,⟨o,es,ep,ho,r⟩,_⟩:=id I.loc
 obtain⟨sl,hL⟩:=u.any ho I.free (by simp)
 exact I.step (g':=s.gens) (d':=s.drawn) (ch:=[]) (λ_ z=>nomatch z) (λb o _ hb _ e n=>u.keep b o e n hb (by simp)) (λb o _ hb _ e n=>u.slot b o e n hb (by simp)) (λb o _ e n=>u.free b o e n (by simp)) (λb o _ e=>u.there b o e (by simp)) u.tups u.frzs u.tbls (λm' hm=>by
  obtain⟨o',es',ep',ho',r'⟩:=hm
  rw[ho] at ho';cases ho'
  exact⟨_,es',ep',hL,r'⟩) hok I.bare
theorem bN.call{g':Array GenState}{t':Nat}{d':Drawn}{ch:List Addr}(I:bN X pins σ H s)(u:Un (Ew X.stack) ch H H' s.heap h')(hok:oX X.prog X.w H' h')(hg:AllBare g')
  (hch:∀b∈ch,(b∈X.ex\/X.s₀.heap.objs.size<=b)/\b≠X.env.locals/\(∀x c,X.env.cells.lookup x=some c->c≠b)/\∀p∈X.pn++pins,p.1≠b) :
  bN X pins σ H' {s with heap:=h',gens:=g',drawn:=d',toks:=t'}:=by
 obtain⟨m,⟨o,es,ep,ho,r⟩,_⟩:=id I.loc
 obtain⟨sl,hL⟩:=u.any ho I.free λz=>(hch _ z).2.1 rfl
 exact I.step (ch:=ch) hch (λb o hL hb hc e n=>u.keep b o e n (λz=>(aJ.mp (I.stkSub b z)).elim hL hb) hc) (λb o _ _ hc e n=>u.any e n hc) (λb o hc e n=>u.free b o e n hc) (λb o hc e=>u.there b o e hc) u.tups u.frzs u.tbls (λm' hm=>by
  obtain⟨o',es',ep',ho',r'⟩:=hm
  rw[ho] at ho';cases ho'
  exact⟨_,es',ep',hL,r'⟩) hok hg
theorem bN.turned{t':Nat}{it:Addr}(I:bN X pins σ H s)(k:∀b o,b≠it->s.heap.get? b=some o->h'.get? b=some o)(hn:H it=none)(hL:it≠X.env.locals)
  (h1:it∈X.ex\/X.s₀.heap.objs.size<=it) (h2:∀x c,X.env.cells.lookup x=some c->c≠it) (h3:∀p∈X.pn++pins,p.1≠it):bN X pins σ H {s with heap:=h',toks:=t'}:=by
 have nit:∀b u,H b=some u->b≠it:=λb u e z=>by rw[z,hn] at e;cases e
 refine I.step (g':=s.gens) (d':=s.drawn) (ch:=[it]) (λb hb=>?_) (λb o _ _ hc e _=>k b o (λz=>hc (by simp[z])) e) (λb o _ _ hc e _=>⟨o.slots,k b o (λz=>hc (by simp[z])) e⟩) (λ_ _ _ _ n=>n)
  (λb o hc e=>⟨o,k b o (λz=>hc (by simp[z])) e⟩) (λ_ _ e=>e) (λ_ _ _ e=>e) (λb ps e=>⟨#[],by rw[e];simp⟩) (λm hm=>?_) (λb u e=>?_) I.bare
 ·have e:b=it:=by simpa using hb
  subst e
  exact⟨h1,hL,h2,h3⟩
 ·obtain⟨o,es,ep,ho,r⟩:=hm
  exact⟨o,es,ep,k _ o (Ne.symm hL) ho,r⟩
 ·refine(I.hok b u e).stay (λc v hc q=>k c v ?_ q) (λ_ q=>q) λ_ _ q=>q
  rcases hc with z|z
  ·rw[z];exact nit b u e
  ·exact nit c _ z
theorem bN.tok(I:bN X pins σ H s)(t:Nat):bN X pins σ H {s with toks:=t}:=I.un (h':=s.heap) (t':=t) Un.refl I.hok
theorem bN.kept{t':Nat}(I:bN X pins σ H s)(k:∀b u,s.heap.get? b=some u->h'.get? b=some u):bN X pins σ H {s with heap:=h',toks:=t'}:=I.un (Un.kept k) (I.hok.kept k)
theorem bN.laid{a:Addr}{o:HO}{t':Nat}(I:bN X pins σ H s)(k:∀b u,s.heap.get? b=some u->h'.get? b=some u)(hp:s.heap.objs.size<=a)(new:fA X.prog X.w (upd H a o) h' a o) :
  bN X pins σ (upd H a o) {s with heap:=h',toks:=t'}:=I.un (Un.laid k hp (I.hok.fresh hp)) (I.hok.laid k hp new)
theorem bN.write{x e:Addr}{o:HO}{t':Nat}(I:bN X pins σ H s)(mu:Lx (H x))(he:e=x\/H e=some (.own x))(k:∀b u,b≠e->s.heap.get? b=some u->h'.get? b=some u)(heo:∃u,h'.get? e=some u)
  (new:fA X.prog X.w (upd H x o) h' x o):bN X pins σ (upd H x o) {s with heap:=h',toks:=t'}:=I.un (Un.write mu he k heo) (I.hok.write mu he k heo new)
theorem bN.pins_of{pins':List (Addr×Obj)}(I:bN X pins σ H s)(h:∀p∈pins',s.heap.get? p.1=some p.2/\H p.1=none/\p.1≠X.env.locals/\p.1∉X.fs/\∀v,p.2.data≠.cell v):bN X pins' σ H s:=
 ⟨I.ok,I.os,I.bare,I.base,I.loc,I.cell,I.free,I.freeC,λp hp=>(aB.mp hp).elim (λz=>I.pin p (bh _ z)) (h p),I.hok,I.len⟩
theorem xY{N:List Str}(hN:N.Nodup){i j:Nat}{x:Str}(a:N[i]?=some x)(b:N[j]?=some x):i=j:=by
 obtain⟨h1,e1⟩:=af.mp a
 obtain⟨h2,e2⟩:=af.mp b
 exact(fQ hN).mp (e1.trans e2.symm)
theorem vg{M:Model}{A:Around}{E:Value->Shared->Prop}{i:Nat}{x:Str}{v:V}{u:Value}{Q:Unit->Shared->Prop}(I:bN X pins σ H s)(hN:X.N.Nodup)(hi:X.N[i]?=some x)(hx:Ji X.env.scope x)(r:cy v u)
  (h:∀s',bN X pins (σ.set i (some v)) H s'->(∃a,Heap.SameBut a s.heap s'.heap/\(a=X.env.locals\/X.env.cells.lookup x=some a))->Q () s') (hf:X.fn x=true\/X.env.scope.names.lookup x=some .local:=by first|exact .inl rfl|exact .inr rfl|assumption):wpAny M A (storeName X.env x u) Q E s:=by
 obtain⟨m,hn,hl⟩:=id I.loc
 have hcls:(X.env.scope.kind==.class || (X.env.scope.kind==.module&&X.env.locals != X.env.globals))=false:=by rw[I.ok.kind];rfl
 have hiσ:i<σ.length:=by rw[I.len];exact(af.mp hi).1
 have cne:=I.cne
 have tracked:∀{a:Addr} {h':Heap},(∃o,s.heap.get? a=some o/\H a=none)->Heap.SameBut a s.heap h'->oX X.prog X.w H h':=λ{a h'} ha hs b ob e=>by
  obtain⟨_,_,hfree⟩:=ha
  refine(I.hok b ob e).stay (λc w' hc q=>(hs.2 c ?_).trans q) (λ_ q=>q) λ_ _ q=>q
  rintro rfl
  rcases hc with rfl|hc
  ·rw[hfree] at e;cases e
  ·rw[hfree] at hc;cases hc
 rcases hx with hk|hk
 ·refine wpAny_storeName_local hk hn (λh' hn' hs=>?_) hcls
  obtain⟨oL,_,_,hoL,_⟩:=id hn
  refine h _ ⟨I.ok,I.os,I.bare,⟨λb o e n hb hx=>?_,λb o e n hb hx=>?_,I.base.free,λb o e hx=>?_,I.base.tups,I.base.frzs,I.base.tbls⟩,⟨_,hn',λj y v' e1 e2 e3=>?_⟩,λy c e=>?_,I.free,I.freeC,λp hp=>?_,tracked ⟨oL,hoL,I.free⟩ hs,by simpa using I.len⟩ ⟨_,hs,.inl rfl⟩
  ·exact(hs.2 b (aH (bw (aF e) I.ok.above))).trans (I.base.keep b o e n hb hx)
  ·obtain⟨sl,e1⟩:=I.base.slot b o e n hb hx
   exact⟨sl,(hs.2 b (aH (bw (aF e) I.ok.above))).trans e1⟩
  ·obtain⟨o',e1⟩:=I.base.there b o e hx
   exact⟨o',(hs.2 b (aH (bw (aF e) I.ok.above))).trans e1⟩
  ·by_cases hj:j=i
   ·subst hj
    rw[hi] at e1;cases e1
    rw[bg hiσ] at e2
    cases e2
    exact⟨u,r,.inl ⟨hk,by simp⟩⟩
   ·rw[bC (Ne.symm hj)] at e2
    obtain⟨u',r',q⟩:=hl j y v' e1 e2 e3
    refine⟨u',r',?_⟩
    rcases q with⟨k,e⟩|⟨k,c,e,z⟩
    ·refine .inl ⟨k,?_⟩
     have:y≠x:=λe=>hj (xY hN e1 (e ▸ hi))
     simp[this,e]
    ·exact .inr ⟨k,c,e,z.sameBut hs (cne y c e)⟩
  ·obtain⟨w',z⟩:=I.cell y c e
   exact⟨w',z.sameBut hs (cne y c e)⟩
  ·obtain⟨e,n,ne,nf,d⟩:=I.pin p hp
   exact⟨(hs.2 p.1 ne).trans e,n,ne,nf,d⟩
 ·have hfn:X.fn x=true:=by
   rcases hf with z|z
   ·exact z
   ·rw[z] at hk;cases hk
  obtain⟨c,hc⟩:=I.ok.has x (.inl hk)
  obtain⟨w',z⟩:=I.cell x c hc
  refine wpAny_storeName_cell I.ok.kind hk hc z (λh' hc' hs=>?_)
  obtain⟨oc,hoc,hocd⟩:=id z
  refine h {s with heap:=h'} ⟨I.ok,I.os,I.bare,⟨λb o e n hb hx=>?_,λb o e n hb hx=>?_,I.base.free,λb o e hx=>?_,I.base.tups,I.base.frzs,I.base.tbls⟩,⟨m,hn.sameBut hs (Ne.symm (cne x c hc)),λj y v' e1 e2 e3=>?_⟩,λy c' e=>?_,I.free,I.freeC,λp hp=>?_,tracked ⟨oc,hoc,I.freeC x c hc⟩ hs,by simpa using I.len⟩ ⟨c,hs,.inr hc⟩
  ·exact(hs.2 b (aH (bw (aF e) (I.ok.cab x c hfn hc)))).trans (I.base.keep b o e n hb hx)
  ·obtain⟨sl,e1⟩:=I.base.slot b o e n hb hx
   exact⟨sl,(hs.2 b (aH (bw (aF e) (I.ok.cab x c hfn hc)))).trans e1⟩
  ·obtain⟨o',e1⟩:=I.base.there b o e hx
   exact⟨o',(hs.2 b (aH (bw (aF e) (I.ok.cab x c hfn hc)))).trans e1⟩
  ·by_cases hj:j=i
   ·subst hj
    rw[hi] at e1;cases e1
    rw[bg hiσ] at e2
    cases e2
    exact⟨u,r,.inr ⟨.inl hk,c,hc,hc'⟩⟩
   ·rw[bC (Ne.symm hj)] at e2
    obtain⟨u',r',q⟩:=hl j y v' e1 e2 e3
    refine⟨u',r',?_⟩
    rcases q with q|⟨k,c',e,z'⟩
    ·exact .inl q
    ·refine .inr ⟨k,c',e,z'.sameBut hs ?_⟩
     rintro rfl
     exact hj (xY hN e1 (I.ok.inj _ _ _ e hc ▸ hi))
  ·by_cases hcc:c'=c
   ·subst hcc;exact⟨_,hc'⟩
   ·obtain⟨w2,z2⟩:=I.cell y c' e
    exact⟨w2,z2.sameBut hs hcc⟩
  ·obtain⟨e,n,ne,nf,d⟩:=I.pin p hp
   refine⟨(hs.2 p.1 ?_).trans e,n,ne,nf,d⟩
   intro q
   rw[q,hoc] at e
   have q':oc=p.2:=Option.some.inj e
   exact d w' (by rw[<-q'];exact hocd)
theorem yA{M:Model}{A:Around}{E:Value->Shared->Prop}{i:Nat}{x:Str}{v:V}{u:Value}{Q:Unit->Shared->Prop}(I:bN X pins σ H s)(hN:X.N.Nodup)(hi:X.N[i]?=some x)(hx:Ji X.env.scope x)(r:cy v u)
  (h:∀s',bN X pins (σ.set i (some v)) H s'->Q () s') (hf:X.fn x=true\/X.env.scope.names.lookup x=some .local:=by first|exact .inl rfl|exact .inr rfl|assumption):wpAny M A (storeName X.env x u) Q E s:=
 vg I hN hi hx r (λs' I' _=>h s' I') hf
theorem bN.call'{s':Shared}{ch:List Addr}(I:bN X pins σ H s)(ho:s'.os=s.os)(u:Un (Ew X.stack) ch H H' s.heap s'.heap)(hok:oX X.prog X.w H' s'.heap)(hg:AllBare s'.gens)
  (hch:∀b∈ch,(b∈X.ex\/X.s₀.heap.objs.size<=b)/\b≠X.env.locals/\(∀x c,X.env.cells.lookup x=some c->c≠b)/\∀p∈X.pn++pins,p.1≠b):bN X pins σ H' s':=by
 obtain⟨h',g',d',t',o'⟩:=s'
 have e:o'=s.os:=ho
 subst e
 exact I.call (g':=g') (t':=t') (d':=d') u hok hg hch
end
abbrev XK:=Value->Option Addr->Hp->Prop
abbrev St:=List (Option V)
abbrev VK:=V->Hp->Prop
abbrev TE:=St->Hp->VK->Prop
abbrev TT:=St->Hp->(Bool->Hp->Prop)->Prop
abbrev TA:=St->Hp->(List V->Hp->Prop)->Prop
structure og where
 nx:St->Hp->Prop
 rt:VK
 bk:St->Hp->Prop:=λ_ _=>False
 ct:St->Hp->Prop:=λ_ _=>False
abbrev TS:=og->St->Hp->Prop
def EP(X:Cx)(pins:List (Addr×Obj))(σ:St)(Q:VK)(u:Value)(s':Shared):Prop:=∃v H',bN X pins σ H' s'/\cy v u/\Q v H'
def TP(X:Cx)(pins:List (Addr×Obj))(σ:St)(Q:Bool->Hp->Prop)(b:Bool)(s':Shared):Prop:=∃H',bN X pins σ H' s'/\Q b H'
def AP(X:Cx)(pins:List (Addr×Obj))(σ:St)(Q:List V->Hp->Prop)(us:List Value)(s':Shared):Prop:=∃vs H',bN X pins σ H' s'/\cv vs us/\Q vs H'
def SP(X:Cx)(pins:List (Addr×Obj))(D:og)(f:Flow)(s':Shared):Prop:=
 match f with
 |.next=>∃σ' H',bN X pins σ' H' s'/\D.nx σ' H'
 |.brk=>∃σ' H',bN X pins σ' H' s'/\D.bk σ' H'
 |.cont=>∃σ' H',bN X pins σ' H' s'/\D.ct σ' H'
 |.ret u=>∃v σ' H',bN X pins σ' H' s'/\cy v u/\D.rt v H'
def PE(X:Cx)(e:Expr)(t:TE):Prop:=
 ∀(pins:List (Addr×Obj)) (s:Shared) (σ:St) (H:Hp) (Q:VK),bN X pins σ H s->t σ H Q->wpAny (model X.prog X.w) X.A (eval e X.env) (EP X pins σ Q) X.xe s
def PT(X:Cx)(e:Expr)(t:TT):Prop:=
 ∀(pins:List (Addr×Obj)) (s:Shared) (σ:St) (H:Hp) (Q:Bool->Hp->Prop),bN X pins σ H s->t σ H Q->wpAny (model X.prog X.w) X.A (isTrue e X.env (eval e X.env)) (TP X pins σ Q) X.xe s
def PW(X:Cx)(e:Expr)(t:TT):Prop:=
 ∀(whole:Sem Value) (pins:List (Addr×Obj)) (s:Shared) (σ:St) (H:Hp) (Q:Bool->Hp->Prop),bN X pins σ H s->t σ H Q->wpAny (model X.prog X.w) X.A (isTrue e X.env whole) (TP X pins σ Q) X.xe s
theorem PW.pt{X:Cx}{e:Expr}{t:TT}(h:PW X e t):PT X e t:=h _
def PA(X:Cx)(es:List Expr)(t:TA):Prop:=
 ∀(pos:Pos) (pins:List (Addr×Obj)) (s:Shared) (σ:St) (H:Hp) (Q:List V->Hp->Prop),bN X pins σ H s->t σ H Q->wpAny (model X.prog X.w) X.A (spliced (backTo pos (starEach es X.env))) (AP X pins σ Q) X.xe s
def PS(X:Cx)(st:Stmt)(t:TS):Prop:=
 ∀(pins:List (Addr×Obj)) (s:Shared) (σ:St) (H:Hp) (D:og),bN X pins σ H s->t D σ H->wpAny (model X.prog X.w) X.A (exec st X.env) (SP X pins D) X.xe s
def jV(X:Cx)(st:List Stmt)(t:TS):Prop:=
 ∀(pins:List (Addr×Obj)) (s:Shared) (σ:St) (H:Hp) (D:og),bN X pins σ H s->t D σ H->wpAny (model X.prog X.w) X.A (execs st X.env) (SP X pins D) X.xe s
theorem fV{α:Type}{t:Sem α}{Q Q':α->Shared->Prop}{M:Model}{A:Around}{E:Value->Shared->Prop}{s:Shared}(h:wpAny M A t Q E s)(hQ:∀a s,Q a s->Q' a s):wpAny M A t Q' E s:=wpAny_mono h hQ λ_ _ x=>x
section
variable{X:Cx}
def au(i:Nat):TE:=λσ H Q=>∃v,σ[i]?=some (some v)/\Q v H
def tC(v:V):TE:=λ_ H Q=>Q v H
theorem KA{i:Nat}{x:Str}{pos:Pos}(hN:X.N[i]?=some x)(hv:Ml X.env.scope x)(hd:(x==("__debug__":Str))=false:=by decide)(hcd:(x==("__classdict__":Str))=false:=by decide):PE X (.Name x pos) (au i):=by
 intro pins s σ H Q I h
 obtain⟨v,e,h⟩:=h
 obtain⟨m,hn,hl⟩:=I.loc
 obtain⟨u,r,l⟩:=hl i x v hN e hv
 have fin:EP X pins σ Q u s:=⟨v,H,I,r,h⟩
 rcases l with⟨hk,hm⟩|⟨hk,c,hc,hcell⟩
 ·exact wpAny_Name (wpAny_loadName_local I.ok.kind hk hn hm fin) hd
 ·rcases hk with hk|hk
  ·exact wpAny_Name (wpAny_loadName_cell I.ok.kind hk hc hcell fin) hd
  ·exact wpAny_Name (wpAny_loadName_free I.ok.kind hk hc hcell fin hcd) hd
theorem Kv{i j pos}:PE X (.Constant (.int i) j pos) (tC (.int i)):=λ_ _ _ H _ I h=>wpAny_Constant_int ⟨.int i,H,I.tok _,⟨_,rfl⟩,h⟩
theorem LR{b j pos}:PE X (.Constant (.bool b) j pos) (tC (.bl b)):=λ_ _ _ H _ I h=>Constant_bool ⟨.bl b,H,I,rfl,h⟩
theorem Kx{j pos}:PE X (.Constant .none j pos) (tC .non):=λ_ _ _ H _ I h=>Constant_none ⟨.non,H,I,rfl,h⟩
theorem Ky{x j pos}:PE X (.Constant (.str x) j pos) (tC (.str x)):=λ_ _ _ H _ I h=>Calls.Constant_str ⟨.str x,H,I.tok _,⟨_,rfl⟩,h⟩
def Gl(X:Cx)(x:Str):Prop:=X.env.kindOf x=some .globalImplicit
theorem Bs{E:Value->Shared->Prop}{pins:List (Addr×Obj)}{s:Shared}{σ:St}{H:Hp}{x:Str}{u:Value}{pos:Pos}{Q:Value->Shared->Prop}(I:bN X pins σ H s)(hg:Gl X x)(hm:X.mg x=some u)(h:Q u s)
  (hd:(x==("__debug__":Str))=false:=by decide):wpAny (model X.prog X.w) X.A (eval (.Name x pos) X.env) Q E s:=
 Calls.Name_function_global I.ok.kind hg (Calls.loadGlobal_global (by rw[I.ok.glob];exact I.mod.glob.keeps I.bk) hm h) hd
theorem mx{E:Value->Shared->Prop}{pins:List (Addr×Obj)}{s:Shared}{σ:St}{H:Hp}{x:Str}{u:Value}{pos:Pos}{Q:Value->Shared->Prop}(I:bN X pins σ H s)(hg:Gl X x)(hm:X.mg x=none)(hv:bootBuiltins x=some u)(h:Q u s)
  (hn:x≠"__name__":=by decide) (hd:(x==("__debug__":Str))=false:=by decide):wpAny (model X.prog X.w) X.A (eval (.Name x pos) X.env) Q E s:=by
 obtain⟨mb,h1,h2⟩:=I.mod.blt
 exact Calls.Name_function_global I.ok.kind hg (Calls.loadGlobal_builtin (by rw[I.ok.glob];exact I.mod.glob.keeps I.bk) hm (by rw[I.ok.blt];exact h1.keeps I.bk) ((h2 x hn).trans hv) h) hd
theorem HA{x:Str}{v:V}{u:Value}{pos:Pos}(hg:Gl X x)(hm:X.mg x=none)(hv:bootBuiltins x=some u)(r:cy v u)(hn:x≠"__name__":=by decide)(hd:(x==("__debug__":Str))=false:=by decide):PE X (.Name x pos) (tC v):=
 λ_ _ _ H _ I h=>mx I hg hm hv ⟨v,H,I,r,h⟩ hn hd
variable{a b:Expr}{ta tb:TE}{pos:Pos}
def tB(t:TE):TT:=λσ H Q=>t σ H λx H1=>∃c,x=.bl c/\Q c H1
theorem KO{e:Expr}{t:TE}(h:PE X e t)(he:∀whole,isTrue e X.env whole=(do let v <-whole;standAt e.pos;holding [v] (truthy v)):=by intro _;rfl):PT X e (tB t):=by
 intro pins s σ H Q I hw
 refine isTrue_plain (fV (h pins s σ H _ I hw) λv s1 ⟨x,H1,I1,r1,q1⟩=>?_) (he _)
 obtain⟨d,rfl,q⟩:=q1
 cases r1
 exact wpAny_truthy_bool ⟨H1,I1,q⟩
variable{tA tB':TT}{rest:List Expr}
def wO(t u:TT):TT:=λσ H Q=>t σ H λc H1=>if c=true then u σ H1 Q else Q false H1
def JA(t u:TT):TT:=λσ H Q=>t σ H λc H1=>if c=true then Q true H1 else u σ H1 Q
def IT(t:TT):TT:=λσ H Q=>t σ H λc H1=>Q (!c) H1
theorem Ig(ha:PT X a tA):PW X (.BoolOp .And [a] pos) tA:=by
 intro wh pins s σ H Q I h
 refine isTrue_and (fV (ha pins s σ H Q I h) λc s1 e=>?_)
 cases c with
 |true=>exact isTrue_and_nil e
 |false=>exact e
theorem KQ(ha:PT X a tA):PW X (.BoolOp .Or [a] pos) tA:=by
 intro wh pins s σ H Q I h
 refine isTrue_or (fV (ha pins s σ H Q I h) λc s1 e=>?_)
 cases c with
 |false=>exact isTrue_or_nil e
 |true=>exact e
theorem KP(ha:PT X a tA)(hb:PW X (.BoolOp .And (b::rest) pos) tB'):PW X (.BoolOp .And (a::b::rest) pos) (wO tA tB'):=by
 intro wh pins s σ H Q I h
 refine isTrue_and (fV (ha pins s σ H _ I h) λc s1 ⟨H1,I1,q1⟩=>?_)
 cases c with
 |true=>exact hb wh pins s1 σ H1 Q I1 q1
 |false=>exact⟨H1,I1,q1⟩
theorem LZ(ha:PT X a tA)(hb:PW X (.BoolOp .Or (b::rest) pos) tB'):PW X (.BoolOp .Or (a::b::rest) pos) (JA tA tB'):=by
 intro wh pins s σ H Q I h
 refine isTrue_or (fV (ha pins s σ H _ I h) λc s1 ⟨H1,I1,q1⟩=>?_)
 cases c with
 |true=>exact⟨H1,I1,q1⟩
 |false=>exact hb wh pins s1 σ H1 Q I1 q1
theorem KN(ha:PT X a tA):PT X (.UnaryOp .Not a pos) (IT tA):=by
 intro pins s σ H Q I h
 exact isTrue_not (ha pins s σ H (λc H1=>Q (!c) H1) I h)
def MG(t:TT)(ta tb:TE):TE:=λσ H Q=>t σ H λc H1=>if c=true then ta σ H1 Q else tb σ H1 Q
theorem Fc{c:Expr}(hc:PT X c tA)(ha:PE X a ta)(hb:PE X b tb):PE X (.IfExp c a b pos) (MG tA ta tb):=by
 intro pins s σ H Q I h
 refine wpAny_IfExp (fV (hc pins s σ H _ I h) λd s1 ⟨H1,I1,q1⟩=>?_)
 cases d with
 |true=>exact ha pins s1 σ H1 Q I1 q1
 |false=>exact hb pins s1 σ H1 Q I1 q1
end
def ce(K:Fg)(H:Hp)(a:Addr)(xs:List V):Prop:=
 Rd H a (.lst xs)\/
  ∃(o:Obj) (its:Array Value) (n:Nat),K.lookup a=some o/\o.cls=.type "list"/\o.dict=none/\o.data=.seq its n/\its.size<=sizeLine/\cv xs its.toList
def dZ(K:Fg)(H:Hp)(a:Addr)(xs:List V):Prop:=
 Rd H a (.tup xs)\/
  ∃(o:Obj) (its:Array Value) (n:Nat),K.lookup a=some o/\o.cls=.type "tuple"/\o.data=.seq its n/\its.size<=sizeLine/\cv xs its.toList
def Mz:Value->Option V
 |.none=>some .non
 |.bool b=>some (.bl b)
 |.int i _=>some (.int i)
 |.str x _=>some (.str x)
 |.bytes b _=>some (.byt b)
 |.float b _=>some (.flt b)
 |.ref a=>some (.ref a)
 |.type n=>some (.ty n)
 |_=>none
theorem cy.abs{x:V}{u:Value}(r:cy x u):Mz u=some x:=by
 cases x with
 |non=>cases r;rfl
 |bl _=>cases r;rfl
 |int _=>obtain⟨t,rfl⟩:=r;rfl
 |str _=>obtain⟨t,rfl⟩:=r;rfl
 |byt _=>obtain⟨t,rfl⟩:=r;rfl
 |flt _=>obtain⟨t,rfl⟩:=r;rfl
 |ref _=>cases r;rfl
 |ty _=>cases r;rfl
theorem cy.inj{x y:V}{u:Value}(r:cy x u)(q:cy y u):x=y:=Option.some.inj (r.abs.symm.trans q.abs)
theorem cv.inj:∀{xs ys:List V} {us:List Value},cv xs us->cv ys us->xs=ys
 |_,_,_,.nil,.nil=>rfl
 |_,_,_,.cons r t,.cons r' t'=>by rw[r.inj r',cv.inj t t']
section
variable{X:Cx}{pins:List (Addr×Obj)}{σ:St}{H:Hp}{s:Shared}{a:Addr}{xs ys:List V}
theorem ce.of{K:Fg}(h:H a=some (.lst xs)):ce K H a xs:=.inl (.inl h)
theorem dZ.of{K:Fg}(h:H a=some (.tup xs)):dZ K H a xs:=.inl (.inl h)
theorem bN.list(I:bN X pins σ H s)(h:ce X.K H a xs):∃its:List Value,cv xs its/\PlainL s.heap a its.toArray/\xs.length<=sizeLine:=by
 rcases h with h|⟨o,its,n,hk,hc,hd,hs,hz,r⟩
 ·obtain⟨z,its,n,r,e⟩:=h.ok I.hok
  exact⟨its,r,⟨_,n,e,rfl,rfl,rfl⟩,z⟩
 ·refine⟨its.toList,r,⟨o,n,I.kIn a o hk,hc,hd,by simpa using hs⟩,?_⟩
  have e:=r.length
  simp only[bI] at e
  lia
theorem bN.tuple(I:bN X pins σ H s)(h:dZ X.K H a xs):∃its:List Value,cv xs its/\IsTup s.heap a its.toArray/\xs.length<=sizeLine:=by
 rcases h with h|⟨o,its,n,hk,hc,hs,hz,r⟩
 ·obtain⟨z,its,r,p⟩:=h.ok I.hok
  exact⟨its,r,p.tup,z⟩
 ·refine⟨its.toList,r,⟨o,I.kIn a o hk,hc,n,by simpa using hs⟩,?_⟩
  have e:=r.length
  simp only[bI] at e
  lia
theorem bN.list_inj(I:bN X pins σ H s)(h:ce X.K H a xs)(h':ce X.K H a ys):xs=ys:=by
 obtain⟨its,r,⟨o,n,e,_,_,d⟩,_⟩:=I.list h
 obtain⟨its',r',⟨o',n',e',_,_,d'⟩,_⟩:=I.list h'
 rw[e] at e';cases e'
 rw[d] at d'
 injection d' with d1 _
 have:its=its':=by simpa using congrArg Array.toList d1
 subst this
 exact r.inj r'
theorem bN.tuple_inj(I:bN X pins σ H s)(h:dZ X.K H a xs)(h':dZ X.K H a ys):xs=ys:=by
 obtain⟨its,r,⟨o,e,_,n,d⟩,_⟩:=I.tuple h
 obtain⟨its',r',⟨o',e',_,n',d'⟩,_⟩:=I.tuple h'
 rw[e] at e';cases e'
 rw[d] at d'
 injection d' with d1 _
 have:its=its':=by simpa using congrArg Array.toList d1
 subst this
 exact r.inj r'
end
abbrev Cx.wish(X:Cx)(E:Value->Shared->Prop):Cx:={X with xe:=E}
abbrev Cx.nox(X:Cx):Cx:=X.wish λ_ _=>False
theorem Cx.Ok.wish{X:Cx}(ok:X.Ok)(E:Value->Shared->Prop):(X.wish E).Ok:=
 ⟨ok.mod,ok.kind,ok.glob,ok.blt,ok.above,ok.inj,ok.has,ok.cab,ok.hd,ok.frames,ok.stk,ok.exf,ok.bs,ok.bsz,ok.noex,ok.exfs,ok.funs,ok.frf⟩
theorem Cx.Ok.unwish{X:Cx}{E:Value->Shared->Prop}(ok:(X.wish E).Ok):X.Ok:=
 ⟨ok.mod,ok.kind,ok.glob,ok.blt,ok.above,ok.inj,ok.has,ok.cab,ok.hd,ok.frames,ok.stk,ok.exf,ok.bs,ok.bsz,ok.noex,ok.exfs,ok.funs,ok.frf⟩
section
variable{X:Cx}{pins:List (Addr×Obj)}{σ:St}{H:Hp}{s:Shared}{E:Value->Shared->Prop}
theorem bN.wish(I:bN X pins σ H s)(E:Value->Shared->Prop):bN (X.wish E) pins σ H s:=⟨I.ok.wish E,I.os,I.bare,I.base,I.loc,I.cell,I.free,I.freeC,I.pin,I.hok,I.len⟩
theorem bN.unwish(I:bN (X.wish E) pins σ H s):bN X pins σ H s:=⟨I.ok.unwish,I.os,I.bare,I.base,I.loc,I.cell,I.free,I.freeC,I.pin,I.hok,I.len⟩
theorem SP.unwish{D:og}{f:Flow}{s':Shared}(h:SP (X.wish E) pins D f s'):SP X pins D f s':=by
 cases f with
 |next=>obtain⟨σ',H',I,q⟩:=h;exact⟨σ',H',I.unwish,q⟩
 |brk=>obtain⟨σ',H',I,q⟩:=h;exact⟨σ',H',I.unwish,q⟩
 |cont=>obtain⟨σ',H',I,q⟩:=h;exact⟨σ',H',I.unwish,q⟩
 |ret u=>obtain⟨v,σ',H',I,r,q⟩:=h;exact⟨v,σ',H',I.unwish,r,q⟩
theorem jV.nox{st:List Stmt}{t:TS}(h:jV X.nox st t):jV X st t:=λpins s σ H D I hw=>
 wpAny_mono (h pins s σ H D (I.wish _) hw) (λ_ _ q=>q.unwish) λ_ _ z=>False.elim z
end
section
variable{X:Cx}{st:Stmt}{rest:List Stmt}{t u:TS}{e:Expr}{te:TE}{pos:Pos}
def cO:TS:=λD σ H=>D.nx σ H
def bB(t u:TS):TS:=λD σ H=>t {D with nx:=u D} σ H
theorem Ib:jV X [] cO:=λ_ _ σ H _ I h=>wpAny_execs_nil ⟨σ,H,I,h⟩
theorem Fk(h1:PS X st t)(h2:jV X rest u):jV X (st::rest) (bB t u):=by
 intro pins s σ H D I h
 refine wpAny_execs_cons (fV (h1 pins s σ H {D with nx:=u D} I h) λf s1 q=>?_)
 cases f with
 |next=>
  obtain⟨σ',H',I',q⟩:=q
  exact h2 pins s1 σ' H' D I' q
 |ret v=>exact q
 |brk=>exact q
 |cont=>exact q
theorem Ic(h1:PS X st t):jV X [st] t:=by
 intro pins s σ H D I h
 refine wpAny_execs_cons (fV (h1 pins s σ H D I h) λf s1 q=>?_)
 cases f with
 |next=>exact wpAny_execs_nil q
 |ret v=>exact q
 |brk=>exact q
 |cont=>exact q
def FN:TS:=λD σ H=>D.ct σ H
theorem yg:PS X (.Continue pos) FN:=λ_ _ σ H _ I h=>wpAny_Continue ⟨σ,H,I,h⟩
theorem bN.quiet{pins:List (Addr×Obj)}{σ:St}{H:Hp}{s:Shared}(I:bN X pins σ H s):interactive X.env=false:=by simp[interactive,I.ok.kind]
def i4(te:TE):TS:=λD σ H=>te σ H λ_ H1=>D.nx σ H1
theorem Ia(he:PE X e te)(hs:swapsWith e none pos.line X.env=pure false:=by rfl):PS X (.Expr e pos) (i4 te):=by
 intro pins s σ H D I h
 exact wpAny_Expr_any (fV (he pins s σ H _ I h) λv s1 ⟨x,H1,I1,r1,q1⟩=>⟨σ,H1,I1,q1⟩) I.quiet hs
def dt(te:TE):TS:=λD σ H=>te σ H D.rt
theorem KL(he:PE X e te):PS X (.Return (some e) pos) (dt te):=by
 intro pins s σ H D I h
 exact wpAny_Return_some (fV (he pins s σ H _ I h) λv s1 ⟨x,H1,I1,r1,q1⟩=>⟨x,σ,H1,I1,r1,q1⟩)
def eP(c:TT)(t u:TS):TS:=λD σ H=>c σ H λb H1=>if b=true then t D σ H1 else u D σ H1
theorem LX{c:Expr}{a b:List Stmt}{tc:TT}(hc:PT X c tc)(ha:jV X a t)(hb:jV X b u):PS X (.If c a b pos) (eP tc t u):=by
 intro pins s σ H D I h
 refine wpAny_If (fV (hc pins s σ H _ I h) λd s1 ⟨H1,I1,q1⟩=>?_)
 cases d with
 |true=>exact ha pins s1 σ H1 D I1 q1
 |false=>exact hb pins s1 σ H1 D I1 q1
end
abbrev TG:=V->St->Hp->(St->Hp->Prop)->Prop
abbrev Cp:=List V->St->Hp->(St->Hp->Prop)->Prop
def PG(X:Cx)(target:Expr)(t:TG):Prop:=
 ∀(pins:List (Addr×Obj)) (s:Shared) (σ:St) (H:Hp) (v:V) (u:Value) (Q:St->Hp->Prop),bN X pins σ H s->cy v u->t v σ H Q->
  wpAny (model X.prog X.w) X.A (assign target X.env u) (λ_ s'=>∃σ' H',bN X pins σ' H' s'/\Q σ' H') X.xe s
def Ll(X:Cx)(ts:List Expr)(t:Cp):Prop:=
 ∀(pins:List (Addr×Obj)) (s:Shared) (σ:St) (H:Hp) (vs:List V) (us:List Value) (Q:St->Hp->Prop),bN X pins σ H s->cv vs us->t vs σ H Q->
  wpAny (model X.prog X.w) X.A (assignInOrder ((assignEach ts X.env).map (·.2)) us) (λ_ s'=>∃σ' H',bN X pins σ' H' s'/\Q σ' H') X.xe s
abbrev GL:=V->V->V->Hp->(Hp->Prop)->Prop
def GH(X:Cx)(t:GL):Prop:=
 ∀(pins:List (Addr×Obj)) (s:Shared) (σ:St) (H:Hp) (o i v:V) (ov iv u:Value) (Q:Hp->Prop),bN X pins σ H s->cy o ov->cy i iv->cy v u->t o i v H Q->
  wpAny (model X.prog X.w) X.A (setItem ov iv u) (λ_ s'=>∃H',bN X pins σ H' s'/\Q H') X.xe s
section
variable{X:Cx}{pos:Pos}
def bb(i:Nat):TG:=λv σ H Q=>Q (σ.set i (some v)) H
theorem HJ{i:Nat}{x:Str}(hN:X.N.Nodup)(hi:X.N[i]?=some x)(hx:Ji X.env.scope x)(hf:X.fn x=true\/X.env.scope.names.lookup x=some .local:=by first|exact .inl rfl|exact .inr rfl|assumption):PG X (.Name x pos) (bb i):=by
 intro pins s σ H v u Q I r h
 exact wpAny_assign_Name (yA I hN hi hx r (λs' I'=>⟨_,H,I',h⟩) hf)
def xB:Cp:=λvs σ H Q=>vs=[]/\Q σ H
def kS(t:TG)(u:Cp):Cp:=λvs σ H Q=>∃v r,vs=v::r/\t v σ H λσ' H'=>u r σ' H' Q
theorem HM:Ll X [] xB:=by
 intro pins s σ H vs us Q I r h
 obtain⟨e,h⟩:=h
 subst e
 cases r
 exact assignInOrder_nil ⟨σ,H,I,h⟩
theorem Fe{e:Expr}{es:List Expr}{t:TG}{u:Cp}(h1:PG X e t)(h2:Ll X es u)
  (hs:(assignEach (e::es) X.env).map (·.2)=assign e X.env::(assignEach es X.env).map (·.2):=by rfl):Ll X (e::es) (kS t u):=by
 intro pins s σ H vs us Q I r h
 obtain⟨v,vr,e1,h⟩:=h
 subst e1
 cases r with
 |cons r rr=>
  rw[hs]
  refine assignInOrder_cons (fV (h1 pins s σ H _ _ _ I r h) λ_ s1 ⟨σ1,H1,I1,q1⟩=>?_)
  exact h2 pins s1 σ1 H1 _ _ Q I1 rr q1
def CK(K:Fg)(n:Nat)(t:Cp):TG:=λv σ H Q=>∃a xs,v=.ref a/\dZ K H a xs/\xs.length=n/\t xs σ H Q
theorem KC{es:List Expr}{k:Nat}{t:Cp}{n:Nat}(hc:X.calm=true)(h:Ll X es t)
  (hn:(assignEach es X.env).length=n:=by rfl) (hst:(assignEach es X.env).findIdx? (·.1)=none:=by rfl):PG X (.Tuple es k pos) (CK X.K n t):=by
 intro pins s σ H v u Q I r hw
 obtain⟨a,xs,e1,hq,hl,hw⟩:=hw
 subst e1
 cases r
 obtain⟨its,rv,ht,hz⟩:=I.tuple hq
 refine assign_Tuple_tuple (I.ok.hd hc) ht (by simp[hn,<-hl,rv.length]) hst λh' hx=>?_
 have I1:bN X pins σ H {s with heap:=h'}:=I.kept (t':=s.toks) λb o e=>hx b o (aH (aF e)) e
 exact h pins _ σ H xs _ Q I1 (by simpa using rv) hw
def oi(to ti:TE)(t:GL):TG:=λv σ H Q=>to σ H λo H1=>ti σ H1 λi H2=>t o i v H2 λH3=>Q σ H3
theorem KB{o i:Expr}{to ti:TE}{t:GL}(ho:PE X o to)(hi:PE X i ti)(hs:GH X t)
  (ha:∀v,assign (.Subscript o i pos) X.env v=(do
   let ov <-holding [v] (eval o X.env)
   let iv <-holding [v,ov] (eval i X.env)
   standAt pos
   holding [v,ov,iv] (setItem ov iv v)
   release [v,ov,iv] []):=by intro _;rfl):PG X (.Subscript o i pos) (oi to ti t):=by
 intro pins s σ H v u Q I r h
 rw[ha]
 refine wpAny_bind (wpAny_holding (fV (ho pins s σ H _ I h) λov s1 ⟨x,H1,I1,r1,q1⟩=>?_))
 refine wpAny_bind (wpAny_holding (fV (hi pins s1 σ H1 _ I1 q1) λiv s2 ⟨y,H2,I2,r2,q2⟩=>?_))
 refine wpAny_bind (wpAny_standAt (wpAny_bind (wpAny_holding (fV (hs pins s2 σ H2 x y v ov iv u _ I2 r1 r2 r q2) λ_ s3 ⟨H3,I3,q3⟩=>?_))))
 exact wpAny_release ⟨σ,H3,I3,q3⟩
def ci(te:TE)(g:TG):TS:=λD σ H=>te σ H λx H1=>g x σ H1 D.nx
theorem KH{tg e:Expr}{te:TE}{g:TG}(he:PE X e te)(hg:PG X tg g)(hs:swapsWithSole [tg] e pos.line X.env=pure false:=by rfl)(hw:swappedStores [tg] e X.env=pure none:=by rfl)
  (h1:(assignEach [tg] X.env).map (·.2)=[assign tg X.env]:=by rfl):PS X (.Assign [tg] e pos) (ci te g):=by
 intro pins s σ H D I h
 refine wpAny_Assign_stores (fV (he pins s σ H _ I h) λv s1 ⟨x,H1,I1,r1,q1⟩=>?_) hs hw
 rw[h1]
 exact fV (hg pins s1 σ H1 x v _ I1 r1 q1) λ_ s2 q=>q
theorem KM{i:Nat}{x:Str}{e:Expr}{te:TE}{pos':Pos}(hN:X.N.Nodup)(hi:X.N[i]?=some x)(hx:Ji X.env.scope x)(he:PE X e te)(hs:swapsWith e (some (.Name x pos')) pos.line X.env=pure false:=by rfl)(hf:X.fn x=true\/X.env.scope.names.lookup x=some .local:=by first|exact .inl rfl|exact .inr rfl|assumption) :
  PS X (.Assign [.Name x pos'] e pos) (ci te (bb i)):=by
 intro pins s σ H D I h
 refine wpAny_Assign_Name (fV (he pins s σ H _ I h) λv s1 ⟨y,H1,I1,r1,q1⟩=>?_) hs
 exact yA I1 hN hi hx r1 (λs2 I2=>⟨_,H1,I2,q1⟩) hf
end
section
variable{X:Cx}{pos:Pos}
def mN(c:TT)(tb:TS):TS:=λD σ H=>∃W:Nat->St->Hp->Prop,(∃m,W m σ H)/\∀m σ H,W m σ H->
 c σ H λb H1=>if b=true then ∃N:St->Hp->Prop,(∀σ' H',N σ' H'->∃m',m'<m/\W m' σ' H')/\tb {D with nx:=N,ct:=N,bk:=D.nx} σ H1 else D.nx σ H1
theorem Fj{c:Expr}{body:List Stmt}{tc:TT}{tb:TS}(hp:PassesOwn (model X.prog X.w) X.A X.env X.xe)(hc:PT X c tc)(hb:jV X body tb):PS X (.While c body [] pos) (mN tc tb):=by
 intro pins s σ H D I h
 obtain⟨W,⟨m0,w0⟩,turn⟩:=h
 refine wpAny_While (codeAny_whileLoop (λn s'=>∃σ' H',bN X pins σ' H' s'/\W n σ' H') ?_ m0 ⟨σ,H,I,w0⟩)
 rintro n s1 ⟨σ1,H1,I1,w1⟩
 refine wpAny_passesOwn hp (fV (hc pins s1 σ1 H1 _ I1 (turn n σ1 H1 w1)) λb s2 ⟨H2,I2,q2⟩=>?_)
 cases b with
 |true=>
  obtain⟨N,hN,q2⟩:=q2
  rw[if_pos rfl]
  refine wpAny_passesOwn hp (fV (hb pins s2 σ1 H2 _ I2 q2) λf s3 q3=>?_)
  cases f with
  |next=>
   obtain⟨σ3,H3,I3,n3⟩:=q3
   obtain⟨m',hm,w3⟩:=hN σ3 H3 n3
   exact⟨m',hm,σ3,H3,I3,w3⟩
  |cont=>
   obtain⟨σ3,H3,I3,n3⟩:=q3
   obtain⟨m',hm,w3⟩:=hN σ3 H3 n3
   exact⟨m',hm,σ3,H3,I3,w3⟩
  |brk=>exact q3
  |ret v=>exact q3
 |false=>
  rw[if_neg Bool.false_ne_true]
  exact wpAny_execs_nil ⟨σ1,H2,I2,q2⟩
end
structure It where
 go:Nat->Hp->Prop
 yld:Nat->Hp->V->Hp->Prop
 stop:Nat->Hp->Prop
def pe(X:Cx)(pins:List (Addr×Obj))(H:Hp)(b:Addr):Prop:=
 H b=none/\b≠X.env.locals/\b∉X.fs/\(b∈X.ex\/X.s₀.heap.objs.size<=b)/\(∀x c,X.env.cells.lookup x=some c->c≠b)/\∀p∈X.pn++pins,p.1≠b
theorem bN.fpOk{X:Cx}{pins:List (Addr×Obj)}{σ:St}{H H':Hp}{s:Shared}{b:Addr}(I:bN X pins σ H s)(hb:s.heap.objs.size<=b)(hn:H' b=none):pe X pins H' b:=by
 refine⟨hn,fz (bw I.lt hb),I.nofs hb,.inr (bn I.sz hb),λx c e z=>?_,λp hp z=>?_⟩
 ·obtain⟨v,q⟩:=I.cell x c e
  exact absurd (bw q.lt (by rw[z];exact hb)) (d5 _)
 ·exact absurd (bw (aF (I.pin p hp).1) (by rw[z];exact hb)) (d5 _)
structure uo(P:Program)(w:World)(K:Fg)(tg:Expr)(J:It)(fp:List Addr)(it:Addr)(tn:Nat->Heap->Prop):Prop where
 mem:it∈fp
 obj:∀i h,tn i h->∀b∈fp,∃o,h.get? b=some o/\∀v,o.data≠.cell v
 keep:∀i h h',tn i h->(∀b∈fp,∀o,h.get? b=some o->h'.get? b=some o)->tn i h'
 item:∀(X:Cx),X.prog=P->X.w=w->X.K=K->X.calm=true->∀(i:Nat) (pins:List (Addr×Obj)) (s:Shared) (σ:St) (H:Hp) (E:Value->Shared->Prop),bN X pins σ H s->(∀b∈fp,pe X pins H b)->tn i s.heap->J.go i H->
  wpAny (model P w) X.A (pyNext (.ref it)) (λr s1=>∃u,r=some u/\
   wpAny (model P w) X.A (letOwnedTupleGo tg (.ref it) u) (λ_ s2=>∃x H',bN X pins σ H' s2/\cy x u/\J.yld i H x H'/\tn (i+1) s2.heap/\∀b∈fp,H' b=none) E s1) E s
 done:∀(X:Cx),X.prog=P->X.w=w->X.K=K->X.calm=true->∀(i:Nat) (pins:List (Addr×Obj)) (s:Shared) (σ:St) (H:Hp) (E:Value->Shared->Prop),bN X pins σ H s->(∀b∈fp,pe X pins H b)->tn i s.heap->J.stop i H->
  wpAny (model P w) X.A (pyNext (.ref it)) (λr s1=>r=none/\bN X pins σ H s1) E s
 self:∀(A:Around) (i:Nat) (s:Shared) (Q:Value->Shared->Prop) (E:Value->Shared->Prop),tn i s.heap->Q (.ref it) s->wpAny (model P w) A (pyIter (.ref it)) Q E s
abbrev TI:=St->Hp->(It->Hp->Prop)->Prop
def ML(X:Cx)(pins:List (Addr×Obj))(σ:St)(tg:Expr)(R:It->Hp->Prop)(itv:Value)(s2:Shared):Prop:=
 ∃(it:Addr) (fp:List Addr) (tn:Nat->Heap->Prop) (J:It) (H':Hp),itv=.ref it/\bN X pins σ H' s2/\uo X.prog X.w X.K tg J fp it tn/\tn 0 s2.heap/\(∀b∈fp,pe X pins H' b)/\R J H'
def PI(X:Cx)(tg iter:Expr)(wi:TI):Prop:=
 ∀(pins:List (Addr×Obj)) (s:Shared) (σ:St) (H:Hp) (R:It->Hp->Prop),bN X pins σ H s->wi σ H R->
  wpAny (model X.prog X.w) X.A (eval iter X.env) (λv s1=>wpAny (model X.prog X.w) X.A (pyIter v) (ML X pins σ tg R) X.xe s1) X.xe s
theorem xC{M:Model}{A:Around}{E:Value->Shared->Prop}{s:Shared}{tg:Expr}{it:Addr}{u:Value}{o:Obj}{n:String}{vs:Array Value}{Q:Unit->Shared->Prop}(ho:s.heap.get? it=some o)(hc:o.cls=.type n)(hd:o.data=.fields vs)
  (hn:["enumerate","zip","dict_itemiterator","dict_reverseitemiterator","odict_iterator","itertools.zip_longest","itertools.pairwise"].contains n=false) (hQ:Q () s):wpAny M A (letOwnedTupleGo tg (.ref it) u) Q E s:=by
 unfold letOwnedTupleGo
 cases tg<;>first
  |exact wpAny_pure hQ
  |(cases u<;>first
    |exact wpAny_pure hQ
    |(refine wpAny_bind (wpAny_load ho ?_)
      rw[hc,hd]
      show wpAny M A (if(["enumerate","zip","dict_itemiterator","dict_reverseitemiterator","odict_iterator","itertools.zip_longest","itertools.pairwise"].contains n&&vs[0]?==some (rawInt _))=true then _ else _) Q E s
      rw[if_neg (by intro h;rw[hn,Bool.false_and] at h;cases h)]
      exact wpAny_pure hQ))
def Jf(K:Fg)(a:Addr):It:=
 ⟨λi H=>∃xs x,ce K H a xs/\xs[i]?=some x,λi H x H'=>H'=H/\∀xs,ce K H a xs->xs[i]?=some x,λi H=>∃xs,ce K H a xs/\xs.length<=i⟩
def Jg(K:Fg)(a:Addr):It:=
 ⟨λi H=>∃xs x,dZ K H a xs/\xs[i]?=some x,λi H x H'=>H'=H/\∀xs,dZ K H a xs->xs[i]?=some x,λi H=>∃xs,dZ K H a xs/\xs.length<=i⟩
def GD(lo:Int)(n:Nat):It:=⟨λi _=>i<n,λi H x H'=>H'=H/\x=.int (lo+i),λi _=>n<=i⟩
theorem DX{P:Program}{w:World}{K:Fg}{tg:Expr}(a it:Addr):uo P w K tg (Jf K a) [it] it (λi h=>h.IsListIter it a i) where
 mem:=by simp
 obj:=λi h st b hb=>by
  have e:b=it:=by simpa using hb
  subst e
  obtain⟨o,e,c,d⟩:=st
  exact⟨o,e,λv z=>by rw[d] at z;cases z⟩
 keep:=λi h h' st k=>st.at λo e=>k it (by simp) o e
 item:=by
  intro X hP hw hK hc i pins s σ H E I hf st hg
  subst hP hw hK
  obtain⟨xs,x,hq,hx⟩:=hg
  obtain⟨its,rv,p,hz⟩:=I.list hq
  obtain⟨u,hu,ru⟩:=rv.get hx
  obtain⟨f0,f1,f2,f3,f4,f5⟩:=hf it (by simp)
  refine wpAny_pyNext_list_item st p.isList (x:=u) (by simpa using hu) λh' st' sb=>?_
  have I1:bN X pins σ H {s with heap:=h'}:=I.turned (t':=s.toks) (λb o hb e=>(sb.2 b hb).trans e) f0 f1 f3 f4 f5
  obtain⟨o,e,c,d⟩:=id st'
  exact⟨u,rfl,xC (s:={s with heap:=h'}) e c d (by decide) ⟨x,H,I1,ru,⟨rfl,λys hy=>by rw[I.list_inj hy hq];exact hx⟩,st',λb hb=>(hf b hb).1⟩⟩
 done:=by
  intro X hP hw hK hc i pins s σ H E I hf st hg
  subst hP hw hK
  obtain⟨xs,hq,hx⟩:=hg
  obtain⟨its,rv,p,hz⟩:=I.list hq
  obtain⟨f0,f1,f2,f3,f4,f5⟩:=hf it (by simp)
  have hl:=rv.length
  exact wpAny_pyNext_list_end (I.ok.hd hc) st p.isList (by simp;lia) λh' eb=>⟨rfl,I.turned (t':=s.toks) (λb o hb e=>eb b o hb e) f0 f1 f3 f4 f5⟩
 self:=λ_ _ _ _ _ st h=>wpAny_pyIter_listiter st h
theorem AT{P:Program}{w:World}{K:Fg}{tg:Expr}(a it:Addr):uo P w K tg (Jg K a) [it] it (λi h=>h.IsTupleIter it a i) where
 mem:=by simp
 obj:=λi h st b hb=>by
  have e:b=it:=by simpa using hb
  subst e
  obtain⟨o,e,c,d⟩:=st
  exact⟨o,e,λv z=>by rw[d] at z;cases z⟩
 keep:=λi h h' st k=>st.at λo e=>k it (by simp) o e
 item:=by
  intro X hP hw hK hc i pins s σ H E I hf st hg
  subst hP hw hK
  obtain⟨xs,x,hq,hx⟩:=hg
  obtain⟨its,rv,p,hz⟩:=I.tuple hq
  obtain⟨u,hu,ru⟩:=rv.get hx
  obtain⟨f0,f1,f2,f3,f4,f5⟩:=hf it (by simp)
  refine wpAny_pyNext_tuple_item st (show s.heap.IsTuple a its.toArray from p) (x:=u) (by simpa using hu) λh' st' sb=>?_
  have I1:bN X pins σ H {s with heap:=h'}:=I.turned (t':=s.toks) (λb o hb e=>(sb.2 b hb).trans e) f0 f1 f3 f4 f5
  obtain⟨o,e,c,d⟩:=id st'
  exact⟨u,rfl,xC (s:={s with heap:=h'}) e c d (by decide) ⟨x,H,I1,ru,⟨rfl,λys hy=>by rw[I.tuple_inj hy hq];exact hx⟩,st',λb hb=>(hf b hb).1⟩⟩
 done:=by
  intro X hP hw hK hc i pins s σ H E I hf st hg
  subst hP hw hK
  obtain⟨xs,hq,hx⟩:=hg
  obtain⟨its,rv,p,hz⟩:=I.tuple hq
  obtain⟨f0,f1,f2,f3,f4,f5⟩:=hf it (by simp)
  have hl:=rv.length
  exact wpAny_pyNext_tuple_end (I.ok.hd hc) st (show s.heap.IsTuple a its.toArray from p) (by simp;lia) λh' eb=>⟨rfl,I.turned (t':=s.toks) (λb o hb e=>eb b o hb e) f0 f1 f3 f4 f5⟩
 self:=λ_ _ _ _ _ st h=>wpAny_pyIter_tupleiter st h
theorem AS{P:Program}{w:World}{K:Fg}{tg:Expr}(it:Addr)(lo:Int)(n:Nat):uo P w K tg (GD lo n) [it] it (λi h=>IsRangeIter h it (lo+(i:Nat)*1) ((n:Int)-(i:Nat)) 1) where
 mem:=by simp
 obj:=λi h st b hb=>by
  have e:b=it:=by simpa using hb
  subst e
  exact⟨_,st,λv z=>by
   have z':Data.fields _=Data.cell v:=z
   cases z'⟩
 keep:=λi h h' st k=>k it (by simp) _ st
 item:=by
  intro X hP hw hK hc i pins s σ H E I hf st hg
  subst hP hw hK
  obtain⟨f0,f1,f2,f3,f4,f5⟩:=hf it (by simp)
  have W:=Walks.range (prog:=X.prog) (w:=X.w) (I.ok.hd hc) it lo 1 n
  refine W.item i s _ _ hg st λv h' tk hv st' kk=>?_
  obtain⟨t,rfl⟩:=hv
  have I1:bN X pins σ H {s with heap:=h',toks:=tk}:=I.turned (λb o hb e=>kk b o (by simpa using hb) e) f0 f1 f3 f4 f5
  refine⟨_,rfl,xC (s:={s with heap:=h',toks:=tk}) (n:="range_iterator") st' rfl rfl (by decide) ⟨.int (lo+i),H,I1,⟨t,?_⟩,⟨rfl,rfl⟩,st',λb hb=>(hf b hb).1⟩⟩
  rw[Int.mul_one]
 done:=by
  intro X hP hw hK hc i pins s σ H E I hf st hg
  subst hP hw hK
  obtain⟨f0,f1,f2,f3,f4,f5⟩:=hf it (by simp)
  exact wpAny_pyNext_range_end (I.ok.hd hc) st (by have:n<=i:=hg;lia) λh' eb=>⟨rfl,I.turned (t':=s.toks) (λb o hb e=>eb b o hb e) f0 f1 f3 f4 f5⟩
 self:=λ_ _ _ _ _ st h=>wpAny_pyIter_rangeiter st h
section
variable{X:Cx}{tg:Expr}
def Jo(K:Fg)(tl:TE):TI:=λσ H R=>tl σ H λx H1=>∃a,x=.ref a/\(∃xs,ce K H1 a xs)/\R (Jf K a) H1
def LF(K:Fg)(tl:TE):TI:=λσ H R=>tl σ H λx H1=>∃a,x=.ref a/\(∃xs,dZ K H1 a xs)/\R (Jg K a) H1
theorem HQ{l:Expr}{tl:TE}(hl:PE X l tl):PI X tg l (Jo X.K tl):=by
 intro pins s σ H R I h
 refine fV (hl pins s σ H _ I h) λv s1 ⟨x,H1,I1,r1,q1⟩=>?_
 obtain⟨a,e,⟨xs,hq⟩,q⟩:=q1
 subst e
 cases r1
 obtain⟨its,rv,p,hz⟩:=I1.list hq
 refine wpAny_pyIter_list p.isList ?_
 refine⟨s1.heap.objs.size,[s1.heap.objs.size],_,_,H1,rfl,I1.kept (t':=s1.toks) λb o e=>aj _ e,DX a _,⟨_,aD _ rfl,rfl,rfl⟩,λb hb=>?_,q⟩
 have e:b=s1.heap.objs.size:=by simpa using hb
 subst e
 exact I1.fpOk (aw _) (I1.hok.fresh (aw _))
theorem KF{l:Expr}{tl:TE}(hl:PE X l tl):PI X tg l (LF X.K tl):=by
 intro pins s σ H R I h
 refine fV (hl pins s σ H _ I h) λv s1 ⟨x,H1,I1,r1,q1⟩=>?_
 obtain⟨a,e,⟨xs,hq⟩,q⟩:=q1
 subst e
 cases r1
 obtain⟨its,rv,p,hz⟩:=I1.tuple hq
 refine wpAny_pyIter_tuple (show s1.heap.IsTuple a its.toArray from p) ?_
 refine⟨s1.heap.objs.size,[s1.heap.objs.size],_,_,H1,rfl,I1.kept (t':=s1.toks) λb o e=>aj _ e,AT a _,⟨_,aD _ rfl,rfl,rfl⟩,λb hb=>?_,q⟩
 have e:b=s1.heap.objs.size:=by simpa using hb
 subst e
 exact I1.fpOk (aw _) (I1.hok.fresh (aw _))
theorem Fx{pins:List (Addr×Obj)}{σ:St}{H:Hp}{s:Shared}{R:It->Hp->Prop}{E:Value->Shared->Prop}{lo hi:Int}{t u v:Tok}{tk:Nat}(I:bN X pins σ H s)(h1:-(2 ^ 62)<=lo)(h2:lo<2 ^ 62)(h3:-(2 ^ 62)<=hi)(h4:hi<2 ^ 62)
  (q:R (GD lo (hi-lo).toNat) H):wpAny (model X.prog X.w) X.A (pyIter (.ref s.heap.objs.size)) (ML X pins σ tg R) E {s with heap:=s.heap.push {cls:=.type "range",data:=.fields #[.int lo t,.int hi u,.int 1 v]},toks:=tk}:=by
 refine wpAny_pyIter_range (IsRange.new ..) (small_one h1 h2 h3 h4) ?_
 have I1:bN X pins σ H {s with heap:=s.heap.push {cls:=.type "range",data:=.fields #[.int lo t,.int hi u,.int 1 v]},toks:=tk}:=I.kept λb o e=>aj _ e
 refine⟨(s.heap.push {cls:=.type "range",data:=.fields #[.int lo t,.int hi u,.int 1 v]}).objs.size,[(s.heap.push {cls:=.type "range",data:=.fields #[.int lo t,.int hi u,.int 1 v]}).objs.size],_,_,H,rfl,
  I1.kept (t':=tk) λb o e=>aj _ e,AS _ lo (hi-lo).toNat,?_,λb hb=>?_,q⟩
 ·have e1:lo+((0:Nat):Int)*1=lo:=by simp
  have e2:(((hi-lo).toNat:Nat):Int)-((0:Nat):Int)=Builtin.Range.rangeSize lo hi 1:=by rw[rangeSize_one];split<;>lia
  show IsRangeIter _ _ (lo+((0:Nat):Int)*1) ((((hi-lo).toNat:Nat):Int)-((0:Nat):Int)) 1
  rw[e1,e2]
  exact aD _ rfl
 ·have e:b=(s.heap.push {cls:=.type "range",data:=.fields #[.int lo t,.int hi u,.int 1 v]}).objs.size:=by simpa using hb
  subst e
  exact I1.fpOk (aw _) (I1.hok.fresh (aw _))
def qW(ta:TA):TI:=λσ H R=>ta σ H λvs H1=>∃j:Int,vs=[.int j]/\-(2 ^ 62)<=j/\j<2 ^ 62/\R (GD 0 j.toNat) H1
theorem Dq{a:Expr}{ta:TA}{p pos:Pos}(hg:Gl X "range")(hm:X.mg "range"=none)(ha:PA X [a] ta)(hs:starEach [a] X.env=[(false,eval a X.env)]:=by rfl):PI X tg (.Call (.Name "range" p) [a] [] pos) (qW ta):=by
 intro pins s σ H R I h
 refine Call_ (mx I hg hm boot_range (cH (fV (ha pos pins s σ H _ I h) λus s1 ⟨vs,H1,I1,r1,q1⟩=>?_) hs rfl))
 obtain⟨j,e,q1,q2,q⟩:=q1
 subst e
 cases r1 with
 |cons r rr=>
  cases rr
  obtain⟨t,rfl⟩:=r
  exact call_range_1 (Fx I1 (by lia) (by lia) q1 q2 (by simpa using q))
def jQ(wi:TI)(g:TG)(tb:TS):TS:=λD σ H=>wi σ H λJ H1=>∃W:Nat->Nat->St->Hp->Prop,(∃m,W 0 m σ H1)/\∀i m σ H,W i m σ H->
 (J.stop i H/\D.nx σ H)\/(J.go i H/\∃N:St->Hp->Prop,(∀σ' H',N σ' H'->∃m',m'<m/\W (i+1) m' σ' H')/\∀x H',J.yld i H x H'->g x σ H' λσ2 H2=>tb {D with nx:=N,ct:=N,bk:=D.nx} σ2 H2)
def tz(fp:List Addr)(h:Heap):List (Addr×Obj):=fp.filterMap λb=>(h.get? b).map λo=>(b,o)
theorem my{fp:List Addr}{h:Heap}{b:Addr}{o:Obj}(hb:b∈fp)(e:h.get? b=some o):(b,o)∈tz fp h:=kq.mpr ⟨b,hb,by rw[e];rfl⟩
theorem Dg{fp:List Addr}{h:Heap}{p:Addr×Obj}(hp:p∈tz fp h):p.1∈fp/\h.get? p.1=some p.2:=by
 obtain⟨b,hb,e⟩:=kq.mp hp
 cases q:h.get? b with
 |none=>rw[q] at e;cases e
 |some o=>
  rw[q] at e
  have e':(b,o)=p:=Option.some.inj e
  subst e'
  exact⟨hb,q⟩
theorem bN.pinned{pins:List (Addr×Obj)}{σ:St}{H:Hp}{s:Shared}{fp:List Addr}(I:bN X pins σ H s)(hf:∀b∈fp,pe X pins H b)(ho:∀b∈fp,∃o,s.heap.get? b=some o/\∀v,o.data≠.cell v):bN X (pins++tz fp s.heap) σ H s:=
 I.pins_of λp hp=>(aB.mp hp).elim (λz=>I.pin p (aQ _ z)) λz=>by
  obtain⟨hb,e⟩:=Dg z
  obtain⟨f0,f1,f2,_⟩:=hf p.1 hb
  obtain⟨o,e',d⟩:=ho p.1 hb
  rw[e] at e';cases e'
  exact⟨e,f0,f1,f2,d⟩
theorem bN.unpinned{pins pl:List (Addr×Obj)}{σ:St}{H:Hp}{s:Shared}(I:bN X (pins++pl) σ H s):bN X pins σ H s:=I.pins_of λp hp=>I.pin p (aQ _ (bh _ hp))
theorem KK{iter:Expr}{body:List Stmt}{wi:TI}{g:TG}{tb:TS}{pos:Pos}(hp:PassesOwn (model X.prog X.w) X.A X.env X.xe)(hc:X.calm=true)(hi:PI X tg iter wi)(hg:PG X tg g)(hb:jV X body tb)
  (hs:∀x,foldedSetIterable iter X.env x=pure x:=by intro _;rfl):PS X (.For tg iter body [] pos) (jQ wi g tb):=by
 intro pins s σ H D I h
 refine wpAny_For (fV (hi pins s σ H _ I h) λv s1 h1=>fV h1 λitv s2 h2=>?_) hs
 obtain⟨it,fp,tn,J,H2,e,I2,T,st2,f2,W,⟨m0,w0⟩,turn⟩:=h2
 subst e
 have stat:∀{H':Hp},(∀b∈fp,H' b=none)->∀b∈fp,pe X pins H' b:=λhn b hb=>⟨hn b hb,(f2 b hb).2⟩
 refine codeAny_forLoop_any (λn s'=>∃i σ' H',bN X pins σ' H' s'/\tn i s'.heap/\(∀b∈fp,H' b=none)/\W i n σ' H') ?_ m0 ⟨0,σ,H2,I2,st2,λb hb=>(f2 b hb).1,w0⟩
 rintro n s3 ⟨i,σ3,H3,I3,st3,fr3,w3⟩
 rcases turn i n σ3 H3 w3 with⟨stop,qn⟩|⟨go,N,hN,step⟩
 ·refine wpAny_passesOwn hp (fV (T.done X rfl rfl rfl hc i pins s3 σ3 H3 X.xe I3 (stat fr3) st3 stop) λr s4 ⟨hr,I4⟩=>?_)
  subst hr
  exact wpAny_execs_nil ⟨σ3,H3,I4,qn⟩
 ·refine wpAny_passesOwn hp (fV (T.item X rfl rfl rfl hc i pins s3 σ3 H3 X.xe I3 (stat fr3) st3 go) λr s4 ⟨u,hr,h4⟩=>?_)
  subst hr
  refine wpAny_passesOwn hp (fV h4 λ_ s5 ⟨x,H5,I5,r5,y5,st5,fr5⟩=>?_)
  have I5':=I5.pinned (stat fr5) (T.obj _ _ st5)
  refine wpAny_passesOwn hp (fV (hg _ s5 σ3 H5 x u _ I5' r5 (step x H5 y5)) λ_ s6 ⟨σ6,H6,I6,q6⟩=>?_)
  refine wpAny_passesOwn hp (fV (hb _ s6 σ6 H6 _ I6 q6) λf s7 q7=>?_)
  have again:∀{σ7:St} {H7:Hp},bN X (pins++tz fp s5.heap) σ7 H7 s7->N σ7 H7->∃m,m<n/\∃i σ' H',bN X pins σ' H' s7/\tn i s7.heap/\(∀b∈fp,H' b=none)/\W i m σ' H':=λ{σ7 H7} I7 n7=>by
   obtain⟨m',hm,w7⟩:=hN σ7 H7 n7
   refine⟨m',hm,i+1,σ7,H7,I7.unpinned,T.keep _ _ _ st5 λb hb o e=>(I7.pin (b,o) (aQ _ (aQ _ (my hb e)))).1,λb hb=>?_,w7⟩
   obtain⟨o,e,d⟩:=T.obj _ _ st5 b hb
   exact(I7.pin (b,o) (aQ _ (aQ _ (my hb e)))).2.1
  cases f with
  |next=>obtain⟨σ7,H7,I7,n7⟩:=q7;exact again I7 n7
  |cont=>obtain⟨σ7,H7,I7,n7⟩:=q7;exact again I7 n7
  |brk=>obtain⟨σ7,H7,I7,q7⟩:=q7;exact⟨σ7,H7,I7.unpinned,q7⟩
  |ret v=>obtain⟨x7,σ7,H7,I7,r7,q7⟩:=q7;exact⟨x7,σ7,H7,I7.unpinned,r7,q7⟩
end
theorem ib{K:Fg}{a:Addr}{xs:List V}{g:TG}{tb:TS}{D:og}{σ:St}{H:Hp}(Pv:Nat->St->Hp->Prop)(h0:Pv 0 σ H)(hl:∀i σ H,i<=xs.length->Pv i σ H->ce K H a xs)
  (hs:∀i x σ H,xs[i]?=some x->Pv i σ H->g x σ H λσ2 H2=>tb {D with nx:=Pv (i+1),ct:=Pv (i+1),bk:=D.nx} σ2 H2) (hd:∀σ H,Pv xs.length σ H->D.nx σ H) :
  ∃W:Nat->Nat->St->Hp->Prop,(∃m,W 0 m σ H)/\∀i m σ H,W i m σ H->
   ((Jf K a).stop i H/\D.nx σ H)\/((Jf K a).go i H/\∃N:St->Hp->Prop,(∀σ' H',N σ' H'->∃m',m'<m/\W (i+1) m' σ' H')/\∀x H',(Jf K a).yld i H x H'->g x σ H' λσ2 H2=>tb {D with nx:=N,ct:=N,bk:=D.nx} σ2 H2):=by
 refine⟨λi m σ H=>m=xs.length-i/\i<=xs.length/\Pv i σ H,⟨xs.length,by simp,bF _,h0⟩,?_⟩
 rintro i m σ H ⟨rfl,hi,p⟩
 have q:=hl i σ H hi p
 by_cases hlt:i<xs.length
 ·refine .inr ⟨⟨xs,xs[i],q,by simp[hlt]⟩,Pv (i+1),λσ' H' p'=>⟨xs.length-(i+1),by lia,rfl,hlt,p'⟩,λx H' y=>?_⟩
  obtain⟨e,y⟩:=y
  subst e
  exact hs i x σ _ (y xs q) p
 ·have e:i=xs.length:=by lia
  subst e
  exact .inl ⟨⟨xs,q,aw _⟩,hd σ H p⟩
theorem kR{K:Fg}{a:Addr}{xs:List V}{g:TG}{tb:TS}{D:og}{σ:St}{H:Hp}(Pv:Nat->St->Hp->Prop)(h0:Pv 0 σ H)(hl:∀i σ H,i<=xs.length->Pv i σ H->dZ K H a xs)
  (hs:∀i x σ H,xs[i]?=some x->Pv i σ H->g x σ H λσ2 H2=>tb {D with nx:=Pv (i+1),ct:=Pv (i+1),bk:=D.nx} σ2 H2) (hd:∀σ H,Pv xs.length σ H->D.nx σ H) :
  ∃W:Nat->Nat->St->Hp->Prop,(∃m,W 0 m σ H)/\∀i m σ H,W i m σ H->
   ((Jg K a).stop i H/\D.nx σ H)\/((Jg K a).go i H/\∃N:St->Hp->Prop,(∀σ' H',N σ' H'->∃m',m'<m/\W (i+1) m' σ' H')/\∀x H',(Jg K a).yld i H x H'->g x σ H' λσ2 H2=>tb {D with nx:=N,ct:=N,bk:=D.nx} σ2 H2):=by
 refine⟨λi m σ H=>m=xs.length-i/\i<=xs.length/\Pv i σ H,⟨xs.length,by simp,bF _,h0⟩,?_⟩
 rintro i m σ H ⟨rfl,hi,p⟩
 have q:=hl i σ H hi p
 by_cases hlt:i<xs.length
 ·refine .inr ⟨⟨xs,xs[i],q,by simp[hlt]⟩,Pv (i+1),λσ' H' p'=>⟨xs.length-(i+1),by lia,rfl,hlt,p'⟩,λx H' y=>?_⟩
  obtain⟨e,y⟩:=y
  subst e
  exact hs i x σ _ (y xs q) p
 ·have e:i=xs.length:=by lia
  subst e
  exact .inl ⟨⟨xs,q,aw _⟩,hd σ H p⟩
theorem lE{lo:Int}{n:Nat}{g:TG}{tb:TS}{D:og}{σ:St}{H:Hp}(Pv:Nat->St->Hp->Prop)(h0:Pv 0 σ H)
  (hs:∀i σ H,i<n->Pv i σ H->g (.int (lo+i)) σ H λσ2 H2=>tb {D with nx:=Pv (i+1),ct:=Pv (i+1),bk:=D.nx} σ2 H2) (hd:∀σ H,Pv n σ H->D.nx σ H) :
  ∃W:Nat->Nat->St->Hp->Prop,(∃m,W 0 m σ H)/\∀i m σ H,W i m σ H->
   ((GD lo n).stop i H/\D.nx σ H)\/((GD lo n).go i H/\∃N:St->Hp->Prop,(∀σ' H',N σ' H'->∃m',m'<m/\W (i+1) m' σ' H')/\∀x H',(GD lo n).yld i H x H'->g x σ H' λσ2 H2=>tb {D with nx:=N,ct:=N,bk:=D.nx} σ2 H2):=by
 refine⟨λi m σ H=>m=n-i/\i<=n/\Pv i σ H,⟨n,by simp,bF _,h0⟩,?_⟩
 rintro i m σ H ⟨rfl,hi,p⟩
 by_cases hlt:i<n
 ·refine .inr ⟨hlt,Pv (i+1),λσ' H' p'=>⟨n-(i+1),by lia,rfl,hlt,p'⟩,λx H' y=>?_⟩
  obtain⟨e,y⟩:=y
  subst e y
  exact hs i σ _ hlt p
 ·have e:i=n:=by lia
  subst e
  exact .inl ⟨aw _,hd σ H p⟩
abbrev R2:=V->V->Hp->VK->Prop
def jM(X:Cx)(f:Value->Value->Sem Value)(r:R2):Prop:=
 ∀(pins:List (Addr×Obj)) (s:Shared) (σ:St) (H:Hp) (x y:V) (v u:Value) (Q:VK),bN X pins σ H s->cy x v->cy y u->r x y H Q->
  wpAny (model X.prog X.w) X.A (f v u) (EP X pins σ Q) X.xe s
def Mj(X:Cx)(f:Value->Sem Value)(r:V->Hp->VK->Prop):Prop:=
 ∀(pins:List (Addr×Obj)) (s:Shared) (σ:St) (H:Hp) (x:V) (v:Value) (Q:VK),bN X pins σ H s->cy x v->r x H Q->
  wpAny (model X.prog X.w) X.A (f v) (EP X pins σ Q) X.xe s
def ja(X:Cx)(f:Value)(r:List V->Hp->VK->Prop):Prop:=
 ∀(pins:List (Addr×Obj)) (s:Shared) (σ:St) (H:Hp) (xs:List V) (us:List Value) (Q:VK),bN X pins σ H s->cv xs us->r xs H Q->
  wpAny (model X.prog X.w) X.A (call f us) (EP X pins σ Q) X.xe s
def bA(r:R2)(ta tb:TE):TE:=λσ H Q=>ta σ H λx H1=>tb σ H1 λy H2=>r x y H2 Q
def Mo(r:V->Hp->VK->Prop)(ta:TE):TE:=λσ H Q=>ta σ H λx H1=>r x H1 Q
def rI(C:Int->Int->Prop)(g:Int->Int->V):R2:=λx y H Q=>∃i j,x=.int i/\y=.int j/\C i j/\Q (g i j) H
def Gy(g:Int->Int->V):R2:=λx y H Q=>∃i j,x=.int i/\y=.int j/\Q (g i j) H
def rU(g:Int->V):V->Hp->VK->Prop:=λx H Q=>∃i,x=.int i/\Q (g i) H
section
variable{X:Cx}{a b c:Expr}{ta tb tc:TE}{pos:Pos}
theorem JK(ha:PE X a ta)(hb:PE X b tb){pins:List (Addr×Obj)}{s:Shared}{σ:St}{H:Hp}{R:V->V->Hp->Prop}(I:bN X pins σ H s)
  (h:ta σ H λx H1=>tb σ H1 λy H2=>R x y H2) {Q:Value->Shared->Prop} {f:Value->Value->Sem Value}
  (hf:∀v u s2 x y H2,bN X pins σ H2 s2->cy x v->cy y u->R x y H2->wpAny (model X.prog X.w) X.A (f v u) Q X.xe s2) :
  wpAny (model X.prog X.w) X.A (eval a X.env) (λv s₁=>wpAny (model X.prog X.w) X.A (eval b X.env) (λu s₂=>wpAny (model X.prog X.w) X.A (f v u) Q X.xe s₂) X.xe s₁) X.xe s:=by
 refine fV (ha pins s σ H _ I h) λv s1 ⟨x,H1,I1,r1,q1⟩=>?_
 refine fV (hb pins s1 σ H1 _ I1 q1) λu s2 ⟨y,H2,I2,r2,q2⟩=>?_
 exact hf v u s2 x y H2 I2 r1 r2 q2
theorem LV{op:Operator}{r:R2}(ho:jM X (binaryOp op) r)(ha:PE X a ta)(hb:PE X b tb):PE X (.BinOp a op b pos) (bA r ta tb):=by
 intro pins s σ H Q I h
 exact wpAny_BinOp (JK ha hb I h λv u s2 x y H2 I2 rx ry q=>ho pins s2 σ H2 x y v u Q I2 rx ry q)
theorem LW{op:UnaryOp}{r:V->Hp->VK->Prop}(ho:Mj X (unaryOp op) r)(ha:PE X a ta):PE X (.UnaryOp op a pos) (Mo r ta):=by
 intro pins s σ H Q I h
 exact UnaryOp_ (fV (ha pins s σ H _ I h) λv s1 ⟨x,H1,I1,r1,q1⟩=>ho pins s1 σ H1 x v Q I1 r1 q1)
theorem Mn{f:Value->Value->Sem Value}{C:Int->Int->Prop}{g:Int->Int->Int}
  (rule:∀(i j:Int) (t u:Tok) (s:Shared) (Q:Value->Shared->Prop) (E:Value->Shared->Prop),C i j->Q (.int (g i j) s.toks) {s with toks:=s.toks+1}->wpAny (model X.prog X.w) X.A (f (.int i t) (.int j u)) Q E s) :
  jM X f (rI C λi j=>.int (g i j)):=by
 intro pins s σ H x y v u Q I rx ry h
 obtain⟨i,j,rfl,rfl,hc,q⟩:=h
 obtain⟨t,rfl⟩:=rx
 obtain⟨t',rfl⟩:=ry
 exact rule i j t t' s _ _ hc ⟨.int (g i j),H,I.tok _,⟨_,rfl⟩,q⟩
theorem LO{f:Value->Value->Sem Value}{g:Int->Int->Int}
  (rule:∀(i j:Int) (t u:Tok) (s:Shared) (Q:Value->Shared->Prop) (E:Value->Shared->Prop),Q (.int (g i j) s.toks) {s with toks:=s.toks+1}->wpAny (model X.prog X.w) X.A (f (.int i t) (.int j u)) Q E s) :
  jM X f (Gy λi j=>.int (g i j)):=by
 intro pins s σ H x y v u Q I rx ry h
 obtain⟨i,j,rfl,rfl,q⟩:=h
 obtain⟨t,rfl⟩:=rx
 obtain⟨t',rfl⟩:=ry
 exact rule i j t t' s _ _ ⟨.int (g i j),H,I.tok _,⟨_,rfl⟩,q⟩
theorem LN{f:Value->Value->Sem Value}{g:Int->Int->Bool}
  (rule:∀(i j:Int) (t u:Tok) (s:Shared) (Q:Value->Shared->Prop) (E:Value->Shared->Prop),Q (.bool (g i j)) s->wpAny (model X.prog X.w) X.A (f (.int i t) (.int j u)) Q E s) :
  jM X f (Gy λi j=>.bl (g i j)):=by
 intro pins s σ H x y v u Q I rx ry h
 obtain⟨i,j,rfl,rfl,q⟩:=h
 obtain⟨t,rfl⟩:=rx
 obtain⟨t',rfl⟩:=ry
 exact rule i j t t' s _ _ ⟨.bl (g i j),H,I,rfl,q⟩
def Lp(i j:Int):Prop:=0<j/\j<1073741824
def Lq(i j:Int):Prop:=0<=j/\j<=1000000/\i.natAbs<2 ^ 64
def GA(i j:Int):Prop:=(-(2 ^ 64)<i/\i<2 ^ 64)\/(-(2 ^ 64)<j/\j<2 ^ 64)
theorem GA.ok{i j:Int}(h:GA i j):IntMulOk i j:=by
 rcases h with⟨h1,h2⟩|⟨h1,h2⟩
 ·exact .of_left (intBits_le_64 h1 h2)
 ·exact .of_right (intBits_le_64 h1 h2)
theorem Kf:jM X (binaryOp .Add) (Gy λi j=>.int (i+j)):=LO λ_ _ _ _ _ _ _ q=>add_int q
theorem qI:jM X (binaryOp .Sub) (Gy λi j=>.int (i-j)):=LO λ_ _ _ _ _ _ _ q=>sub_int q
theorem Km:jM X (binaryOp .Mult) (rI GA λi j=>.int (i*j)):=Mn λ_ _ _ _ _ _ _ hc q=>mul_int q hc.ok
theorem wC:jM X (binaryOp .FloorDiv) (rI Lp λi j=>.int (i / j)):=Mn λi j _ _ _ _ _ hc q=>by
 have h1:(0:Int)<j:=hc.1
 have h2:j<1073741824:=hc.2
 exact floordiv_int (by lia) (by rw[Int.fdiv_eq_ediv_of_nonneg i (by lia)];exact q) (.inl (PyProof.noPylong_small (by lia)))
theorem ji:jM X (binaryOp .Mod) (rI (λ_ j=>0<j) λi j=>.int (i % j)):=Mn λi j _ _ _ _ _ hc q=>by
 have h1:(0:Int)<j:=hc
 exact mod_int' (by lia) (by rw[Int.fmod_eq_emod_of_nonneg i (by lia)];exact q)
theorem wD:jM X (binaryOp .Pow) (rI Lq λi j=>.int (i ^ j.toNat)):=Mn λ_ _ _ _ _ _ _ hc q=>pow_int_small hc.1 hc.2.1 hc.2.2 q
theorem M8{f:Value->Sem Value}{g:Int->Int}
  (rule:∀(i:Int) (t:Tok) (s:Shared) (Q:Value->Shared->Prop) (E:Value->Shared->Prop),Q (.int (g i) s.toks) {s with toks:=s.toks+1}->wpAny (model X.prog X.w) X.A (f (.int i t)) Q E s) :
  Mj X f (rU λi=>.int (g i)):=by
 intro pins s σ H x v Q I rx h
 obtain⟨i,rfl,q⟩:=h
 obtain⟨t,rfl⟩:=rx
 exact rule i t s _ _ ⟨.int (g i),H,I.tok _,⟨_,rfl⟩,q⟩
theorem Gp:Mj X (unaryOp .USub) (rU λi=>.int (-i)):=M8 λ_ _ _ _ _ q=>neg_int q
end
def Lb:V->V->Bool
 |.non,.non=>true|.non,.int _=>true|.int _,.non=>true|.non,.bl _=>true|.bl _,.non=>true|.non,.str _=>true|.str _,.non=>true
 |.int _,.int _=>true|.bl _,.bl _=>true|.str _,.str _=>true|.byt _,.byt _=>true
 |.int _,.str _=>true|.str _,.int _=>true|.bl _,.str _=>true|.str _,.bl _=>true
 |_,_=>false
def MU:R2:=λx y H Q=>Lb x y=true/\Q (.bl (decide (x=y))) H
def MV:R2:=λx y H Q=>Lb x y=true/\Q (.bl (!decide (x=y))) H
theorem Bh{i j:Int}:decide (V.int i=V.int j)=(i==j):=by
 rw[Bool.eq_iff_iff]
 simp
theorem Eo{i j:Bool}:decide (V.bl i=V.bl j)=(i==j):=by
 rw[Bool.eq_iff_iff]
 simp
theorem Bi{i j:Str}:decide (V.str i=V.str j)=(i==j):=by
 rw[Bool.eq_iff_iff]
 simp
theorem Bf{i j:Array UInt8}:decide (V.byt i=V.byt j)=(i.toList==j.toList):=by
 rw[Bool.eq_iff_iff]
 cases i
 cases j
 simp
section
variable{X:Cx}{a b c:Expr}{ta tb tc:TE}{pos:Pos}
theorem dr{pins:List (Addr×Obj)}{σ:St}{H:Hp}{s:Shared}{Q:VK}{k k':Bool}(I:bN X pins σ H s)(q:Q (.bl k) H)(e:k=k'):EP X pins σ Q (.bool k') s:=by
 subst e
 exact⟨.bl k,H,I,rfl,q⟩
theorem LP:jM X (compareOp .Eq) MU:=by
 intro pins s σ H x y v u Q I rx ry h
 obtain⟨hs,q⟩:=h
 cases x with
 |non=>
  cases rx
  cases y with
  |non=>cases ry;exact PySem.EqNone.eq_none_none (dr I q (by simp))
  |bl j=>cases ry;exact PySem.EqNone.eq_none_bool (dr I q (by simp))
  |int j=>obtain⟨t',rfl⟩:=ry;exact PySem.EqNone.eq_none_int (dr I q (by simp))
  |str j=>obtain⟨t',rfl⟩:=ry;exact PySem.EqNone.eq_none_str (dr I q (by simp))
  |_=>exact absurd (show false=true from hs) Bool.false_ne_true
 |bl i=>
  cases rx
  cases y with
  |non=>cases ry;exact PySem.EqNone.eq_bool_none (dr I q (by simp))
  |bl j=>cases ry;exact eq_bool (dr I q Eo)
  |str j=>obtain⟨t',rfl⟩:=ry;exact PySem.EqMixed.eq_bool_str (dr I q (by simp))
  |_=>exact absurd (show false=true from hs) Bool.false_ne_true
 |int i=>
  obtain⟨t,rfl⟩:=rx
  cases y with
  |non=>cases ry;exact PySem.EqNone.eq_int_none (dr I q (by simp))
  |int j=>obtain⟨t',rfl⟩:=ry;exact eq_int (dr I q Bh)
  |str j=>obtain⟨t',rfl⟩:=ry;exact PySem.EqMixed.eq_int_str (dr I q (by simp))
  |_=>exact absurd (show false=true from hs) Bool.false_ne_true
 |str i=>
  obtain⟨t,rfl⟩:=rx
  cases y with
  |non=>cases ry;exact PySem.EqNone.eq_str_none (dr I q (by simp))
  |bl j=>cases ry;exact PySem.EqMixed.eq_str_bool (dr I q (by simp))
  |int j=>obtain⟨t',rfl⟩:=ry;exact PySem.EqMixed.eq_str_int (dr I q (by simp))
  |str j=>obtain⟨t',rfl⟩:=ry;exact eq_str (dr I q Bi)
  |_=>exact absurd (show false=true from hs) Bool.false_ne_true
 |byt i=>
  obtain⟨t,rfl⟩:=rx
  cases y with
  |byt j=>obtain⟨t',rfl⟩:=ry;exact PySem.W.eq_bytes (dr I q Bf)
  |_=>exact absurd (show false=true from hs) Bool.false_ne_true
 |_=>cases y<;>exact absurd (show false=true from hs) Bool.false_ne_true
theorem LQ:jM X (compareOp .NotEq) MV:=by
 intro pins s σ H x y v u Q I rx ry h
 obtain⟨hs,q⟩:=h
 cases x with
 |non=>
  cases rx
  cases y with
  |non=>cases ry;exact PySem.EqNone.ne_none_none (dr I q (by simp))
  |bl j=>cases ry;exact PySem.EqNone.ne_none_bool (dr I q (by simp))
  |int j=>obtain⟨t',rfl⟩:=ry;exact PySem.EqNone.ne_none_int (dr I q (by simp))
  |str j=>obtain⟨t',rfl⟩:=ry;exact PySem.EqNone.ne_none_str (dr I q (by simp))
  |_=>exact absurd (show false=true from hs) Bool.false_ne_true
 |bl i=>
  cases rx
  cases y with
  |non=>cases ry;exact PySem.EqNone.ne_bool_none (dr I q (by simp))
  |bl j=>cases ry;exact ne_bool (dr I q (congrArg not Eo))
  |str j=>obtain⟨t',rfl⟩:=ry;exact PySem.EqMixed.ne_bool_str (dr I q (by simp))
  |_=>exact absurd (show false=true from hs) Bool.false_ne_true
 |int i=>
  obtain⟨t,rfl⟩:=rx
  cases y with
  |non=>cases ry;exact PySem.EqNone.ne_int_none (dr I q (by simp))
  |int j=>obtain⟨t',rfl⟩:=ry;exact ne_int (dr I q (congrArg not Bh))
  |str j=>obtain⟨t',rfl⟩:=ry;exact PySem.EqMixed.ne_int_str (dr I q (by simp))
  |_=>exact absurd (show false=true from hs) Bool.false_ne_true
 |str i=>
  obtain⟨t,rfl⟩:=rx
  cases y with
  |non=>cases ry;exact PySem.EqNone.ne_str_none (dr I q (by simp))
  |bl j=>cases ry;exact PySem.EqMixed.ne_str_bool (dr I q (by simp))
  |int j=>obtain⟨t',rfl⟩:=ry;exact PySem.EqMixed.ne_str_int (dr I q (by simp))
  |str j=>obtain⟨t',rfl⟩:=ry;exact ne_str (dr I q (congrArg not Bi))
  |_=>exact absurd (show false=true from hs) Bool.false_ne_true
 |byt i=>
  obtain⟨t,rfl⟩:=rx
  cases y with
  |byt j=>obtain⟨t',rfl⟩:=ry;exact PySem.W.ne_bytes (dr I q (congrArg not Bf))
  |_=>exact absurd (show false=true from hs) Bool.false_ne_true
 |_=>cases y<;>exact absurd (show false=true from hs) Bool.false_ne_true
theorem q4:jM X (compareOp .Lt) (Gy λi j=>.bl (decide (i<j))):=LN λ_ _ _ _ _ _ _ q=>lt_int q
theorem Bv:jM X (compareOp .Gt) (Gy λi j=>.bl (decide (j<i))):=LN λ_ _ _ _ _ _ _ q=>gt_int q
theorem Kl:jM X (compareOp .Is) (λx y H Q=>y=.non/\Q (.bl (decide (x=.non))) H):=by
 intro pins s σ H x y v u Q I rx ry h
 obtain⟨rfl,q⟩:=h
 cases ry
 refine is_none_gen (dr I q ?_)
 cases x<;>first
  |(cases rx;rfl)
  |(obtain⟨t,rfl⟩:=rx;rfl)
theorem jM.or{f:Value->Value->Sem Value}{r r':R2}(h:jM X f r)(h':jM X f r'):jM X f (λx y H Q=>r x y H Q\/r' x y H Q):=by
 intro pins s σ H x y v u Q I rx ry q
 rcases q with q|q
 ·exact h pins s σ H x y v u Q I rx ry q
 ·exact h' pins s σ H x y v u Q I rx ry q
theorem HB{op:CmpOp}{r:R2}(ho:jM X (compareOp op) r)(ha:PE X a ta)(hb:PE X b tb)(hm:behindInMarks op b=false):PE X (.Compare a [op] [b] pos) (bA r ta tb):=by
 intro pins s σ H Q I h
 exact wpAny_Compare1 (JK ha hb I h λv u s2 x y H2 I2 rx ry q=>ho pins s2 σ H2 x y v u Q I2 rx ry q) hm
def cb(t:TE):TT:=λσ H Q=>t σ H λx H'=>∃k,x=.bl k/\Q k H'
theorem Ie{op:CmpOp}{r:R2}(ho:jM X (compareOp op) r)(ha:PE X a ta)(hb:PE X b tb)(hm:behindInMarks op b=false):PT X (.Compare a [op] [b] pos) (cb (bA r ta tb)):=by
 intro pins s σ H Q I h
 refine wpAny_isTrue_Compare1 (fV (ha pins s σ H _ I h) λv s1 ⟨x,H1,I1,r1,q1⟩=>fV (hb pins s1 σ H1 _ I1 q1) λu s2 ⟨y,H2,I2,r2,q2⟩=>
  fV (ho pins s2 σ H2 x y v u _ I2 r1 r2 q2) λc s3 ⟨z,H3,I3,r3,k,e,q3⟩=>?_) hm
 subst e
 cases r3
 exact wpAny_truthy_bool ⟨H3,I3,q3⟩
theorem sX:(sizeLine:Nat)<2 ^ 63:=by rw[sizeLine_eq];decide
theorem Al:jM X (binaryOp .Add) (λx y H Q=>∃i j,x=.str i/\y=.str j/\i.length+j.length<=sizeLine/\Q (.str (i++j)) H):=by
 intro pins s σ H x y v u Q I rx ry h
 obtain⟨i,j,rfl,rfl,hz,q⟩:=h
 obtain⟨t,rfl⟩:=rx
 obtain⟨t',rfl⟩:=ry
 exact add_str (λt' tk=>⟨.str (i++j),H,I.tok _,⟨_,rfl⟩,q⟩) hz
theorem m5{x:V}{us:List Value}(r:cv [x] us):∃u,us=[u]/\cy x u:=by
 cases r with
 |cons r1 r2=>cases r2;exact⟨_,rfl,r1⟩
theorem zi{x y:V}{us:List Value}(r:cv [x,y] us):∃u w',us=[u,w']/\cy x u/\cy y w':=by
 cases r with
 |cons r1 r2=>
  cases r2 with
  |cons r3 r4=>cases r4;exact⟨_,_,rfl,r1,r3⟩
theorem Cs(hc:X.calm=true):ja X (.builtin "max") (λxs H Q=>∃i j,xs=[.int i,.int j]/\Q (.int (if j>i then j else i)) H):=by
 intro pins s σ H xs us Q I r h
 obtain⟨i,j,rfl,q⟩:=h
 obtain⟨u,w',rfl,⟨t,rfl⟩,⟨t',rfl⟩⟩:=zi r
 refine max_two_ints (I.ok.hd hc) λh' tk k=>⟨_,H,I.kept k,?_,q⟩
 by_cases hj:j>i
 ·rw[if_pos hj,if_pos hj];exact⟨_,rfl⟩
 ·rw[if_neg hj,if_neg hj];exact⟨_,rfl⟩
theorem Ct(hc:X.calm=true):ja X (.builtin "min") (λxs H Q=>∃i j,xs=[.int i,.int j]/\Q (.int (if j<i then j else i)) H):=by
 intro pins s σ H xs us Q I r h
 obtain⟨i,j,rfl,q⟩:=h
 obtain⟨u,w',rfl,⟨t,rfl⟩,⟨t',rfl⟩⟩:=zi r
 refine min_two_ints (I.ok.hd hc) λh' tk k=>⟨_,H,I.kept k,?_,q⟩
 by_cases hj:j<i
 ·rw[if_pos hj,if_pos hj];exact⟨_,rfl⟩
 ·rw[if_neg hj,if_neg hj];exact⟨_,rfl⟩
theorem nR:ja X (.type "int") (λxs H Q=>(∃i,xs=[.int i]/\Q (.int i) H)\/∃k,xs=[.bl k]/\Q (.int (if k then 1 else 0)) H):=by
 intro pins s σ H xs us Q I r h
 rcases h with⟨i,rfl,q⟩|⟨k,rfl,q⟩
 ·obtain⟨u,rfl,t,rfl⟩:=m5 r
  exact call_int_int ⟨.int i,H,I,⟨_,rfl⟩,q⟩
 ·obtain⟨u,rfl,r1⟩:=m5 r
  cases r1
  exact call_int_bool ⟨.int (if k then 1 else 0),H,I.tok _,⟨_,rfl⟩,q⟩
def Lw(K:Fg)(x:V)(H:Hp)(n:Nat):Prop:=
 match x with
 |.str y=>y.length<=sizeLine/\n=y.length
 |.byt y=>y.size<=sizeLine/\n=y.size
 |.ref p=>(∃xs,ce K H p xs/\n=xs.length)\/∃xs,dZ K H p xs/\n=xs.length
 |_=>False
theorem cL:ja X (.builtin "len") (λxs H Q=>∃x n,xs=[x]/\Lw X.K x H n/\Q (.int n) H):=by
 intro pins s σ H xs us Q I r h
 obtain⟨x,n,rfl,e,q⟩:=h
 obtain⟨u,rfl,rx⟩:=m5 r
 have hl:=sX
 have hs:sizeLine=16777216:=sizeLine_eq
 cases x with
 |str y=>
  obtain⟨t,rfl⟩:=rx
  obtain⟨hy,e'⟩:y.length<=sizeLine/\n=y.length:=e
  subst e'
  exact len_str (by lia) ⟨.int _,H,I.tok _,⟨_,rfl⟩,q⟩
 |byt y=>
  obtain⟨t,rfl⟩:=rx
  obtain⟨hy,e'⟩:y.size<=sizeLine/\n=y.size:=e
  subst e'
  exact PySem.W.len_bytes (by lia) ⟨.int _,H,I.tok _,⟨_,rfl⟩,q⟩
 |ref p=>
  cases rx
  have e':(∃xs,ce X.K H p xs/\n=xs.length)\/∃xs,dZ X.K H p xs/\n=xs.length:=e
  rcases e' with⟨xs,hx,e'⟩|⟨xs,hx,e'⟩
  ·subst e'
   obtain⟨its,r',pl,hz⟩:=I.list hx
   have hlen:=r'.length
   exact Calls.call_len_list pl.isList (by simp only[ak];lia) ⟨.int xs.length,H,I.tok _,⟨_,by simp only[ak];rw[hlen]⟩,q⟩
  ·subst e'
   obtain⟨its,r',pl,hz⟩:=I.tuple hx
   have hlen:=r'.length
   exact len_tuple pl (by simp only[ak];lia) ⟨.int xs.length,H,I.tok _,⟨_,by simp only[ak];rw[hlen]⟩,q⟩
 |_=>exact(show False from e).elim
end
structure Cn(h:Heap)(x dx C:Addr)(mA:Str->Option Value):Prop where
 obj:h.get? x=some (eE C dx)
 ns:h.Ns1 dx mA
 ne:dx≠x
theorem Dc{h:Heap}{dx:Addr}{mA:Str->Option Value}(n:h.Ns1 dx mA):∃od,h.get? dx=some od/\∀name,m8 name od=some (mA name):=by
 obtain⟨o,es,ep,ho,hd,hk,_,hm⟩:=n
 refine⟨o,ho,λname=>?_⟩
 have e:=hm name
 unfold nsFind findBy at e
 rw[<-Array.find?_toList] at e
 unfold m8
 rw[hd]
 dsimp only
 split
 ·rename_i y q
  rw[q] at e
  exact congrArg some e
 ·rename_i q
  rw[q] at e
  have a:es.toList.any (·.refKey)=false:=by
   rw[List.any_eq_false]
   intro y hy
   obtain⟨z,t,hkey⟩:=hk y (Array.mem_toList_iff.mp hy)
   simp[DictEntry.refKey,hkey]
  have a':¬es.toList.any (·.refKey)=true:=by rw[a];exact Bool.false_ne_true
  rw[if_neg a']
  exact congrArg some e
theorem Cn.look{h:Heap}{x dx C:Addr}{mA:Str->Option Value}(I:Cn h x dx C mA):∃od,PySem.W.InstAt h x (eE C dx) C (some od)/\∀name,m8 name od=some (mA name):=
 let⟨od,ho,hl⟩:=Dc I.ns
 ⟨od,⟨I.obj,rfl,rfl,ho⟩,hl⟩
section
variable{prog:Program}{w:World}{A:Around}{E:Value->Shared->Prop}{s:Shared}{K:Fg}{x dx C f:Addr}{mA:Str->Option Value}{name:Str}{v:Value}
theorem G2{expr:Bool}{Q:Value->Shared->Prop}(X:K.In s.heap)(I:Cn s.heap x dx C mA)(hg:jc K C name=true)(hh:iP K C=true)
  (ha:cu K (.ref C) name=some none) (hv:mA name=some v) (hv':PySem.W.handedIn v=true) (h:Q v {s with toks:=s.toks+1}) :
  wpAny (model prog w) A (getAttr (.ref x) name expr) Q E s:=by
 obtain⟨od,J,hl⟩:=I.look
 exact PySem.W.get_value X J (PySem.W.plainGet_of hg).1 (PySem.W.findObj_own hh ha rfl (by rw[hl,hv])) hv' h
theorem IK{ns:List Str}{Q:Unit->Shared->Prop}(X:K.In s.heap)(I:Cn s.heap x dx C mA)
  (hs:cu K (.ref C) "__setattr__"=some (some (.builtin "object.__setattr__"))) (hp:kJ K C=true) (ht:mW K C name=some none) (hh:iP K C=true)
  (hw:PySem.Within mA ns) (hsz:ns.length<=sizeLine)
  (h:∀h',Cn h' x dx C (λy=>if y=name then some v else mA y)->Heap.SameBut dx s.heap h'->Q () {s with heap:=h',toks:=s.toks+2}) :
  wpAny (model prog w) A (setAttr (.ref x) name v) Q E s:=by
 obtain⟨od,J,hl⟩:=I.look
 refine PySem.W.set_plain X J hs (PySem.W.osa_open (s:={s with toks:=s.toks+1}) (r:=none) X J hp ht λb=>?_)
 obtain⟨cd,hc,hd'⟩:=PySem.W.any_some hh
 have hx:s.heap.get? x=some ⟨.ref C,some dx,.plain,#[]⟩:=I.obj
 refine wpAny_bind (wpAny_pure (wpAny_bind (wpAny_bind (wpAny_loadPart hx (wpAny_bind (PySem.W.Looks.here (s:={s with toks:=s.toks+1}) (PySem.W.looks_clsIn X hc) ?_))))))
 rw[hd']
 refine wpAny_pure (a:=some dx) (wpAny_bind (wpAny_pure (wpAny_bind ?_)))
 refine wpAny_nsSet1 (s:={s with toks:=s.toks+1}) I.ns λh' hn2 hs2=>?_
 obtain⟨oD,esD,epD,hoD,hdD,hcD⟩:=hn2.count (PySem.Within.cons name v hw)
 refine wpAny_bind (wpAny_lookBehind hoD (by rw[hdD];exact pastItsLine_dict (bn hcD (by rw[bM];lia))) ?_)
 exact wpAny_pure (h _ ⟨(hs2.2 _ (Ne.symm I.ne)).trans I.obj,hn2,I.ne⟩ hs2)
theorem EX{R:Result->Shared->Prop}{vs:List Value}{kw:List (Str×Value)}(X:K.In s.heap)(hm:mV K C=true)
  (hi:cu K (.ref C) "__init__"=some (some (.ref f))) (hf:PySem.W.typeIn K (.ref f)=some (.type "function"))
  (h:codeAny (model prog w) (A.under (.builtin "type.__call__" ⟨.ref C::vs,kw⟩)) (.call (.ref f) ⟨.ref (s.heap.objs.size+1)::vs,kw⟩) (PySem.W.InitBack (s.heap.objs.size+1) R)
   {s with heap:=(s.heap.push df).push (eE C s.heap.objs.size)}) :
  codeAny (model prog w) A (.call (.ref C) ⟨vs,kw⟩) R s:=by
 obtain⟨hh,g,d,t,os⟩:=s
 exact PySem.W.make_core (PySem.W.makes_of X hm) (PySem.W.looks_findIn X hi) (λself=>PySem.W.bind_fn X self hf) (.inl rfl) h
end
def putF(f:Str)(v:V):List (Str×V)->List (Str×V)
 |[]=>[(f,v)]
 |(g,x)::r=>if g=f then(g,v)::r else(g,x)::putF f v r
theorem q0(f g:Str)(v:V):∀fs:List (Str×V),(putF f v fs).lookup g=if g=f then some v else fs.lookup g
 |[]=>by
  show gB g [(f,v)]=_
  by_cases h:g=f
  ·have hb:(g==f)=true:=beq_iff_eq.mpr h
   simp only[gB,hb,if_pos h]
  ·have hb:(g==f)=false:=beq_eq_false_iff_ne.mpr h
   simp only[gB,hb,if_neg h]
 |(k,x)::r=>by
  have ih:=q0 f g v r
  rw[show putF f v ((k,x)::r)=(if k=f then(k,v)::r else(k,x)::putF f v r) from rfl]
  by_cases hk:k=f
  ·rw[if_pos hk]
   by_cases h:g=k
   ·have hb:(g==k)=true:=beq_iff_eq.mpr h
    simp only[gB,hb,if_pos (h.trans hk)]
   ·have hb:(g==k)=false:=beq_eq_false_iff_ne.mpr h
    simp only[gB,hb,if_neg (λe:g=f=>h (e.trans hk.symm))]
  ·rw[if_neg hk]
   by_cases h:g=k
   ·have hb:(g==k)=true:=beq_iff_eq.mpr h
    simp only[gB,hb,if_neg (λe:g=f=>hk (h.symm.trans e))]
   ·have hb:(g==k)=false:=beq_eq_false_iff_ne.mpr h
    simp only[gB,hb]
    exact ih
theorem qD(f:Str)(v:V):∀fs:List (Str×V),f∈(putF f v fs).map (·.1)/\∀g,g∈fs.map (·.1)->g∈(putF f v fs).map (·.1)
 |[]=>⟨by simp[putF],λg h=>by simp at h⟩
 |(k,x)::r=>by
  obtain⟨i1,i2⟩:=qD f v r
  rw[show putF f v ((k,x)::r)=(if k=f then(k,v)::r else(k,x)::putF f v r) from rfl]
  by_cases hk:k=f
  ·rw[if_pos hk]
   subst hk
   exact⟨by simp,λg h=>by simpa using h⟩
  ·rw[if_neg hk]
   refine⟨?_,λg h=>?_⟩
   ·rw[bt]
    exact bx _ i1
   ·rw[bt] at h ⊢
    rcases aJ.mp h with e|e
    ·exact aJ.mpr (.inl e)
    ·exact bx _ (i2 g e)
theorem qZ(f:Str)(v:V):∀fs:List (Str×V),(putF f v fs).length<=fs.length+1
 |[]=>by simp[putF]
 |(k,x)::r=>by
  have ih:=qZ f v r
  rw[show putF f v ((k,x)::r)=(if k=f then(k,v)::r else(k,x)::putF f v r) from rfl]
  by_cases hk:k=f
  ·rw[if_pos hk,bM,bM];lia
  ·rw[if_neg hk,bM,bM];lia
theorem pz.some_of{v:V}{o:Option Value}(r:pz (some v) o):∃u,o=some u/\cy v u:=by
 cases o with
 |none=>exact(show False from r).elim
 |some u=>exact⟨u,rfl,r⟩
theorem CL{v:V}{u:Value}(r:cy v u):PySem.W.handedIn u=true:=by
 cases v with
 |non=>cases(show u=Value.none from r);rfl
 |bl b=>cases(show u=Value.bool b from r);rfl
 |int i=>obtain⟨t,e⟩:=(show ∃t,u=Value.int i t from r);cases e;rfl
 |str x=>obtain⟨t,e⟩:=(show ∃t,u=Value.str x t from r);cases e;rfl
 |byt b=>obtain⟨t,e⟩:=(show ∃t,u=Value.bytes b t from r);cases e;rfl
 |flt b=>obtain⟨t,e⟩:=(show ∃t,u=Value.float b t from r);cases e;rfl
 |ref a=>cases(show u=Value.ref a from r);rfl
 |ty n=>cases(show u=Value.type n from r);rfl
section
variable{P:Program}{w:World}{H H':Hp}{h h':Heap}{a C dx:Addr}{fs fs':List (Str×V)}
theorem Bo(hok:oX P w H h)(e:H a=some (.ins C dx fs)):∃mA,Cn h a dx C mA/\(∀f,pz (fs.lookup f) (mA f))/\PySem.Within mA (fs.map (·.1))/\fs.length<=1000/\H dx=some (.own a):=by
 obtain⟨d,z,ne,ob,mA,n,r,q⟩:=(show fA P w H h a (.ins C dx fs) from hok a _ e)
 exact⟨mA,⟨ob,n,ne⟩,r,q,z,d⟩
end
structure Jd(K:Fg)(C:Addr):Prop where
 pg:jc K C Str.empty=true
 hd:iP K C=true
 po:kJ K C=true
 sa:cu K (.ref C) "__setattr__"=some (some (.builtin "object.__setattr__"))
theorem Jd.get{K:Fg}{C:Addr}(c:Jd K C)(f:Str):jc K C f=true:=c.pg
def jL(K:Fg)(C:Addr)(f:Str):Prop:=cu K (.ref C) f=some none
theorem jL.taker{K:Fg}{C:Addr}{f:Str}(n:jL K C f):mW K C f=some none:=by
 unfold mW
 rw[show cu K (.ref C) f=some none from n]
 rfl
section
variable{X:Cx}{pins:List (Addr×Obj)}{σ:St}{H:Hp}{s:Shared}{a C dx:Addr}{fs:List (Str×V)}{f:Str}{v:V}{A:Around}{E:Value->Shared->Prop}
theorem zP{b:Bool}{Q:Value->Shared->Prop}(I:bN X pins σ H s)(e:H a=some (.ins C dx fs))(c:Jd X.K C)(n:jL X.K C f)(l:fs.lookup f=some v)
  (h:∀u s',bN X pins σ H s'->cy v u->Q u s'):wpAny (model X.prog X.w) A (getAttr (.ref a) f b) Q E s:=by
 obtain⟨mA,O,r,_,_,_⟩:=Bo I.hok e
 obtain⟨u,hu,ru⟩:=pz.some_of (v:=v) (o:=mA f) (by rw[<-l];exact r f)
 exact G2 I.kIn O (c.get f) c.hd n hu (CL ru) (h u _ (I.tok _) ru)
theorem AB{y:V}{u:Value}{Q:Unit->Shared->Prop}(I:bN X pins σ H s)(e:H a=some (.ins C dx fs))(c:Jd X.K C)(n:jL X.K C f)(hl:fs.length<1000)(ry:cy y u)
  (h:∀s',bN X pins σ (upd H a (.ins C dx (putF f y fs))) s'->Q () s'):wpAny (model X.prog X.w) A (setAttr (.ref a) f u) Q E s:=by
 obtain⟨mA,O,r,wi,_,ho⟩:=Bo I.hok e
 have hz:(fs.map (·.1)).length<=sizeLine:=by rw[ab,sizeLine_eq];lia
 refine IK I.kIn O c.sa c.po n.taker c.hd wi hz λh' O' sb=>h _ ?_
 have hd:∃o,h'.get? dx=some o:=let⟨o,_,_,e',_⟩:=O'.ns;⟨o,e'⟩
 refine I.write (x:=a) (e:=dx) (by rw[e];exact True.intro) (.inr ho) (λb q hb z=>(sb.2 b hb).trans z) hd ?_
 refine⟨by rw[ax O.ne];exact ho,?_,O.ne,O'.obj,_,O'.ns,λg=>?_,λg hg=>?_⟩
 ·have:=qZ f y fs;lia
 ·show pz ((putF f y fs).lookup g) (if g=f then some u else mA g)
  rw[q0]
  by_cases q:g=f
  ·rw[if_pos q,if_pos q];exact ry
  ·rw[if_neg q,if_neg q];exact r g
 ·by_cases q:g=f
  ·rw[q];exact(qD f y fs).1
  ·refine(qD f y fs).2 g (wi g λz=>hg ?_)
   show(if g=f then some u else mA g)=none
   rw[if_neg q];exact z
theorem bN.made(I:bN X pins σ H s):bN X pins σ (upd (upd H s.heap.objs.size (.own (s.heap.objs.size+1))) (s.heap.objs.size+1) (.ins C s.heap.objs.size []))
  {s with heap:=(s.heap.push df).push (eE C s.heap.objs.size)}:=by
 have e1:(s.heap.push df).get? s.heap.objs.size=some df:=aD s.heap rfl
 have e2:((s.heap.push df).push (eE C s.heap.objs.size)).get? (s.heap.objs.size+1)=some (eE C s.heap.objs.size):=by
  have:=aD (s.heap.push df) (o:=eE C s.heap.objs.size) rfl
  rwa [cA] at this
 have e3:(s.heap.push df).Ns s.heap.objs.size (λ_=>none):=⟨df,#[],_,e1,rfl,(λe he=>absurd he (by simp)),λ_=>rfl⟩
 have I1:=I.laid (a:=s.heap.objs.size) (o:=.own (s.heap.objs.size+1)) (h':=s.heap.push df) (t':=s.toks) (λb u q=>aj _ q) (aw _) ⟨_,e1⟩
 refine I1.laid (a:=s.heap.objs.size+1) (o:=.ins C s.heap.objs.size []) (t':=s.toks) (λb u q=>aj _ q) (Nat.le_of_eq (cA _ _)) ?_
 have ne:s.heap.objs.size≠s.heap.objs.size+1:=aH (dX _)
 refine⟨by rw[ax ne,ag],bF _,ne,e2,λ_=>none,(Heap.Ns1.of_empty e3).at λo q=>aj _ q,λ_=>True.intro,λy hy=>absurd rfl hy⟩
theorem GO{prog:Program}{w:World}{env:Env}{e:Expr}{f:Str}{pos:Pos}{s:Shared}{Q:Value->Shared->Prop}(hb:attributeBase e f env (eval e env)=eval e env)
  (h:wpAny (model prog w) A (eval e env) (λo s₁=>wpAny (model prog w) A (getAttr o f true) Q E s₁) E s):wpAny (model prog w) A (eval (.Attribute e f pos) env) Q E s:=
 Attribute_any_ h (by rw[arm_eval_Attribute,hb])
end
def wP(K:Fg)(ta:TE)(f:Str):TE:=λσ H Q=>ta σ H λx H1=>∃a C dx fs v,x=.ref a/\H1 a=some (.ins C dx fs)/\Jd K C/\jL K C f/\fs.lookup f=some v/\Q v H1
def yq(K:Fg)(ta tv:TE)(f:Str):TS:=λD σ H=>tv σ H λy H1=>ta σ H1 λx H2=>∃a C dx fs,x=.ref a/\H2 a=some (.ins C dx fs)/\Jd K C/\jL K C f/\fs.length<1000/\
 D.nx σ (upd H2 a (.ins C dx (putF f y fs)))
section
variable{X:Cx}{o e value:Expr}{f:Str}{pos pos' tpos:Pos}{ta tv:TE}
theorem Kt(he:PE X e ta)(hb:attributeBase e f X.env (eval e X.env)=eval e X.env):PE X (.Attribute e f pos) (wP X.K ta f):=by
 intro pins s σ H Q I h
 refine GO hb (fV (he pins s σ H _ I h) λu s1 ⟨x,H1,I1,rx,a,C,dx,fs,v,ex,ea,c,n,l,q⟩=>?_)
 subst ex
 obtain rfl:u=Value.ref a:=rx
 exact zP I1 ea c n l λu' s2 I2 ru=>⟨v,H1,I2,ru,q⟩
theorem KI(ha:PE X o ta)(hv:PE X value tv)(hs:swapsWith value (some (.Attribute o f pos')) pos.line X.env=pure false):PS X (.Assign [.Attribute o f pos'] value pos) (yq X.K ta tv f):=by
 intro pins s σ H D I h
 refine plainObj_wpAny_Assign_Attribute (fV (hv pins s σ H _ I h) λu s1 ⟨y,H1,I1,ry,q⟩=>fV (ha pins s1 σ H1 _ I1 q) λov s2 ⟨x,H2,I2,rx,a,C,dx,fs,ex,ea,c,n,l,q2⟩=>?_) hs
 subst ex
 obtain rfl:ov=Value.ref a:=rx
 exact AB I2 ea c n l ry λs3 I3=>⟨σ,_,I3,q2⟩
end
section
variable{X:Cx}{pins:List (Addr×Obj)}{σ:St}{H:Hp}{s:Shared}{A:Around}{E:Value->Shared->Prop}{Q:Value->Shared->Prop}{c:Value}{b:Bool}
end
structure dc(k:Nat)(A:Around):Prop where
 hd:A.handled=none
 dp:A.depth+3*k+5<recursionLimit
 un:A.units+16*k+200<cLine
theorem dc.mono{j k:Nat}{A:Around}(r:dc k A)(h:j<=k):dc j A:=⟨r.hd,by have:=r.dp;lia,by have:=r.un;lia⟩
theorem dc.deeper{k:Nat}{A:Around}(r:dc (k+1) A)(env:Env):dc k (A.deeper env):=
 ⟨r.hd,by have:=r.dp;show A.depth+1+3*k+5<_;lia,by have:=r.un;show A.units+3+16*k+200<_;lia⟩
theorem Ab{A:Around}{C:Addr}{us:List Value}{kw:List (Str×Value)}:(A.under (.builtin "type.__call__" ⟨.ref C::us,kw⟩)).depth=A.depth+1:=by
 first|rfl|simp[Around.under,Code.weight,Code.isCreation,Code.isGuard,Code.isCaller,Code.frames,Code.isFrame,guardIds]
theorem Ac{A:Around}{C:Addr}{us:List Value}{kw:List (Str×Value)}:(A.under (.builtin "type.__call__" ⟨.ref C::us,kw⟩)).units=A.units+1:=by
 first|rfl|simp[Around.under,Code.cUnits,Code.frames,Code.isFrame]
theorem dc.make{k:Nat}{A:Around}(r:dc (k+1) A)(C:Addr)(us:List Value)(kw:List (Str×Value)):dc k (A.under (.builtin "type.__call__" ⟨.ref C::us,kw⟩)):=
 ⟨r.hd,by have:=r.dp;rw[Ab];lia,by have:=r.un;rw[Ac];lia⟩
theorem dc.depth{k:Nat}{A:Around}(r:dc k A):A.depth<recursionLimit:=by have:=r.dp;lia
theorem dc.units{k:Nat}{A:Around}(r:dc k A):A.units+64<cLine:=by have:=r.un;lia
theorem dc.units0{k:Nat}{A:Around}(r:dc k A):A.units<cLine:=by have:=r.un;lia
def aP:TA:=λ_ H Q=>Q [] H
def ao(ta:TE)(tr:TA):TA:=λσ H Q=>ta σ H λx H1=>tr σ H1 λxs H2=>Q (x::xs) H2
section
variable{X:Cx}{e:Expr}{es:List Expr}{te:TE}{t:TA}{pos:Pos}
theorem Kr:PA X [] aP:=λ_ _ _ _ H Q I h=>Calls.spliced_nil ⟨[],H,I,.nil,h⟩
theorem Hz(ha:PE X e te)(hr:PA X es t)(hs:starEach (e::es) X.env=(false,eval e X.env)::starEach es X.env:=by rfl):PA X (e::es) (ao te t):=by
 intro pos pins s σ H Q I h
 rw[hs]
 show wpAny _ _ (spliced ((false,eval e X.env)::backTo pos (starEach es X.env))) _ _ s
 refine Calls.spliced_cons (fV (ha pins s σ H _ I h) λu s1 ⟨x,H1,I1,r1,q1⟩=>?_)
 exact fV (hr pos pins s1 σ H1 _ I1 q1) λus s2 ⟨xs,H2,I2,r2,q2⟩=>⟨x::xs,H2,I2,.cons r1 r2,q2⟩
def gu(t:TA):TE:=λσ H Q=>t σ H λxs H1=>xs.length<=sizeLine/\∀p,H1 p=none->Q (.ref p) (upd H1 p (.tup xs))
def gM(t:TA):TE:=λσ H Q=>t σ H λxs H1=>xs.length<=sizeLine/\∀p,H1 p=none->Q (.ref p) (upd H1 p (.lst xs))
theorem Kz{x1}(h:PA X es t):PE X (.Tuple es x1 pos) (gu t):=by
 intro pins s σ H Q I hq
 refine wpAny_Tuple_spliced (fV (h pos pins s σ H _ I hq) λus s1 ⟨xs,H1,I1,r,z,q⟩=>⟨by rw[<-r.length];exact z,?_⟩)
 have hf:H1 s1.heap.objs.size=none:=I1.hok.fresh (aw _)
 refine⟨.ref s1.heap.objs.size,upd H1 s1.heap.objs.size (.tup xs),I1.laid (t':=s1.toks) (λb u e=>aj _ e) (aw _) ?_,rfl,q _ hf⟩
 exact⟨z,us,r,⟨_,aD _ rfl,⟨rfl,rfl⟩,_,rfl⟩⟩
theorem Kw(h:PA X es t):PE X (.List es pos) (gM t):=by
 intro pins s σ H Q I hq
 refine wpAny_List_spliced (fV (h pos pins s σ H _ I hq) λus s1 ⟨xs,H1,I1,r,z,q⟩=>⟨by rw[<-r.length];exact z,?_⟩)
 have hf:H1 s1.heap.objs.size=none:=I1.hok.fresh (aw _)
 refine⟨.ref s1.heap.objs.size,upd H1 s1.heap.objs.size (.lst xs),I1.laid (t':=s1.toks) (λb u e=>aj _ e) (aw _) ?_,rfl,q _ hf⟩
 exact⟨z,us,0,r,aD _ rfl⟩
end
abbrev Sp:=List V->Hp->VK->XK->Prop
abbrev D2:=List Env->Hp->Shared->XK->Value->Shared->Prop
structure zp(P:Program)(w:World)(K:Fg)(mg:Str->Option Value)(base:Heap)(A:Around)(outer:List Env)(s:Shared)(H:Hp):Prop where
 frames:A.frames=some outer
 mod:Mod K mg base
 bs:∀b o,base.get? b=some o->s.heap.get? b=some o/\H b=none
 bsz:base.objs.size<=s.heap.objs.size
 funs:s.heap.FunFrames base outer
 frf:∀b∈Ew outer,H b=none
 hok:oX P w H s.heap
 bare:AllBare s.gens
def CE(outer:List Env)(P:Program)(w:World)(H:Hp)(s:Shared)(Q:VK)(u:Value)(s':Shared):Prop:=
 ∃v H',s'.os=s.os/\AllBare s'.gens/\Un (Ew outer) [] H H' s.heap s'.heap/\oX P w H' s'.heap/\cy v u/\Q v H'
def CR(CX:D2)(outer:List Env)(P:Program)(w:World)(H:Hp)(s:Shared)(Q:VK)(E:XK)(r:Result)(s':Shared):Prop:=
 match r with
 |.ok (.ret u)=>CE outer P w H s Q u s'
 |.ok _=>False
 |.error e=>CX outer H s E e s'
structure eK(P:Program)(w:World)(K:Fg)(mg:Str->Option Value)(base:Heap)(CX:D2)(k:Nat)(f:Addr)(fd:FuncData)(ps:List Str)(sp:Sp):Prop where
 len:∀vs H Q E,sp vs H Q E->vs.length=ps.length
 run:∀(A:Around) (outer:List Env) (s:Shared) (H:Hp) (args:Args) (us:List Value) (vs:List V) (Q:VK) (E:XK),dc k A->zp P w K mg base A outer s H->BindsTo s fd args (ps.zip us)->cv vs us->sp vs H Q E->
  codeAny (model P w) A (.call (.ref f) args) (CR CX outer P w H s Q E) s
theorem zp.make{P:Program}{w:World}{K:Fg}{mg:Str->Option Value}{base:Heap}{A:Around}{outer:List Env}{s:Shared}{H:Hp}(e:zp P w K mg base A outer s H)(C:Addr)(us:List Value)(kw:List (Str×Value)) :
  zp P w K mg base (A.under (.builtin "type.__call__" ⟨.ref C::us,kw⟩)) outer s H:=⟨by first|exact e.frames|(simpa[Around.under,Code.envs,Code.isFrame,pushEnvs] using e.frames),e.mod,e.bs,e.bsz,e.funs,e.frf,e.hok,e.bare⟩
section
variable{X:Cx}{pins:List (Addr×Obj)}{σ:St}{H:Hp}{s s':Shared}
theorem bN.env0(I:bN X pins σ H s):zp X.prog X.w X.K X.mg X.base X.A X.stack s H:=
 ⟨I.ok.frames,I.ok.mod,I.bs,bn I.ok.bsz I.sz,I.stack,I.stkFree,I.hok,I.bare⟩
theorem bN.after{Q:VK}{u:Value}(I:bN X pins σ H s)(h:CE X.stack X.prog X.w H s Q u s'):EP X pins σ Q u s':=by
 obtain⟨v,H',os,bare,un,hok,r,q⟩:=h
 obtain⟨hh,g,d,t,os'⟩:=s'
 obtain rfl:os'=s.os:=os
 exact⟨v,H',I.call (h':=hh) (g':=g) (d':=d) (t':=t) (ch:=[]) un hok bare (λb z=>absurd z (by simp)),r,q⟩
end
def bE(sp:Sp)(dvs:List V)(E:XK)(t:TA):TE:=λσ H Q=>t σ H λvs H1=>sp (vs++dvs) H1 Q E
def FP(C:Addr)(sp:Sp)(dvs:List V)(E:XK)(t:TA):TE:=λσ H Q=>t σ H λvs H1=>∀x dx,H1 x=none->H1 dx=none->dx≠x->
 sp (.ref x::(vs++dvs)) (upd (upd H1 dx (.own x)) x (.ins C dx [])) (λv H2=>v=.non/\Q (.ref x) H2) E
def m9(K:Fg)(fd:FuncData)(ps:List Str)(ds:List Value):Prop:=
 ∀(s:Shared) (us:List Value),K.In s.heap->(us++ds).length=ps.length->BindsTo s fd ⟨us,[]⟩ (ps.zip (us++ds))
theorem m9.all{K:Fg}{fd:FuncData}{ps:List Str}(h:∀us:List Value,us.length=ps.length->bindArgs fd ⟨us,[]⟩=pure (ps.zip us)):m9 K fd ps []:=λs us _ hl=>by
 rw[cQ] at hl ⊢
 exact .of_eq (h us hl)
def sy(CX:D2)(X:Cx)(E:XK):Prop:=∀(pins:List (Addr×Obj)) (σ:St) (H:Hp) (s:Shared) (e:Value) (s':Shared),bN X pins σ H s->CX X.stack H s E e s'->X.xe e s'
section
variable{X:Cx}{CX:D2}{k:Nat}{f C:Addr}{fd:FuncData}{ps:List Str}{sp:Sp}{dvs:List V}{ds:List Value}{E:XK}{x m:Str}{p pos apos:Pos}{e o:Expr}{es:List Expr}{ta:TE}{t:TA}
theorem K9{pins:List (Addr×Obj)}{σ:St}{H:Hp}{s:Shared}{Q:VK}{us:List Value}{vs:List V}(F:eK X.prog X.w X.K X.mg X.base CX k f fd ps sp)(hr:dc k X.A)(hb:m9 X.K fd ps ds)(hd:cv dvs ds)(hx:sy CX X E)
  (I:bN X pins σ H s) (r:cv vs us) (h:sp (vs++dvs) H Q E):wpAny (model X.prog X.w) X.A (call (.ref f) us) (EP X pins σ Q) X.xe s:=by
 have r2:cv (vs++dvs) (us++ds):=r.append hd
 have hl:(us++ds).length=ps.length:=by rw[<-r2.length];exact F.len _ _ _ _ h
 refine wpAny_call (codeAny_mono (F.run X.A X.stack s H ⟨us,[]⟩ (us++ds) (vs++dvs) Q E hr I.env0 (hb s us I.kIn hl) r2 h) λr s' hq=>?_)
 cases r with
 |error e=>exact hx pins σ H s e s' I hq
 |ok fl=>
  cases fl with
  |ret u=>exact I.after hq
  |next=>exact False.elim hq
  |brk=>exact False.elim hq
  |cont=>exact False.elim hq
theorem Bw(F:eK X.prog X.w X.K X.mg X.base CX k f fd ps sp)(hr:dc k X.A)(hg:Gl X x)(hm:X.mg x=some (.ref f))(hk:aM X.K (.ref f)=true)(hb:m9 X.K fd ps ds)(hd:cv dvs ds)(hx:sy CX X E)
  (ha:PA X (e::es) t) (hdb:(x==("__debug__":Str))=false:=by decide) (he:starEach (e::es) X.env=(false,eval e X.env)::starEach es X.env:=by rfl) (hpl:(backTo pos (starEach es X.env)).any (·.1)=false:=by rfl) :
  PE X (.Call (.Name x p) (e::es) [] pos) (bE sp dvs E t):=by
 intro pins s σ H Q I h
 refine wpAny_Call_Name_kw (Bs I hg hm ?_ hdb)
 refine PySem.W.callWith_K (h₀:=X.base) I.ok.mod.kin hk (fV (ha pos pins s σ H _ I h) λus s1 ⟨vs,H1,I1,r,q⟩=>⟨I1.kIn,?_⟩) he hpl
 exact K9 F hr hb hd hx I1 r q
structure Mk(K:Fg)(C f:Addr):Prop where
 makes:mV K C=true
 init:cu K (.ref C) "__init__"=some (some (.ref f))
 fn:PySem.W.isFn K (.ref f)=true
 kp:aM K (.ref C)=true
theorem FD{pins:List (Addr×Obj)}{σ:St}{H:Hp}{s:Shared}{Q:VK}{us:List Value}{vs:List V}(M:Mk X.K C f)(F:eK X.prog X.w X.K X.mg X.base CX k f fd ps sp)(hr:dc (k+1) X.A)(hb:m9 X.K fd ps ds)(hd:cv dvs ds)
  (hx:sy CX X E) (I:bN X pins σ H s) (r:cv vs us)
  (h:∀x dx,H x=none->H dx=none->dx≠x->sp (.ref x::(vs++dvs)) (upd (upd H dx (.own x)) x (.ins C dx [])) (λv H2=>v=.non/\Q (.ref x) H2) E) :
  wpAny (model X.prog X.w) X.A (call (.ref C) us) (EP X pins σ Q) X.xe s:=by
 have hq:=h (s.heap.objs.size+1) s.heap.objs.size (I.hok.fresh (jB _)) (I.hok.fresh (aw _)) (aH (dX _))
 have I2:=bN.made (C:=C) I
 have r2:cv (V.ref (s.heap.objs.size+1)::(vs++dvs)) (Value.ref (s.heap.objs.size+1)::(us++ds)):=.cons rfl (r.append hd)
 have hl:(Value.ref (s.heap.objs.size+1)::us++ds).length=ps.length:=by
  have e:=r2.length
  rw[F.len _ _ _ _ hq] at e
  exact e.symm
 refine wpAny_call (EX (f:=f) I.kIn M.makes M.init (beq_iff_eq.mp M.fn) (codeAny_mono (F.run _ X.stack _ _ ⟨Value.ref (s.heap.objs.size+1)::us,[]⟩ (Value.ref (s.heap.objs.size+1)::(us++ds)) _ _ E (hr.make C us [])
  (I2.env0.make C us []) (hb _ (Value.ref (s.heap.objs.size+1)::us) I2.kIn hl) r2 hq) λr s' hq'=>?_))
 cases r with
 |error e=>exact hx pins σ _ _ e s' I2 hq'
 |ok fl=>
  cases fl with
  |ret u=>
   obtain⟨v,H',I3,rv,ev,q3⟩:=I2.after hq'
   subst ev
   exact⟨rv,⟨V.ref (s.heap.objs.size+1),H',I3,rfl,q3⟩⟩
  |next=>exact False.elim hq'
  |brk=>exact False.elim hq'
  |cont=>exact False.elim hq'
theorem HH(M:Mk X.K C f)(F:eK X.prog X.w X.K X.mg X.base CX k f fd ps sp)(hr:dc (k+1) X.A)(hg:Gl X x)(hm:X.mg x=some (.ref C))(hb:m9 X.K fd ps ds)(hd:cv dvs ds)(hx:sy CX X E)
  (ha:PA X (e::es) t) (hdb:(x==("__debug__":Str))=false:=by decide) (he:starEach (e::es) X.env=(false,eval e X.env)::starEach es X.env:=by rfl) (hpl:(backTo pos (starEach es X.env)).any (·.1)=false:=by rfl) :
  PE X (.Call (.Name x p) (e::es) [] pos) (FP C sp dvs E t):=by
 intro pins s σ H Q I h
 refine wpAny_Call_Name_kw (Bs I hg hm ?_ hdb)
 refine PySem.W.callWith_K (h₀:=X.base) I.ok.mod.kin M.kp (fV (ha pos pins s σ H _ I h) λus s1 ⟨vs,H1,I1,r,q⟩=>⟨I1.kIn,?_⟩) he hpl
 exact FD M F hr hb hd hx I1 r q
end
section
variable{X:Cx}{CX:D2}{k:Nat}{f C:Addr}{fd:FuncData}{ps ks:List Str}{sp:Sp}{E:XK}{x m:Str}{p pos apos kpos:Pos}{e o:Expr}{es:List Expr}{kws:List Keyword}{te ta:TE}{t tk:TA}{nm:Option Str}
variable{g:List Value->List Value->List Value}{gV:List V->List V->List V}
end
structure cf(N P:List Str)(sc:Scope):Prop where
 kind:sc.kind=.function
 co:sc.isCoroutine=false
 gen:sc.isGenerator=false
 nd:N.Nodup
 pre:N.take P.length=P
 par:∀x∈P,sc.names.lookup x=some .local\/sc.names.lookup x=some .cell
 nofree:∀y∈sc.names,y.2≠.free
theorem uU{kindOf:Str->Option NameKind}{x:Str}:∀{binds:List (Str×Value)} {m:Str->Option Value},(∀v,(x,v)∉binds)->bindL kindOf binds m x=m x
 |[],_,_=>rfl
 |(n,v)::r,m,h=>by
  unfold bindL
  rw[uU λw hw=>h w (bx _ hw)]
  split
  ·have:x≠n:=by rintro rfl;exact h v aL
   simp[this]
  ·rfl
theorem uS{kindOf:Str->Option NameKind}{x:Str}:∀{binds:List (Str×Value)} {m:Str->Option Value},(∀v,(x,v)∉binds)->bindC kindOf binds m x=m x
 |[],_,_=>rfl
 |(n,v)::r,m,h=>by
  unfold bindC
  rw[uS λw hw=>h w (bx _ hw)]
  split
  ·rfl
  ·have:x≠n:=by rintro rfl;exact h v aL
   simp[this]
theorem uT{kindOf:Str->Option NameKind}{x:Str}{v:Value}:∀{P:List Str} {vs:List Value} {i:Nat} {m:Str->Option Value},P.Nodup->P[i]?=some x->vs[i]?=some v->kindOf x=some .local->
  bindL kindOf (P.zip vs) m x=some v
 |[],_,_,_,_,h,_,_=>by simp at h
 |_::_,[],_,_,_,_,h,_=>by simp at h
 |p::P,w::vs,0,m,nd,h1,h2,hk=>by
  simp at h1 h2;subst h1;subst h2
  show bindL kindOf ((p,w)::P.zip vs) m p=_
  unfold bindL
  rw[uU λv hv=>(cB.mp nd).1 (mR hv).1,if_pos hk]
  simp
 |p::P,w::vs,i+1,m,nd,h1,h2,hk=>by
  show bindL kindOf ((p,w)::P.zip vs) m x=_
  unfold bindL
  exact uT (i:=i) (cB.mp nd).2 (by simpa using h1) (by simpa using h2) hk
theorem uR{kindOf:Str->Option NameKind}{x:Str}{v:Value}:∀{P:List Str} {vs:List Value} {i:Nat} {m:Str->Option Value},P.Nodup->P[i]?=some x->vs[i]?=some v->kindOf x≠some .local->
  bindC kindOf (P.zip vs) m x=some v
 |[],_,_,_,_,h,_,_=>by simp at h
 |_::_,[],_,_,_,_,h,_=>by simp at h
 |p::P,w::vs,0,m,nd,h1,h2,hk=>by
  simp at h1 h2;subst h1;subst h2
  show bindC kindOf ((p,w)::P.zip vs) m p=_
  unfold bindC
  rw[uS λv hv=>(cB.mp nd).1 (mR hv).1,if_neg hk]
  simp
 |p::P,w::vs,i+1,m,nd,h1,h2,hk=>by
  show bindC kindOf ((p,w)::P.zip vs) m x=_
  unfold bindC
  exact uR (i:=i) (cB.mp nd).2 (by simpa using h1) (by simpa using h2) hk
def cY(N:List Str)(vs:List V):St:=vs.map some++az (N.length-vs.length) none
def fN(CX:D2)(P:Program)(w:World)(K:Fg)(mg:Str->Option Value)(base:Heap)(N:List Str)(qual:Str)(scope:Scope)(f:Addr)(cd:Value)(A:Around)(outer:List Env)(s:Shared)(H:Hp)(E:XK):Cx where
 prog:=P
 w:=w
 K:=K
 mg:=mg
 base:=base
 A:=A.deeper (envOfC qual scope s.heap.objs.size f cd)
 N:=N
 s₀:=s
 H₀:=H
 env:=envOfC qual scope s.heap.objs.size f cd
 outer:=outer
 stack:=envOfC qual scope s.heap.objs.size f cd::outer
 ex:=[]
 calm:=true
 fn:=λ_=>true
 pn:=[]
 xe:=λe s'=>wpAny (model P w) (A.deeper (envOfC qual scope s.heap.objs.size f cd)) (leaving (envOfC qual scope s.heap.objs.size f cd) e) (λ_ s''=>CX outer H s E e s'') (λe' s''=>CX outer H s E e' s'') s'
theorem xm{sc:Scope}{n:Nat}{x:Str}(h:sc.names.lookup x=some .cell):∃c,(cellsFrom n sc.names []).lookup x=some c:=by
 have q:=PySem.W.cellsFrom_some sc.names n [] (.inl h)
 exact h9.mp q
theorem CQ{CX:D2}{P:Program}{w:World}{K:Fg}{mg:Str->Option Value}{base:Heap}{N ps:List Str}{qual:Str}{scope:Scope}{f:Addr}{cd:Value}{A:Around}{outer:List Env}{s s1:Shared}{H:Hp}{E:XK}{us:List Value}{vs:List V}
  (S:cf N ps scope) (hd:A.handled=none) (e0:zp P w K mg base A outer s H) (hl:vs.length=ps.length) (r:cv vs us)
  (x:InCallC s s.heap.objs.size (bindL (envOfC qual scope s.heap.objs.size f cd).kindOf (ps.zip us) λ_=>none) (cellsFrom (s.heap.objs.size+1) scope.names []) (bindC (envOfC qual scope s.heap.objs.size f cd).kindOf (ps.zip us) λ_=>none) s1) :
  bN (fN CX P w K mg base N qual scope f cd A outer s H E) [] (cY N vs) H s1:=by
 have hpl:ps.length<=N.length:=by have:=congrArg jz S.pre;rw[be] at this;lia
 obtain⟨h1,tk,rfl,hk⟩:=x.done
 have noA:∀b:Addr,b∉(fN CX P w K mg base N qual scope f cd A outer s H E).ex:=λb z=>absurd (show b∈([]:List Addr) from z) (by simp)
 refine⟨⟨e0.mod,S.kind,rfl,rfl,aw _,λy z c h1 h2=>?_,λy hy=>?_,λy c _ h=>?_,λ_=>hd,Around.frames_deeper e0.frames,.inr ⟨rfl,rfl⟩,λb z=>absurd z (noA b),e0.bs,e0.bsz,λb _ _=>noA b,λb z=>absurd z (noA b),e0.funs,e0.frf⟩,
  rfl,e0.bare,Un.kept hk,⟨_,x.toInCall.ns,λi y v h1 h2 h3=>?_⟩,λy c h=>⟨_,x.cell y c h⟩,e0.hok.fresh (aw _),λy c h=>?_,λp hp=>absurd (show p∈([]:List (Addr×Obj)) from hp) (by simp),e0.hok.kept hk,?_⟩
 ·exact name_of_addr x.apart (cD h1) (cD h2)
 ·have hy:scope.names.lookup y=some .cell\/scope.names.lookup y=some .free:=hy
  rcases hy with hy|hy
  ·exact xm hy
  ·exact absurd rfl (S.nofree _ (cD hy))
 ·exact bW (x.above y c (cD h))
 ·have hi:i<vs.length:=by
   unfold cY at h2
   by_cases hi:i<vs.length
   ·exact hi
   ·rw[aX (by simpa using hi)] at h2
    rw[List.getElem?_replicate] at h2
    split at h2<;>cases h2
  have ha:vs[i]?=some v:=by
   unfold cY at h2
   rw[bJ (by simpa using hi),aC] at h2
   cases e:vs[i]? with
   |none=>rw[e] at h2;cases h2
   |some a=>rw[e] at h2;cases h2;rfl
  obtain⟨u,hu,rv⟩:=r.get ha
  have hp:ps[i]?=some y:=by
   rw[<-S.pre,hW (by lia)];exact h1
  have ndP:ps.Nodup:=by rw[<-S.pre];exact S.nd.sublist (gx _ _)
  refine⟨u,rv,?_⟩
  rcases S.par y (aA hp) with k|k
  ·exact .inl ⟨k,uT ndP hp hu k⟩
  ·obtain⟨c,e⟩:=xm (n:=s.heap.objs.size+1) k
   refine .inr ⟨.inl k,c,e,?_⟩
   have q:=x.cell y c e
   rw[uR ndP hp hu (by show scope.names.lookup y≠_;rw[k];decide)] at q
   exact q
 ·exact e0.hok.fresh (bW (x.above y c (cD h)))
 ·unfold cY
  show _=N.length
  rw[ai,ab,bf]
  lia
theorem Jn{CX:D2}{P:Program}{w:World}{K:Fg}{mg:Str->Option Value}{base:Heap}{k:Nat}{f:Addr}{name qual:Str}{params:Arguments}{body:List Stmt}{scope:Scope}{dV kV doc pm cdv ct oc:Value}{an od:Option Addr}
  {osl:Array (Option Value)} {N ps:List Str} {sp:Sp} (lk:K.lookup f=some ⟨oc,od,.func (aT name qual params body scope dV kV doc pm an cdv ct),osl⟩) (hcd:aR K cdv qual=true) (S:cf N ps scope)
  (len:∀vs H Q E,sp vs H Q E->vs.length=ps.length)
  (hbody:∀(A:Around) (outer:List Env) (s:Shared) (H:Hp) (vs:List V) (Q:VK) (E:XK),dc k (A.deeper (envOfC qual scope s.heap.objs.size f cdv))->sp vs H Q E->
   ∃t,jV (fN CX P w K mg base N qual scope f cdv A outer s H E) body t/\t {nx:=λ_ H'=>Q .non H',rt:=Q} (cY N vs) H) :
  eK P w K mg base CX (k+1) f (aT name qual params body scope dV kV doc pm an cdv ct) ps sp:=by
 refine⟨len,λA outer s H args us vs Q E hr e0 hb r hsp=>?_⟩
 have hl:=len _ _ _ _ hsp
 have KX:K.In s.heap:=e0.mod.kin.keeps λb o e=>(e0.bs b o e).1
 have lim:s.heap.NoLimit:=e0.mod.nolimit.keeps λb o e=>(e0.bs b o e).1
 have hkind:∀y∈ps.zip us,scope.names.lookup y.1=some .local\/(scope.names.lookup y.1=some .cell/\((cellsFrom (s.heap.objs.size+1) scope.names []).lookup y.1).isSome=true):=λ⟨n,v⟩ hy=>by
  rcases S.par n (mR hy).1 with q|q
  ·exact .inl q
  ·exact .inr ⟨q,PySem.W.cellsFrom_some _ _ _ (.inl q)⟩
 refine codeAny_call_function hr.depth (KX _ _ lk) rfl S.co S.gen rfl (PySem.W.codeRec_of KX hcd) (hb _ _ _ _ ?_)
 refine wpAny_newFunctionEnv_cells S.kind hkind λenv he s1 x=>?_
 subst he
 refine⟨lim.keeps x.toInCall.keep,codeAny_func ?_⟩
 obtain⟨t,ht,hq⟩:=hbody A outer s H vs Q E (hr.deeper _) hsp
 have I:bN (fN CX P w K mg base N qual scope f cdv A outer s H E) [] (cY N vs) H s1:=CQ S hr.hd e0 hl r x
 refine wpAny_mono (ht [] s1 (cY N vs) H _ I hq) (λfl s' hs=>?_) λe s' hs=>hs
 have fin:∀{σ':St} {H':Hp} {v:V} {u:Value},bN (fN CX P w K mg base N qual scope f cdv A outer s H E) [] σ' H' s'->cy v u->Q v H'->CE outer P w H s Q u s':=
  λ{σ' H' v u} J rv q=>⟨v,H',J.os,J.bare,J.base,J.hok,rv,q⟩
 cases fl with
 |ret u=>
  obtain⟨v,σ',H',J,rv,q⟩:=hs
  exact fin J rv q
 |next=>
  obtain⟨σ',H',J,q⟩:=hs
  exact fin (v:=V.non) (u:=Value.none) J rfl q
 |brk=>
  obtain⟨_,_,_,q⟩:=hs
  exact False.elim q
 |cont=>
  obtain⟨_,_,_,q⟩:=hs
  exact False.elim q
section
variable{X:Cx}{x:Str}{p pos:Pos}{e:Expr}{es:List Expr}{t:TA}{id T:String}{r:List V->Hp->VK->Prop}
def iI(r:List V->Hp->VK->Prop)(t:TA):TE:=λσ H Q=>t σ H λvs H1=>r vs H1 Q
theorem E9(hc:ja X (.builtin id) r)(hg:Gl X x)(hm:X.mg x=none)(hv:bootBuiltins x=some (.builtin id))(ha:PA X (e::es) t)(hn:x≠"__name__":=by decide)(hdb:(x==("__debug__":Str))=false:=by decide)
  (he:starEach (e::es) X.env=(false,eval e X.env)::starEach es X.env:=by rfl) (hpl:(backTo pos (starEach es X.env)).any (·.1)=false:=by rfl):PE X (.Call (.Name x p) (e::es) [] pos) (iI r t):=by
 intro pins s σ H Q I h
 refine wpAny_Call_Name_kw (mx I hg hm hv ?_ hn hdb)
 exact PyProof.Rows.callWith_builtin1 (fV (ha pos pins s σ H _ I h) λus s1 ⟨vs,H1,I1,r1,q1⟩=>hc pins s1 σ H1 vs us Q I1 r1 q1) he hpl
theorem Do(hc:ja X (.type T) r)(hg:Gl X x)(hm:X.mg x=none)(hv:bootBuiltins x=some (.type T))(ha:PA X (e::es) t)(hn:x≠"__name__":=by decide)(hdb:(x==("__debug__":Str))=false:=by decide)
  (he:starEach (e::es) X.env=(false,eval e X.env)::starEach es X.env:=by rfl) (hpl:(backTo pos (starEach es X.env)).any (·.1)=false:=by rfl):PE X (.Call (.Name x p) (e::es) [] pos) (iI r t):=by
 intro pins s σ H Q I h
 refine wpAny_Call_Name_kw (mx I hg hm hv ?_ hn hdb)
 exact cH (fV (ha pos pins s σ H _ I h) λus s1 ⟨vs,H1,I1,r1,q1⟩=>hc pins s1 σ H1 vs us Q I1 r1 q1) he hpl
end
end L2
namespace HT
open PySem PyProof.Rows
section
open PySem.SeqAt
open PySem.AutoSeq1 (wpAny_loadPart')
open PySem.MeetsSeq PySem.MeetsSeq2 PySem.MeetsSeq3
end
section
variable{prog:Program}{w:World}{A:Around}{E:Value->Shared->Prop}{s:Shared}
theorem cat_tup{t b:Addr}{vs ws:List Value}{Q:Value->Shared->Prop}(ht:IsTup s.heap t vs.toArray)(hb:IsTup s.heap b ws.toArray)(hv:vs≠[])
  (h1:ws=[]->Q (.ref t) s) (h2:ws≠[]->Q (.ref s.heap.objs.size) {s with heap:=s.heap.push {cls:=.type "tuple",data:=.seq (vs++ws).toArray}})
  (hsz:vs.length+ws.length<=sizeLine):wpAny (model prog w) A (binaryOp .Add (.ref t) (.ref b)) Q E s:=by
 obtain⟨⟨cls,dd,data,sl⟩,ho,hc,n,hd⟩:=id ht
 obtain⟨⟨cls2,dd2,data2,sl2⟩,ho2,hc2,n2,hd2⟩:=id hb
 simp only at hc hd hc2 hd2
 subst hc hd hc2 hd2
 have e:vs.toArray++ws.toArray=(vs++ws).toArray:=by simp
 by_cases hw:ws=[]
 ·exact concat_meets ⟨_,ho,rfl⟩ ⟨_,ho2,rfl⟩ noFill_tuple_add seq_tuple_add iO iE (ia _ _)
   (tuple_addW1 t b vs.toArray ws.toArray n n2 dd dd2 sl sl2 (by simpa using hv) (by simp[hw])) ⟨ho,ho2,h1 hw⟩
 ·refine concat_meets ⟨_,ho,rfl⟩ ⟨_,ho2,rfl⟩ noFill_tuple_add seq_tuple_add iO iE (ia _ _)
   (tuple_addW2 t b vs.toArray ws.toArray n n2 dd dd2 sl sl2 (by simpa using hv) (by simpa using hw) (by rw[ak,ak];exact hsz)) ⟨ho,ho2,?_⟩
  rw[e]
  exact h2 hw
def sIx(n d:Nat):Option Int->Nat
 |none=>d
 |some v=>if v<0 then(v+(n:Int)).toNat else min v.toNat n
theorem sIx_none(n d:Nat):sIx n d none=d:=rfl
theorem sIx_nat(n d k:Nat):sIx n d (some (k:Int))=min k n:=by
 show(if(k:Int)<0 then((k:Int)+(n:Int)).toNat else min (k:Int).toNat n)=min k n
 rw[if_neg (by lia),de]
theorem La(n d:Nat)(hd:d<=n)(o:Option Int):sIx n d o<=n:=by
 cases o with
 |none=>exact hd
 |some v=>
  show(if v<0 then(v+(n:Int)).toNat else min v.toNat n)<=n
  by_cases hv:v<0
  ·rw[if_pos hv];lia
  ·rw[if_neg hv];exact lz _ _
theorem Bd(v:Int)(n d:Nat):(if v<0 then max (v+(n:Int)) 0 else min v (n:Int))=((sIx n d (some v):Nat):Int):=by
 show(if v<0 then max (v+(n:Int)) 0 else min v (n:Int))=(((if v<0 then(v+(n:Int)).toNat else min v.toNat n):Nat):Int)
 by_cases hv:v<0
 ·simp only[if_pos hv];lia
 ·simp only[if_neg hv];lia
theorem zx(lo hi:Option Int)(n:Nat):Builtin.Slice.sliceAdjust lo hi 1 (n:Int)=(((sIx n 0 lo:Nat):Int),((sIx n n hi:Nat):Int)):=by
 have h1:¬((1:Int)<0):=by lia
 unfold Builtin.Slice.sliceAdjust
 simp only[h1,if_false]
 refine Prod.ext ?_ ?_
 ·cases lo with
  |none=>rfl
  |some v=>exact Bd v n 0
 ·cases hi with
  |none=>rfl
  |some v=>exact Bd v n n
theorem An(i j:Nat):Builtin.Slice.slicePlaces (i:Int) (j:Int) 1=j-i:=by
 unfold Builtin.Slice.slicePlaces
 have h1:(1:Int)>0:=by lia
 simp only[h1,if_true,Int.ediv_one]
 split<;>lia
theorem tQ{v:Value}{o:Option Int}{Q:Option Int->Shared->Prop}(p:IsPart v o)(h:Q o s):wpAny (model prog w) A (Builtin.Slice.slicePartIndex v) Q E s:=by
 cases p with
 |none=>exact slicePart_none h
 |int i t=>exact slicePart_int h
theorem lM{sl:Addr}{vl vu:Value}{lo hi:Option Int}{n:Nat}{Q:Int×Int×Nat->Shared->Prop}(hs:s.heap.IsSliceOf sl vl vu .none)(pl:IsPart vl lo)(pu:IsPart vu hi)
  (h:Q (((sIx n 0 lo:Nat):Int),1,sIx n n hi-sIx n 0 lo) s):wpAny (model prog w) A (Builtin.Slice.sliceApplied (.ref sl) (pure (n:Int))) Q E s:=by
 obtain⟨os,hos,hcs,hds⟩:=id hs
 unfold Builtin.Slice.sliceApplied Builtin.Slice.sliceFields
 refine wpAny_bind (wpAny_bind (wpAny_field hos hds (x:=vl) rfl (wpAny_bind (wpAny_field hos hds (x:=vu) rfl (wpAny_bind (wpAny_field hos hds (x:=.none) rfl (wpAny_pure ?_)))))))
 refine wpAny_bind (slicePart_none ?_)
 show wpAny _ _ (if((1:Int)==0)=true then _ else _) _ _ s
 rw[if_neg (by decide)]
 refine wpAny_bind (tQ pl (wpAny_bind (tQ pu (wpAny_bind (wpAny_pure ?_)))))
 show wpAny _ _ (match Builtin.Slice.sliceAdjust lo hi 1 (n:Int) with|(lo,hi)=>pure (lo,(1:Int),Builtin.Slice.slicePlaces lo hi 1)) _ _ s
 rw[zx lo hi n]
 show wpAny _ _ (pure (((sIx n 0 lo:Nat):Int),(1:Int),Builtin.Slice.slicePlaces ((sIx n 0 lo:Nat):Int) ((sIx n n hi:Nat):Int) 1)) _ _ s
 rw[An]
 exact wpAny_pure h
theorem Fh(xs:Array Value)(i k:Nat):((dz k).filterMap λ(m:Nat)=>xs[((i:Int)+(m:Int)*1).toNat]?).toArray=((xs.toList.drop i).take k).toArray:=by
 have e:(λ(m:Nat)=>xs[((i:Int)+(m:Int)*1).toNat]?)=λm=>xs[i+m]?:=by
  funext m
  have:((i:Int)+(m:Int)*1).toNat=i+m:=by lia
  rw[this]
 rw[e]
 have:=pick_run xs i k
 rw[List.filterMap_map] at this
 have e2:((λx=>xs[x]?) ∘ λx=>i+x)=λm=>xs[i+m]?:=rfl
 rw[e2] at this
 rw[this]
theorem getItem_tuple_cut{t sl:Addr}{items:Array Value}{vl vu:Value}{lo hi:Option Int}{Q:Value->Shared->Prop}(ht:IsTup s.heap t items)(hs:s.heap.IsSliceOf sl vl vu .none)(pl:IsPart vl lo)(pu:IsPart vu hi)
  (hw:¬(sIx items.size 0 lo=0/\sIx items.size items.size hi=items.size))
  (h:Q (.ref s.heap.objs.size) {s with heap:=s.heap.push {cls:=.type "tuple",data:=.seq ((items.toList.drop (sIx items.size 0 lo)).take (sIx items.size items.size hi-sIx items.size 0 lo)).toArray}})
  (hsz:items.size<=sizeLine):wpAny (model prog w) A (getItem (.ref t) (.ref sl)) Q E s:=by
 have htake:sizeOk (.seq ((items.toList.drop (sIx items.size 0 lo)).take (sIx items.size items.size hi-sIx items.size 0 lo)).toArray):=by
  show((items.toList.drop (sIx items.size 0 lo)).take (sIx items.size items.size hi-sIx items.size 0 lo)).toArray.size<=sizeLine
  rw[ak,be,dU,bI]
  lia
 have hj:sIx items.size items.size hi<=items.size:=La _ _ (aw _) hi
 obtain⟨os,hos,hcs,hds⟩:=id hs
 have hTs:s.TypeIs (.ref sl) "slice":=⟨os,hos,hcs⟩
 unfold getItem
 try with_reducible refine wpAny_holding ?_
 first|refine wpAny_bind (wpAny_pure ?_)|skip
 refine wpAny_bind (wpAny_sequenceKey ht.typeIs (by decide) ?_)
 refine wpAny_bind (wpAny_callSpecial?_slot (name:=Str.ofString "__getitem__") ht.typeIs dP
  (wpAny_call_entry dP ht.typeIs entry_tuple_getitem ?_ (args_tuple_getitem _ _)))
 show wpAny _ _ (Builtin.Tuple.tupleItemsOf (.ref t) >>= _) _ _ s
 refine wpAny_bind (tupleItemsOf_ ht ?_)
 refine wpAny_bind (wpAny_typeOf hTs ?_)
 rw[if_pos (by decide)]
 refine wpAny_bind (lM hs pl pu ?_)
 have hno:¬((((sIx items.size 0 lo:Nat):Int)==0&&(1:Int)==1&&(sIx items.size items.size hi-sIx items.size 0 lo)==items.size)=true):=by
  intro q
  rw[Bool.and_eq_true,Bool.and_eq_true] at q
  have q1:((sIx items.size 0 lo:Nat):Int)=0:=eq_of_beq q.1.1
  have q2:sIx items.size items.size hi-sIx items.size 0 lo=items.size:=eq_of_beq q.2
  exact hw ⟨by lia,by lia⟩
 show wpAny _ _ (if(((sIx items.size 0 lo:Nat):Int)==0&&(1:Int)==1&&(sIx items.size items.size hi-sIx items.size 0 lo)==items.size)=true then _ else _) _ _ s
 rw[if_neg hno,Fh]
 first
  |exact wpAny_bind (m:=Builtin.Tuple.tupleExact _) (wpAny_newObj_type (wpAny_pure ⟨_,rfl,wpAny_pure h⟩) htake)
  |exact wpAny_bind (m:=Builtin.Tuple.tupleExact _) (wpAny_newObj_type (wpAny_bind (wpAny_pure (wpAny_pure ⟨_,rfl,wpAny_pure h⟩))) htake)
  |exact wpAny_bind (wpAny_bind (m:=Builtin.Tuple.tupleExact _) (wpAny_newObj_type (wpAny_pure (wpAny_pure ⟨_,rfl,wpAny_pure h⟩)) htake))
  |exact wpAny_bind (wpAny_bind (m:=Builtin.Tuple.tupleExact _) (wpAny_newObj_type (wpAny_pure ⟨_,rfl,wpAny_pure h⟩) htake))
end
end HT
namespace L2
open PySem PySem.Spec PyProof.Rows
abbrev TO:=St->Hp->(Option Int->Hp->Prop)->Prop
def PO(X:Cx)(e:Option Expr)(t:TO):Prop:=
 ∀(pins:List (Addr×Obj)) (s:Shared) (σ:St) (H:Hp) (Q:Option Int->Hp->Prop),bN X pins σ H s->t σ H Q->
  wpAny (model X.prog X.w) X.A (evalPart e X.env) (λu s'=>∃o H',bN X pins σ H' s'/\IsPart u o/\Q o H') X.xe s
def gy:TO:=λ_ H Q=>Q none H
def kX(t:TE):TO:=λσ H Q=>t σ H λx H1=>∃i,x=.int i/\Q (some i) H1
theorem zR{ns:List Int}:∀{us:List Value},cv (ns.map V.int) us->IntsAre us ns:=by
 induction ns with
 |nil=>intro us r;rw[cr] at r;cases r;exact .nil
 |cons n ns ih=>
  intro us r
  rw[bt] at r
  cases r with
  |cons r1 r2=>
   obtain⟨t,e⟩:=r1
   subst e
   exact .cons n t (ih r2)
section
variable{X:Cx}{e:Expr}{te:TE}{lo hi:Option Expr}{tl th:TO}{pos p2:Pos}
theorem HW:PO X none gy:=by
 intro pins s σ H Q I h
 rw[evalPart_none]
 exact wpAny_pure ⟨none,H,I,.none,h⟩
theorem HX(h:PE X e te):PO X (some e) (kX te):=by
 intro pins s σ H Q I hw
 rw[evalPart_some]
 refine fV (h pins s σ H _ I hw) λu s1 ⟨x,H1,I1,r1,q1⟩=>?_
 obtain⟨i,rfl,q⟩:=q1
 obtain⟨t,rfl⟩:=r1
 exact⟨some i,H1,I1,.int i t,q⟩
def Eb(X:Cx)(r:V->Option Int->Option Int->Hp->VK->Prop):Prop:=
 ∀(pins:List (Addr×Obj)) (s:Shared) (σ:St) (H:Hp) (x:V) (v vl vu:Value) (lo hi:Option Int) (sl:Addr) (Q:VK),bN X pins σ H s->cy x v->s.heap.IsSliceOf sl vl vu .none->IsPart vl lo->IsPart vu hi->r x lo hi H Q->
  ∃T id,typeLookup (.type T) "__getitem__"=pure (some (.builtin id))/\s.TypeIs v T/\wpAny (model X.prog X.w) X.A (getItem v (.ref sl)) (EP X pins σ Q) X.xe s
theorem Eb.or{r r':V->Option Int->Option Int->Hp->VK->Prop}(h:Eb X r)(h':Eb X r'):Eb X (λx lo hi H Q=>r x lo hi H Q\/r' x lo hi H Q):=by
 intro pins s σ H x v vl vu lo hi sl Q I rx hs pl pu q
 rcases q with q|q
 ·exact h pins s σ H x v vl vu lo hi sl Q I rx hs pl pu q
 ·exact h' pins s σ H x v vl vu lo hi sl Q I rx hs pl pu q
def BT(r:V->Option Int->Option Int->Hp->VK->Prop)(te:TE)(tl th:TO):TE:=λσ H Q=>te σ H λx H1=>tl σ H1 λl H2=>th σ H2 λu H3=>r x l u H3 Q
theorem Fd{r:V->Option Int->Option Int->Hp->VK->Prop}(hr:Eb X r)(he:PE X e te)(hl:PO X lo tl)(hu:PO X hi th):PE X (.Subscript e (.Slice lo hi none p2) pos) (BT r te tl th):=by
 intro pins s σ H Q I h
 refine Subscript_ (fV (he pins s σ H _ I h) λv s1 ⟨x,H1,I1,r1,q1⟩=>?_)
 refine wpAny_Slice (fV (hl pins s1 σ H1 _ I1 q1) λvl s2 ⟨l,H2,I2,pl,q2⟩=>fV (hu pins s2 σ H2 _ I2 q2) λvu s3 ⟨u,H3,I3,pu,q3⟩=>?_)
 rw[evalPart_none]
 refine wpAny_pure ?_
 have I4:bN X pins σ H3 {s3 with heap:=s3.heap.push {cls:=.type "slice",data:=.fields #[vl,vu,.none]}}:=I3.kept (t':=s3.toks) λb ob q=>aj _ q
 obtain⟨T,id,hT,ht,hg⟩:=hr pins {s3 with heap:=s3.heap.push {cls:=.type "slice",data:=.fields #[vl,vu,.none]}} σ H3 x v vl vu l u s3.heap.objs.size Q I4 r1 (Heap.IsSliceOf.new ..) pl pu q3
 show wpAny (model X.prog X.w) X.A (subscriptTail e (.Slice lo hi none p2) v (.ref s3.heap.objs.size)) (EP X pins σ Q) X.xe {s3 with heap:=s3.heap.push {cls:=.type "slice",data:=.fields #[vl,vu,.none]}}
 exact tail_any (ops:=[.ref s3.heap.objs.size,v]) ht hT hg (by with_unfolding_all rfl)
def ng(xs:List V)(lo hi:Option Int):List V:=(xs.drop (HT.sIx xs.length 0 lo)).take (HT.sIx xs.length xs.length hi-HT.sIx xs.length 0 lo)
theorem qU(xs:List V)(lo hi:Option Int):(ng xs lo hi).length<=xs.length:=by
 unfold ng
 rw[be,dU]
 lia
def Mb(K:Fg):V->Option Int->Option Int->Hp->VK->Prop:=λx lo hi H Q=>∃a xs,x=.ref a/\dZ K H a xs/\
 ¬(HT.sIx xs.length 0 lo=0/\HT.sIx xs.length xs.length hi=xs.length)/\∀p,H p=none->Q (.ref p) (upd H p (.tup (ng xs lo hi)))
theorem Lf:Eb X (Mb X.K):=by
 intro pins s σ H x v vl vu lo hi sl Q I rx hs pl pu h
 obtain⟨a,xs,rfl,hx,hw,q⟩:=h
 cases rx
 obtain⟨its,r,ht,hz⟩:=I.tuple hx
 have hlen:its.toArray.size=xs.length:=by rw[ak];exact r.length.symm
 refine⟨"tuple",_,dP.lookup,ht.typeIs,?_⟩
 refine HT.getItem_tuple_cut ht hs pl pu (by rw[hlen];exact hw) ?_ (by rw[hlen];exact hz)
 rw[hlen]
 refine⟨.ref s.heap.objs.size,_,I.laid (t':=s.toks) (o:=.tup (ng xs lo hi)) (λb ob q=>aj _ q) (aw _) ?_,rfl,q _ (I.hok.fresh (aw _))⟩
 exact⟨bn (qU xs lo hi) hz,_,(r.drop (HT.sIx xs.length 0 lo)).take (HT.sIx xs.length xs.length hi-HT.sIx xs.length 0 lo),kY.new _ _⟩
def Jt(K:Fg):R2:=λx y H Q=>∃a b xs ys,x=.ref a/\y=.ref b/\dZ K H a xs/\dZ K H b ys/\xs≠[]/\xs.length+ys.length<=sizeLine/\
 (ys=[]->Q (.ref a) H)/\(ys≠[]->∀p,H p=none->Q (.ref p) (upd H p (.tup (xs++ys))))
theorem cv.nil_iff{xs:List V}{us:List Value}(r:cv xs us):us=[]↔xs=[]:=by
 cases r with
 |nil=>simp
 |cons _ _=>simp
theorem Ht:jM X (binaryOp .Add) (Jt X.K):=by
 intro pins s σ H x y v u Q I rx ry h
 obtain⟨a,b,xs,ys,rfl,rfl,ha,hb,hx,hz,q1,q2⟩:=h
 cases rx
 cases ry
 obtain⟨its,r1,p1,_⟩:=I.tuple ha
 obtain⟨its2,r2,p2,_⟩:=I.tuple hb
 refine HT.cat_tup p1 p2 (λz=>hx (r1.nil_iff.mp z)) (λz=>⟨.ref a,H,I,rfl,q1 (r2.nil_iff.mp z)⟩) (λz=>?_) (by rw[<-r1.length,<-r2.length];exact hz)
 refine⟨.ref s.heap.objs.size,_,I.laid (t':=s.toks) (o:=.tup (xs++ys)) (λb ob q=>aj _ q) (aw _) ?_,rfl,q2 (λw=>z (r2.nil_iff.mpr w)) _ (I.hok.fresh (aw _))⟩
 exact⟨by rw[ai];exact hz,_,r1.append r2,kY.new _ _⟩
end
def Jq(n:Nat)(i:Int):Option Nat:=if 0<=i then(if i<n then some i.toNat else none) else if -(n:Int)<=i then some (i+n).toNat else none
def Jk{α:Type}(xs:List α)(i:Int):Option α:=(Jq xs.length i).bind λj=>xs[j]?
theorem Br{n:Nat}{i:Int}{j:Nat}(h:Jq n i=some j):seqIndex? i n=some j/\j<n/\-(n:Int)<=i/\i<n:=by
 unfold Jq at h
 by_cases h0:0<=i
 ·rw[if_pos h0] at h
  by_cases h1:i<n
  ·rw[if_pos h1] at h
   have e:i.toNat=j:=Option.some.inj h
   exact⟨by rw[seqIndex_of h0 h1,e],by lia,by lia,h1⟩
  ·rw[if_neg h1] at h;cases h
 ·rw[if_neg h0] at h
  by_cases h1:-(n:Int)<=i
  ·rw[if_pos h1] at h
   have e:(i+n).toNat=j:=Option.some.inj h
   exact⟨by rw[seqIndex_neg (by lia) h1,e],by lia,h1,by lia⟩
  ·rw[if_neg h1] at h;cases h
theorem vS{α:Type}{xs:List α}{i:Int}{v:α}(h:Jk xs i=some v):∃j,seqIndex? i xs.length=some j/\xs[j]?=some v/\j<xs.length/\-(xs.length:Int)<=i/\i<xs.length:=by
 unfold Jk at h
 cases e:Jq xs.length i with
 |none=>rw[e] at h;cases h
 |some j=>
  rw[e] at h
  obtain⟨h1,h2,h3,h4⟩:=Br e
  exact⟨j,h1,h,h2,h3,h4⟩
def AZ(b:Expr):Prop:=∀o i,subscripted b false o i=operate [o,i] (getItem o i)
def Gw(X:Cx)(r:R2):Prop:=
 ∀(value slice:Expr) (pins:List (Addr×Obj)) (s:Shared) (σ:St) (H:Hp) (x y:V) (v u:Value) (Q:VK),bN X pins σ H s->cy x v->cy y u->r x y H Q->
  subscripted slice false v u=operate [v,u] (getItem v u)->wpAny (model X.prog X.w) X.A (subscriptTail value slice v u) (EP X pins σ Q) X.xe s
def Lk(X:Cx)(id:String)(r:V->List V->Hp->VK->Prop):Prop:=
 ∀(pins:List (Addr×Obj)) (s:Shared) (σ:St) (H:Hp) (x:V) (xs:List V) (v:Value) (us:List Value) (Q:VK),bN X pins σ H s->cy x v->cv xs us->r x xs H Q->
  wpAny (model X.prog X.w) X.A (call (.builtin id) (v::us)) (EP X pins σ Q) X.xe s
section
variable{X:Cx}{a b:Expr}{ta tb:TE}{pos:Pos}
theorem Gw.or{r r':R2}(h:Gw X r)(h':Gw X r'):Gw X (λx y H Q=>r x y H Q\/r' x y H Q):=by
 intro value slice pins s σ H x y v u Q I rx ry q hs
 rcases q with q|q
 ·exact h value slice pins s σ H x y v u Q I rx ry q hs
 ·exact h' value slice pins s σ H x y v u Q I rx ry q hs
theorem LU{r:R2}(hr:Gw X r)(ha:PE X a ta)(hb:PE X b tb)(hs:AZ b):PE X (.Subscript a b pos) (bA r ta tb):=by
 intro pins s σ H Q I h
 exact Subscript_ (JK ha hb I h λv u s2 x y H2 I2 rx ry q=>hr a b pins s2 σ H2 x y v u Q I2 rx ry q (hs _ _))
def L3(K:Fg):R2:=λx y H Q=>∃p xs i v,x=.ref p/\y=.int i/\ce K H p xs/\Jk xs i=some v/\Q v H
def L5(K:Fg):R2:=λx y H Q=>∃p xs i v,x=.ref p/\y=.int i/\dZ K H p xs/\Jk xs i=some v/\Q v H
def L4:R2:=λx y H Q=>∃z i c,x=.str z/\y=.int i/\z.length<=sizeLine/\Jk z.cps.toList i=some c/\Q (.str ⟨#[c]⟩) H
theorem G6:Gw X (L3 X.K):=by
 intro value slice pins s σ H x y v u Q I rx ry h hs
 obtain⟨p,xs,i,z,rfl,rfl,hq,he,q⟩:=h
 cases rx
 obtain⟨t,rfl⟩:=ry
 obtain⟨its,r,pl,hz⟩:=I.list hq
 obtain⟨j,h1,h2,h3,h4,h5⟩:=vS he
 obtain⟨w,ew,rw'⟩:=r.get h2
 have hl:=r.length
 have hn:=sX
 have fin:EP X pins σ Q w s:=⟨z,H,I,rw',q⟩
 by_cases h0:0<=i
 ·have hj:i.toNat=j:=by
   rw[seqIndex_of h0 h5] at h1
   exact Option.some.inj h1
  exact item_listR pl.isList h0 (by lia) (by rw[hj];simpa using ew) fin hs
 ·have hj:(i+(its.toArray.size:Int)).toNat=j:=by
   rw[seqIndex_neg (by lia) h4] at h1
   rw[ak,<-hl]
   exact Option.some.inj h1
  exact subscriptTail_builtinR (x:=w) pl.isList.typeIs slot_list_getitem.lookup
   (wpAny_getItem_list_neg (Q:=λr s'=>r=w/\EP X pins σ Q r s') pl.isList (by lia) (by rw[ak]<;>lia) (by lia) (by rw[hj];simpa using ew) ⟨rfl,fin⟩) hs
theorem JY:Gw X (L5 X.K):=by
 intro value slice pins s σ H x y v u Q I rx ry h hs
 obtain⟨p,xs,i,z,rfl,rfl,hq,he,q⟩:=h
 cases rx
 obtain⟨t,rfl⟩:=ry
 obtain⟨its,r,pl,hz⟩:=I.tuple hq
 obtain⟨j,h1,h2,h3,h4,h5⟩:=vS he
 obtain⟨w,ew,rw'⟩:=r.get h2
 have hl:=r.length
 have hn:=sX
 have fin:EP X pins σ Q w s:=⟨z,H,I,rw',q⟩
 exact subscriptTail_builtinR (x:=w) pl.typeIs slot_tuple_getitem.lookup
  (getItem_tuple (j:=j) (Q:=λr s'=>r=w/\EP X pins σ Q r s') pl (by lia) (by lia) (by rw[ak,<-hl];exact h1) (by simpa using ew) ⟨rfl,fin⟩) hs
theorem JX:Gw X L4:=by
 intro value slice pins s σ H x y v u Q I rx ry h hs
 obtain⟨z,i,c,rfl,rfl,hz,he,q⟩:=h
 obtain⟨t,rfl⟩:=rx
 obtain⟨t',rfl⟩:=ry
 obtain⟨j,h1,h2,h3,h4,h5⟩:=vS he
 have hl:z.cps.toList.length=z.length:=by simp[Str.length]
 rw[hl] at h1 h4 h5
 have hn:=sX
 exact tail_any (typeIs_str s z t) slot_str_getitem.lookup (getItem_str (c:=c) (by
  have e1:decide (i < -(2 ^ 63:Int))=false:=decide_eq_false (by lia)
  have e2:decide (i >= 2 ^ 63)=false:=decide_eq_false (by lia)
  rw[e1,e2,Bool.or_false]) (by rw[h1];simpa using h2) ⟨.str ⟨#[c]⟩,H,I.tok _,⟨_,rfl⟩,q⟩) hs
def dN(K:Fg):R2:=λx y H Q=>L3 K x y H Q\/L5 K x y H Q\/L4 x y H Q
theorem aU:Gw X (dN X.K):=G6.or (JY.or JX)
theorem Ad(its:List Value)(n j:Nat)(u:Value):Obj.mapSeq (·.setIfInBounds j u) {cls:=.type "list",data:=.seq its.toArray n}={cls:=.type "list",data:=.seq (its.set j u).toArray n}:=by
 simp[Obj.mapSeq]
theorem bN.lst{pins:List (Addr×Obj)}{σ:St}{H:Hp}{s:Shared}{p:Addr}{xs:List V}(I:bN X pins σ H s)(h:H p=some (.lst xs)) :
  ∃(its:List Value) (n:Nat),cv xs its/\s.heap.get? p=some {cls:=.type "list",data:=.seq its.toArray n}/\xs.length<=sizeLine:=by
 obtain⟨z,its,n,r,e⟩:=I.hok p _ h
 exact⟨its,n,r,e,z⟩
theorem bN.lstUpd{pins:List (Addr×Obj)}{σ:St}{H:Hp}{s:Shared}{p:Addr}{xs ys:List V}{its its':List Value}{n n':Nat}{f:Obj->Obj}(I:bN X pins σ H s)(h:H p=some (.lst xs))
  (ho:s.heap.get? p=some {cls:=.type "list",data:=.seq its.toArray n}) (hf:f {cls:=.type "list",data:=.seq its.toArray n}={cls:=.type "list",data:=.seq its'.toArray n'}) (r:cv ys its') (hz:ys.length<=sizeLine) (t:Nat) :
  bN X pins σ (upd H p (.lst ys)) {s with heap:=s.heap.update p f,toks:=t}:=by
 have e:(s.heap.update p f).get? p=some {cls:=.type "list",data:=.seq its'.toArray n'}:=by
  rw[i5 f ho (by rw[hf]<;>rfl),hf]
 refine I.write (x:=p) (e:=p) (by rw[h];trivial) (.inl rfl) (λb u hb q=>(cV _ _ (Ne.symm hb)).trans q) ⟨_,e⟩ ?_
 exact⟨hz,its',n',r,e⟩
def nv:V->V->V->Hp->(Hp->Prop)->Prop:=λo i v H Q=>∃p xs k j,o=.ref p/\i=.int k/\H p=some (.lst xs)/\Jq xs.length k=some j/\Q (upd H p (.lst (xs.set j v)))
theorem jH:GH X nv:=by
 intro pins s σ H o i v ov iv u Q I ro ri rv h
 obtain⟨p,xs,k,j,rfl,rfl,hp,hj,q⟩:=h
 cases ro
 obtain⟨t,rfl⟩:=ri
 obtain⟨its,n,r,ho,hz⟩:=I.lst hp
 obtain⟨h1,h2,h3,h4⟩:=Br hj
 have hl:=r.length
 have hn:=sX
 have I':bN X pins σ (upd H p (.lst (xs.set j v))) {s with heap:=s.heap.update p (Obj.mapSeq (·.setIfInBounds j u))}:=
  I.lstUpd hp ho (Ad its n j u) (r.set rv j) (by rw[cR];exact hz) s.toks
 by_cases h0:0<=k
 ·have hk:k.toNat=j:=by
   rw[seqIndex_of h0 h4] at h1
   exact Option.some.inj h1
  exact PySem.W.ki_setAt ho h0 (by lia) (by rw[ak,<-hl];exact h4) (by rw[hk];exact⟨_,I',q⟩)
 ·have hk:(k+(its.toArray.size:Int)).toNat=j:=by
   rw[seqIndex_neg (by lia) h3] at h1
   rw[ak,<-hl]
   exact Option.some.inj h1
  exact PySem.W.ki_setBack ho (by lia) (by rw[ak,<-hl];exact h3) (by lia) (by rw[hk];exact⟨_,I',q⟩)
theorem wM(lo hi:Option Int)(n:Nat):(sliceBounds lo hi none n).1=((HT.sIx n 0 lo:Nat):Int)/\(sliceBounds lo hi none n).2.1=((HT.sIx n n hi:Nat):Int)/\(sliceBounds lo hi none n).2.2=1:=by
 refine⟨?_,?_,rfl⟩
 ·cases lo with
  |none=>simp[sliceBounds,HT.sIx]
  |some i=>
   simp only[sliceBounds,HT.sIx,lA,show(1:Int)>0 by decide,if_true]
   by_cases h:i<0
   ·simp only[h,if_true]<;>lia
   ·simp only[h,if_false]<;>lia
 ·cases hi with
  |none=>simp[sliceBounds,HT.sIx]
  |some i=>
   simp only[sliceBounds,HT.sIx,lA,show(1:Int)>0 by decide,if_true]
   by_cases h:i<0
   ·simp only[h,if_true]<;>lia
   ·simp only[h,if_false]<;>lia
theorem uC(its:List Value)(lo hi:Option Int):slicePick its.toArray lo hi none=((its.drop (HT.sIx its.length 0 lo)).take (HT.sIx its.length its.length hi-HT.sIx its.length 0 lo)).toArray:=by
 obtain⟨h1,h2,h3⟩:=wM lo hi its.toArray.size
 unfold slicePick
 rw[h1,h2,h3]
 simp only[sliceRange_one,pick_run,ak]<;>rfl
def Ma(K:Fg):V->Option Int->Option Int->Hp->VK->Prop:=λx lo hi H Q=>∃a xs,x=.ref a/\ce K H a xs/\∀p,H p=none->Q (.ref p) (upd H p (.lst (ng xs lo hi)))
theorem IN:Eb X (Ma X.K):=by
 intro pins s σ H x v vl vu lo hi sl Q I rx hs pl pu h
 obtain⟨a,xs,rfl,hx,q⟩:=h
 cases rx
 obtain⟨its,r,ht,hz⟩:=I.list hx
 have hlen:=r.length
 refine⟨"list",_,slot_list_getitem.lookup,ht.isList.typeIs,?_⟩
 refine wpAny_getItem_list_slice ht.isList hs pl pu .none (by simp) ?_ (by rw[ak]<;>lia)
 rw[uC,<-hlen]
 refine⟨.ref s.heap.objs.size,_,I.laid (t':=s.toks) (o:=.lst (ng xs lo hi)) (λb ob q=>aj _ q) (aw _) ?_,rfl,q _ (I.hok.fresh (aw _))⟩
 exact⟨bn (qU xs lo hi) hz,_,0,(r.drop (HT.sIx xs.length 0 lo)).take (HT.sIx xs.length xs.length hi-HT.sIx xs.length 0 lo),aD _ rfl⟩
def iG:V->Bool
 |.non=>true
 |.bl _=>true
 |.int _=>true
 |.str _=>true
 |_=>false
def xa:V->V->Bool
 |.non,.non=>true
 |.bl a,.bl b=>a==b
 |.bl a,.int b=>(if a then 1 else 0)==b
 |.int a,.bl b=>a==(if b then 1 else 0)
 |.int a,.int b=>a==b
 |.str a,.str b=>a==b
 |_,_=>false
theorem zJ{A:Around}{s:Shared}{y x:V}{u v:Value}(ry:cy y u)(rx:cy x v)(fy:iG y=true)(fx:iG x=true):SeqAt.EqAt A s u v (xa y x):=by
 cases y with
 |non=>
  cases ry
  cases x with
  |non=>cases rx;exact SeqAt.EqAt.same _
  |bl b=>cases rx;exact SeqAt.EqAt.none_bool b
  |int b=>obtain⟨t,rfl⟩:=rx;exact SeqAt.EqAt.none_int b t
  |str b=>obtain⟨t,rfl⟩:=rx;exact SeqAt.EqAt.none_str b t
  |_=>exact absurd (show false=true from fx) Bool.false_ne_true
 |bl a=>
  cases ry
  cases x with
  |non=>cases rx;exact SeqAt.EqAt.bool_none a
  |bl b=>cases rx;exact SeqAt.EqAt.bool_bool a b
  |int b=>obtain⟨t,rfl⟩:=rx;exact SeqAt.EqAt.bool_int a b t
  |str b=>obtain⟨t,rfl⟩:=rx;exact SeqAt.EqAt.bool_str a b t
  |_=>exact absurd (show false=true from fx) Bool.false_ne_true
 |int a=>
  obtain⟨t',rfl⟩:=ry
  cases x with
  |non=>cases rx;exact SeqAt.EqAt.int_none a t'
  |bl b=>cases rx;exact SeqAt.EqAt.int_bool a t' b
  |int b=>obtain⟨t,rfl⟩:=rx;exact SeqAt.EqAt.int_int a t' b t
  |str b=>obtain⟨t,rfl⟩:=rx;exact SeqAt.EqAt.int_str a t' b t
  |_=>exact absurd (show false=true from fx) Bool.false_ne_true
 |str a=>
  obtain⟨t',rfl⟩:=ry
  cases x with
  |non=>cases rx;exact SeqAt.EqAt.str_none a t'
  |bl b=>cases rx;exact SeqAt.EqAt.str_bool a t' b
  |int b=>obtain⟨t,rfl⟩:=rx;exact SeqAt.EqAt.str_int a t' b t
  |str b=>obtain⟨t,rfl⟩:=rx;exact SeqAt.EqAt.str_str a t' b t
  |_=>exact absurd (show false=true from fx) Bool.false_ne_true
 |_=>exact absurd (show false=true from fy) Bool.false_ne_true
def zK(x:V)(u:Value):Bool:=match u with
 |.none=>xa .non x
 |.bool b=>xa (.bl b) x
 |.int i _=>xa (.int i) x
 |.str z _=>xa (.str z) x
 |_=>false
theorem Ep{x y:V}{u:Value}(r:cy y u)(f:iG y=true):zK x u=xa y x:=by
 cases y with
 |non=>cases r;rfl
 |bl b=>cases r;rfl
 |int i=>obtain⟨t,rfl⟩:=r;rfl
 |str z=>obtain⟨t,rfl⟩:=r;rfl
 |_=>exact absurd (show false=true from f) Bool.false_ne_true
theorem pB{x:V}:∀{xs:List V} {us:List Value},cv xs us->xs.all iG=true->us.any (zK x)=xs.any λy=>xa y x
 |_,_,.nil,_=>rfl
 |y::xs,u::us,.cons r t,f=>by
  rw[List.all_cons,Bool.and_eq_true] at f
  rw[jq,jq,Ep r f.1,pB t f.2]
theorem ni{A:Around}{s:Shared}{x:V}{v:Value}(rx:cy x v)(fx:iG x=true):∀{xs:List V} {us:List Value},cv xs us->xs.all iG=true->∀u∈us,SeqAt.EqAt A s u v (zK x u)
 |_,_,.nil,_=>λu hu=>by cases hu
 |y::xs,u::us,.cons r t,f=>λu' hu=>by
  rw[List.all_cons,Bool.and_eq_true] at f
  rcases aJ.mp hu with rfl|hu
  ·rw[Ep r f.1];exact zJ r rx f.1 fx
  ·exact ni rx fx t f.2 u' hu
def qX(x:V)(xs:List V):Bool:=xs.any λy=>xa y x
def zo(K:Fg)(neg:Bool):R2:=λx y H Q=>∃p xs,y=.ref p/\(ce K H p xs\/dZ K H p xs)/\iG x=true/\xs.all iG=true/\Q (.bl (if neg then !qX x xs else qX x xs)) H
theorem gU:jM X (compareOp .In) (zo X.K false):=by
 intro pins s σ H x y v u Q I rx ry h
 obtain⟨p,xs,rfl,hq,fx,fs,q⟩:=h
 cases ry
 rcases hq with hq|hq
 ·obtain⟨its,r,pl,hz⟩:=I.list hq
  refine SeqAt.in_listAt (zK x) pl.isList (λw hw=>ni rx fx r fs w (by simpa using hw)) ⟨.bl _,H,I,rfl,?_⟩
  rw[show its.toArray.any (zK x)=its.any (zK x) by simp,pB r fs]
  exact q
 ·obtain⟨its,r,pl,hz⟩:=I.tuple hq
  refine SeqAt.in_tupleAt (zK x) pl (λw hw=>ni rx fx r fs w (by simpa using hw)) ⟨.bl _,H,I,rfl,?_⟩
  rw[show its.toArray.any (zK x)=its.any (zK x) by simp,pB r fs]
  exact q
theorem mB:jM X (compareOp .NotIn) (zo X.K true):=by
 intro pins s σ H x y v u Q I rx ry h
 obtain⟨p,xs,rfl,hq,fx,fs,q⟩:=h
 cases ry
 rcases hq with hq|hq
 ·obtain⟨its,r,pl,hz⟩:=I.list hq
  refine SeqAt.notIn_listAt (zK x) pl.isList (λw hw=>ni rx fx r fs w (by simpa using hw)) ⟨.bl _,H,I,rfl,?_⟩
  rw[show its.toArray.any (zK x)=its.any (zK x) by simp,pB r fs]
  exact q
 ·obtain⟨its,r,pl,hz⟩:=I.tuple hq
  refine SeqAt.notIn_tupleAt (zK x) pl (λw hw=>ni rx fx r fs w (by simpa using hw)) ⟨.bl _,H,I,rfl,?_⟩
  rw[show its.toArray.any (zK x)=its.any (zK x) by simp,pB r fs]
  exact q
theorem mq:ja X (.type "list") (λxs H Q=>∃p ys,xs=[.ref p]/\(ce X.K H p ys\/dZ X.K H p ys)/\∀l,H l=none->Q (.ref l) (upd H l (.lst ys))):=by
 intro pins s σ H xs us Q I r h
 obtain⟨p,ys,rfl,hq,q⟩:=h
 obtain⟨u,rfl,rx⟩:=m5 r
 cases rx
 have fin:∀(its:List Value),cv ys its->ys.length<=sizeLine->∀(h':Heap) (c':Nat),(∀b o',s.heap.get? b=some o'->h'.get? b=some o')->
   h'.get? s.heap.objs.size=some {cls:=.type "list",dict:=none,data:=.seq its.toArray c',slots:=#[]}->EP X pins σ Q (.ref s.heap.objs.size) {s with heap:=h'}:=λits r' hz h' c' kp e=>
  ⟨.ref s.heap.objs.size,_,I.laid (t':=s.toks) kp (aw _) (show fA X.prog X.w _ h' _ (.lst ys) from⟨hz,its,c',r',e⟩),rfl,q _ (I.hok.fresh (aw _))⟩
 rcases hq with hq|hq
 ·obtain⟨its,r',pl,hz⟩:=I.list hq
  have hlen:=r'.length
  obtain⟨o,ho,hc,n,hd⟩:=pl.isList
  exact call_list_seq p (.inl rfl) ho hc hd (λh' c' kp e=>fin its r' hz h' c' kp e) (by simp only[ak]<;>lia)
 ·obtain⟨its,r',pl,hz⟩:=I.tuple hq
  have hlen:=r'.length
  obtain⟨o,ho,hc,n,hd⟩:=pl
  exact call_list_seq p (.inr rfl) ho hc hd (λh' c' kp e=>fin its r' hz h' c' kp e) (by simp only[ak]<;>lia)
theorem dw:ja X (.type "tuple") (λxs H Q=>∃p ys,xs=[.ref p]/\((ce X.K H p ys/\∀l,H l=none->Q (.ref l) (upd H l (.tup ys)))\/(dZ X.K H p ys/\Q (.ref p) H))):=by
 intro pins s σ H xs us Q I r h
 obtain⟨p,ys,rfl,h⟩:=h
 obtain⟨u,rfl,rx⟩:=m5 r
 cases rx
 rcases h with⟨hq,q⟩|⟨hq,q⟩
 ·obtain⟨its,r',pl,hz⟩:=I.list hq
  have hlen:=r'.length
  refine call_tuple_list pl.isList (λh' kp=>?_) (by simp only[ak]<;>lia)
  have I1:bN X pins σ H {s with heap:=h'}:=I.kept (t':=s.toks) kp
  have I2:bN X pins σ (upd H h'.objs.size (.tup ys)) {s with heap:=h'.push {cls:=.type "tuple",data:=.seq its.toArray}}:=
   I1.laid (t':=s.toks) (λb o e=>aj _ e) (aw _) (show fA X.prog X.w _ _ _ (.tup ys) from⟨hz,its,r',kY.new _ _⟩)
  exact⟨.ref h'.objs.size,_,I2,rfl,q _ (I1.hok.fresh (aw _))⟩
 ·obtain⟨its,r',pl,hz⟩:=I.tuple hq
  exact call_tuple_same pl ⟨.ref p,H,I,rfl,q⟩
def MH(K:Fg)(T:String)(x:V)(H:Hp):Prop:=match x with
 |.str _=>T="str"
 |.int _=>T="int"
 |.ref p=>(T="list"/\∃xs,ce K H p xs)\/(T="tuple"/\∃o,K.lookup p=some o/\o.cls=.type "tuple"/\o.dict=none)\/
   (T="dict"/\((∃kvs,H p=some (.dK kvs))\/∃kvs,H p=some (.dT kvs)))\/(T="set"/\∃S n,H p=some (.set S n))
 |_=>False
theorem Go{pins:List (Addr×Obj)}{σ:St}{H:Hp}{s:Shared}{T:String}{x:V}{v:Value}(I:bN X pins σ H s)(r:cy x v)(ty:MH X.K T x H) :
  s.TypeIs v T/\∀a,v=.ref a->∃ob,s.heap.get? a=some ob/\ob.dict=none:=by
 cases x with
 |str z=>
  obtain⟨t,rfl⟩:=r
  cases(show T="str" from ty)
  exact⟨typeIs_str s z t,λ_ e=>nomatch e⟩
 |int i=>
  obtain⟨t,rfl⟩:=r
  cases(show T="int" from ty)
  exact⟨typeIs_int s i t,λ_ e=>nomatch e⟩
 |ref p=>
  cases r
  rcases ty with⟨rfl,xs,hq⟩|⟨rfl,o,hk,hc,hd⟩|⟨rfl,hk⟩|⟨rfl,S,n,hk⟩
  ·obtain⟨its,_,pl,_⟩:=I.list hq
   refine⟨pl.isList.typeIs,λa e=>?_⟩
   cases e
   obtain⟨o,n,e,c,hd,_⟩:=pl
   exact⟨o,e,hd⟩
  ·refine⟨⟨o,I.kIn p o hk,hc⟩,λa e=>?_⟩
   cases e
   exact⟨o,I.kIn _ o hk,hd⟩
  ·have z:∃o,s.heap.get? p=some o/\o.ExactDict:=by
    rcases hk with⟨kvs,hk⟩|⟨kvs,hk⟩
    ·obtain⟨_,_,_,_,o,_,_,e,ex,_⟩:=I.hok p _ hk
     exact⟨o,e,ex⟩
    ·obtain⟨_,_,_,_,o,_,_,e,ex,_⟩:=I.hok p _ hk
     exact⟨o,e,ex⟩
   obtain⟨o,e,ex⟩:=z
   refine⟨⟨o,e,ex.1⟩,λa e2=>?_⟩
   cases e2
   exact⟨o,e,ex.2.1⟩
  ·obtain⟨o,_,_,_,e,ex,_⟩:=I.hok p _ hk
   refine⟨⟨o,e,ex.1⟩,λa e2=>?_⟩
   cases e2
   exact⟨o,e,ex.2.1⟩
 |_=>exact False.elim ty
def FM(K:Fg)(T:String)(r:V->List V->Hp->VK->Prop)(to:TE):TE:=λσ H Q=>to σ H λx H1=>MH K T x H1/\r x [] H1 Q
def vh(K:Fg)(T:String)(r:V->List V->Hp->VK->Prop)(to:TE)(t:TA):TE:=λσ H Q=>to σ H λx H1=>MH K T x H1/\t σ H1 λxs H2=>r x xs H2 Q
variable{o e:Expr}{es:List Expr}{to:TE}{t:TA}{name:Str}{apos cpos:Pos}{T id:String}{r:V->List V->Hp->VK->Prop}
theorem Ks(pa:PlainAttrs T)(slot:Slot T name id)(hty:typeOf (.builtin id)=pure (.type "method_descriptor"))(hm:Lk X id r)(ho:PE X o to)
  (hbase:attributeBase o name X.env (eval o X.env)=eval o X.env:=by rfl) (hline:(apos.endLine==cpos.line)=true:=by rfl):PE X (.Call (.Attribute o name apos) [] [] cpos) (FM X.K T r to):=by
 intro pins s σ H Q I h
 refine wpAny_Call_method0_late hbase hline (fV (ho pins s σ H _ I h) λv s1 ⟨x,H1,I1,r1,ty,q1⟩=>?_)
 obtain⟨h1,h2⟩:=Go I1 r1 ty
 exact⟨T,id,pa,slot,hty,h1,h2,Calls.callWith_builtin rfl (PySem.evalArgs_none (hm pins s1 σ H1 x [] v [] Q I1 r1 .nil q1))⟩
theorem LS(pa:PlainAttrs T)(slot:Slot T name id)(hty:typeOf (.builtin id)=pure (.type "method_descriptor"))(hm:Lk X id r)(ho:PE X o to)(ha:PA X (e::es) t)
  (hbase:attributeBase o name X.env (eval o X.env)=eval o X.env:=by rfl)
  (hfew:((backTo cpos (starEach (e::es) X.env)).all (λx=>!x.1)&&(backToKw cpos (keywordEach [] X.env)).all (λx=>x.1.isSome)
   && decide ((e::es).length+([]:List Keyword).length+(if([]:List Keyword).isEmpty then 0 else 1)<30))=true:=by rfl)
  (hline:(apos.endLine==cpos.line)=true:=by rfl) (hs:starEach (e::es) X.env=(false,eval e X.env)::starEach es X.env:=by rfl) (hplain:(backTo cpos (starEach es X.env)).any (·.1)=false:=by rfl) :
  PE X (.Call (.Attribute o name apos) (e::es) [] cpos) (vh X.K T r to t):=by
 intro pins s σ H Q I h
 refine wpAny_Call_method_late hbase hfew hline rfl (fV (ho pins s σ H _ I h) λv s1 ⟨x,H1,I1,r1,ty,q1⟩=>?_)
 obtain⟨h1,h2⟩:=Go I1 r1 ty
 refine⟨T,id,pa,slot,hty,h1,h2,?_⟩
 have hA:=ha cpos pins s1 σ H1 _ I1 q1
 rw[hs] at hA ⊢
 refine Calls.callWith_builtin (by show(false || (backTo cpos (starEach es X.env)).any (·.1))=false;rw[hplain]<;>rfl) (Calls.evalArgs_plain ?_)
 exact fV hA λus s2 ⟨vs,H2,I2,r2,q2⟩=>hm pins s2 σ H2 x vs v us Q I2 r1 r2 q2
/- xs.append(e),list.index on a module's tuple .. are Lk facts of 06m -/
end
def Mu(X:Cx)(id:String)(r:V->List V->Hp->VK->Prop):Prop:=
 ∀(pins:List (Addr×Obj)) (s:Shared) (σ:St) (H:Hp) (x:V) (xs:List V) (v:Value) (us:List Value) (Q:VK),bN X pins σ H s->cy x v->cv xs us->r x xs H Q->
  wpAny (model X.prog X.w) X.A (call (.builtin id) (v::us)) (EP X pins σ Q) X.xe s
theorem cv.one:∀{x:V} {us:List Value},cv [x] us->∃u,us=[u]/\cy x u
 |_,_,.cons r .nil=>⟨_,rfl,r⟩
theorem cv.zero:∀{us:List Value},cv [] us->us=[]
 |_,.nil=>rfl
theorem cv.dropLast{xs:List V}{us:List Value}(h:cv xs us):cv xs.dropLast us.dropLast:=by
 induction h with
 |nil=>exact .nil
 |cons r t ih=>
  cases t with
  |nil=>exact .nil
  |cons q t'=>exact .cons r ih
theorem cv.rep{xs:List V}{us:List Value}(h:cv xs us):∀k:Nat,cv (az k xs).flatten (az k us).flatten
 |0=>.nil
 |k+1=>by
  rw[ck,ck,eA,eA]
  exact cv.append h (cv.rep h k)
theorem zL{α:Type}(l:List α):l.eraseIdx (l.length-1)=l.dropLast:=by
 induction l with
 |nil=>rfl
 |cons a r ih=>
  cases r with
  |nil=>rfl
  |cons b r=>
   have e:(a::b::r).length-1=((b::r).length-1)+1:=by
    have h1:(a::b::r).length=r.length+2:=rfl
    have h2:(b::r).length=r.length+1:=rfl
    lia
   rw[e,List.eraseIdx_cons_succ,ih]
   all_goals rfl
theorem qB(its:List Value):∀(k:Nat) (acc:List Value),
  lV (λx1 x2=>x1++x2) acc.toArray (az k its.toArray)=(acc++(az k its).flatten).toArray
 |0,acc=>by simp
 |k+1,acc=>by
  have e:acc.toArray++its.toArray=(acc++its).toArray:=by simp
  have e2:(acc++its)++(az k its).flatten=acc++(az (k+1) its).flatten:=by
   rw[ck,eA,eh]
  rw[<-e2,<-qB its k (acc++its),<-e,ck,gk]
section
variable{X:Cx}{pins:List (Addr×Obj)}{σ:St}{H:Hp}{s:Shared}{l b:Addr}{xs ys zs:List V}
theorem bN.lset{its its':List Value}{n:Nat}{f:Array Value->Array Value}{t':Nat}(I:bN X pins σ H s)(hH:H l=some (.lst xs))
  (e:s.heap.get? l=some {cls:=.type "list",data:=.seq its.toArray n}) (hf:f its.toArray=its'.toArray) (hv:cv ys its') (hz:ys.length<=sizeLine) :
  bN X pins σ (upd H l (.lst ys)) {s with heap:=s.heap.update l (Obj.mapSeq f),toks:=t'}:=by
 have q:=PySem.IsL.update e f
 rw[hf] at q
 refine I.write (x:=l) (e:=l) (by rw[hH];exact trivial) (.inl rfl) (λb' u hb hu=>(cV s.heap (Obj.mapSeq f) (Ne.symm hb)).trans hu) ⟨_,q⟩ ?_
 exact⟨hz,its',_,hv,q⟩
theorem bN.lnew{its:List Value}{t':Nat}(I:bN X pins σ H s)(hv:cv ys its)(hz:ys.length<=sizeLine) :
  bN X pins σ (upd H s.heap.objs.size (.lst ys)) {s with heap:=s.heap.push {cls:=.type "list",data:=.seq its.toArray},toks:=t'}:=
 I.laid (λ_ _ q=>aj _ q) (aw _) ⟨hz,its,0,hv,aD _ rfl⟩
theorem bN.fresh(I:bN X pins σ H s):H s.heap.objs.size=none:=I.hok.fresh (aw _)
theorem bN.lstM(I:bN X pins σ H s)(hH:H l=some (.lst xs)):xs.length<=sizeLine/\∃(its:List Value) (n:Nat),cv xs its/\xs.length=its.length/\s.heap.get? l=some {cls:=.type "list",data:=.seq its.toArray n}:=by
 obtain⟨z,its,n,r,e⟩:=I.hok l _ hH
 exact⟨z,its,n,r,r.length,e⟩
theorem xZ{n:Nat}(h:n<=sizeLine):Builtin.List.listTooLong n=false:=by
 unfold Builtin.List.listTooLong
 exact decide_eq_false (by lia)
end
section
variable{X:Cx}
def eC:V->List V->Hp->VK->Prop:=λx vs H Q=>∃l xs y,x=.ref l/\vs=[y]/\H l=some (.lst xs)/\xs.length<sizeLine/\Q .non (upd H l (.lst (xs++[y])))
theorem dL:Mu X "list.append" eC:=by
 intro pins s σ H x vs v us Q I rx rv h
 obtain⟨l,xs,y,rfl,rfl,hH,hz,q⟩:=h
 cases rx
 obtain⟨u,rfl,ru⟩:=rv.one
 obtain⟨z,its,n,r,hl,e⟩:=I.lstM hH
 refine call_meets F.slot_list_append ⟨_,e,rfl⟩ F.entry_list_append (F.args_list_append_2 _ _) (PySem.list_append l its.toArray n u (by rw[ak];lia)) ⟨e,?_⟩
 refine⟨.non,_,I.lset (its':=its++[u]) hH e (by simp) (r.append (.cons ru .nil)) ?_,rfl,q⟩
 rw[ai,aS]
 lia
def BA:V->List V->Hp->VK->Prop:=λx vs H Q=>∃l b xs zs,x=.ref l/\vs=[.ref b]/\H l=some (.lst xs)/\H b=some (.lst zs)/\xs.length+zs.length<=sizeLine/\Q .non (upd H l (.lst (xs++zs)))
theorem De:Mu X "list.extend" BA:=by
 intro pins s σ H x vs v us Q I rx rv h
 obtain⟨l,b,xs,zs,rfl,rfl,hH,hB,hz,q⟩:=h
 cases rx
 obtain⟨u,rfl,ru⟩:=rv.one
 cases ru
 obtain⟨z,its,n,r,hl,e⟩:=I.lstM hH
 obtain⟨z2,its2,n2,r2,hl2,e2⟩:=I.lstM hB
 have hsz:its.toArray.size+its2.toArray.size<=sizeLine:=by rw[ak,ak];lia
 have hlong:¬(!its.toArray.isEmpty&&Builtin.List.listTooLong (its.toArray.size+its2.toArray.size))=true:=by
  rw[xZ hsz,Bool.and_false]
  exact Bool.false_ne_true
 refine call_meets F.slot_list_extend ⟨_,e,rfl⟩ F.entry_list_extend (F.args_list_extend_2 _ _)
  (AutoSeq1.list_extend_list_list_0 l its.toArray n b its2.toArray n2 hlong (by rw[ak];lia) (by lia)) ⟨e,e2,?_⟩
 refine⟨.non,_,I.lset (its':=its++its2) hH e (by simp) (r.append r2) ?_,rfl,q⟩
 rw[ai]
 lia
def Ix:V->List V->Hp->VK->Prop:=λx vs H Q=>∃l xs y,x=.ref l/\vs=[]/\H l=some (.lst xs)/\xs[xs.length-1]?=some y/\Q y (upd H l (.lst xs.dropLast))
theorem Ae:Mu X "list.pop" Ix:=by
 intro pins s σ H x vs v us Q I rx rv h
 obtain⟨l,xs,y,rfl,rfl,hH,hy,q⟩:=h
 cases rx
 have hus:=rv.zero
 subst hus
 obtain⟨z,its,n,r,hl,e⟩:=I.lstM hH
 obtain⟨u,hu,ru⟩:=r.get hy
 have hy':its.toArray[its.toArray.size-1]?=some u:=by
  show its.toArray[its.length-1]?=some u
  rw[<-bQ,<-hl]
  exact hu
 refine call_meets F.slot_list_pop ⟨_,e,rfl⟩ F.entry_list_pop (F.args_list_pop_1 _) (MeetsSeq.list_pop_last l its.toArray n u hy' (by rw[ak];lia)) ⟨e,?_⟩
 refine⟨y,_,I.lset (its':=its.dropLast) hH e ?_ r.dropLast ?_,ru,q⟩
 ·show its.toArray.eraseIdxIfInBounds (its.toArray.size-1)=its.dropLast.toArray
  rw[ak,List.eraseIdxIfInBounds_toArray,zL]
 ·rw[List.length_dropLast]
  lia
def L0:R2:=λx y H Q=>∃l b xs zs,x=.ref l/\y=.ref b/\H l=some (.lst xs)/\H b=some (.lst zs)/\xs.length+zs.length<=sizeLine/\∀p,H p=none->Q (.ref p) (upd H p (.lst (xs++zs)))
theorem Kg:jM X (binaryOp .Add) L0:=by
 intro pins s σ H x y v u Q I rx ry h
 obtain⟨l,b,xs,zs,rfl,rfl,hH,hB,hz,q⟩:=h
 cases rx
 cases ry
 obtain⟨z,its,n,r,hl,e⟩:=I.lstM hH
 obtain⟨z2,its2,n2,r2,hl2,e2⟩:=I.lstM hB
 refine PySem.P.add_list e e2 ?_ (by rw[ak,ak];lia)
 have ea:its.toArray++its2.toArray=(its++its2).toArray:=by simp
 rw[ea]
 exact⟨.ref _,_,I.lnew (t':=s.toks) (r.append r2) (by rw[ai];lia),rfl,q _ I.fresh⟩
def L9:R2:=λx y H Q=>∃l k xs,x=.ref l/\y=.int k/\H l=some (.lst xs)/\-(2 ^ 63)<=k/\k<2 ^ 63/\xs.length*k.toNat<=sizeLine/\
 ∀p,H p=none->Q (.ref p) (upd H p (.lst (az k.toNat xs).flatten))
theorem Bt{α:Type}(xs:List α)(k:Nat):(az k xs).flatten.length=k*xs.length:=by
 induction k with
 |zero=>simp
 |succ k ih=>rw[ck,eA,ai,ih,Nat.succ_mul,Nat.add_comm]
theorem Kq:jM X (binaryOp .Mult) L9:=by
 intro pins s σ H x y v u Q I rx ry h
 obtain⟨l,k,xs,rfl,rfl,hH,h1,h2,hz,q⟩:=h
 cases rx
 obtain⟨t,rfl⟩:=ry
 obtain⟨z,its,n,r,hl,e⟩:=I.lstM hH
 have hlen:its.toArray.size*k.toNat<=sizeLine:=by rw[ak,<-hl];exact hz
 have hcap:¬its.toArray.size*k.toNat>(2 ^ 63-1) / 8:=by
  have:(sizeLine:Nat)<=(2 ^ 63-1) / 8:=by decide
  lia
 have hfit:¬(!Builtin.List.listFitsIndex k)=true:=by
  rw[fitsIndex_both h1 h2]
  exact Bool.false_ne_true
 have hlong:¬Builtin.List.listTooLong (its.toArray.size*k.toNat)=true:=by
  rw[xZ hlen]
  exact Bool.false_ne_true
 have hnew:lV (λx1 x2=>x1++x2) #[] (az (if its.toArray.isEmpty=true then 0 else k.toNat) its.toArray)=(az k.toNat its).flatten.toArray:=by
  have f0:∀m:Nat,lV (λx1 x2=>x1++x2) #[] (az m its.toArray)=(az m its).flatten.toArray:=λm=>by
   have:=qB its m []
   rw[jJ] at this
   exact this
  rw[f0]
  cases its with
  |nil=>simp
  |cons a r'=>rw[if_neg (by simp)]
 refine wpAny_binaryOp_repeat_ref (T:="list") (U:="int") (by decide) ⟨_,e,rfl⟩ (λs'=>typeIs_int s' k t) noFill_list_mul F.fills_int_mul F.slot_int_rmul repeat_list F.slot_int_index.lookup
  (call_meets F.slot_int_rmul (typeIs_int s k t) F.entry_int_rmul (F.args_int_rmul_2 _ _) (int___rmul___int_list k t l its.toArray n)
   ⟨e,rfl,⟨_,e,rfl⟩,call_meets F.slot_list_mul ⟨_,e,rfl⟩ F.entry_list_mul (F.args_list_mul_2 _ _) (AutoListH.list___mul___list_int_3 l its.toArray n k t hfit hcap hlong) ⟨e,?_⟩⟩)
 rw[hnew]
 exact⟨.ref _,_,I.lnew (t':=s.toks) (r.rep k.toNat) (by rw[Bt,o0];exact hz),rfl,q _ I.fresh⟩
end
section
variable{prog:Program}{w:World}{A:Around}{E:Value->Shared->Prop}{s:Shared}
set_option maxRecDepth 100000 in
end
section
variable{X:Cx}
end
end L2
namespace Att
open PySem PySem.W PySem.Calls PyProof.Rows
theorem rN{P:Params}{h:Heap}:∀(ns:List Int) (vs:List Value),WellAll P h vs (ns.map WData.int)->IntsAre vs ns:=by
 intro ns
 induction ns with
 |nil=>
  intro vs w
  rw[cr] at w
  cases w
  exact .nil
 |cons n ns ih=>
  intro vs w
  rw[bt] at w
  cases w with
  |cons a b=>
   cases a
   exact .cons _ _ (ih _ b)
theorem DC{l:OpenLaw}{n:Nat}(hn:l.most=some n){P:Params}{h:Heap}{args:List WData}{vals:List Value}
  (hpre:l.row.toRowW.claim.pre args=true) (hwl:WellAll P h vals args) :
  ∃a vs ns,vals=[Value.ref a]/\args=[WData.list (ns.map WData.int)]/\h.get? a=some {cls:=.type "list",data:=.seq vs.toArray}/\IntsAre vs ns/\ns.length<=n:=by
 have hsh:WShape.hasAll [] args [.list .int]=true:=(pre_splitW hpre).1
 have hc:l.pre.holds [] {args:=args}=true:=(pre_splitW hpre).2
 obtain⟨d,r,rfl,h1,h2⟩:=hasAllW_cons hsh
 obtain rfl:=hasAllW_nil h2
 obtain⟨xs,rfl,h3⟩:=hasW_list h1
 obtain⟨ns,rfl⟩:=items_int h3
 have hlen:ns.length<=n:=by
  unfold OpenLaw.pre at hc
  have h4:(WTm.not (.lt (.lit (.int (n:Int))) (.len (.arg 0)))).holds [] {args:=[.list (ns.map .int)]}=true:=by
   have h4:=(holds_andW hc).1
   rw[hn] at h4
   exact h4
  have h5:=condW_of h4 (w_not (w_lt w_lit (w_len_list (w_arg rfl))))
  rw[ab] at h5
  refine Nat.le_of_not_lt λq=>?_
  have q':(n:Int)<((ns.length:Nat):Int):=by lia
  first
   |(rw[decide_eq_true q'] at h5;exact absurd h5 (by decide))
   |(simp at h5;lia)
 cases hwl with
 |cons w1 w2=>
  cases w2
  cases w1 with
  |list ho hall=>exact⟨_,_,ns,rfl,rfl,ho,rN ns _ hall,hlen⟩
theorem Dr(l:OpenLaw)(args:List WData):l.row.toRowW.claim.post args (.bool true) args=true:=
 postW_of (r:=l.row.toRowW) (X:=(true==true))
  (show WShape.has [] (.bool true) .bool=true by first|rfl|decide|simp[WShape.has,WShape.arms,WShape.armsAll])
  (show(WTm.eq .res (.lit (.bool true))).value [] {args:=args,res:=some (.bool true),after:=args}=some (.bool (true==true)) from w_eq_bool (w_res rfl) w_lit) rfl
theorem attach_call{l:OpenLaw}{n:Nat}{q:Program}{loose:List Str}{XP:(Str->Option Value)->Heap->Prop}{YP:World->Heap->Prop}{d:DefRec}
  (hn:l.most=some n) (hdf:d.params.defaults=[])
  (call:∀(w:World) (s₀ s₁:Shared) (mg mb:Str->Option Value) (fa:Addr) (o:Obj) (pm cd doc:Value) (a:Addr) (vs:List Value) (ns:List Int),
   Ground q loose [] XP w s₀ mg mb s₁.heap->YP w s₁.heap->
   s₁.heap.get? fa=some o->o.data=.func (docDef d.name d.params d.body d.scope pm cd doc)->s₁.heap.CodeRec cd d.name->mg d.name=some (.ref fa)->
   s₁.heap.get? a=some {cls:=.type "list",data:=.seq vs.toArray}->IntsAre vs ns->ns.length<=n->s₁.gens=#[]->
   codeAny (model l.prog w) callerA (.call (.ref fa) ⟨[.ref a],[]⟩) (λr s'=>r=.ok (.ret (.bool true))/\OldK s₁.heap s'.heap/\s'.os=s₁.os/\AllBare s'.gens) s₁) :
  WalkO q loose XP YP l.row.toRowW d [] (λf vs=>sf f vs):=by
 intro w s₀ s₁ mg mb G Y fa o pm cd doc dV kV ho hd hcd hD hmg hg args vals as hpre hlay hrd hwl hlo
 obtain rfl:dV=.none:=Dflts.none hD hdf
 obtain rfl:kV=.none:=Dflts.noKw hD
 obtain⟨a,vs,ns,rfl,rfl,hobj,hints,hlen⟩:=DC hn hpre hwl
 refine enter_call (codeAny_mono (call w s₀ s₁ mg mb fa o pm cd doc a vs ns G Y ho (fd_plain hd) hcd hmg hobj hints hlen hg) λr s' hq=>?_)
 obtain⟨rfl,h2,h3,h4⟩:=hq
 exact⟨.inl ⟨.bool true,.bool true,[],rfl,λ_=>rfl,.bool true,Dr l _,λ_=>⟨List.Pairwise.nil,λ_ hm=>(nomatch hm)⟩⟩,h2,h3,h4⟩
section
variable{prog:Program}{w:World}{A:Around}{E:Value->Shared->Prop}{s:Shared}{K:Frag}
end
end Att
namespace L2
open PySem PySem.Spec PyProof.Rows
theorem vy:∀{vs:List Value} {ns:List Int},IntsAre vs ns->cv (ns.map V.int) vs
 |_,_,.nil=>.nil
 |_,_,.cons n t h=>.cons ⟨t,rfl⟩ (vy h)
def GG(H:Hp):Prop:=∀b,H b=none\/∃o xs,H b=some (.frz o (.lst xs))
theorem EL{P:Program}{w:World}{K:Fg}{mg mb:Str->Option Value}{CX:D2}{k:Nat}{fa a:Addr}{fd:FuncData}{x:Str}{sp:Sp}{s₁:Shared}{vs:List Value}{ns:List Int}
  (KX:K.In s₁.heap) (hns:s₁.heap.Ns mainGlobals mg) (hb:s₁.heap.Ns builtinsNs mb) (hbb:∀x:Str,x≠"__name__"->mb x=bootBuiltins x) (hlim:s₁.heap.NoLimit) (hg:s₁.gens=#[])
  (ha:s₁.heap.get? a=some {cls:=.type "list",data:=.seq vs.toArray}) (hi:IntsAre vs ns) (hl:ns.length<=sizeLine) (hr:dc k callerA)
  (F:∀base:Heap,K.In base->base.Ns mainGlobals mg->eK P w K mg base CX k fa fd [x] sp) (hbind:∀(s:Shared) (u:Value),BindsTo s fd ⟨[u],[]⟩ [(x,u)])
  (hsp:∀H:Hp,GG H->ce K H a (ns.map V.int)->sp [.ref a] H (λv _=>v=.bl true) λ_ _ _=>False)
  (hCX:∀H e s',CX [] H s₁ (λ_ _ _=>False) e s'->False) :
  codeAny (model P w) callerA (.call (.ref fa) ⟨[.ref a],[]⟩) (λr s'=>r=.ok (.ret (.bool true))/\OldK s₁.heap s'.heap/\s'.os=s₁.os/\AllBare s'.gens) s₁:=by
 have rv:=vy hi
 have lenV:=hi.length
 have core:∀H:Hp,GG H->ce K H a (ns.map V.int)->oX P w H s₁.heap->(∀b,H b≠none->b=a)->(H a≠none->K.lookup a=none)->
   codeAny (model P w) callerA (.call (.ref fa) ⟨[.ref a],[]⟩) (λr s'=>r=.ok (.ret (.bool true))/\OldK s₁.heap s'.heap/\s'.os=s₁.os/\AllBare s'.gens) s₁:=by
  intro H hO hS hok hA hK
  have base_of:∀{b:Addr} {o:Obj},s₁.heap.get? b=some o->H b=none->(v7 s₁.heap H).get? b=some o:=λe n=>Ey e n
  have noA:∀{b:Addr} {o:Obj} {es:Array DictEntry} {ep:Nat},s₁.heap.get? b=some o->o.data=.dict es ep->H b=none:=λ{b o es ep} e d=>by
   cases q:H b with
   |none=>rfl
   |some u=>
    have e':b=a:=hA b (by rw[q];simp)
    subst e'
    rw[ha] at e;cases e
    have d':Data.seq vs.toArray _=Data.dict es ep:=d
    cases d'
  have nsK:∀{b:Addr} {m:Str->Option Value},s₁.heap.Ns b m->(v7 s₁.heap H).Ns b m:=λ{b m} ⟨o,es,ep,e,d,r⟩=>⟨o,es,ep,base_of e (noA e d),d,r⟩
  have hKb:K.In (v7 s₁.heap H):=λb o e=>base_of (KX b o e) (by
   cases q:H b with
   |none=>rfl
   |some u=>
    have e':b=a:=hA b (by rw[q];simp)
    subst e'
    rw[hK (by rw[q];simp)] at e;cases e)
  have hM:Mod K mg (v7 s₁.heap H):=⟨hKb,nsK hns,⟨mb,nsK hb,hbb⟩,let⟨mc,h1,h2⟩:=hlim;⟨mc,nsK h1,h2⟩⟩
  have e0:zp P w K mg (v7 s₁.heap H) callerA [] s₁ H:=⟨rfl,hM,λb o e=>Hk e,Nat.le_of_eq (CM _ _),trivial,λb hb=>absurd (show b∈([]:List Addr) from hb) (by simp),hok,.of_eq hg⟩
  refine codeAny_mono ((F _ hKb (nsK hns)).run callerA [] s₁ H ⟨[.ref a],[]⟩ [.ref a] [.ref a] _ _ hr e0 (hbind s₁ (.ref a)) (.cons rfl .nil) (hsp H hO hS)) λr s' h=>?_
  cases r with
  |error e=>exact(hCX H e s' h).elim
  |ok fl=>
   cases fl with
   |next=>exact False.elim h
   |brk=>exact False.elim h
   |cont=>exact False.elim h
   |ret u=>
    obtain⟨v,H',os,bare,un,hok',r',q⟩:=h
    have q':v=.bl true:=q
    subst q'
    obtain rfl:u=Value.bool true:=r'
    refine⟨rfl,OldK.of_keep λb o e=>?_,os,bare⟩
    cases q:H b with
    |none=>exact un.keep b o e q (by intro z;exact absurd (show b∈([]:List Addr) from z) (by simp)) (by simp)
    |some u=>
     rcases hO b with z|⟨ob,xs,z⟩
     ·rw[q] at z;cases z
     ·have z2:=un.frzs b ob _ z
      obtain⟨e1,_⟩:=hok b _ z
      obtain⟨e2,_⟩:=hok' b _ z2
      rw[e] at e1;cases e1
      exact e2
 cases hk:K.lookup a with
 |some o=>
  have e:=KX a o hk
  rw[ha] at e
  cases e
  refine core (λ_=>none) (λ_=>.inl rfl) (.inr ⟨_,vs.toArray,_,hk,rfl,rfl,rfl,by rw[ak,lenV];exact hl,by simpa using rv⟩) (λb u z=>by have z':(none:Option HO)=some u:=z;cases z') (λb z=>absurd rfl z) λz=>absurd rfl z
 |none=>
  refine core (λb=>if b=a then some (.frz {cls:=.type "list",data:=.seq vs.toArray} (.lst (ns.map V.int))) else none) (λb=>?_) (.inl (.inr ⟨{cls:=.type "list",data:=.seq vs.toArray},if_pos rfl⟩)) (λb u z=>?_) (λb z=>?_) λ_=>hk
  ·by_cases hb:b=a
   ·exact .inr ⟨_,_,if_pos hb⟩
   ·exact .inl (if_neg hb)
  ·by_cases hb:b=a
   ·have z':=(if_pos hb).symm.trans z
    cases z'
    subst hb
    exact⟨ha,by rw[ab];exact hl,vs,_,rv,ha⟩
   ·have z':=(if_neg hb).symm.trans z
    cases z'
  ·by_cases hb:b=a
   ·exact hb
   ·exact absurd (if_neg hb) z
theorem walk_of{l:PySem.W.OpenLaw}{n k:Nat}{q:Program}{loose:List Str}{XP:(Str->Option Value)->Heap->Prop}{YP:World->Heap->Prop}{d:DefRec}{K:Params->Fg}{CX:World->D2}{sp:World->Sp}{x:Str}
  (hn:l.most=some n) (hn2:n<=sizeLine) (hdf:d.params.defaults=[]) (hr:dc k callerA)
  (hY:∀(w:World) (h:Heap),YP w h->(K w.params).In h)
  (F:∀(w:World) (mg:Str->Option Value) (fa:Addr) (h:Heap),(K w.params).In h->h.Ns mainGlobals mg->mg d.name=some (.ref fa)->
   ∃fd:FuncData,(∀(s:Shared) (u:Value),BindsTo s fd ⟨[u],[]⟩ [(x,u)])/\
    ∀base:Heap,(K w.params).In base->base.Ns mainGlobals mg->eK l.prog w (K w.params) mg base (CX w) k fa fd [x] (sp w))
  (hsp:∀(w:World) (H:Hp) (a:Addr) (ns:List Int),ns.length<=n->GG H->ce (K w.params) H a (ns.map V.int)->sp w [.ref a] H (λv _=>v=.bl true) λ_ _ _=>False)
  (hCX:∀(w:World) (H:Hp) (s:Shared) (e:Value) (s':Shared),CX w [] H s (λ_ _ _=>False) e s'->False) :
  PySem.W.WalkO q loose XP YP l.row.toRowW d [] (λf vs=>sf f vs):=by
 refine Att.attach_call hn hdf λw s₀ s₁ mg mb fa o pm cd doc a vs ns G Y ho hd hcd hmg hobj hints hlen hg=>?_
 have KX:=hY w _ Y
 obtain⟨fd,hb,hF⟩:=F w mg fa _ KX G.T.g hmg
 exact EL KX G.T.g G.T.b G.T.builtins G.T.nolimit hg hobj hints (bn hlen hn2) hr hF hb (λH hO hS=>hsp w H a ns hlen hO hS) λH e s'=>hCX w H s₁ e s'
end L2
/- THE LAST THEOREM (shape;LID,My.* are yours):
  My.Adr: a structure of the addresses that your layer names (classes,functions);My.Txt K t: a structure (Prop) of the equations over K;
  My.txt_mk:{K} {implicit addresses ..} (e1:nsIn K mainGlobals "law"=some (some (.ref f))) (e2:K.lookup f=some ⟨oc,od,.func (fnOf "law" "law" params body scope dV kV doc pm an cdv ct),sl⟩) (e3:codeIn K cdv "law"=true) ..:∃t,My.Txt K t
set_option maxRecDepth 100000 in
set_option maxHeartbeats 0 in
theorem PySem.Challenge.cw_LID_holds : PySem.Challenge.rw_LID.Holds := by
 w_on;o_law;k_head;(case hw=>w_witness2)
 k_fill
 refine L2.walk_of (l:=PySem.Challenge.rw_LID) (n:=63) (k:=40) (x:="script") (CX:=λw=>..) (sp:=λ_=>My.sp_law) rfl (by decide) rfl ⟨rfl,by decide,by decide⟩ (λw h Y=>PySem.W.kIn_of Y) ?F ?S ?C
 case F=>
  intro w mg fa h KX G hmg
  have T:∃t,My.Txt (L2.KOf KX) t:=by
   dsimp only[L2.KOf] -- K must stand as «<heap const> w.params» for k_is
   refine' My.txt_mk ?e1 ?e2 ?e3 ..
   (case e1=>PySem.W.k_is) -- in the order: a name -> its address -> its object -> its parts
   (case e2=>PySem.W.k_is)
   ..
  obtain⟨t,T⟩:=T
  have e0:=hmg.symm.trans (aZ KX G T.law)
  cases e0 -- fa is the law's own address
  exact⟨_,λs u=>.of_eq rfl,λbase kb nb=>My.law_fn T kb nb⟩ -- if «.of_eq rfl» comes too early: refine' ⟨_,?b,λbase kb nb=>My.law_fn T kb nb⟩;exact λs u=>.of_eq rfl
 case S=>exact λw H a ns hl hO hS=>..
 case C=>exact ..
(the tactic k_is has no namespace: write k_is) -/
namespace L2
open PySem PySem.Spec PyProof.Rows
def bT(s:Stmt):Arguments:=match s with
 |.FunctionDef _ a _ _ _ _ _ _ _ _=>a
 |_=>{posonlyargs:=[],args:=[],vararg:=none,kwonlyargs:=[],kw_defaults:=[],kwarg:=none,defaults:=[]}
def aW(s:Stmt):List Stmt:=match s with
 |.FunctionDef _ _ b _ _ _ _ _ _ _=>b
 |_=>[]
def ap(s:Stmt):Scope:=match s with
 |.FunctionDef _ _ _ _ _ _ sc _ _ _=>sc
 |_=>{kind:=.function,names:=[],isGenerator:=false,isCoroutine:=false}
abbrev fU:D2:=λ_ _ _ _ _ _=>False
abbrev E0:XK:=λ_ _ _=>False
theorem E8{X:Cx}:sy fU X E0:=λ_ _ _ _ _ _ _ h=>h.elim
structure lZ(K:Fg)(x qual:Str)(st:Stmt)(f:Addr)(fd:FuncData):Prop where
 ex:∃(oc:Value) (od:Option Addr) (kV doc pm:Value) (an:Option Addr) (cdv ct:Value) (osl:Array (Option Value)),
  fd=aT x qual (bT st) (aW st) (ap st) .none kV doc pm an cdv ct/\K.lookup f=some ⟨oc,od,.func fd,osl⟩/\aR K cdv qual=true
 kp:aM K (.ref f)=true
section
variable{P:Program}{w:World}{K:Fg}{mg:Str->Option Value}{base:Heap}
theorem lZ.ok{x qual:Str}{st:Stmt}{f:Addr}{fd:FuncData}{N ps:List Str}{k:Nat}{sp:Sp}(F:lZ K x qual st f fd)(S:cf N ps (ap st))(len:∀vs H Q E,sp vs H Q E->vs.length=ps.length)
  (hbody:∀(cdv:Value) (A:Around) (outer:List Env) (s:Shared) (H:Hp) (vs:List V) (Q:VK) (E:XK),dc k (A.deeper (envOfC qual (ap st) s.heap.objs.size f cdv))->sp vs H Q E->
   ∃t,jV (fN fU P w K mg base N qual (ap st) f cdv A outer s H E).nox (aW st) t/\t {nx:=λ_ H'=>Q .non H',rt:=Q} (cY N vs) H):eK P w K mg base fU (k+1) f fd ps sp:=by
 obtain⟨oc,od,kV,doc,pm,an,cdv,ct,osl,rfl,lk,hcd⟩:=F.ex
 refine Jn lk hcd S len λA outer s H vs Q E hr hsp=>?_
 obtain⟨t,h,q⟩:=hbody cdv A outer s H vs Q E hr hsp
 exact⟨t,h.nox,q⟩
theorem lZ.binds{x qual:Str}{st:Stmt}{f:Addr}{fd:FuncData}{ps:List Str}(F:lZ K x qual st f fd)
  (h:∀(kV doc pm:Value) (an:Option Addr) (cdv ct:Value) (us:List Value),us.length=ps.length->bindArgs (aT x qual (bT st) (aW st) (ap st) .none kV doc pm an cdv ct) ⟨us,[]⟩=pure (ps.zip us)):m9 K fd ps []:=by
 obtain⟨oc,od,kV,doc,pm,an,cdv,ct,osl,rfl,lk,hcd⟩:=F.ex
 exact .all (h kV doc pm an cdv ct)
theorem cW{x qual:Str}{st:Stmt}{f:Addr}{oc:Value}{od an:Option Addr}{osl:Array (Option Value)}{kV doc pm cdv ct:Value}(l:K.lookup f=some ⟨oc,od,.func (aT x qual (bT st) (aW st) (ap st) .none kV doc pm an cdv ct),osl⟩)
  (c:aR K cdv qual=true) (k:aM K (.ref f)=true):lZ K x qual st f (aT x qual (bT st) (aW st) (ap st) .none kV doc pm an cdv ct):=⟨⟨oc,od,kV,doc,pm,an,cdv,ct,osl,rfl,l,c⟩,k⟩
end
theorem d8{A:Around}{k:Nat}(hr:dc k A):A.units+1<cLine:=fX (Nat.add_le_add_left (by decide:1<=64) _) hr.units
section
variable{X:Cx}
theorem pv(i:Nat){x:Str}{pos:Pos}(hN:X.N[i]?=some x:=by rfl)(hv:Ml X.env.scope x:=by first|exact Or.inl rfl|exact Or.inr (Or.inl rfl)|exact Or.inr (Or.inr rfl))(hd:(x==("__debug__":Str))=false:=by decide)
  (hcd:(x==("__classdict__":Str))=false:=by decide):PE X (.Name x pos) (au i):=KA hN hv hd hcd
end
theorem lg{A B:Prop}(h:B):if false=true then A else B:=by
 rw[if_neg Bool.false_ne_true]
 exact h
theorem ut{A B:Prop}(h:A):if true=true then A else B:=by
 rw[if_pos rfl]
 exact h
def aV(H H':Hp):Prop:=∀b o,H b=some o->H' b=some o
theorem aV.refl(H:Hp):aV H H:=λ_ _ h=>h
theorem aV.trans{H H1 H2:Hp}(a:aV H H1)(b:aV H1 H2):aV H H2:=λc o h=>b c o (a c o h)
theorem aV.free{H H':Hp}(e:aV H H'){l:Addr}(h:H' l=Option.none):H l=Option.none:=by
 cases q:H l with
 |none=>rfl
 |some o=>
  rw[e l o q] at h
  cases h
section
variable{prog:Program}{w:World}{A:Around}{R:Result->Shared->Prop}{s:Shared}
theorem vX{elt target iter:Expr}{ifs:List Expr}{scope:Scope}{pos:Pos}{it acc:Value}{env:Env}(I:Nat->Shared->Prop)
  (turn:∀n s,I n s->wpAny (model prog w) A (pyNext it) (λr s₁=>match r with
   |none=>R (.ok .next) s₁
   |some v=>wpAny (model prog w) A (letOwnedTupleGo target it v) (λ_ s₁=>wpAny (model prog w) A (assign target env v) (λ_ s₂=>
     wpAny (model prog w) A (forIn ifs true λc r=>if r=true then do let ok <-isTrue c env (eval c env);pure (ForInStep.yield ok) else pure (ForInStep.yield r)) (λok s₃=>
      if ok=true then wpAny (model prog w) A (eval elt env) (λx s₄=>
       wpAny (model prog w) A (call (.builtin "list.append") [acc,x]) (λ_ s₅=>∃m,m<n/\I m s₅) (λ_ _=>False) s₄) (λ_ _=>False) s₃
      else ∃m,m<n/\I m s₃) (λ_ _=>False) s₂) (λ_ _=>False) s₁) (λ_ _=>False) s₁) (λ_ _=>False) s)
  (n:Nat) (h:I n s) :
  codeAny (model prog w) A (.compLoop (.ListComp elt [⟨target,iter,ifs,0⟩] scope pos) 0 it acc env) R s:=by
 refine codeAny_loop rfl I (λn s hI=>?_) n h
 show wpAny _ A ((compTurn (.ListComp elt [⟨target,iter,ifs,0⟩] scope pos) 0 it acc env).onRaise (λx=>do noteFrame x env;theTreesLotGoes x)) _ _ s
 refine wpAny_noted ?_
 rw[compTurn_list]
 refine wpAny_bind (wpAny_standAt (wpAny_bind (wpAny_mono (turn n s hI) (λr s₁ h₁=>?_) λ_ _ h'=>h'.elim)))
 cases r with
 |none=>exact wpAny_pure h₁
 |some v=>
  refine wpAny_bind (wpAny_mono h₁ (λ_ s₁' h₁'=>?_) λ_ _ h'=>h'.elim)
  refine wpAny_bind (wpAny_mono h₁' (λ_ s₂ h₂=>wpAny_bind (wpAny_mono h₂ (λok s₃ h₃=>?_) λ_ _ h'=>h'.elim)) λ_ _ h'=>h'.elim)
  cases ok with
  |false=>exact wpAny_pure ⟨rfl,h₃⟩
  |true=>
   exact wpAny_bind (wpAny_bind (wpAny_mono h₃ (λx s₄ h₄=>wpAny_bind (wpAny_mono h₄ (λ_ s₅ h₅=>wpAny_pure (wpAny_pure ⟨rfl,h₅⟩)) λ_ _ h'=>h'.elim)) λ_ _ h'=>h'.elim))
end
theorem oO{env:Env}{f:Str×NameKind->List (Str×Addr)->Sem (ForInStep (List (Str×Addr)))}
  (hf:∀n k cs,f (n,k) cs=if(k==NameKind.free)=true then(do let c <-cellOf env n;pure (.yield ((n,c)::cs))) else pure (.yield cs)) :
  ∀(names:List (Str×NameKind)) (cs:List (Str×Addr)),(∀x∈names,x.2=NameKind.free->∃c,env.cells.lookup x.1=some c)->(∀n c,cs.lookup n=some c->env.cells.lookup n=some c)->
   ∃cl,(forIn names cs f:Sem (List (Str×Addr)))=pure cl/\(∀n c,cl.lookup n=some c->env.cells.lookup n=some c)/\(∀n,(cs.lookup n).isSome=true->(cl.lookup n).isSome=true)/\∀x∈names,x.2=NameKind.free->(cl.lookup x.1).isSome=true
 |[],cs,_,h2=>⟨cs,rfl,h2,λ_ h=>h,λ_ h=>nomatch h⟩
 |(n,k)::r,cs,h1,h2=>by
  have h1r:∀x∈r,x.2=NameKind.free->∃c,env.cells.lookup x.1=some c:=λx hx=>h1 x (bx _ hx)
  rw[List.forIn_cons,hf]
  by_cases hk:k=NameKind.free
  ·subst hk
   obtain⟨c,hc⟩:=h1 (n,NameKind.free) aL rfl
   have h2':∀m d,((n,c)::cs).lookup m=some d->env.cells.lookup m=some d:=λm d hd=>by
    rw[eU] at hd
    cases e:(m==n) with
    |true=>
     rw[e] at hd
     have:m=n:=by simpa using e
     rw[this];cases hd;exact hc
    |false=>rw[e] at hd;exact h2 m d hd
   obtain⟨cl,e1,e2,e3,e4⟩:=oO hf r ((n,c)::cs) h1r h2'
   refine⟨cl,?_,e2,λm hm=>e3 m ?_,λx hx hk=>?_⟩
   ·rw[<-e1]
    have ec:cellOf env n=pure c:=by unfold cellOf;rw[hc]
    rw[ec]
    rfl
   ·rw[eU]
    cases e:(m==n) with
    |true=>rfl
    |false=>exact hm
   ·rcases aJ.mp hx with rfl|hx
    ·exact e3 n (by rw[eU,beq_self_eq_true];rfl)
    ·exact e4 x hx hk
  ·have hb:(k==NameKind.free)=false:=by simpa using hk
   obtain⟨cl,e1,e2,e3,e4⟩:=oO hf r cs h1r h2
   refine⟨cl,?_,e2,e3,λx hx hk'=>?_⟩
   ·rw[<-e1,hb]
    rfl
   ·rcases aJ.mp hx with rfl|hx
    ·exact absurd hk' hk
    ·exact e4 x hx hk'
theorem sH{scope:Scope}{env:Env}(h1:∀x∈scope.names,x.2=NameKind.free->∃c,env.cells.lookup x.1=some c) :
  ∃cl,closureFor scope env=pure cl/\(∀n c,cl.lookup n=some c->env.cells.lookup n=some c)/\∀x∈scope.names,x.2=NameKind.free->(cl.lookup x.1).isSome=true:=by
 obtain⟨cl,e1,e2,_,e4⟩:=oO (env:=env) (f:=λ(x:Str×NameKind) cs=>if(x.2==NameKind.free)=true then(do let c <-cellOf env x.1;pure (.yield ((x.1,c)::cs))) else pure (.yield cs)) (λ_ _ _=>rfl) scope.names [] h1 (λ_ _ h=>nomatch h)
 refine⟨cl,Eq.trans (show closureFor scope env=((forIn scope.names ([]:List (Str×Addr)) λ(x:Str×NameKind) cs=>if(x.2==NameKind.free)=true then(do let c <-cellOf env x.1;pure (.yield ((x.1,c)::cs))) else pure (.yield cs)) >>= λcs=>pure cs) from rfl) ?_,e2,e4⟩
 rw[e1]
 all_goals rfl
theorem iS{env:Env}{x:Str}:∀(names:List (Str×NameKind)),
  (names.map λ(n,k)=>if(k==NameKind.free&&env.scope.kind==.function&&env.kindOf n==some .cell) then(n,NameKind.cell) else(n,k)).lookup x =
   (names.lookup x).map λk=>if(k==NameKind.free&&env.scope.kind==.function&&env.kindOf x==some .cell) then NameKind.cell else k
 |[]=>rfl
 |(n,k)::r=>by
  have ih:=iS (env:=env) (x:=x) r
  show gB x ((if(k==NameKind.free&&env.scope.kind==.function&&env.kindOf n==some .cell)=true then(n,NameKind.cell) else(n,k))::_)=_
  cases hx:x==n with
  |true=>
   have e:x=n:=by simpa using hx
   subst e
   by_cases hc:(k==NameKind.free&&env.scope.kind==.function&&env.kindOf x==some .cell)=true
   ·rw[if_pos hc];simp only[eU,hx,cS,if_pos hc]
   ·rw[if_neg hc];simp only[eU,hx,cS,if_neg hc]
  |false=>
   by_cases hc:(k==NameKind.free&&env.scope.kind==.function&&env.kindOf n==some .cell)=true
   ·rw[if_pos hc];simp only[eU,hx];exact ih
   ·rw[if_neg hc];simp only[eU,hx];exact ih
theorem Fy{scope:Scope}{env:Env}{x:Str}(hcell:∀y∈scope.names,y.2≠NameKind.cell)(h:(relabel scope env).names.lookup x=some .cell\/(relabel scope env).names.lookup x=some .free):scope.names.lookup x=some .free:=by
 have e:(relabel scope env).names.lookup x=_:=iS (env:=env) (x:=x) scope.names
 rw[e] at h
 cases q:scope.names.lookup x with
 |none=>rw[q] at h;rcases h with h|h<;>cases h
 |some k=>
  rw[q] at h
  by_cases hk:k=NameKind.free
  ·rw[hk]
  ·have hb:(k==NameKind.free)=false:=by simpa using hk
   simp only[cS,hb,Bool.false_and,Bool.false_eq_true,if_false] at h
   rcases h with h|h
   ·cases h;exact absurd rfl (hcell _ (cD q))
   ·exact h
theorem IE{scope:Scope}{env:Env}{x:Str}(h:(relabel scope env).names.lookup x≠none):scope.names.lookup x≠none:=by
 have e:(relabel scope env).names.lookup x=_:=iS (env:=env) (x:=x) scope.names
 intro q
 rw[e,q] at h
 exact h rfl
structure sh(sc:Scope)(N:List Str)(scope:Scope)(NY:List Str)(js:List Nat):Prop where
 kind:scope.kind=.function
 cell:∀y∈scope.names,y.2≠NameKind.cell
 names:∀x∈scope.names,x.2=NameKind.local->scope.names.lookup x.1=some .local
 free:∀x∈scope.names,x.2=NameKind.free->sc.names.lookup x.1=some .cell\/sc.names.lookup x.1=some .free
 pre:NY.take N.length=N
 cap:∀p∈N.zipIdx,js.contains p.2=true\/scope.names.lookup p.1=none\/scope.names.lookup p.1=some .free
def w9(js:List Nat)(k:Nat)(σ:St):St:=js.foldl (λs j=>s.set j none) σ++az k none
theorem nS:∀(js:List Nat) (σ:St),(js.foldl (λs j=>s.set j none) σ).length=σ.length
 |[],_=>rfl
 |j::r,σ=>by rw[gk,nS r,cR]
theorem uV:∀(js:List Nat) (σ:St) (i:Nat) (v:V),(js.foldl (λs j=>s.set j none) σ)[i]?=some (some v)->σ[i]?=some (some v)/\js.contains i=false
 |[],σ,i,v,h=>⟨h,rfl⟩
 |j::r,σ,i,v,h=>by
  rw[gk] at h
  obtain⟨h1,h2⟩:=uV r _ i v h
  by_cases e:j=i
  ·subst e
   by_cases hj:j<σ.length
   ·rw[bg hj] at h1;cases h1
   ·rw[bR (by rw[cR];lia)] at h1;cases h1
  ·rw[bC e] at h1
   refine⟨h1,?_⟩
   rw[List.contains_cons,h2]
   have:(i==j)=false:=by simpa using λz=>e z.symm
   rw[this];rfl
theorem GV{js:List Nat}{k:Nat}{σ:St}{i:Nat}{v:V}(h:(w9 js k σ)[i]?=some (some v)):σ[i]?=some (some v)/\js.contains i=false:=by
 unfold w9 at h
 by_cases hi:i<σ.length
 ·rw[bJ (by rw[nS];exact hi)] at h
  exact uV js σ i v h
 ·rw[aX (by rw[nS];lia),List.getElem?_replicate] at h
  split at h<;>cases h
theorem GW{js:List Nat}{k:Nat}{σ:St}:(w9 js k σ).length=σ.length+k:=by
 unfold w9
 rw[ai,nS,bf]
def eM(X:Cx)(NY:List Str)(scope:Scope)(cl:List (Str×Addr))(C:Addr)(s₀:Shared)(H₀:Hp)(fp:List Addr):Cx:=
 {X with N:=NY,s₀:=s₀,H₀:=H₀,env:=compEnvC scope cl C X.env,outer:=X.stack,ex:=fp,fn:=λ_=>false,pn:=[],xe:=λ_ _=>False}
def Co(X:Cx)(ifs:List Expr)(t:TT):Prop:=
 ∀(pins:List (Addr×Obj)) (s:Shared) (σ:St) (H:Hp) (Q:Bool->Hp->Prop),bN X pins σ H s->t σ H Q->
  wpAny (model X.prog X.w) X.A (forIn ifs true λc r=>if r=true then do let ok <-isTrue c X.env (eval c X.env);pure (ForInStep.yield ok) else pure (ForInStep.yield r)) (TP X pins σ Q) X.xe s
def qP:TT:=λ_ H Q=>Q true H
theorem HU{X:Cx}:Co X [] qP:=λ_ _ _ H _ I h=>wpAny_tests_nil ⟨H,I,h⟩
theorem HV{X:Cx}{c:Expr}{t:TT}(h:PT X c t):Co X [c] t:=λpins s σ H Q I q=>wpAny_tests_one (h pins s σ H Q I q)
def pR(D:Addr)(tc:TT)(te:TE):TS:=λE σ H=>tc σ H λb H1=>if b=true then te σ H1 λy H2=>∃ys,H2 D=some (.lst ys)/\ys.length<sizeLine/\E.nx σ (upd H2 D (.lst (ys++[y]))) else E.nx σ H1
def jX(js:List Nat)(k:Nat)(wi:TI)(g:TG)(tc:TT)(te:TE):TE:=λσ H Q=>wi σ H λJ H1=>∀D,H1 D=none->
 ∃W:Nat->Nat->St->Hp->Prop,(∃m,W 0 m (w9 js k σ) (upd H1 D (.lst [])))/\∀i m σ H,W i m σ H->
  (J.stop i H/\Q (.ref D) H)\/(J.go i H/\∃N:St->Hp->Prop,(∀σ' H',N σ' H'->∃m',m'<m/\W (i+1) m' σ' H')/\∀x H',J.yld i H x H'->g x σ H' λσ2 H2=>pR D tc te {nx:=N,rt:=λ_ _=>False,ct:=N,bk:=λ_ H'=>Q (.ref D) H'} σ2 H2)
section
variable{X:Cx}{pins:List (Addr×Obj)}{σ:St}{H2:Hp}{s₂:Shared}{N NY:List Str}{sc scope:Scope}{cl:List (Str×Addr)}{C:Addr}{fp:List Addr}{js:List Nat}{k:Nat}
theorem GP(I2:bN X pins σ H2 s₂)(hf:∀b∈fp,pe X pins H2 b)(hfl:∀b∈fp,∃o,s₂.heap.get? b=some o)(hkind:scope.kind=.function)(hcell:∀y∈scope.names,y.2≠NameKind.cell)
  (hcl1:∀n c,cl.lookup n=some c->X.env.cells.lookup n=some c) (hcl2:∀x∈scope.names,x.2=NameKind.free->(cl.lookup x.1).isSome=true) (hC:s₂.heap.objs.size<=C) :
  (eM X NY scope cl C s₂ H2 fp).Ok where
 mod:=I2.ok.mod
 kind:=hkind
 glob:=I2.ok.glob
 blt:=I2.ok.blt
 above:=hC
 inj:=λx y c h1 h2=>I2.ok.inj x y c (hcl1 x c h1) (hcl1 y c h2)
 has:=λx hx=>by
  have e:scope.names.lookup x=some .free:=Fy (env:=X.env) hcell hx
  exact h9.mp (hcl2 (x,.free) (cD e) rfl)
 cab:=λ_ _ h _=>nomatch h
 hd:=I2.ok.hd
 frames:=I2.ok.frames
 stk:=.inl rfl
 exf:=λb hb=>by
  obtain⟨o,ho⟩:=hfl b hb
  exact⟨aH (bw (aF ho) hC),λx c h=>(hf b hb).2.2.2.2.1 x c (hcl1 x c h)⟩
 bs:=I2.bs
 bsz:=bn I2.ok.bsz I2.sz
 noex:=λb o e hb=>by
  rcases(hf b hb).2.2.2.1 with z|z
  ·exact I2.ok.noex b o e z
  ·exact absurd (bw (aF e) (bn I2.ok.bsz z)) (d5 _)
 exfs:=λb hb z=>by
  rcases aJ.mp (I2.stkSub b z) with e|e
  ·exact(hf b hb).2.1 e
  ·exact(hf b hb).2.2.1 e
 funs:=I2.stack
 frf:=I2.stkFree
variable{elt iter target:Expr}{ifs:List Expr}{pos:Pos}{it:Addr}{tn:Nat->Heap->Prop}{J:It}{g:TG}{tc:TT}{te:TE}{Q:VK}{RR:Value->Addr->Result->Shared->Prop}{E:Value->Shared->Prop}
theorem sI(ok:sh sc N scope NY js)(hsc:X.env.scope=sc)(hN:X.N=N)(hk:NY.length=N.length+k)(hc:X.calm=true)(I2:bN X pins σ H2 s₂)(T:uo X.prog X.w X.K target J fp it tn)(st2:tn 0 s₂.heap)(f2:∀b∈fp,pe X pins H2 b)
  (hcl1:∀n c,cl.lookup n=some c->X.env.cells.lookup n=some c) (hcl2:∀x∈scope.names,x.2=NameKind.free->(cl.lookup x.1).isSome=true)
  (hg:∀cl C s₀ H₀ fp,PG (eM X NY scope cl C s₀ H₀ fp) target g) (hi:∀cl C s₀ H₀ fp,Co (eM X NY scope cl C s₀ H₀ fp) ifs tc) (he:∀cl C s₀ H₀ fp,PE (eM X NY scope cl C s₀ H₀ fp) elt te)
  (loop:∀D,H2 D=none->
   ∃W:Nat->Nat->St->Hp->Prop,(∃m,W 0 m (w9 js k σ) (upd H2 D (.lst [])))/\∀i m σ H,W i m σ H->
    (J.stop i H/\Q (.ref D) H)\/(J.go i H/\∃N:St->Hp->Prop,(∀σ' H',N σ' H'->∃m',m'<m/\W (i+1) m' σ' H')/\∀x H',J.yld i H x H'->g x σ H' λσ2 H2=>pR D tc te {nx:=N,rt:=λ_ _=>False,ct:=N,bk:=λ_ H'=>Q (.ref D) H'} σ2 H2))
  (hRR:∀D C H' s' m,s'.heap.Ns C m->bN X pins σ H' s'->H' C=none->C≠X.env.locals->X.s₀.heap.objs.size<=C->(∀x c,X.env.cells.lookup x=some c->c≠C)->(∀p∈X.pn++pins,p.1≠C)->D≠C->Q (.ref D) H'->RR (.ref D) C (.ok .next) s') :
  wpAny (model X.prog X.w) X.A (newList []) (λacc s₃=>wpAny (model X.prog X.w) X.A (newFunctionEnv scope X.env.globals cl [] X.env.qual none .none (some X.env)) (λcenv s₄=>
   codeAny (model X.prog X.w) X.A (.compStart (.ListComp elt [⟨target,iter,ifs,0⟩] scope pos) 0 (.ref it) acc {cenv with scope:=relabel scope X.env}) (RR acc cenv.locals) s₄) E s₃) E s₂:=by
 refine wpAny_newObj_type (wpAny_newFunctionEnv ok.cell (by intro y hy;simp at hy) (λh₁ hns₁ hsb₁=>?_) ok.kind)
 dsimp only at hns₁ hsb₁ ⊢
 generalize hG:s₂.heap.push {cls:=.type "list",dict:=none,data:=.seq ([]:List Value).toArray}=G at hns₁ hsb₁ ⊢
 have hC:G.objs.size=s₂.heap.objs.size+1:=by rw[<-hG,cA]
 have hDC:s₂.heap.objs.size≠G.objs.size:=by rw[hC];exact aH (dX _)
 have hCle:s₂.heap.objs.size<=G.objs.size:=by rw[hC];exact jB _
 have below:∀b,b<s₂.heap.objs.size->b≠G.objs.size:=λb hb=>by rw[hC];exact aH (cG hb)
 have old:∀b o,s₂.heap.get? b=some o->h₁.get? b=some o:=λb o e=>hsb₁.extBut b o (below b (aF e)) (aj _ (hG ▸ aj _ e))
 have hacc:h₁.get? s₂.heap.objs.size=some {cls:=.type "list",dict:=none,data:=.seq ([]:List Value).toArray}:=hsb₁.extBut _ _ hDC (aj _ (hG ▸ aD _ rfl))
 have hfl:∀b∈fp,∃o,s₂.heap.get? b=some o:=λb hb=>let⟨o,ho,_⟩:=T.obj 0 _ st2 b hb;⟨o,ho⟩
 have fD:H2 s₂.heap.objs.size=none:=I2.hok.fresh (aw _)
 have fC:H2 G.objs.size=none:=I2.hok.fresh hCle
 have I4:bN (eM X NY scope cl G.objs.size s₂ H2 fp) [] (w9 js k σ) (upd H2 s₂.heap.objs.size (.lst [])) {s₂ with heap:=h₁,toks:=s₂.toks+([]:List (Str×Value)).length}:=by
  refine⟨GP I2 f2 hfl ok.kind ok.cell hcl1 hcl2 hCle,rfl,I2.bare,Un.laid old (aw _) fD,⟨_,hns₁,λi y v h1 h2 h3=>?_⟩,λx c h=>?_,?_,λx c h=>?_,λp hp=>absurd (show p∈([]:List (Addr×Obj)) from hp) (by simp),I2.hok.laid old (aw _) ⟨bF _,[],0,.nil,hacc⟩,?_⟩
  ·obtain⟨e1,e2⟩:=GV h2
   have hi:i<N.length:=by
    have:=(af.mp e1).1
    rw[I2.len,hN] at this;exact this
   have hy:N[i]?=some y:=by
    rw[<-ok.pre,hW hi];exact h1
   have hz:(y,i)∈N.zipIdx:=by
    rw[List.mem_zipIdx_iff_getElem?];exact hy
   have nn:scope.names.lookup y≠none:=IE (env:=X.env) (x:=y) (by
    rcases h3 with z|z|z
    ·intro q;rw[show(relabel scope X.env).names.lookup y=_ from z] at q;cases q
    ·intro q;rw[show(relabel scope X.env).names.lookup y=_ from z] at q;cases q
    ·intro q;rw[show(relabel scope X.env).names.lookup y=_ from z] at q;cases q)
   have hfr:scope.names.lookup y=some .free:=by
    rcases ok.cap (y,i) hz with z|z|z
    ·rw[e2] at z;cases z
    ·exact absurd z nn
    ·exact z
   have hX:=ok.free (y,.free) (cD hfr) rfl
   rw[<-hsc] at hX
   obtain⟨m,hn,hl⟩:=I2.loc
   obtain⟨u,ru,lk⟩:=hl i y v (by rw[hN];exact hy) e1 (by
    rcases hX with z|z
    ·exact .inr (.inl z)
    ·exact .inr (.inr z))
   refine⟨u,ru,?_⟩
   rcases lk with⟨lk,_⟩|⟨_,c,hc1,hc2⟩
   ·have lk:X.env.scope.names.lookup y=some .local:=lk
    rcases hX with z|z<;>· rw[z] at lk;cases lk
   ·have hs:=hcl2 (y,.free) (cD hfr) rfl
    obtain⟨c',hc'⟩:=h9.mp hs
    have e3:=hcl1 y c' hc'
    rw[hc1] at e3;cases e3
    refine .inr ⟨?_,c,hc',hc2.keeps old⟩
    show(relabel scope X.env).names.lookup y=some .cell\/(relabel scope X.env).names.lookup y=some .free
    have e:(relabel scope X.env).names.lookup y=_:=iS (env:=X.env) (x:=y) scope.names
    rw[e,hfr,cS]
    split
    ·exact .inl rfl
    ·exact .inr rfl
  ·obtain⟨v,q⟩:=I2.cell x c (hcl1 x c h)
   exact⟨v,q.keeps old⟩
  ·show upd H2 s₂.heap.objs.size (.lst []) G.objs.size=none
   rw[ax (Ne.symm hDC)];exact fC
  ·have q:=I2.freeC x c (hcl1 x c h)
   obtain⟨v,o,ho,_⟩:=I2.cell x c (hcl1 x c h)
   show upd H2 s₂.heap.objs.size (.lst []) c=none
   rw[ax (aH (aF ho))];exact q
  ·show(w9 js k σ).length=NY.length
   rw[GW,I2.len,hN,hk]
 have st4:tn 0 h₁:=T.keep _ _ _ st2 λb _ o e=>old b o e
 obtain⟨W,⟨m0,w0⟩,turn⟩:=loop s₂.heap.objs.size fD
 have stat:∀{H':Hp},(∀b∈fp,H' b=none)->∀b∈fp,pe (eM X NY scope cl G.objs.size s₂ H2 fp) [] H' b:=λhn b hb=>by
  obtain⟨o,ho⟩:=hfl b hb
  refine⟨hn b hb,below b (aF ho),λz=>?_,.inl hb,λx c h=>(f2 b hb).2.2.2.2.1 x c (hcl1 x c h),λp hp=>absurd (show p∈([]:List (Addr×Obj)) from hp) (by simp)⟩
  rcases aJ.mp (I2.stkSub b z) with e|e
  ·exact(f2 b hb).2.1 e
  ·exact(f2 b hb).2.2.1 e
 have go:∀s₄:Shared,s₄={s₂ with heap:=h₁,toks:=s₂.toks+([]:List (Str×Value)).length}->
   codeAny (model X.prog X.w) X.A (.compLoop (.ListComp elt [⟨target,iter,ifs,0⟩] scope pos) 0 (.ref it) (.ref s₂.heap.objs.size) (compEnvC scope cl G.objs.size X.env)) (RR (.ref s₂.heap.objs.size) G.objs.size) s₄:=by
  rintro s₄ rfl
  refine vX (λn s'=>∃i σ' H',bN (eM X NY scope cl G.objs.size s₂ H2 fp) [] σ' H' s'/\tn i s'.heap/\(∀b∈fp,H' b=none)/\W i n σ' H') ?_ m0
   ⟨0,_,_,I4,st4,λb hb=>by
    obtain⟨o,ho⟩:=hfl b hb
    rw[ax (aH (aF ho))];exact(f2 b hb).1,w0⟩
  rintro n s3 ⟨i,σ3,H3,I3,st3,fr3,w3⟩
  rcases turn i n σ3 H3 w3 with⟨stop,qn⟩|⟨go,Nx,hNx,step⟩
  ·refine fV (T.done (eM X NY scope cl G.objs.size s₂ H2 fp) rfl rfl rfl hc i [] s3 σ3 H3 _ I3 (stat fr3) st3 stop) λr s5 ⟨hr,I5⟩=>?_
   subst hr
   have IX:bN X pins σ H3 s5:=I2.call' (ch:=fp) I5.os I5.base I5.hok I5.bare λb hb=>⟨(f2 b hb).2.2.2.1,(f2 b hb).2.1,(f2 b hb).2.2.2.2.1,(f2 b hb).2.2.2.2.2⟩
   obtain⟨m,hm,_⟩:=I5.loc
   refine hRR _ _ H3 s5 m hm IX I5.free (λz=>?_) (bn I2.sz hCle) (λx c h z=>?_) (λp hp z=>?_) hDC qn
   ·have:=I2.lt;rw[<-z] at this;exact d5 _ (bw this hCle)
   ·obtain⟨v,o,ho,_⟩:=I2.cell x c h
    have:=aF ho;rw[z] at this;exact d5 _ (bw this hCle)
   ·have:=aF (I2.pin p hp).1;rw[z] at this;exact d5 _ (bw this hCle)
  ·refine fV (T.item (eM X NY scope cl G.objs.size s₂ H2 fp) rfl rfl rfl hc i [] s3 σ3 H3 _ I3 (stat fr3) st3 go) λr s5 ⟨u,hr,h5⟩=>?_
   subst hr
   refine fV h5 λ_ s6 ⟨x,H6,I6,r6,y6,st6,fr6⟩=>?_
   have I6':=I6.pinned (stat fr6) (T.obj _ _ st6)
   have again:∀{σ7:St} {H7:Hp} {s7:Shared},bN (eM X NY scope cl G.objs.size s₂ H2 fp) ([]++tz fp s6.heap) σ7 H7 s7->Nx σ7 H7->∃m,m<n/\∃i σ' H',bN (eM X NY scope cl G.objs.size s₂ H2 fp) [] σ' H' s7/\tn i s7.heap/\(∀b∈fp,H' b=none)/\W i m σ' H':=λ{σ7 H7 s7} I7 n7=>by
    obtain⟨m',hm,w7⟩:=hNx σ7 H7 n7
    refine⟨m',hm,i+1,σ7,H7,I7.unpinned,T.keep _ _ _ st6 λb hb o e=>(I7.pin (b,o) (aQ _ (aQ _ (my hb e)))).1,λb hb=>?_,w7⟩
    obtain⟨o,e,d⟩:=T.obj _ _ st6 b hb
    exact(I7.pin (b,o) (aQ _ (aQ _ (my hb e)))).2.1
   refine fV (hg cl G.objs.size s₂ H2 fp _ s6 σ3 H6 x u _ I6' r6 (step x H6 y6)) λ_ s7 ⟨σ7,H7,I7,q7⟩=>?_
   refine fV (hi cl G.objs.size s₂ H2 fp _ s7 σ7 H7 _ I7 q7) λok s8 ⟨H8,I8,q8⟩=>?_
   cases ok with
   |false=>
    rw[if_neg Bool.false_ne_true] at q8 ⊢
    exact again I8 q8
   |true=>
    rw[if_pos rfl] at q8 ⊢
    refine fV (he cl G.objs.size s₂ H2 fp _ s8 σ7 H8 _ I8 q8) λy s9 ⟨z,H9,I9,r9,ys,hD,hz,n9⟩=>?_
    refine fV (dL (X:=eM X NY scope cl G.objs.size s₂ H2 fp) _ s9 σ7 H9 (.ref s₂.heap.objs.size) [z] (.ref s₂.heap.objs.size) [y] (λ_ H'=>H'=upd H9 s₂.heap.objs.size (.lst (ys++[z]))) I9 rfl (.cons r9 .nil) ⟨_,ys,z,rfl,rfl,hD,hz,rfl⟩) λ_ s10 ⟨_,H10,I10,_,q10⟩=>?_
    subst q10
    exact again I10 n9
 exact codeAny_compStart_list (go _ rfl) (T.self _ 0 _ _ _ st4 (go _ rfl))
theorem HC{wi:TI}(ok:sh sc N scope NY js)(hsc:X.env.scope=sc)(hN:X.N=N)(hk:NY.length=N.length+k)(hc:X.calm=true)(hit:PI X target iter wi)
  (hg:∀cl C s₀ H₀ fp,PG (eM X NY scope cl C s₀ H₀ fp) target g) (hi:∀cl C s₀ H₀ fp,Co (eM X NY scope cl C s₀ H₀ fp) ifs tc) (he:∀cl C s₀ H₀ fp,PE (eM X NY scope cl C s₀ H₀ fp) elt te)
  (hs:∀x,foldedSetIterable iter X.env x=pure x:=by intro _;rfl):PE X (.ListComp elt [⟨target,iter,ifs,0⟩] scope pos) (jX js k wi g tc te):=by
 intro pins s σ H Q I h
 obtain⟨cl,hclos,hcl1,hcl2⟩:=sH (scope:=scope) (env:=X.env) λx hx hf=>I.ok.has x.1 (by
  have:=ok.free x hx hf
  rw[<-hsc] at this
  exact this)
 rw[eval_ListComp]
 refine wpAny_comprehension_free (use:=none) rfl hs hclos ok.kind ok.names (fV (hit pins s σ H _ I h) λxv s₁ h₁=>fV h₁ λitv s₂ h₂=>?_)
 obtain⟨it,fp,tn,J,H2,rfl,I2,T,st2,f2,loop⟩:=h₂
 refine sI (RR:=λacc C=>compPost (model X.prog X.w) X.A X.xe none (EP X pins σ Q) acc C) (Q:=Q) ok hsc hN hk hc I2 T st2 f2 hcl1 hcl2 hg hi he loop ?_
 intro D C H' s' m hm IX fC c1 c2 c3 c4 _ q
 exact⟨m,hm,λh' hs'=>⟨.ref D,H',IX.turned (t':=s'.toks) (λb o hb e=>(hs'.2 b hb).trans e) fC c1 (.inr c2) c3 c4,rfl,q⟩⟩
theorem HZ{wi:TI}{i:Nat}{y:Str}{py spos:Pos}(ok:sh sc N scope NY js)(hsc:X.env.scope=sc)(hN:X.N=N)(hk:NY.length=N.length+k)(hc:X.calm=true)(hit:PI X target iter wi)
  (hg:∀cl C s₀ H₀ fp,PG (eM X NY scope cl C s₀ H₀ fp) target g) (hi:∀cl C s₀ H₀ fp,Co (eM X NY scope cl C s₀ H₀ fp) ifs tc) (he:∀cl C s₀ H₀ fp,PE (eM X NY scope cl C s₀ H₀ fp) elt te)
  (nd:X.N.Nodup) (hy:X.N[i]?=some y) (hl:Ji X.env.scope y) (hsw:swapsWith (.ListComp elt [⟨target,iter,ifs,0⟩] scope pos) (some (.Name y py)) spos.line X.env=pure true)
  (hs:∀x,foldedSetIterable iter X.env x=pure x:=by intro _;rfl) (hf:X.fn y=true\/X.env.scope.names.lookup y=some .local:=by first|exact .inl rfl|exact .inr rfl|assumption) :
  PS X (.Assign [.Name y py] (.ListComp elt [⟨target,iter,ifs,0⟩] scope pos) spos) (ci (jX js k wi g tc te) (bb i)):=by
 intro pins s σ H D I h
 obtain⟨cl,hclos,hcl1,hcl2⟩:=sH (scope:=scope) (env:=X.env) λx hx hf=>I.ok.has x.1 (by
  have:=ok.free x hx hf
  rw[<-hsc] at this
  exact this)
 rw[exec_Assign_Name_used _ _ _ _ hsw]
 refine wpAny_bind (wpAny_standAt (wpAny_bind ?_))
 show wpAny _ X.A (do let _ <-comprehension (.ListComp elt [⟨target,iter,ifs,0⟩] scope pos) scope X.env _ (newList []) false (eval iter X.env) (some (assign (.Name y py) X.env))) _ _ s
 refine wpAny_bind (wpAny_mono (wpAny_comprehension_free (use:=some (assign (.Name y py) X.env)) (Q:=λ_ s'=>SP X pins D .next s') rfl hs hclos ok.kind ok.names
  (fV (hit pins s σ H _ I h) λxv s₁ h₁=>fV h₁ λitv s₂ h₂=>?_)) (λ_ s' hq=>wpAny_pure (wpAny_pure hq)) λ_ _ e=>e)
 obtain⟨it,fp,tn,J,H2,rfl,I2,T,st2,f2,loop⟩:=h₂
 refine sI (RR:=λacc C=>compPost (model X.prog X.w) X.A X.xe (some (assign (.Name y py) X.env)) (λ_ s'=>SP X pins D .next s') acc C) (Q:=λx H1=>bb i x σ H1 D.nx) ok hsc hN hk hc I2 T st2 f2 hcl1 hcl2 hg hi he loop ?_
 intro Da C H' s' m hm IX fC c1 c2 c3 c4 _ q
 show wpAny _ X.A (assign (.Name y py) X.env (.ref Da)) _ _ _
 refine wpAny_assign_Name (vg IX nd hy hl (v:=.ref Da) rfl (λs2 IY ⟨a,sb,ha⟩=>?_) hf)
 have hne:C≠a:=by
  rcases ha with rfl|ha
  ·exact c1
  ·exact λz=>c3 y a ha z.symm
 exact⟨m,hm.sameBut sb hne,λh' hs'=>⟨_,H',IY.turned (t':=s2.toks) (λb o hb e=>(hs'.2 b hb).trans e) fC c1 (.inr c2) c3 c4,q⟩⟩
end
section
variable{X:Cx}{pins:List (Addr×Obj)}{σ:St}{H:Hp}{s:Shared}{h':Heap}
theorem bN.turnedL{t':Nat}{ch:List Addr}(I:bN X pins σ H s)(k:∀b o,b∉ch->s.heap.get? b=some o->h'.get? b=some o)(hf:∀b∈ch,pe X pins H b) :
  bN X pins σ H {s with heap:=h',toks:=t'}:=by
 have nit:∀b u,H b=some u->b∉ch:=λb u e z=>by rw[(hf b z).1] at e;cases e
 refine I.step (g':=s.gens) (d':=s.drawn) (ch:=ch) (λb hb=>⟨(hf b hb).2.2.2.1,(hf b hb).2.1,(hf b hb).2.2.2.2.1,(hf b hb).2.2.2.2.2⟩) (λb o _ _ hc e _=>k b o hc e) (λb o _ _ hc e _=>⟨o.slots,k b o hc e⟩) (λ_ _ _ _ n=>n)
  (λb o hc e=>⟨o,k b o hc e⟩) (λ_ _ e=>e) (λ_ _ _ e=>e) (λb ps e=>⟨#[],by rw[e];simp⟩) (λm hm=>?_) (λb u e=>?_) I.bare
 ·obtain⟨o,es,ep,ho,r⟩:=hm
  exact⟨o,es,ep,k _ o (λz=>(hf _ z).2.1 rfl) ho,r⟩
 ·refine(I.hok b u e).stay (λc v hc q=>k c v ?_ q) (λ_ q=>q) λ_ _ q=>q
  rcases hc with z|z
  ·rw[z];exact nit b u e
  ·exact nit c _ z
theorem bN.adopt{T:Addr}{o:HO}(I:bN X pins σ H s)(hf:pe X pins H T)(new:fA X.prog X.w (upd H T o) s.heap T o):bN X pins σ (upd H T o) s:=by
 have nT:∀b u,H b=some u->b≠T:=λb u e z=>by rw[z,hf.1] at e;cases e
 refine I.step (h':=s.heap) (H':=upd H T o) (g':=s.gens) (d':=s.drawn) (t':=s.toks) (ch:=[T]) (λb hb=>?_) (λb _ _ _ _ e _=>e) (λb ob _ _ _ e _=>⟨ob.slots,e⟩) (λb ob hb _ n=>?_)
  (λb ob _ e=>⟨ob,e⟩) (λb xs e=>?_) (λb ob u e=>?_) (λb ps e=>⟨#[],?_⟩) (λm hm=>hm) (λb u e=>?_) I.bare
 ·have e:b=T:=by simpa using hb
  subst e
  exact⟨hf.2.2.2.1,hf.2.1,hf.2.2.2.2.1,hf.2.2.2.2.2⟩
 ·rw[ax (λz=>hb (by simp[z]))];exact n
 ·rw[ax (nT b _ e)];exact e
 ·rw[ax (nT b _ e)];exact e
 ·rw[ax (nT b _ e),e];simp
 ·by_cases hb:b=T
  ·subst hb;rw[ag] at e;cases e;exact new
  ·rw[ax hb] at e
   exact(I.hok b u e).stay (λc v _ q=>q) (λc q=>by rw[ax (nT c _ q)];exact q) λc xs q=>by rw[ax (nT c _ q)];exact q
end
def Lr(K:Fg)(a:Addr):It:=
 ⟨λi H=>∃xs x,ce K H a xs/\xs[i]?=some x,λi H x H'=>∃p v,H p=none/\x=.ref p/\H'=upd H p (.tup [.int (i:Nat),v])/\∀xs,ce K H a xs->xs[i]?=some v,λi H=>∃xs,ce K H a xs/\xs.length<=i⟩
def Lv(K:Fg)(a b:Addr):It:=
 ⟨λi H=>∃xs x ys y,ce K H a xs/\xs[i]?=some x/\ce K H b ys/\ys[i]?=some y,
  λi H x H'=>∃p v u,H p=none/\x=.ref p/\H'=upd H p (.tup [v,u])/\(∀xs,ce K H a xs->xs[i]?=some v)/\∀ys,ce K H b ys->ys[i]?=some u,
  λi H=>∃xs ys,ce K H a xs/\ce K H b ys/\(xs.length<=i\/ys.length<=i)⟩
theorem wX{X:Cx}{H:Hp}{h:Heap}{T:Addr}{x y:V}{u v:Value}{n:Nat}(e:h.get? T=some {cls:=.type "tuple",data:=.seq #[u,v] n})(r1:cy x u)(r2:cy y v):fA X.prog X.w H h T (.tup [x,y]):=
 ⟨show 2<=sizeLine by decide,[u,v],.cons r1 (.cons r2 .nil),⟨_,e,⟨rfl,rfl⟩,_,rfl⟩⟩
theorem Hh{h:Heap}{it a:Addr}{i:Nat}{l:Addr}{items:Array Value}(p:h.IsList a items)(q:h.IsListIter it l i):a≠it:=by
 intro e;subst e
 obtain⟨o,e1,c1,_⟩:=p
 obtain⟨o',e2,c2,_⟩:=q
 rw[e1] at e2;cases e2;rw[c1] at c2
 injection c2 with c3
 exact absurd c3 (by decide)
theorem DV{P:Program}{w:World}{K:Fg}{elts:List Expr}{k:Nat}{pos:Pos}(a e it:Addr)(hne:e≠it) :
  uo P w K (.Tuple elts k pos) (Lr K a) [e,it] e (λi h=>(∃old,IsEnum h e it (i:Nat) old)/\h.IsListIter it a i) where
 mem:=by simp
 obj:=λi h st b hb=>by
  obtain⟨⟨old,he⟩,⟨o,ho,c,d⟩⟩:=st
  rcases aJ.mp hb with rfl|hb
  ·exact⟨_,he,λv z=>by have z':Data.fields _=Data.cell v:=z;cases z'⟩
  ·rw[ae.mp hb]
   exact⟨o,ho,λv z=>by rw[d] at z;cases z⟩
 keep:=λi h h' st k=>⟨let⟨old,he⟩:=st.1;⟨old,k e (by simp) _ he⟩,st.2.at λo q=>k it (by simp) o q⟩
 item:=by
  intro X hP hw hK hc i pins s σ H E I hf st hg
  subst hP hw hK
  obtain⟨⟨old,he⟩,hit⟩:=st
  obtain⟨xs,x,hq,hx⟩:=hg
  obtain⟨its,rv,p,hz⟩:=I.list hq
  obtain⟨u,hu,ru⟩:=rv.get hx
  have hlt:i<its.toArray.size:=by have:=(af.mp hu).1;simpa using this
  have na:a≠it:=Hh p.isList hit
  have nb:e≠a:=by
   intro z;subst z
   obtain⟨o,n,e1,c1,_⟩:=p
   rw[he] at e1;cases e1
   injection c1 with c3
   exact absurd c3 (by decide)
  have Dw:=Draws.list (prog:=X.prog) (w:=X.w) (A:=X.A.in1) (show X.A.in1.handled=none from I.ok.hd hc) it a na its.toArray
  refine wpAny_pyNext_enum_itemD Dw he ⟨hit,p.isList⟩ hlt hne (by simp[hne,nb]) λy h1 tk hP ho st1 hT hsz hk=>?_
  have ey:y=u:=by
   have h1:its.toArray[i]?=some y:=hP
   have h2:its[i]?=some y:=by simpa using h1
   rw[hu] at h2;exact(Option.some.inj h2).symm
  subst ey
  refine⟨_,rfl,?_⟩
  have fT:pe X pins H s.heap.objs.size:=I.fpOk (aw _) (I.hok.fresh (aw _))
  refine wpAny_letOwnedTupleGo_enum ho λh2 he2 hs2=>?_
  have helt:e<s.heap.objs.size:=aF he
  have I1:bN X pins σ H {s with heap:=h2,toks:=tk+1}:=I.turnedL (t':=tk+1) (ch:=[e,it]) (λb o hb q=>by
   have b1:b≠e:=λz=>hb (by simp[z])
   have b2:b≠it:=λz=>hb (by simp[z])
   exact(hs2.2 b b1).trans (hk b o b1 b2 q)) hf
  have gT:h2.get? s.heap.objs.size=some {cls:=.type "tuple",data:=.seq #[.int i tk,y]}:=(hs2.2 _ (fz helt)).trans hT
  have I2:=I1.adopt (T:=s.heap.objs.size) (o:=.tup [.int (i:Nat),x]) fT (wX (X:=X) gT ⟨tk,rfl⟩ ru)
  refine⟨.ref s.heap.objs.size,_,I2,rfl,⟨s.heap.objs.size,x,fT.1,rfl,rfl,λys hy=>by rw[I.list_inj hy hq];exact hx⟩,⟨⟨y,?_⟩,?_⟩,λb hb=>?_⟩
  ·have e2:(((i+1:Nat):Nat):Int)=(i:Int)+1:=by lia
   show IsEnum h2 e it (((i+1:Nat):Nat):Int) y
   rw[e2];exact he2
  ·obtain⟨o,q1,q2⟩:=st1.1
   exact⟨o,(hs2.2 it (Ne.symm hne)).trans q1,q2⟩
  ·have nT:b≠s.heap.objs.size:=by
    rcases aJ.mp hb with rfl|hb
    ·exact aH helt
    ·rw[ae.mp hb]
     obtain⟨o,ho,_⟩:=hit
     exact aH (aF ho)
   rw[ax nT];exact(hf b hb).1
 done:=by
  intro X hP hw hK hc i pins s σ H E I hf st hg
  subst hP hw hK
  obtain⟨⟨old,he⟩,hit⟩:=st
  obtain⟨xs,hq,hx⟩:=hg
  obtain⟨its,rv,p,hz⟩:=I.list hq
  have hl:=rv.length
  have hT:s.TypeIs (.ref e) "enumerate":=⟨_,he,rfl⟩
  unfold pyNext
  refine wpAny_bind (wpAny_attempt (wpAny_callSpecial?_slot (name:=Str.ofString "__next__") hT F.slot_enumerate_next
   (wpAny_call_entry F.slot_enumerate_next hT F.entry_enumerate_next ?_ (F.args_enumerate_next_1 _))))
  show wpAny _ _ (field (.ref e) 2 >>= _) _ _ _
  refine wpAny_bind (wpAny_field he rfl (x:=.ref it) rfl ?_)
  refine wpAny_bind (wpAny_nextOf_list_end (show X.A.in1.handled=none from I.ok.hd hc) hit p.isList (by simp;lia) λh1 x1 eb hx1=>?_)
  obtain⟨o,ho,hcl⟩:=hx1
  refine wpAny_bind (wpAny_isInstance (T:="StopIteration") (b:=true) ⟨o,ho,hcl⟩ isSubtype_stop ?_)
  exact wpAny_pure ⟨rfl,I.turnedL (t':=s.toks) (ch:=[e,it]) (λb ob hb q=>eb b ob (λz=>hb (by simp[z])) q) hf⟩
 self:=λ_ _ _ _ _ st h=>let⟨_,he⟩:=st.1;wpAny_pyIter_enum he h
section
variable{X:Cx}{elts:List Expr}{k:Nat}{tpos:Pos}
def EA(K:Fg)(tl:TA):TI:=λσ H R=>tl σ H λvs H1=>∃a,vs=[.ref a]/\(∃xs,ce K H1 a xs)/\R (Lr K a) H1
theorem HN{a:Expr}{ta:TA}{p pos:Pos}(hg:Gl X "enumerate")(hm:X.mg "enumerate"=none)(ha:PA X [a] ta)(hs:starEach [a] X.env=[(false,eval a X.env)]:=by rfl) :
  PI X (.Tuple elts k tpos) (.Call (.Name "enumerate" p) [a] [] pos) (EA X.K ta):=by
 intro pins s σ H R I h
 refine Call_ (mx I hg hm boot_enumerate (cH (fV (ha pos pins s σ H _ I h) λus s1 ⟨vs,H1,I1,r1,q1⟩=>?_) hs rfl))
 obtain⟨l,e,⟨xs,hq⟩,q⟩:=q1
 subst e
 cases r1 with
 |cons r rr=>
  cases rr
  cases r
  obtain⟨its,rv,pl,hz⟩:=I1.list hq
  refine call_enumerate_list pl.isList λh1 he hit hsz hk=>?_
  refine wpAny_pyIter_enum he ?_
  have I2:bN X pins σ H1 {s1 with heap:=h1}:=I1.kept (t':=s1.toks) hk
  refine⟨s1.heap.objs.size+1,[s1.heap.objs.size+1,s1.heap.objs.size],_,_,H1,rfl,I2,DV l _ _ (Nat.succ_ne_self _),⟨⟨.none,he⟩,hit⟩,λb hb=>?_,q⟩
  have hb':s1.heap.objs.size<=b:=by
   rcases aJ.mp hb with rfl|hb
   ·lia
   ·rw[ae.mp hb];exact aw _
  exact I1.fpOk hb' (I1.hok.fresh hb')
end
theorem Gn{P:Program}{w:World}{K:Fg}{elts:List Expr}{k:Nat}{pos:Pos}(z TI TO i1 i2 l1 l2:Addr)(D:ZipApart z TI TO i1 i2 l1 l2) :
  uo P w K (.Tuple elts k pos) (Lv K l1 l2) [z,TI,TO,i1,i2] z (λi h=>IsZip h z TI TO .none/\IsPair h TI (.ref i1) (.ref i2)/\(∃a b,IsPair h TO a b)/\h.IsListIter i1 l1 i/\h.IsListIter i2 l2 i) where
 mem:=by simp
 obj:=λi h st b hb=>by
  obtain⟨hz,hTI,⟨a',b',hTO⟩,⟨o1,e1,c1,d1⟩,⟨o2,e2,c2,d2⟩⟩:=st
  simp only[aJ,cq,or_false] at hb
  rcases hb with rfl|rfl|rfl|rfl|rfl
  ·exact⟨_,hz,λv q=>by have q':Data.fields _=Data.cell v:=q;cases q'⟩
  ·exact⟨_,hTI,λv q=>by have q':Data.seq _ _=Data.cell v:=q;cases q'⟩
  ·exact⟨_,hTO,λv q=>by have q':Data.seq _ _=Data.cell v:=q;cases q'⟩
  ·exact⟨o1,e1,λv q=>by rw[d1] at q;cases q⟩
  ·exact⟨o2,e2,λv q=>by rw[d2] at q;cases q⟩
 keep:=λi h h' st k=>by
  obtain⟨hz,hTI,⟨a',b',hTO⟩,h1,h2⟩:=st
  exact⟨k z (by simp) _ hz,k TI (by simp) _ hTI,⟨a',b',k TO (by simp) _ hTO⟩,h1.at λo q=>k i1 (by simp) o q,h2.at λo q=>k i2 (by simp) o q⟩
 item:=by
  intro X hP hw hK hc i pins s σ H E I hf st hg
  subst hP hw hK
  obtain⟨hz,hTI,⟨a',b',hTO⟩,h1,h2⟩:=st
  obtain⟨xs,x,ys,y,hq1,hx,hq2,hy⟩:=hg
  obtain⟨its1,rv1,p1,_⟩:=I.list hq1
  obtain⟨its2,rv2,p2,_⟩:=I.list hq2
  obtain⟨u,hu,ru⟩:=rv1.get hx
  obtain⟨v,hv,rv⟩:=rv2.get hy
  refine wpAny_pyNext_zip_item D hz hTI hTO h1 h2 p1.isList p2.isList (x:=u) (y:=v) (by simpa using hu) (by simpa using hv) λh3 a1 a2 a3 a4 a5 a6 hk=>?_
  refine⟨_,rfl,?_⟩
  have fT:pe X pins H s.heap.objs.size:=I.fpOk (aw _) (I.hok.fresh (aw _))
  have lt:∀{c o},s.heap.get? c=some o->c≠s.heap.objs.size:=λe=>aH (aF e)
  refine wpAny_letOwnedTupleGo_zip a1 λh4 hz4 hs4=>?_
  have I1:bN X pins σ H {s with heap:=h4,toks:=s.toks}:=I.turnedL (t':=s.toks) (ch:=[z,TI,TO,i1,i2]) (λb o hb q=>by
   have b1:b≠z:=λe=>hb (by simp[e])
   exact(hs4.2 b b1).trans (hk b o b1 (λe=>hb (by simp[e])) (λe=>hb (by simp[e])) (λe=>hb (by simp[e])) q)) hf
  have gT:h4.get? s.heap.objs.size=some {cls:=.type "tuple",data:=.seq #[u,v]}:=(hs4.2 _ (Ne.symm (lt hz))).trans a5
  have I2:=I1.adopt (T:=s.heap.objs.size) (o:=.tup [x,y]) fT (wX (X:=X) gT ru rv)
  have ext:∀c o,c≠z->h3.get? c=some o->h4.get? c=some o:=λc o hc q=>(hs4.2 c hc).trans q
  refine⟨.ref s.heap.objs.size,_,I2,rfl,⟨s.heap.objs.size,x,y,fT.1,rfl,rfl,λzs hz=>by rw[I.list_inj hz hq1];exact hx,λzs hz=>by rw[I.list_inj hz hq2];exact hy⟩,
   ⟨hz4,ext _ _ D.TIz (hk _ _ D.TIz D.TITO D.TIi1 D.TIi2 hTI),⟨_,_,ext _ _ D.TOz a2⟩,a3.at λo q=>ext _ o D.i1z q,a4.at λo q=>ext _ o D.i2z q⟩,λb hb=>?_⟩
  have nT:b≠s.heap.objs.size:=by
   obtain⟨o1,e1,_⟩:=h1
   obtain⟨o2,e2,_⟩:=h2
   simp only[aJ,cq,or_false] at hb
   rcases hb with rfl|rfl|rfl|rfl|rfl
   ·exact lt hz
   ·exact lt hTI
   ·exact lt hTO
   ·exact lt e1
   ·exact lt e2
  rw[ax nT];exact(hf b hb).1
 done:=by
  intro X hP hw hK hc i pins s σ H E I hf st hg
  subst hP hw hK
  obtain⟨hz,hTI,⟨a',b',hTO⟩,h1,h2⟩:=st
  obtain⟨xs,ys,hq1,hq2,hend⟩:=hg
  obtain⟨its1,rv1,p1,_⟩:=I.list hq1
  obtain⟨its2,rv2,p2,_⟩:=I.list hq2
  have l1':=rv1.length
  have l2':=rv2.length
  refine wpAny_pyNext_zip_end (I.ok.hd hc) D hz hTI hTO h1 h2 p1.isList p2.isList (hend.imp (λh=>by simp;lia) λh=>by simp;lia) λh3 hk=>⟨rfl,?_⟩
  exact I.turnedL (t':=s.toks) (ch:=[z,TI,TO,i1,i2]) (λb o hb q=>hk b o (λe=>hb (by simp[e])) (λe=>hb (by simp[e])) (λe=>hb (by simp[e])) (λe=>hb (by simp[e])) q) hf
 self:=λ_ _ _ _ _ st h=>wpAny_pyIter_zip st.1 h
section
variable{X:Cx}{elts:List Expr}{k:Nat}{tpos:Pos}
def JT(K:Fg)(tl:TA):TI:=λσ H R=>tl σ H λvs H1=>∃a b,vs=[.ref a,.ref b]/\(∃xs,ce K H1 a xs)/\(∃xs,ce K H1 b xs)/\R (Lv K a b) H1
theorem KG{a b:Expr}{ta:TA}{p pos:Pos}(hg:Gl X "zip")(hm:X.mg "zip"=none)(ha:PA X [a,b] ta)(hs:starEach [a,b] X.env=[(false,eval a X.env),(false,eval b X.env)]:=by rfl)(hs2:starEach [b] X.env=[(false,eval b X.env)]:=by rfl) :
  PI X (.Tuple elts k tpos) (.Call (.Name "zip" p) [a,b] [] pos) (JT X.K ta):=by
 intro pins s σ H R I h
 refine Call_ (mx I hg hm boot_zip (cH (fV (ha pos pins s σ H _ I h) λus s1 ⟨vs,H1,I1,r1,q1⟩=>?_) (by rw[hs,hs2]) (by rw[hs2];rfl)))
 obtain⟨l1,l2,e,⟨xs,hq1⟩,⟨ys,hq2⟩,q⟩:=q1
 subst e
 cases r1 with
 |cons r rr=>
  cases rr with
  |cons r' rr=>
   cases rr
   cases r
   cases r'
   obtain⟨its1,rv1,p1,_⟩:=I1.list hq1
   obtain⟨its2,rv2,p2,_⟩:=I1.list hq2
   have b1:l1<s1.heap.objs.size:=by obtain⟨o,e,_⟩:=p1.isList;exact aF e
   have b2:l2<s1.heap.objs.size:=by obtain⟨o,e,_⟩:=p2.isList;exact aF e
   refine call_zip_2 p1.isList p2.isList λh1 hz hTI hTO hi1 hi2 hsz hk=>?_
   refine wpAny_pyIter_zip hz ?_
   have I2:bN X pins σ H1 {s1 with heap:=h1}:=I1.kept (t':=s1.toks) hk
   refine⟨_,_,_,_,H1,rfl,I2,Gn _ _ _ _ _ l1 l2 (zipApart_new b1 b2),⟨hz,hTI,⟨_,_,hTO⟩,hi1,hi2⟩,λb hb=>?_,q⟩
   have hb':s1.heap.objs.size<=b:=by
    simp only[aJ,cq,or_false] at hb
    rcases hb with rfl|rfl|rfl|rfl|rfl<;>lia
   exact I1.fpOk hb' (I1.hok.fresh hb')
end
theorem Ev{K:Fg}{a:Addr}{xs:List V}{g:TG}{tb:TS}{D:og}{σ:St}{H:Hp}(Pv:Nat->St->Hp->Prop)(h0:Pv 0 σ H)(hl:∀i σ H,i<=xs.length->Pv i σ H->ce K H a xs)
  (hs:∀i x σ H p,xs[i]?=some x->H p=none->Pv i σ H->g (.ref p) σ (upd H p (.tup [.int (i:Nat),x])) λσ2 H2=>tb {D with nx:=Pv (i+1),ct:=Pv (i+1),bk:=D.nx} σ2 H2) (hd:∀σ H,Pv xs.length σ H->D.nx σ H) :
  ∃W:Nat->Nat->St->Hp->Prop,(∃m,W 0 m σ H)/\∀i m σ H,W i m σ H->
   ((Lr K a).stop i H/\D.nx σ H)\/((Lr K a).go i H/\∃N:St->Hp->Prop,(∀σ' H',N σ' H'->∃m',m'<m/\W (i+1) m' σ' H')/\∀x H',(Lr K a).yld i H x H'->g x σ H' λσ2 H2=>tb {D with nx:=N,ct:=N,bk:=D.nx} σ2 H2):=by
 refine⟨λi m σ H=>m=xs.length-i/\i<=xs.length/\Pv i σ H,⟨xs.length,by simp,bF _,h0⟩,?_⟩
 rintro i m σ H ⟨rfl,hi,p⟩
 have q:=hl i σ H hi p
 by_cases hlt:i<xs.length
 ·refine .inr ⟨⟨xs,xs[i],q,by simp[hlt]⟩,Pv (i+1),λσ' H' p'=>⟨xs.length-(i+1),by lia,rfl,hlt,p'⟩,λx H' y=>?_⟩
  obtain⟨pp,v,e1,rfl,rfl,y⟩:=y
  exact hs i v σ H pp (y xs q) e1 p
 ·have e:i=xs.length:=by lia
  subst e
  exact .inl ⟨⟨xs,q,aw _⟩,hd σ H p⟩
theorem G0{K:Fg}{a b:Addr}{xs ys:List V}{g:TG}{tb:TS}{D:og}{σ:St}{H:Hp}(el:xs.length=ys.length)(Pv:Nat->St->Hp->Prop)(h0:Pv 0 σ H)(hl:∀i σ H,i<=xs.length->Pv i σ H->ce K H a xs/\ce K H b ys)
  (hs:∀i x y σ H p,xs[i]?=some x->ys[i]?=some y->H p=none->Pv i σ H->g (.ref p) σ (upd H p (.tup [x,y])) λσ2 H2=>tb {D with nx:=Pv (i+1),ct:=Pv (i+1),bk:=D.nx} σ2 H2) (hd:∀σ H,Pv xs.length σ H->D.nx σ H) :
  ∃W:Nat->Nat->St->Hp->Prop,(∃m,W 0 m σ H)/\∀i m σ H,W i m σ H->
   ((Lv K a b).stop i H/\D.nx σ H)\/((Lv K a b).go i H/\∃N:St->Hp->Prop,(∀σ' H',N σ' H'->∃m',m'<m/\W (i+1) m' σ' H')/\∀x H',(Lv K a b).yld i H x H'->g x σ H' λσ2 H2=>tb {D with nx:=N,ct:=N,bk:=D.nx} σ2 H2):=by
 refine⟨λi m σ H=>m=xs.length-i/\i<=xs.length/\Pv i σ H,⟨xs.length,by simp,bF _,h0⟩,?_⟩
 rintro i m σ H ⟨rfl,hi,p⟩
 obtain⟨q1,q2⟩:=hl i σ H hi p
 by_cases hlt:i<xs.length
 ·have hlt2:i<ys.length:=by lia
  refine .inr ⟨⟨xs,xs[i],ys,ys[i],q1,by simp[hlt],q2,by simp[hlt2]⟩,Pv (i+1),λσ' H' p'=>⟨xs.length-(i+1),by lia,rfl,hlt,p'⟩,λx H' y=>?_⟩
  obtain⟨pp,v,u,e1,rfl,rfl,y1,y2⟩:=y
  exact hs i v u σ H pp (y1 xs q1) (y2 ys q2) e1 p
 ·have e:i=xs.length:=by lia
  subst e
  exact .inl ⟨⟨xs,ys,q1,q2,.inl (aw _)⟩,hd σ H p⟩
end L2
namespace PySem
open Sem (wp)
open Builtin MeetsSeq MeetsSeq2 MeetsSeq3
theorem qF:fillsNumberSlot (.type "tuple") "mul"=pure false:=
 fillsNumberSlot_seq (id:="tuple.__mul__") (r:=some (.builtin "tuple.__rmul__")) F.slot_tuple_mul.lookup (by decide +kernel) F.slot_tuple_rmul.lookup (by decide +kernel)
theorem wK:seqRepeat? (.type "tuple")=pure (some (.builtin "tuple.__mul__")):=by
 unfold seqRepeat?
 rw[seqSlot_of (T:="tuple") (name:="__mul__") (id:="tuple.__mul__") F.slot_tuple_mul.lookup (by decide +kernel),seqSlot_of (T:="tuple") (name:="__rmul__") (id:="tuple.__rmul__") F.slot_tuple_rmul.lookup (by decide +kernel)]
 rfl
theorem sQ(a:Int)(t:Tok)(l:Addr)(items:Array Value)(n:Nat)(dd:Option Addr)(sl:Array (Option Value)) :
  Meets (Builtin.«int.__rmul__» ⟨[.int a t,.ref l],[]⟩) (λ_ R s=>s.heap.get? l=some {cls:=.type "tuple",dict:=dd,data:=.seq items n,slots:=sl}/\R (.ok (.ret Value.notImplemented)) s):=
 .of_wp λprog w A R s h=>by obtain⟨hp,g,d,tk,os⟩:=s;obtain⟨hl,h⟩:=h;wp_walk;exact⟨_,rfl,h⟩
theorem uh(l:Addr)(items:Array Value)(n:Nat)(dd:Option Addr)(sl:Array (Option Value))(x:Int)(u:Tok)(hlo:-(2 ^ 63)<=x)(hhi:x<2 ^ 63)(he:items.isEmpty=false)(h1:¬x=1)(hp:0<x)(hsz:items.size*x.toNat<=sizeLine) :
  Meets (Builtin.«tuple.__mul__» ⟨[.ref l,.int x u],[]⟩) (λ_ R s=>s.heap.get? l=some {cls:=.type "tuple",dict:=dd,data:=.seq items n,slots:=sl}/\
   R (.ok (.ret (Value.ref s.heap.objs.size))) {s with heap:=s.heap.push {cls:=Value.type "tuple",data:=Data.seq (lV (λx1 x2=>x1++x2) #[] (az x.toNat items))},toks:=s.toks}):=
 .of_wp λprog w A R s h=>by
  obtain⟨hp,g,d,tk,os⟩:=s;obtain⟨hl,h⟩:=h
  have z1:(decide (x < -(2 ^ 63)) || decide (x >= 2 ^ 63))=false:=by simp;lia
  have z2:(items.isEmpty || x==1)=false:=by simp[he,h1]
  have z3:(decide (x<=0) || items.isEmpty)=false:=by simp[he];lia
  have ex:(items.size:Int)*x=((items.size*x.toNat:Nat):Int):=by
   rw[Int.natCast_mul];congr 1;lia
  have z4:¬((items.size:Int)*x>(2 ^ 63-1) / 8):=by
   rw[ex]
   have:(sizeLine:Nat)<=(2 ^ 63-1) / 8:=by decide
   lia
  have z5:Tuple.tupleTooMany ((items.size:Int)*x)=false:=by
   unfold Tuple.tupleTooMany
   rw[ex]
   exact decide_eq_false (by lia)
  have z6:(lV (λ(x1 x2:Array Value)=>x1++x2) #[] (az x.toNat items)).size<=sizeLine:=by
   have e:=AutoListH.size_joined items x.toNat #[]
   rw[e,o0]
   simpa using hsz
  wp_walk
  refine wpAny_ite_false (by rw[z1];rfl) ?_
  wp_walk using AutoSeq1.wpAny_loadPart' hl
  refine wpAny_ite_false (decide_eq_false z4) ?_
  wp_walk
  refine wpAny_ite_false (by rw[z5];rfl) ?_
  wp_walk
  exact⟨_,rfl,h⟩
theorem uO(l:Addr)(items:Array Value)(n:Nat)(dd:Option Addr)(sl:Array (Option Value))(u:Tok) :
  Meets (Builtin.«tuple.__mul__» ⟨[.ref l,.int 1 u],[]⟩) (λ_ R s=>s.heap.get? l=some {cls:=.type "tuple",dict:=dd,data:=.seq items n,slots:=sl}/\R (.ok (.ret (Value.ref l))) s):=
 .of_wp λprog w A R s h=>by
  obtain⟨hp,g,d,tk,os⟩:=s;obtain⟨hl,h⟩:=h
  have z2:(items.isEmpty || (1:Int)==1)=true:=by simp
  wp_walk using AutoSeq1.wpAny_loadPart' hl
  first|exact⟨_,rfl,h⟩|trace_state
theorem ui(l:Addr)(items:Array Value)(n:Nat)(dd:Option Addr)(sl:Array (Option Value))(u:Tok)(he:items.isEmpty=false) :
  Meets (Builtin.«tuple.__mul__» ⟨[.ref l,.int 0 u],[]⟩) (λ_ R s=>s.heap.get? l=some {cls:=.type "tuple",dict:=dd,data:=.seq items n,slots:=sl}/\
   R (.ok (.ret (Value.ref s.heap.objs.size))) {s with heap:=s.heap.push {cls:=Value.type "tuple",data:=Data.seq #[]},toks:=s.toks}):=
 .of_wp λprog w A R s h=>by
  obtain⟨hp,g,d,tk,os⟩:=s;obtain⟨hl,h⟩:=h
  have z2:(items.isEmpty || (0:Int)==1)=false:=by simp[he]
  have z3:(decide ((0:Int)<=0) || items.isEmpty)=true:=by simp
  wp_walk using AutoSeq1.wpAny_loadPart' hl
  first|exact⟨_,rfl,h⟩|trace_state
end PySem
namespace L2
open PySem PySem.Spec PyProof.Rows
section
variable{X:Cx}
def Jx(K:Fg):R2:=λx y H Q=>∃(l:Addr) (k:Nat) (xs:List V),x=.ref l/\y=.int (k:Nat)/\dZ K H l xs/\xs≠[]/\xs.length*k<=sizeLine/\(k=1->Q (.ref l) H)/\
 (k≠1->∀p,H p=none->Q (.ref p) (upd H p (.tup (az k xs).flatten)))
theorem Hy:jM X (binaryOp .Mult) (Jx X.K):=by
 intro pins s σ H x y v u Q I rx ry h
 obtain⟨l,k,xs,rfl,rfl,hq,hne,hz,q1,q2⟩:=h
 cases rx
 obtain⟨t,rfl⟩:=ry
 obtain⟨its,r,⟨⟨cls,dd,data,sl⟩,e,hc,n,hd⟩,hl⟩:=I.tuple hq
 simp only at hc hd
 subst hc hd
 have hlen:=r.length
 have he:its.toArray.isEmpty=false:=by
  cases its with
  |nil=>simp at hlen;exact absurd hlen hne
  |cons a r'=>rfl
 have hs:its.toArray.size*k<=sizeLine:=by rw[ak,<-hlen];exact hz
 have road:wpAny (model X.prog X.w) X.A (call (.builtin "tuple.__mul__") [.ref l,.int (k:Nat) t]) (EP X pins σ Q) X.xe s->wpAny (model X.prog X.w) X.A (binaryOp .Mult (.ref l) (.int (k:Nat) t)) (EP X pins σ Q) X.xe s:=λhcall=>
  wpAny_binaryOp_repeat_ref (T:="tuple") (U:="int") (by decide) ⟨_,e,rfl⟩ (λs'=>typeIs_int s' k t) qF F.fills_int_mul F.slot_int_rmul wK F.slot_int_index.lookup
   (call_meets F.slot_int_rmul (typeIs_int s k t) F.entry_int_rmul (F.args_int_rmul_2 _ _) (sQ k t l its.toArray n dd sl) ⟨e,rfl,⟨_,e,rfl⟩,hcall⟩)
 refine road ?_
 by_cases h1:k=1
 ·subst h1
  exact call_meets F.slot_tuple_mul ⟨_,e,rfl⟩ F.entry_tuple_mul (F.args_tuple_mul_2 _ _) (uO l its.toArray n dd sl t) ⟨e,⟨.ref l,H,I,rfl,q1 rfl⟩⟩
 ·have hn:H s.heap.objs.size=none:=I.hok.fresh (aw _)
  by_cases h0:k=0
  ·subst h0
   refine call_meets F.slot_tuple_mul ⟨_,e,rfl⟩ F.entry_tuple_mul (F.args_tuple_mul_2 _ _) (ui l its.toArray n dd sl t he) ⟨e,⟨.ref s.heap.objs.size,_,?_,rfl,q2 h1 _ hn⟩⟩
   exact I.laid (t':=s.toks) (λb o e=>aj _ e) (aw _) ⟨bF _,[],.nil,⟨_,aD _ rfl,⟨rfl,rfl⟩,_,rfl⟩⟩
  ·have hk64:(k:Int)<2 ^ 63:=by
    have h3:1<=its.toArray.size:=by
     cases its with
     |nil=>simp at he
     |cons a r'=>simp
    have h4:k<=its.toArray.size*k:=Nat.le_mul_of_pos_left k h3
    have h5:(sizeLine:Nat)<2 ^ 63:=by decide
    lia
   refine call_meets F.slot_tuple_mul ⟨_,e,rfl⟩ F.entry_tuple_mul (F.args_tuple_mul_2 _ _) (uh l its.toArray n dd sl k t (by lia) hk64 he (by lia) (by lia) (by simpa using hs)) ⟨e,?_⟩
   have f0:=qB its k []
   rw[jJ] at f0
   have ek:((k:Nat):Int).toNat=k:=by simp
   rw[ek,f0]
   refine⟨.ref s.heap.objs.size,_,?_,rfl,q2 h1 _ hn⟩
   refine I.laid (t':=s.toks) (λb o e=>aj _ e) (aw _) ⟨?_,(az k its).flatten,r.rep k,⟨_,aD _ rfl,⟨rfl,rfl⟩,_,rfl⟩⟩
   rw[Bt,o0];exact hz
theorem vV:ja X (.builtin "divmod") (λxs H Q=>∃i j,xs=[.int i,.int j]/\(0<j/\j<2 ^ 64)/\∀p,H p=none->Q (.ref p) (upd H p (.tup [.int (i / j),.int (i % j)]))):=by
 intro pins s σ H xs us Q I r h
 obtain⟨i,j,rfl,⟨h1,h2⟩,q⟩:=h
 obtain⟨u,w',rfl,⟨t,rfl⟩,⟨t',rfl⟩⟩:=zi r
 have hb:j.natAbs.log2<9000:=by
  have h3:j.natAbs.log2<64:=(Nat.log2_lt (by lia)).mpr (by lia)
  lia
 refine divmod_int (by lia) ?_ (.inl (PyProof.noPylong_of_log2 hb))
 rw[Int.fdiv_eq_ediv_of_nonneg i (by lia),Int.fmod_eq_emod_of_nonneg i (by lia)]
 have hn:H s.heap.objs.size=none:=I.hok.fresh (aw _)
 refine⟨.ref s.heap.objs.size,_,?_,rfl,q _ hn⟩
 refine I.laid (λb o e=>aj _ e) (aw _) ⟨by simp only[bM,ii];rw[sizeLine_eq];decide,[.int (i / j) s.toks,.int (i % j) (s.toks+1)],.cons ⟨_,rfl⟩ (.cons ⟨_,rfl⟩ .nil),?_⟩
 exact⟨_,aD s.heap rfl,⟨rfl,rfl⟩,0,rfl⟩
inductive um(K:Fg)(H:Hp):V->String->Bool->Prop where
 |int_int (i:Int):um K H (.int i) "int" true
 |int_bool (i:Int):um K H (.int i) "bool" false
 |int_tuple (i:Int):um K H (.int i) "tuple" false
 |str_tuple (x:Str):um K H (.str x) "tuple" false
 |tup_tuple {a:Addr} {xs:List V} (h:dZ K H a xs):um K H (.ref a) "tuple" true
 |lst_list {a:Addr} {xs:List V} (h:ce K H a xs):um K H (.ref a) "list" true
 |str_str (x:Str):um K H (.str x) "str" true
 |bl_bool (b:Bool):um K H (.bl b) "bool" true
theorem sE:ja X (.builtin "isinstance") (λxs H Q=>∃x T b,xs=[x,.ty T]/\um X.K H x T b/\Q (.bl b) H):=by
 intro pins s σ H xs us Q I r h
 obtain⟨x,T,b,rfl,hi,q⟩:=h
 obtain⟨u,w',rfl,r1,r2⟩:=zi r
 cases r2
 cases hi with
 |int_int i=>obtain⟨t,rfl⟩:=r1;exact IsiPair.int_int ⟨.bl true,H,I,rfl,q⟩
 |int_bool i=>obtain⟨t,rfl⟩:=r1;exact IsiPair.int_bool ⟨.bl false,H,I.tok _,rfl,q⟩
 |int_tuple i=>obtain⟨t,rfl⟩:=r1;exact IsiPair.int_tuple ⟨.bl false,H,I.tok _,rfl,q⟩
 |str_tuple z=>obtain⟨t,rfl⟩:=r1;exact IsiPair.str_tuple ⟨.bl false,H,I.tok _,rfl,q⟩
 |tup_tuple hs=>
  cases r1
  obtain⟨its,rv,⟨o,e,hc,_⟩,hz⟩:=I.tuple hs
  exact IsiPair.tuple_tuple e hc ⟨.bl true,H,I,rfl,q⟩
 |lst_list hs=>
  cases r1
  obtain⟨its,rv,pl,hz⟩:=I.list hs
  obtain⟨o,e,hc,_⟩:=pl.isList
  exact IsiPair.list_list e hc ⟨.bl true,H,I,rfl,q⟩
 |str_str z=>obtain⟨t,rfl⟩:=r1;exact IsiPair.str_str ⟨.bl true,H,I,rfl,q⟩
 |bl_bool z=>cases r1;exact IsiPair.bool_bool ⟨.bl true,H,I,rfl,q⟩
theorem Ec(bs:List Bool):(dz bs.length).all (λi=>(bs[i]?).getD false)=bs.all id:=by
 rw[Bool.eq_iff_iff,eT,eT]
 constructor
 ·intro h b hb
  obtain⟨i,hi,e⟩:=fk.mp hb
  have:=h i (gC.mpr hi)
  rw[aa hi,gP,e] at this
  exact this
 ·intro h i hi
  have hi:=gC.mp hi
  rw[aa hi,gP]
  exact h _ (dS hi)
theorem vW(hc:X.calm=true):ja X (.builtin "sum") (λxs H Q=>∃(p:Addr) (ns:List Int),xs=[.ref p]/\ce X.K H p (ns.map V.int)/\∀z:Int,Q (.int z) H):=by
 intro pins s σ H xs us Q I r h
 obtain⟨p,ns,rfl,hq,q⟩:=h
 obtain⟨u,rfl,rx⟩:=m5 r
 cases rx
 obtain⟨its,rv,pl,hz⟩:=I.list hq
 have intsOf:∀(ns:List Int) (its:List Value),cv (ns.map V.int) its->∃xs:List (Int×Tok),its=xs.map λp=>Value.int p.1 p.2:=by
  intro ns
  induction ns with
  |nil=>intro its r;cases r;exact⟨[],rfl⟩
  |cons n ns ih=>
   intro its r
   cases r with
   |cons r rr=>
    obtain⟨xs,rfl⟩:=ih _ rr
    obtain⟨t,rfl⟩:=r
    exact⟨(n,t)::xs,rfl⟩
 obtain⟨xs,rfl⟩:=intsOf ns its rv
 refine sum_intListG (xs:=xs.toArray) (I.ok.hd hc) ?_ λh' tk t' hk=>⟨.int _,H,I.kept hk,⟨t',rfl⟩,q _⟩
 have e:=pl.isList
 simpa[intItems] using e
end
section
variable{X:Cx}
theorem pY:∀{ys:List Str} {us:List Value},cv (ys.map V.str) us->StrsAre us ys
 |[],_,r=>by cases r;exact .nil
 |y::ys,_,r=>by
  cases r with
  |cons r rr=>
   obtain⟨t,rfl⟩:=r
   exact .cons _ _ (pY rr)
def Jw(K:Fg):V->List V->Hp->VK->Prop:=λx vs H Q=>∃(sep:Str) (p:Addr) (ys:List Str),x=.str sep/\vs=[.ref p]/\ce K H p (ys.map V.str)/\(ys.map (·.length)).sum+ys.length*sep.length<=16777216/\Q (.str (Txt.join sep ys)) H
theorem Hg:Lk X "str.join" (Jw X.K):=by
 intro pins s σ H x vs v us Q I rx rv h
 obtain⟨sep,p,ys,rfl,rfl,hq,hz,q⟩:=h
 obtain⟨t,rfl⟩:=rx
 obtain⟨u,rfl,ru⟩:=rv.one
 cases ru
 obtain⟨its,r,pl,_⟩:=I.list hq
 exact join_list pl.isList (by simpa using pY r) hz λt' k=>⟨.str _,H,I.tok k,⟨t',rfl⟩,q⟩
end
section
variable{X:Cx}
def oh(xs ys:List V):Bool:=(dz (min xs.length ys.length)).all (λj=>xa ((xs[j]?).getD .non) ((ys[j]?).getD .non))&&xs.length==ys.length
def Ir(K:Fg)(neg:Bool):R2:=λx y H Q=>∃p q xs ys,x=.ref p/\y=.ref q/\dZ K H p xs/\dZ K H q ys/\xs.all iG=true/\ys.all iG=true/\Q (.bl (if neg then !oh xs ys else oh xs ys)) H
theorem Ba{A:Around}{s:Shared}{xs ys:List V}{us vs:List Value}(r1:cv xs us)(r2:cv ys vs)(f1:xs.all iG=true)(f2:ys.all iG=true) :
  ∀j (h1:j<us.toArray.size) (h2:j<vs.toArray.size),SeqAt.EqAt A s us.toArray[j] vs.toArray[j] (xa ((xs[j]?).getD .non) ((ys[j]?).getD .non)):=by
 intro j h1 h2
 have l1:=r1.length
 have l2:=r2.length
 rw[ak] at h1 h2
 have j1:j<xs.length:=by lia
 have j2:j<ys.length:=by lia
 obtain⟨u,hu,ru⟩:=r1.get (aa j1)
 obtain⟨v,hv,rv⟩:=r2.get (aa j2)
 have eu:us.toArray[j]=u:=by
  have:=aa h1
  rw[hu] at this
  simpa using(Option.some.inj this).symm
 have ev:vs.toArray[j]=v:=by
  have:=aa h2
  rw[hv] at this
  simpa using(Option.some.inj this).symm
 rw[eu,ev,aa j1,aa j2,gP,gP]
 exact zJ ru rv (eT.mp f1 _ (dS j1)) (eT.mp f2 _ (dS j2))
theorem Kj(hu:X.A.units<cLine):jM X (compareOp .Eq) (Ir X.K false):=by
 intro pins s σ H x y v u Q I rx ry h
 obtain⟨p,q,xs,ys,rfl,rfl,h1,h2,f1,f2,qq⟩:=h
 cases rx
 cases ry
 obtain⟨us,r1,t1,_⟩:=I.tuple h1
 obtain⟨vs,r2,t2,_⟩:=I.tuple h2
 refine SeqAt.eq_tupleAt (show s.heap.IsTuple p us.toArray from t1) (show s.heap.IsTuple q vs.toArray from t2) hu (Ba r1 r2 f1 f2) ⟨.bl (oh xs ys),H,I,?_,qq⟩
 show Value.bool _=Value.bool _
 unfold oh
 rw[ak,ak,r1.length,r2.length]
def Jv(K:Fg):R2:=λx y H Q=>∃p xs z,x=.ref p/\y=.str z/\dZ K H p xs/\Q (.bl false) H
theorem Hw(hu:X.A.units<cLine):jM X (compareOp .Eq) (Jv X.K):=by
 intro pins s σ H x y v u Q I rx ry h
 obtain⟨p,xs,z,rfl,rfl,h1,qq⟩:=h
 cases rx
 obtain⟨t,rfl⟩:=ry
 obtain⟨us,r1,t1,_⟩:=I.tuple h1
 exact SeqAt.RcAt.tuple_str z t (show s.heap.IsTuple p us.toArray from t1) hu X.prog X.w X.xe _ ⟨.bl false,H,I,rfl,qq⟩
theorem Kp(hu:X.A.units<cLine):jM X (compareOp .NotEq) (Ir X.K true):=by
 intro pins s σ H x y v u Q I rx ry h
 obtain⟨p,q,xs,ys,rfl,rfl,h1,h2,f1,f2,qq⟩:=h
 cases rx
 cases ry
 obtain⟨us,r1,t1,_⟩:=I.tuple h1
 obtain⟨vs,r2,t2,_⟩:=I.tuple h2
 refine SeqAt.RcNeAt.tuples (show s.heap.IsTuple p us.toArray from t1) (show s.heap.IsTuple q vs.toArray from t2) hu (Ba r1 r2 f1 f2) X.prog X.w X.xe _ ⟨.bl (!oh xs ys),H,I,?_,qq⟩
 show Value.bool _=Value.bool _
 unfold oh
 rw[ak,ak,r1.length,r2.length]
end
section
variable{X:Cx}
def Ip(K:Fg)(neg:Bool):R2:=λx y H Q=>∃p q xs ys,x=.ref p/\y=.ref q/\ce K H p xs/\ce K H q ys/\xs.all iG=true/\ys.all iG=true/\Q (.bl (if neg then !oh xs ys else oh xs ys)) H
theorem xA{xs ys:List V}(h:xs.length=ys.length):oh xs ys=(dz xs.length).all (λj=>xa ((xs[j]?).getD .non) ((ys[j]?).getD .non)):=by
 unfold oh;rw[<-h,iN];simp
theorem Bj{xs ys:List V}(h:¬xs.length=ys.length):oh xs ys=false:=by
 unfold oh;rw[Bool.and_eq_false_iff];right;simpa using h
theorem Kh(hu:X.A.units<cLine):jM X (compareOp .Eq) (Ip X.K false):=by
 intro pins s σ H x y v u Q I rx ry h
 obtain⟨p,q,xs,ys,rfl,rfl,h1,h2,f1,f2,qq⟩:=h
 cases rx
 cases ry
 obtain⟨us,r1,t1,_⟩:=I.list h1
 obtain⟨vs,r2,t2,_⟩:=I.list h2
 have l1:=r1.length
 have l2:=r2.length
 by_cases c:xs.length=ys.length
 ·refine SeqAt.eq_listAt t1.isList t2.isList (by rw[ak,ak];lia) hu (Ba r1 r2 f1 f2) ⟨.bl (oh xs ys),H,I,?_,qq⟩
  show Value.bool _=Value.bool _
  rw[xA c,ak,l1]
 ·refine SeqAt.eq_list_lengthsAt t1.isList t2.isList (by rw[ak,ak];simp;lia) hu ⟨.bl (oh xs ys),H,I,?_,qq⟩
  show Value.bool _=Value.bool _
  rw[Bj c]
theorem Kn(hu:X.A.units<cLine):jM X (compareOp .NotEq) (Ip X.K true):=by
 intro pins s σ H x y v u Q I rx ry h
 obtain⟨p,q,xs,ys,rfl,rfl,h1,h2,f1,f2,qq⟩:=h
 cases rx
 cases ry
 obtain⟨us,r1,t1,_⟩:=I.list h1
 obtain⟨vs,r2,t2,_⟩:=I.list h2
 have l1:=r1.length
 have l2:=r2.length
 by_cases c:xs.length=ys.length
 ·refine SeqAt.RcNeAt.lists t1.isList t2.isList (by rw[ak,ak];lia) hu (Ba r1 r2 f1 f2) X.prog X.w X.xe _ ⟨.bl (!oh xs ys),H,I,?_,qq⟩
  show Value.bool _=Value.bool _
  rw[xA c,ak,l1]
 ·refine SeqAt.RcNeAt.lists_lengths t1.isList t2.isList (by rw[ak,ak];simp;lia) hu X.prog X.w X.xe _ ⟨.bl (!oh xs ys),H,I,?_,qq⟩
  show Value.bool _=Value.bool _
  rw[Bj c];rfl
end
section
variable{prog:Program}{w:World}{A:Around}{E:Value->Shared->Prop}
theorem sN{it t:Addr}{items:Array Value}(hne:t≠it):∀(n i:Nat) (s:Shared) (Q:List Value->Shared->Prop),s.heap.IsListIter it t i->s.heap.IsList t items->i+n<=items.size->
  (∀h':Heap,h'.IsListIter it t (i+n)->Heap.SameBut it s.heap h'->Q ((items.toList.drop i).take n) {s with heap:=h'})->wpAny (model prog w) A (draw (.ref it) n) Q E s
 |0,i,s,Q,hit,_,_,hQ=>by
  show wpAny _ _ (pure []) Q E s
  exact wpAny_pure (by simpa using hQ s.heap hit (Heap.SameBut.refl ..))
 |n+1,i,s,Q,hit,ht,hle,hQ=>by
  have hlt:i<items.size:=by lia
  show wpAny _ _ (pyNext (.ref it) >>= _) Q E s
  refine wpAny_bind (wpAny_pyNext_list_item hit ht (x:=items[i]) (by simp[hlt]) λh₁ hit₁ hs₁=>?_)
  refine wpAny_bind (wpAny_holding (sN hne n (i+1) _ _ hit₁ (ht.extBut hs₁.extBut hne) (by lia) λh₂ hit₂ hs₂=>wpAny_pure ?_))
  have hd:items.toList.drop i=items[i]::items.toList.drop (i+1):=by simp[List.drop_eq_getElem_cons,hlt]
  have:=hQ h₂ (by rw[show i+(n+1)=i+1+n by lia];exact hit₂) (hs₁.trans hs₂)
  rw[hd,jU] at this
  exact this
theorem qk{s:Shared}{t:Addr}{items:Array Value}{Q:List Value->Shared->Prop}(hh:A.handled=none)(ht:s.heap.IsList t items)
  (hQ:∀h':Heap,Heap.ExtBut s.heap.objs.size s.heap h'->Q items.toList {s with heap:=h'}):wpAny (model prog w) A (unpackItems (.ref t) items.size none) Q E s:=by
 have hlt:t≠s.heap.objs.size:=by obtain⟨o,ho,_⟩:=ht;exact aH (aF ho)
 unfold unpackItems
 refine wpAny_bind ?_
 ·unfold notIterableAtAll
  refine wpAny_bind (wpAny_specialOf ht.typeIs slot_list_iter.lookup ?_)
  refine wpAny_pure ?_
  simp only[Bool.false_eq_true,if_false]
  refine wpAny_bind (wpAny_holding (wpAny_pyIter_list ht ?_))
  refine wpAny_bind (wpAny_holding (sN hlt items.size 0 _ _ ⟨_,aD _ rfl,rfl,rfl⟩ (ht.push _) (by lia) λh₁ hit₁ hs₁=>?_))
  have hall:List.take items.size (List.drop 0 items.toList)=items.toList:=by
   rw[m7];exact dA (by simp)
  rw[hall]
  rw[if_neg (by simp)]
  have ht₁:h₁.IsList t items:=(ht.push _).extBut hs₁.extBut hlt
  refine wpAny_bind (wpAny_holding (wpAny_pyNext_list_end hh hit₁ ht₁ (by simp) λh₂ he₂=>?_))
  simp only[Option.isSome_none,Bool.false_eq_true,if_false]
  refine wpAny_pure (hQ h₂ λb o hb e=>he₂ b o hb (hs₁.extBut b o hb (aj _ e)))
end
section
variable{X:Cx}{pos:Pos}
def Bm(K:Fg)(n:Nat)(t:Cp):TG:=λv σ H Q=>∃a xs,v=.ref a/\ce K H a xs/\xs.length=n/\t xs σ H Q
theorem HK{es:List Expr}{k:Nat}{t:Cp}{n:Nat}(hc:X.calm=true)(h:Ll X es t)
  (hn:(assignEach es X.env).length=n:=by rfl) (hst:(assignEach es X.env).findIdx? (·.1)=none:=by rfl):PG X (.Tuple es k pos) (Bm X.K n t):=by
 intro pins s σ H v u Q I r hw
 obtain⟨a,xs,e1,hq,hl,hw⟩:=hw
 subst e1
 cases r
 obtain⟨its,rv,ht,hz⟩:=I.list hq
 rw[assign_Tuple]
 refine wpAny_bind (wpAny_standAt ?_)
 unfold unpack
 have e:(assignEach es X.env).length=its.toArray.size:=by simp[hn,<-hl,rv.length]
 rw[e,hst]
 refine wpAny_bind (wpAny_holding (qk (I.ok.hd hc) ht.isList λh' hx=>?_))
 have I1:bN X pins σ H {s with heap:=h'}:=I.kept (t':=s.toks) λb o e=>hx b o (aH (aF e)) e
 exact h pins _ σ H xs _ Q I1 (by simpa using rv) hw
end
def Mc:R2:=λx y H Q=>∃i j,x=.str i/\y=.str j/\i.length+j.length<=sizeLine/\Q (.str (i++j)) H
def cN(K:Fg):R2:=λx y H Q=>Gy (λi j=>.int (i+j)) x y H Q\/(Mc x y H Q\/(L0 x y H Q\/Jt K x y H Q))
def u7:R2:=Gy λi j=>.int (i-j)
def gH(K:Fg):R2:=λx y H Q=>rI GA (λi j=>.int (i*j)) x y H Q\/Jx K x y H Q
def kW:R2:=rI (λ_ j=>0<j) λi j=>.int (i % j)
def Ar:R2:=rI Lp λi j=>.int (i / j)
def BC:R2:=rI Lq λi j=>.int (i ^ j.toNat)
def iy(K:Fg):R2:=λx y H Q=>MU x y H Q\/(Ir K false x y H Q\/(Jv K x y H Q\/Ip K false x y H Q))
def As(K:Fg):R2:=λx y H Q=>MV x y H Q\/(Ir K true x y H Q\/Ip K true x y H Q)
def wI:R2:=Gy λi j=>.bl (decide (i<j))
def Iv:R2:=Gy λi j=>.bl (decide (j<i))
def MC:R2:=λx y H Q=>y=.non/\Q (.bl (decide (x=.non))) H
def L8:V->Hp->VK->Prop:=rU λi=>.int (-i)
def Ds(K:Fg):V->Option Int->Option Int->Hp->VK->Prop:=λx lo hi H Q=>Ma K x lo hi H Q\/Mb K x lo hi H Q
def jP(K:Fg):List V->Hp->VK->Prop:=λxs H Q=>∃x n,xs=[x]/\Lw K x H n/\Q (.int n) H
def Io:List V->Hp->VK->Prop:=λxs H Q=>∃i j,xs=[.int i,.int j]/\(0<j/\j<2 ^ 64)/\∀p,H p=none->Q (.ref p) (upd H p (.tup [.int (i / j),.int (i % j)]))
def L6:List V->Hp->VK->Prop:=λxs H Q=>∃i j,xs=[.int i,.int j]/\Q (.int (if j>i then j else i)) H
def L7:List V->Hp->VK->Prop:=λxs H Q=>∃i j,xs=[.int i,.int j]/\Q (.int (if j<i then j else i)) H
def MD(K:Fg):List V->Hp->VK->Prop:=λxs H Q=>∃(p:Addr) (ns:List Int),xs=[.ref p]/\ce K H p (ns.map V.int)/\∀z:Int,Q (.int z) H
def KU(K:Fg):List V->Hp->VK->Prop:=λxs H Q=>∃x T b,xs=[x,.ty T]/\um K H x T b/\Q (.bl b) H
def BB:List V->Hp->VK->Prop:=λxs H Q=>(∃i,xs=[.int i]/\Q (.int i) H)\/∃k,xs=[.bl k]/\Q (.int (if k then 1 else 0)) H
def wH(K:Fg):List V->Hp->VK->Prop:=λxs H Q=>∃p ys,xs=[.ref p]/\(ce K H p ys\/dZ K H p ys)/\∀l,H l=none->Q (.ref l) (upd H l (.lst ys))
def ie(K:Fg):List V->Hp->VK->Prop:=λxs H Q=>∃p ys,xs=[.ref p]/\((ce K H p ys/\∀l,H l=none->Q (.ref l) (upd H l (.tup ys)))\/(dZ K H p ys/\Q (.ref p) H))
def jF(K:Fg)(tl:TE):TI:=λσ H R=>Jo K tl σ H R\/LF K tl σ H R
section
variable{X:Cx}
theorem bX:jM X (binaryOp .Add) (cN X.K):=Kf.or (Al.or (Kg.or Ht))
theorem fF:jM X (binaryOp .Mult) (gH X.K):=Km.or Hy
theorem dI(hu:X.A.units<cLine):jM X (compareOp .Eq) (iy X.K):=LP.or ((Kj hu).or ((Hw hu).or (Kh hu)))
theorem qG(hu:X.A.units<cLine):jM X (compareOp .NotEq) (As X.K):=LQ.or ((Kp hu).or (Kn hu))
theorem kC:Eb X (Ds X.K):=IN.or Lf
theorem KD{tg l:Expr}{tl:TE}(hl:PE X l tl):PI X tg l (jF X.K tl):=by
 intro pins s σ H R I h
 rcases h with h|h
 ·exact HQ hl pins s σ H R I h
 ·exact KF hl pins s σ H R I h
end
structure aK(P:Program)(w:World)(K:Fg)(mg:Str->Option Value)(base:Heap)(x:Str)(ps:List Str)(k:Nat)(sp:Sp):Prop where
 ex:∃(f:Addr) (fd:FuncData),mg x=some (.ref f)/\aM K (.ref f)=true/\m9 K fd ps []/\eK P w K mg base fU k f fd ps sp
theorem LT{X:Cx}{x:Str}{ps:List Str}{k:Nat}{sp:Sp}{e:Expr}{es:List Expr}{t:TA}{p pos:Pos}(c:aK X.prog X.w X.K X.mg X.base x ps k sp)(hr:dc k X.A)(hg:Gl X x)(ha:PA X (e::es) t)
  (hdb:(x==("__debug__":Str))=false:=by decide) (he:starEach (e::es) X.env=(false,eval e X.env)::starEach es X.env:=by rfl) (hpl:(backTo pos (starEach es X.env)).any (·.1)=false:=by rfl) :
  PE X (.Call (.Name x p) (e::es) [] pos) (bE sp [] E0 t):=by
 obtain⟨f,fd,hm,hk,hb,F⟩:=c.ex
 exact Bw F hr hg hm hk hb .nil E8 ha hdb he hpl
structure gD(mg:Str->Option Value):Prop where
 len_:mg "len"=none
 range_:mg "range"=none
 divmod_:mg "divmod"=none
 max_:mg "max"=none
 min_:mg "min"=none
 sum_:mg "sum"=none
 all_:mg "all"=none
 isinstance_:mg "isinstance"=none
 int_:mg "int"=none
 bool_:mg "bool"=none
 list_:mg "list"=none
 tuple_:mg "tuple"=none
 enumerate_:mg "enumerate"=none
 zip_:mg "zip"=none
 sorted_:mg "sorted"=none
 set_:mg "set"=none
 dict_:mg "dict"=none
 str_:mg "str"=none
 any_:mg "any"=none
 reversed_:mg "reversed"=none
 abs_:mg "abs"=none
def fh(a:Addr)(H H':Hp):Prop:=∀b o,b≠a->H b=some o->H' b=some o
theorem fh.refl(a:Addr)(H:Hp):fh a H H:=λ_ _ _ h=>h
theorem fh.trans{a:Addr}{H H1 H2:Hp}(x:fh a H H1)(y:fh a H1 H2):fh a H H2:=λc o n h=>y c o n (x c o n h)
theorem aV.but{a:Addr}{H H':Hp}(x:aV H H'):fh a H H':=λb o _ h=>x b o h
theorem fh.upd_at{a:Addr}{H:Hp}{o:HO}:fh a H (upd H a o):=λb u n h=>by rw[ax n];exact h
theorem fh.new{a p:Addr}{H H1:Hp}{o:HO}(x:fh a H H1)(hp:H1 p=none):fh a H (upd H1 p o):=λb u n h=>by
 rw[ax (ar (x b u n h) hp)];exact x b u n h
theorem aV.new{p:Addr}{H H1:Hp}{o:HO}(x:aV H H1)(hp:H1 p=none):aV H (upd H1 p o):=λb u h=>by
 rw[ax (ar (x b u h) hp)];exact x b u h
theorem fh.free{a p:Addr}{H H':Hp}(x:fh a H H')(n:p≠a)(h:H' p=none):H p=none:=by
 cases q:H p with
 |none=>rfl
 |some o=>rw[x p o n q] at h;cases h
theorem sJ{js:List Nat}{k:Nat}{lo:Int}{n:Nat}{g:TG}{tc:TT}{te:TE}{R:Hp->Prop}{σ:St}{H:Hp}{D:Addr}(Pv:Nat->St->Hp->Prop)(h0:Pv 0 (w9 js k σ) (upd H D (.lst [])))
  (hs:∀i σ H,i<n->Pv i σ H->g (.int (lo+i)) σ H λσ2 H2=>pR D tc te {nx:=Pv (i+1),rt:=λ_ _=>False,ct:=Pv (i+1),bk:=λ_ H'=>R H'} σ2 H2) (hd:∀σ H,Pv n σ H->R H) :
  ∃W:Nat->Nat->St->Hp->Prop,(∃m,W 0 m (w9 js k σ) (upd H D (.lst [])))/\∀i m σ H,W i m σ H->
   ((GD lo n).stop i H/\R H)\/((GD lo n).go i H/\∃N:St->Hp->Prop,(∀σ' H',N σ' H'->∃m',m'<m/\W (i+1) m' σ' H')/\∀x H',(GD lo n).yld i H x H'->g x σ H' λσ2 H2=>pR D tc te {nx:=N,rt:=λ_ _=>False,ct:=N,bk:=λ_ H'=>R H'} σ2 H2):=
 lE (D:={nx:=λ_ H'=>R H',rt:=λ_ _=>False}) Pv h0 hs hd
theorem jh{js:List Nat}{k:Nat}{K:Fg}{a:Addr}{xs:List V}{g:TG}{tc:TT}{te:TE}{R:Hp->Prop}{σ:St}{H:Hp}{D:Addr}(Pv:Nat->St->Hp->Prop)(h0:Pv 0 (w9 js k σ) (upd H D (.lst [])))(hl:∀i σ H,i<=xs.length->Pv i σ H->ce K H a xs)
  (hs:∀i x σ H,xs[i]?=some x->Pv i σ H->g x σ H λσ2 H2=>pR D tc te {nx:=Pv (i+1),rt:=λ_ _=>False,ct:=Pv (i+1),bk:=λ_ H'=>R H'} σ2 H2) (hd:∀σ H,Pv xs.length σ H->R H) :
  ∃W:Nat->Nat->St->Hp->Prop,(∃m,W 0 m (w9 js k σ) (upd H D (.lst [])))/\∀i m σ H,W i m σ H->
   ((Jf K a).stop i H/\R H)\/((Jf K a).go i H/\∃N:St->Hp->Prop,(∀σ' H',N σ' H'->∃m',m'<m/\W (i+1) m' σ' H')/\∀x H',(Jf K a).yld i H x H'->g x σ H' λσ2 H2=>pR D tc te {nx:=N,rt:=λ_ _=>False,ct:=N,bk:=λ_ H'=>R H'} σ2 H2):=
 ib (D:={nx:=λ_ H'=>R H',rt:=λ_ _=>False}) Pv h0 hl hs hd
theorem Eg{js:List Nat}{k:Nat}{K:Fg}{a:Addr}{xs:List V}{g:TG}{tc:TT}{te:TE}{R:Hp->Prop}{σ:St}{H:Hp}{D:Addr}(Pv:Nat->St->Hp->Prop)(h0:Pv 0 (w9 js k σ) (upd H D (.lst [])))(hl:∀i σ H,i<=xs.length->Pv i σ H->dZ K H a xs)
  (hs:∀i x σ H,xs[i]?=some x->Pv i σ H->g x σ H λσ2 H2=>pR D tc te {nx:=Pv (i+1),rt:=λ_ _=>False,ct:=Pv (i+1),bk:=λ_ H'=>R H'} σ2 H2) (hd:∀σ H,Pv xs.length σ H->R H) :
  ∃W:Nat->Nat->St->Hp->Prop,(∃m,W 0 m (w9 js k σ) (upd H D (.lst [])))/\∀i m σ H,W i m σ H->
   ((Jg K a).stop i H/\R H)\/((Jg K a).go i H/\∃N:St->Hp->Prop,(∀σ' H',N σ' H'->∃m',m'<m/\W (i+1) m' σ' H')/\∀x H',(Jg K a).yld i H x H'->g x σ H' λσ2 H2=>pR D tc te {nx:=N,rt:=λ_ _=>False,ct:=N,bk:=λ_ H'=>R H'} σ2 H2):=
 kR (D:={nx:=λ_ H'=>R H',rt:=λ_ _=>False}) Pv h0 hl hs hd
theorem fh.through{a l:Addr}{H H1 H2:Hp}{o:HO}(x:fh a H H1)(hl:H1 l=none)(y:fh l (upd H1 l o) H2):fh a H H2:=λb u n h=>by
 have h1:=x b u n h
 have nl:b≠l:=ar h1 hl
 exact y b u nl (by rw[ax nl];exact h1)
section
variable{κ:Type}[DecidableEq κ]
def gz(kvs:List (κ×V))(k:κ):Option V:=(kvs.find? λkv=>decide (kv.1=k)).map (·.2)
def ix(kvs:List (κ×V))(k:κ)(v:V):List (κ×V):=
 if(kvs.any λkv=>decide (kv.1=k))=true then kvs.map (λkv=>if kv.1=k then(kv.1,v) else kv) else kvs++[(k,v)]
theorem Gs{k:κ}:gz ([]:List (κ×V)) k=none:=rfl
theorem qm{p:κ×V}{r:List (κ×V)}{k:κ}(e:p.1=k):gz (p::r) k=some p.2:=by simp[gz,fc,e]
theorem nI{p:κ×V}{r:List (κ×V)}{k:κ}(e:¬p.1=k):gz (p::r) k=gz r k:=by simp[gz,fc,e]
theorem ql(k:κ):∀kvs:List (κ×V),(kvs.any λkv=>decide (kv.1=k))=(gz kvs k).isSome
 |[]=>rfl
 |p::r=>by
  rw[jq]
  by_cases e:p.1=k
  ·simp only[qm e,decide_eq_true e,Bool.true_or,Option.isSome_some]
  ·rw[nI e,decide_eq_false e,Bool.false_or];exact ql k r
theorem kT(kvs:List (κ×V))(k:κ)(v:V):(ix kvs k v).length<=kvs.length+1:=by
 unfold ix
 split
 ·rw[ab];lia
 ·rw[ai,bM,ii];lia
theorem pL{kvs:List (κ×V)}{k:κ}(v:V)(h:gz kvs k=none):ix kvs k v=kvs++[(k,v)]:=by
 unfold ix
 rw[ql,h]
 exact if_neg (by decide)
theorem pz.isSome_eq{o:Option V}{u:Option Value}(r:pz o u):o.isSome=u.isSome:=by
 cases o with
 |none=>cases u with
  |none=>rfl
  |some _=>exact(show False from r).elim
 |some _=>cases u with
  |none=>exact(show False from r).elim
  |some _=>rfl
theorem KV.val{kvs:List (κ×V)}{vs:List (κ×Value)}(r:KV kvs vs)(k:κ):pz (gz kvs k) (valueAt vs k):=by
 unfold KV at r
 induction r with
 |nil=>exact True.intro
 |@cons p q ps qs h t ih=>
  obtain⟨h1,h2⟩:=h
  by_cases e:p.1=k
  ·have e':q.1=k:=h1.symm.trans e
   have b:valueAt (q::qs) k=some q.2:=by simp[valueAt,fc,e']
   rw[qm e,b];exact h2
  ·have e':¬q.1=k:=λz=>e (h1.trans z)
   have b:valueAt (q::qs) k=valueAt qs k:=by simp[valueAt,fc,e']
   rw[nI e,b];exact ih
theorem KV.any{kvs:List (κ×V)}{vs:List (κ×Value)}(r:KV kvs vs)(k:κ):(kvs.any λkv=>decide (kv.1=k))=vs.any λkv=>decide (kv.1=k):=by
 unfold KV at r
 induction r with
 |nil=>rfl
 |cons h t ih=>rw[jq,jq,ih,h.1]
theorem KV.repl{kvs:List (κ×V)}{vs:List (κ×Value)}(r:KV kvs vs)(k:κ){y:V}{u:Value}(ry:cy y u) :
  KV (kvs.map λkv=>if kv.1=k then(kv.1,y) else kv) (vs.map λkv=>if kv.1=k then(kv.1,u) else kv):=by
 unfold KV at r ⊢
 induction r with
 |nil=>exact .nil
 |@cons p q ps qs h t ih=>
  rw[bt,bt]
  refine .cons ?_ ih
  obtain⟨h1,h2⟩:=h
  by_cases e:p.1=k
  ·rw[if_pos e,if_pos (h1.symm.trans e)];exact⟨h1,ry⟩
  ·rw[if_neg e,if_neg (λz=>e (h1.trans z))];exact⟨h1,h2⟩
theorem KV.put{kvs:List (κ×V)}{vs:List (κ×Value)}(r:KV kvs vs)(k:κ){y:V}{u:Value}(ry:cy y u):KV (ix kvs k y) (stored vs k u):=by
 unfold ix stored
 rw[r.any k]
 by_cases e:(vs.any λkv=>decide (kv.1=k))=true
 ·rw[if_pos e,if_pos e];exact r.repl k ry
 ·rw[if_neg e,if_neg e];exact Paired.snoc r ⟨rfl,ry⟩
theorem KV.keys{kvs:List (κ×V)}{vs:List (κ×Value)}(r:KV kvs vs):kvs.map (·.1)=vs.map (·.1):=by
 unfold KV at r
 induction r with
 |nil=>rfl
 |cons h t ih=>rw[bt,bt,ih,h.1]
theorem KV.length{kvs:List (κ×V)}{vs:List (κ×Value)}(r:KV kvs vs):kvs.length=vs.length:=Paired.length r
end
theorem sU{P:Program}{w:World}{k:dY}{u:Value}(r:cy (kV k) u):(dk P w).is k u=true:=by
 cases k with
 |inl i=>obtain⟨t,e⟩:=(show ∃t,u=Value.int i t from r);subst e;exact xV P w i t
 |inr x=>obtain⟨t,e⟩:=(show ∃t,u=Value.str x t from r);subst e;exact xW P w x t
theorem uY{P:Program}{w:World}:∀{ks:List dY} {us:List Value},cv (ks.map kV) us->ItemsAre (dk P w) ks us
 |[],_,r=>by rw[cr] at r;cases r;exact .nil
 |k::ks,_,r=>by
  rw[bt] at r
  cases r with
  |cons h t=>exact .cons (sU h) (uY t)
abbrev KT(H:Hp):List (List dY×V)->List (List dY×Addr×Value)->Prop:=Paired λp q=>p.1=q.1/\H q.2.1=some (.tup (p.1.map kV))/\cy p.2 q.2.2
theorem KT.val{H:Hp}{kvs:List (List dY×V)}{xs:List (List dY×Addr×Value)}(r:KT H kvs xs)(k:List dY):pz (gz kvs k) ((atKey xs k).map (·.2)):=by
 induction r with
 |nil=>exact True.intro
 |@cons p q ps qs h t ih=>
  obtain⟨h1,_,h2⟩:=h
  by_cases e:p.1=k
  ·have e':q.1=k:=h1.symm.trans e
   have b:atKey (q::qs) k=some q.2:=by simp[atKey,fc,e']
   rw[qm e,b];exact h2
  ·have e':¬q.1=k:=λz=>e (h1.trans z)
   have b:atKey (q::qs) k=atKey qs k:=by simp[atKey,fc,e']
   rw[nI e,b];exact ih
theorem KT.repl{H:Hp}{kvs:List (List dY×V)}{xs:List (List dY×Addr×Value)}(r:KT H kvs xs)(k:List dY){y:V}{u:Value}(ry:cy y u) :
  KT H (kvs.map λkv=>if kv.1=k then(kv.1,y) else kv) (xs.map (putAt k u)):=by
 induction r with
 |nil=>exact .nil
 |@cons p q ps qs h t ih=>
  rw[bt,bt]
  refine .cons ?_ ih
  obtain⟨h1,h2,h3⟩:=h
  unfold putAt
  by_cases e:p.1=k
  ·rw[if_pos e,if_pos (h1.symm.trans e)];exact⟨h1,h2,ry⟩
  ·rw[if_neg e,if_neg (λz=>e (h1.trans z))];exact⟨h1,h2,h3⟩
theorem KT.put{H:Hp}{kvs:List (List dY×V)}{xs:List (List dY×Addr×Value)}(r:KT H kvs xs)(k:List dY){b:Addr}{y:V}{u:Value}(hb:H b=some (.tup (k.map kV)))(ry:cy y u) :
  KT H (ix kvs k y) (storedH xs k b u):=by
 have e:(kvs.any λkv=>decide (kv.1=k))=(atKey xs k).isSome:=by
  rw[ql,(r.val k).isSome_eq,Option.isSome_map]
 unfold ix storedH
 rw[e]
 by_cases q:(atKey xs k).isSome=true
 ·rw[if_pos q,if_pos q];exact r.repl k ry
 ·rw[if_neg q,if_neg q];exact Paired.snoc r ⟨rfl,hb,ry⟩
theorem KT.keeps{H H':Hp}{kvs:List (List dY×V)}{xs:List (List dY×Addr×Value)}(r:KT H kvs xs)(ht:∀b ys,H b=some (.tup ys)->H' b=some (.tup ys)):KT H' kvs xs:=
 Paired.mapP r λ_ _ z=>⟨z.1,ht _ _ z.2.1,z.2.2⟩
section
variable{P:Program}{w:World}{H:Hp}{h:Heap}{a:Addr}
theorem Jz{u:HO}(ok:oX P w H h)(e:Rd H a u):fA P w H h a u:=e.ok ok
theorem sM{kvs:List (dY×V)}(ok:oX P w H h)(e:Rd H a (.dK kvs)):kvs.length<=sizeLine/\(a==sysModules)=false/\∃vs,KV kvs vs/\h.DictOf (dk P w) a vs:=
 show fA P w H h a (.dK kvs) from Jz ok e
theorem pE{kvs:List (dY×V)}(ok:oX P w H h)(e:H a=some (.dK kvs)):kvs.length<=sizeLine/\(a==sysModules)=false/\∃vs,KV kvs vs/\h.DictOf (dk P w) a vs:=sM ok (.inl e)
theorem we{ks:List dY}(ok:oX P w H h)(e:H a=some (.tup (ks.map kV))):(tupleKind (dk P w)).is h ks a:=by
 obtain⟨_,its,r,o,h1,h2,n,h3⟩:=(show fA P w H h a (.tup (ks.map kV)) from ok a _ e)
 exact⟨o,its.toArray,n,h1,h2.1,h3,by simpa using uY r⟩
theorem xz{kvs:List (List dY×V)}(ok:oX P w H h)(e:Rd H a (.dT kvs)):kvs.length<=sizeLine/\(a==sysModules)=false/\
  ∃xs,KT H kvs xs/\h.DictOfH (tupleKind (dk P w)) a xs:=by
 obtain⟨z,y,xs,r,o,es,ep,h1,h2,h3,h4,h5⟩:=(show fA P w H h a (.dT kvs) from Jz ok e)
 refine⟨z,y,xs,r,o,es,ep,h1,h2,h3,h4,λx hx=>?_,h5⟩
 have all:∀{l:List (List dY×V)} {m:List (List dY×Addr×Value)},KT H l m->∀x∈m,(tupleKind (dk P w)).is h x.1 x.2.1:=by
  intro l m q
  induction q with
  |nil=>intro x hx;exact nomatch hx
  |@cons p q ps qs hq t ih=>
   intro x hx
   rcases aJ.mp hx with e|hx
   ·subst e
    exact we ok (by rw[<-hq.1];exact hq.2.1)
   ·exact ih x hx
 exact all r x hx
theorem LE{kvs:List (List dY×V)}(ok:oX P w H h)(e:H a=some (.dT kvs)):kvs.length<=sizeLine/\(a==sysModules)=false/\
  ∃xs,KT H kvs xs/\h.DictOfH (tupleKind (dk P w)) a xs:=xz ok (.inl e)
end
def oe(H:Hp)(a:Addr)(y:V)(r:Option V):Prop:=
 (∃kvs k,Rd H a (.dK kvs)/\y=kV k/\r=gz kvs k)\/∃kvs k b,Rd H a (.dT kvs)/\y=.ref b/\H b=some (.tup (k.map kV))/\r=gz kvs k
def xb(H:Hp)(a:Addr)(y v:V)(H':Hp):Prop:=
 (∃kvs k,H a=some (.dK kvs)/\y=kV k/\kvs.length<sizeLine/\H'=upd H a (.dK (ix kvs k v)))\/
 ∃kvs k b,H a=some (.dT kvs)/\y=.ref b/\H b=some (.tup (k.map kV))/\kvs.length<sizeLine/\H'=upd H a (.dT (ix kvs k v))
theorem oe.k{H:Hp}{a:Addr}{kvs:List (dY×V)}{k:dY}(e:H a=some (.dK kvs)):oe H a (kV k) (gz kvs k):=.inl ⟨kvs,k,.inl e,rfl,rfl⟩
theorem xb.k{H:Hp}{a:Addr}{kvs:List (dY×V)}{k:dY}{v:V}(e:H a=some (.dK kvs))(hl:kvs.length<sizeLine):xb H a (kV k) v (upd H a (.dK (ix kvs k v))):=.inl ⟨kvs,k,e,rfl,hl,rfl⟩
section
variable{X:Cx}{pins:List (Addr×Obj)}{σ:St}{H:Hp}{s:Shared}{a:Addr}{y v:V}{u r:Value}{o:Option V}{A:Around}{E:Value->Shared->Prop}
theorem bN.big(I:bN X pins σ H s):sysModules<s.heap.objs.size:=by
 have h:mainGlobals<s.heap.objs.size:=(I.mod.glob.keeps I.bk).lt
 exact jY (by decide) h
theorem Cv{Q:Value->Shared->Prop}(hu:A.units+1<cLine)(I:bN X pins σ H s)(g:oe H a y (some v))(ry:cy y u)(h:∀w' s',bN X pins σ H s'->cy v w'->Q w' s') :
  wpAny (model X.prog X.w) A (getItem (.ref a) u) Q E s:=by
 rcases g with⟨kvs,k,e,ey,l⟩|⟨kvs,k,b,e,ey,eb,l⟩
 ·subst ey
  obtain⟨z,hd,vs,rel,dd⟩:=sM I.hok e
  obtain⟨w',hw,rw'⟩:=pz.some_of (v:=v) (o:=valueAt vs k) (by rw[l];exact rel.val k)
  exact wpAny_getItem_of (sU ry) dd.mapOf hw (h w' _ (I.tok _) rw')
 ·subst ey
  cases(show u=Value.ref b from ry)
  obtain⟨z,hd,xs,rel,dd⟩:=xz I.hok e
  obtain⟨w',hw,rw'⟩:=pz.some_of (v:=v) (o:=(atKey xs k).map (·.2)) (by rw[l];exact rel.val k)
  obtain⟨p,hp,hp2⟩:=Option.map_eq_some_iff.mp hw
  refine wpAny_getItem_heap (tupleKind_room_in1 hu) (we I.hok eb) dd hp ?_
  rw[hp2]
  exact h w' _ (I.tok _) rw'
theorem GS{Q:Value->Shared->Prop}(hu:A.units+1<cLine)(I:bN X pins σ H s)(g:oe H a y o)(ry:cy y u)(h:∀s',bN X pins σ H s'->Q (.bool (!o.isSome)) s') :
  wpAny (model X.prog X.w) A (compareOp .NotIn u (.ref a)) Q E s:=by
 rcases g with⟨kvs,k,e,ey,l⟩|⟨kvs,k,b,e,ey,eb,l⟩
 ·subst ey
  obtain⟨z,hd,vs,rel,dd⟩:=sM I.hok e
  refine wpAny_notIn_of (sU ry) hd dd.mapOf ?_
  rw[<-(rel.val k).isSome_eq,<-l]
  exact h _ (I.tok _)
 ·subst ey
  cases(show u=Value.ref b from ry)
  obtain⟨z,hd,xs,rel,dd⟩:=xz I.hok e
  refine wpAny_notIn_heap (tupleKind_room_in1 hu) (we I.hok eb) hd dd ?_
  have q:=(rel.val k).isSome_eq
  rw[Option.isSome_map] at q
  rw[<-q,<-l]
  exact h _ (I.tok _)
theorem rY{h':Heap}{t':Nat}{ob:HO}(I:bN X pins σ H s)(mu:Lx (H a))(hs:Heap.SameBut a s.heap h')(he:∃q,h'.get? a=some q)(new:fA X.prog X.w (upd H a ob) h' a ob) :
  bN X pins σ (upd H a ob) {s with heap:=h',toks:=t'}:=
 I.write (x:=a) (e:=a) mu (.inl rfl) (λb q hb z=>(hs.2 b hb).trans z) he new
theorem v0{P:Program}{w:World}{H':Hp}{h':Heap}{kvs:List (dY×V)}{vs:List (dY×Value)}(z:kvs.length<=sizeLine)(hd:(a==sysModules)=false)(rel:KV kvs vs)(dd:h'.DictOf (dk P w) a vs) :
  fA P w H' h' a (.dK kvs):=⟨z,hd,vs,rel,dd⟩
theorem CD{H':Hp}{Q:Unit->Shared->Prop}(hu:A.units+1<cLine)(I:bN X pins σ H s)(g:xb H a y v H')(ry:cy y u)(rv:cy v r)(h:∀s',bN X pins σ H' s'->Q () s') :
  wpAny (model X.prog X.w) A (setItem (.ref a) u r) Q E s:=by
 rcases g with⟨kvs,k,e,ey,l,eH⟩|⟨kvs,k,b,e,ey,eb,l,eH⟩
 ·subst ey eH
  obtain⟨z,hd,vs,rel,dd⟩:=pE I.hok e
  have hz:vs.length<=sizeLine:=by rw[<-rel.length];exact z
  have hl:(ix kvs k v).length<=sizeLine:=by have:=kT kvs k v;lia
  refine wpAny_setItem_pairs (hsz:=hz) (sU ry) dd λh' dd' hs=>h _ ?_
  have he:∃q,h'.get? a=some q:=let⟨q,_,_,hq,_⟩:=dd';⟨q,hq⟩
  exact rY I (by rw[e];exact True.intro) hs he (v0 hl hd (rel.put k rv) dd')
 ·subst ey eH
  cases(show u=Value.ref b from ry)
  obtain⟨z,hd,xs,rel,dd⟩:=LE I.hok e
  have hz:xs.length<=sizeLine:=by rw[<-Paired.length rel];exact z
  have hl:(ix kvs k v).length<=sizeLine:=by have:=kT kvs k v;lia
  refine wpAny_setItem_heap (hsz:=hz) (tupleKind_room_in1 hu) (we I.hok eb) dd λh' dd' hs=>h _ ?_
  obtain⟨q,es,ep,hq,h2,h3,h4,_,h5⟩:=dd'
  refine rY I (by rw[e];exact True.intro) hs ⟨q,hq⟩ ⟨hl,hd,_,(rel.put k eb rv).keeps λc ys ec=>?_,q,es,ep,hq,h2,h3,h4,h5⟩
  rw[ax (iH ec e (λz=>nomatch z))]
  exact ec
end
section
variable{X:Cx}{pins:List (Addr×Obj)}{σ:St}{H:Hp}{s:Shared}{a:Addr}{kvs:List (dY×V)}{k:dY}{u:Value}{A:Around}{E:Value->Shared->Prop}
end
def JF(i:Expr):Prop:=∀ov iv,subscripted i false ov iv=operate [ov,iv] (getItem ov iv)
theorem IS{prog:Program}{w:World}{A:Around}{E:Value->Shared->Prop}{s:Shared}{env:Env}{value slice:Expr}{pos:Pos}{T id:String}{Q:Value->Shared->Prop}
  (hl:typeLookup (.type T) "__getitem__"=pure (some (.builtin id))) (hs:JF slice)
  (h:wpAny (model prog w) A (eval value env) (λo s₁=>wpAny (model prog w) A (eval slice env) (λi s₂=>s₂.TypeIs o T/\wpAny (model prog w) A (getItem o i) Q E s₂) E s₁) E s) :
  wpAny (model prog w) A (eval (.Subscript value slice pos) env) Q E s:=by
 refine Subscript_ (wpAny_mono h (λo s₁ h₁=>wpAny_mono h₁ (λi s₂ h₂=>?_) λ_ _ x=>x) λ_ _ x=>x)
 obtain⟨hT,h₂⟩:=h₂
 unfold subscriptTail
 refine wpAny_bind ?_
 rw[getitemInPython_of_ne hT.not_modules]
 refine wpAny_bind (wpAny_specialOf hT hl ?_)
 have fin:wpAny (model prog w) A (subscripted slice false o i) (λr s₃=>wpAny (model prog w) A (letTemporaryGo value o r >>= λ_=>pure r) Q E s₃) E s₂:=by
  rw[hs o i]
  exact wpAny_operating (wpAny_mono h₂ (λr s₃ h₃=>wpAny_bind (wpAny_letTemporaryGo (wpAny_pure h₃))) λ_ _ x=>x)
 first
  |exact wpAny_pure (wpAny_bind fin)
  |exact wpAny_bind (wpAny_pure (wpAny_bind fin))
  |exact wpAny_bind fin
theorem xw{X:Cx}{pins:List (Addr×Obj)}{σ:St}{H:Hp}{s:Shared}{a:Addr}{y:V}{o:Option V}(I:bN X pins σ H s)(g:oe H a y o):s.TypeIs (.ref a) "dict":=by
 rcases g with⟨kvs,k,e,_,_⟩|⟨kvs,k,b,e,_,_,_⟩
 ·obtain⟨_,_,vs,_,dd⟩:=sM I.hok e
  exact dd.typeIs
 ·obtain⟨_,_,xs,_,dd⟩:=xz I.hok e
  exact dd.typeIs
def nA(td ty:TE):TE:=λσ H Q=>td σ H λx H1=>ty σ H1 λy H2=>∃a v,x=.ref a/\oe H2 a y (some v)/\Q v H2
section
variable{X:Cx}{o i e value:Expr}{pos pos' tpos:Pos}{td ty tv:TE}
theorem HE(hu:X.A.units+1<cLine)(ho:PE X o td)(hi:PE X i ty)(hs:JF i):PE X (.Subscript o i pos) (nA td ty):=by
 intro pins s σ H Q I h
 refine IS PySem.F.slot_dict_getitem.lookup hs (fV (ho pins s σ H _ I h) λu s1 ⟨x,H1,I1,rx,q1⟩=>fV (hi pins s1 σ H1 _ I1 q1) λiv s2 ⟨y,H2,I2,ry,a,v,ex,g,q2⟩=>?_)
 subst ex
 obtain rfl:u=Value.ref a:=rx
 exact⟨xw I2 g,Cv hu I2 g ry λw' s3 I3 rw'=>⟨v,H2,I3,rw',q2⟩⟩
end
theorem xx{P:Program}{w:World}{H:Hp}(h:Heap)(hb:sysModules<h.objs.size):fA P w H (h.push {cls:=.type "dict",data:=.dict #[]}) h.objs.size (.dK []):=
 ⟨bF _,beq_eq_false_iff_ne.mpr (Ne.symm (aH hb)),[],.nil,Heap.DictOf.new h⟩
def tR:TE:=λ_ H Q=>∀p,H p=none->Q (.ref p) (upd H p (.dK []))
section
variable{X:Cx}{pos:Pos}
theorem Fa:PE X (.Dict [] [] pos) tR:=λpins s σ H Q I h=>
 wpAny_Dict_empty ⟨.ref s.heap.objs.size,_,I.laid (a:=s.heap.objs.size) (o:=.dK []) (t':=s.toks) (λ_ _ q=>aj _ q) (aw _) (xx s.heap I.big),rfl,h _ (I.hok.fresh (aw _))⟩
end
def AE:List (TE×TE)->St->Hp->(List (V×V)->Hp->Prop)->Prop
 |[],_,H,Q=>Q [] H
 |(tk,tv)::r,σ,H,Q=>tk σ H λx H1=>tv σ H1 λy H2=>AE r σ H2 λps H3=>Q ((x,y)::ps) H3
abbrev VV:List (V×V)->List (Value×Value)->Prop:=Paired λp q=>cy p.1 q.1/\cy p.2 q.2
def Lz(X:Cx)(pos:Pos)(keys:List (Option Expr))(values:List Expr)(trs:List (TE×TE)):Prop:=
 ∀(pins:List (Addr×Obj)) (s:Shared) (σ:St) (H:Hp) (Q:List (V×V)->Hp->Prop),bN X pins σ H s->AE trs σ H Q->
  wpAny (model X.prog X.w) X.A (evalPairs (pairTrees keys values X.env pos)) (λvs s'=>∃ps H',bN X pins σ H' s'/\VV ps vs/\Q ps H') X.xe s
theorem HY{X:Cx}{pos:Pos}:Lz X pos [] [] []:=λpins s σ H Q I h=>pairTrees_nil_walk ⟨[],H,I,.nil,h⟩
theorem Fi{X:Cx}{pos:Pos}{k v:Expr}{ks:List (Option Expr)}{vs:List Expr}{tk tv:TE}{trs:List (TE×TE)}(hk:PE X k tk)(hv:PE X v tv)(hr:Lz X pos ks vs trs) :
  Lz X pos (some k::ks) (v::vs) ((tk,tv)::trs):=λpins s σ H Q I h=>
 pairTrees_cons_walk (fV (hk pins s σ H _ I h) λu s1 ⟨x,H1,I1,rx,q1⟩=>fV (hv pins s1 σ H1 _ I1 q1) λw2 s2 ⟨y,H2,I2,ry,q2⟩=>
  fV (hr pins s2 σ H2 _ I2 q2) λws s3 ⟨ps,H3,I3,rel,q3⟩=>⟨(x,y)::ps,H3,I3,.cons ⟨rx,ry⟩ rel,q3⟩)
def gc(kvs more:List (dY×V)):List (dY×V):=more.foldl (λacc kv=>ix acc kv.1 kv.2) kvs
theorem KV.merge:∀{more:List (dY×V)} {rs:List (dY×Value)} {kvs:List (dY×V)} {vs:List (dY×Value)},KV more rs->KV kvs vs->KV (gc kvs more) (merged vs rs):=by
 intro more rs kvs vs r
 unfold KV at r
 induction r generalizing kvs vs with
 |nil=>intro q;exact q
 |@cons p q ps qs h t ih=>
  intro r0
  have e:KV (ix kvs p.1 p.2) (stored vs q.1 q.2):=by
   have:=r0.put p.1 h.2
   rw[<-h.1];exact this
  exact ih e
theorem lh:∀(more kvs:List (dY×V)),(gc kvs more).length<=kvs.length+more.length
 |[],kvs=>by show kvs.length<=kvs.length+0;lia
 |p::r,kvs=>by
  have h1:=lh r (ix kvs p.1 p.2)
  have h2:=kT kvs p.1 p.2
  show(gc (ix kvs p.1 p.2) r).length<=_
  rw[bM];lia
theorem sG{P:Program}{w:World}:∀{kvs:List (dY×V)} {ws:List (Value×Value)},VV (kvs.map λkv=>(kV kv.1,kv.2)) ws->∃rs,Carries (dk P w) ws rs/\KV kvs rs
 |[],_,r=>by rw[cr] at r;cases r;exact⟨[],True.intro,.nil⟩
 |p::kvs,_,r=>by
  rw[bt] at r
  cases r with
  |@cons a b as bs h t=>
   obtain⟨rs,c,q⟩:=sG (P:=P) (w:=w) t
   obtain⟨b1,b2⟩:=b
   exact⟨(p.1,b2)::rs,⟨sU h.1,rfl,c⟩,.cons ⟨rfl,h.2⟩ q⟩
def FO(trs:List (TE×TE)):TE:=λσ H Q=>∀p,H p=none->AE trs σ (upd H p (.dK [])) λps H2=>H2 p=some (.dK [])/\∃kvs:List (dY×V),ps=kvs.map (λkv=>(kV kv.1,kv.2))/\kvs.length<=15/\Q (.ref p) (upd H2 p (.dK (gc [] kvs)))
theorem HG{X:Cx}{pos:Pos}{keys:List (Option Expr)}{values:List Expr}{trs:List (TE×TE)}(h:Lz X pos keys values trs)(hall:keys.all (·.isSome)=true)(hl:keys.length=values.length)(h0:keys≠[])
  (h15:keys.length<=15):PE X (.Dict keys values pos) (FO trs):=by
 intro pins s σ H Q I q
 have hn:=I.hok.fresh (aw s.heap.objs.size)
 have I1:=I.laid (a:=s.heap.objs.size) (o:=.dK []) (h':=s.heap.push {cls:=.type "dict",data:=.dict #[]}) (t':=s.toks) (λ_ _ q=>aj _ q) (aw _) (xx s.heap I.big)
 refine wpAny_Dict_walk (knd:=dk X.prog X.w) hall hl h0 h15 (fV (h pins _ σ _ _ I1 (q _ hn)) λws s2 ⟨ps,H2,I2,rel,e,kvs,ep,lk,q2⟩=>?_)
 subst ep
 obtain⟨rs,c,rk⟩:=sG (P:=X.prog) (w:=X.w) rel
 obtain⟨z,hd,vs0,r0,dd⟩:=pE I2.hok e
 cases r0
 refine⟨rs,c,dd,λh' dd' hs=>⟨.ref s.heap.objs.size,_,?_,rfl,q2⟩⟩
 have hz:(gc [] kvs).length<=sizeLine:=by
  have h1:=lh kvs []
  rw[ii] at h1
  rw[sizeLine_eq];lia
 have he:∃q,h'.get? s.heap.objs.size=some q:=let⟨q,_,_,hq,_⟩:=dd';⟨q,hq⟩
 exact rY I2 (by rw[e];exact True.intro) hs he (v0 hz hd (rk.merge .nil) dd')
structure M2(X:Cx)(o:Expr)(m:Str)(apos:Pos)(e f:Expr)(cpos:Pos):Prop where
 base:attributeBase o m X.env (eval o X.env)=eval o X.env
 few:((backTo cpos (starEach [e,f] X.env)).all (λx=>!x.1)&&(backToKw cpos (keywordEach [] X.env)).all (λx=>x.1.isSome)
  && decide (([e,f]:List Expr).length+([]:List Keyword).length+(if([]:List Keyword).isEmpty then 0 else 1)<30))=true
 line:(apos.endLine==cpos.line)=true
 trees:backTo cpos (starEach [e,f] X.env)=[(false,eval e X.env),(false,eval f X.env)]
def MK(H:Hp)(a:Addr):Prop:=(∃kvs,Rd H a (.dK kvs))\/∃kvs,Rd H a (.dT kvs)
theorem ED{X:Cx}{pins:List (Addr×Obj)}{σ:St}{H:Hp}{s:Shared}{a:Addr}(I:bN X pins σ H s)(d:MK H a) :
  s.TypeIs (.ref a) "dict"/\(∀b,Value.ref a=.ref b->∃ob,s.heap.get? b=some ob/\ob.dict=none)/\(a==sysModules)=false:=by
 rcases d with⟨kvs,e⟩|⟨kvs,e⟩
 ·obtain⟨_,hd,vs,_,dd⟩:=sM I.hok e
  refine⟨dd.typeIs,λb q=>?_,hd⟩
  cases q
  obtain⟨ob,_,_,h1,h2,_⟩:=dd
  exact⟨ob,h1,h2.2.1⟩
 ·obtain⟨_,hd,xs,_,dd⟩:=xz I.hok e
  refine⟨dd.typeIs,λb q=>?_,hd⟩
  cases q
  obtain⟨ob,_,_,h1,h2,_⟩:=dd
  exact⟨ob,h1,h2.2.1⟩
section
variable{X:Cx}{pins:List (Addr×Obj)}{σ:St}{H:Hp}{s:Shared}{a:Addr}{y d:V}{u r:Value}{o:Option V}{A:Around}{E:Value->Shared->Prop}
end
section
variable{X:Cx}{o e f:Expr}{apos cpos:Pos}{td ty tx:TE}
end
section
variable{X:Cx}{pins:List (Addr×Obj)}{σ:St}{H:Hp}{s:Shared}{a:Addr}{kvs:List (dY×V)}{A:Around}{E:Value->Shared->Prop}
end
section
variable{X:Cx}{pins:List (Addr×Obj)}{σ:St}{H:Hp}{s:Shared}{a:Addr}{y:V}{u:Value}{A:Around}{E:Value->Shared->Prop}
end
section
variable{X:Cx}
end
section
variable{κ:Type}[DecidableEq κ]
theorem Jb{kvs:List (κ×V)}{k:κ}{v:V}(h:gz kvs k=some v):k∈kvs.map (·.1):=by
 have q:(kvs.any λkv=>decide (kv.1=k))=true:=by
  rw[ql,h]
  all_goals rfl
 obtain⟨p,hp,e⟩:=gN.mp q
 exact bV.mpr ⟨p,hp,of_decide_eq_true e⟩
theorem pI:∀{l:List κ} {k:κ},l.Nodup->¬k∈l->(l++[k]).Nodup
 |[],k,_,_=>by simp
 |a::r,k,h,hk=>by
  obtain⟨h1,h2⟩:=cB.mp h
  show(a::(r++[k])).Nodup
  refine cB.mpr ⟨λm=>?_,pI h2 λm=>hk (aJ.mpr (Or.inr m))⟩
  rcases aB.mp m with q|q
  ·exact h1 q
  ·exact hk (aJ.mpr (Or.inl (ae.mp q).symm))
end
def Iw(neg:Bool):R2:=λx y H Q=>∃a o,y=.ref a/\oe H a x o/\Q (.bl (if neg then !o.isSome else o.isSome)) H
def u6:V->V->V->Hp->(Hp->Prop)->Prop:=λo i v H Q=>∃a H',o=.ref a/\xb H a i v H'/\Q H'
section
variable{X:Cx}
theorem qH(hu:X.A.units+1<cLine):jM X (compareOp .NotIn) (Iw true):=by
 intro pins s σ H x y v u Q I rx ry h
 obtain⟨a,o,rfl,g,q⟩:=h
 cases ry
 exact GS hu I g rx λs' I'=>⟨.bl (!o.isSome),H,I',rfl,q⟩
theorem pX(hu:X.A.units+1<cLine):GH X u6:=by
 intro pins s σ H o i v ov iv u Q I ro ri rv h
 obtain⟨a,H',rfl,g,q⟩:=h
 cases ro
 exact CD hu I g ri rv λs' I'=>⟨H',I',q⟩
theorem qo:∀{us:List Value} {ns:List Int},IntsAre us ns->cv (ns.map V.int) us:=by
 intro us ns h
 induction h with
 |nil=>exact .nil
 |cons n t _ ih=>exact .cons ⟨t,rfl⟩ ih
theorem sT{prog:Program}{w:World}:∀{ns:List Int} {vs:List (dY×Value)} {us:List Value},vs.map (·.1)=ns.map Sum.inl->us.length=vs.length->(∀(j:Nat) v,us[j]?=some v->∃k x,vs[j]?=some (k,x)/\(dk prog w).is k v=true)->IntsAre us ns
 |[],vs,us,h1,h2,_=>by
  have:vs=[]:=by cases vs with|nil=>rfl|cons a r=>cases h1
  subst this
  have:us=[]:=du.mp h2
  subst this
  exact .nil
 |n::ns,vs,us,h1,h2,h3=>by
  cases vs with
  |nil=>cases h1
  |cons a vs=>
   cases us with
   |nil=>cases h2
   |cons u us=>
    obtain⟨k,x,e,hk⟩:=h3 0 u rfl
    have e':a=(k,x):=Option.some.inj e
    subst e'
    injection h1 with h1 h1'
    have h1:k=Sum.inl n:=h1
    subst h1
    obtain⟨t,rfl⟩:=Value.isInt_shape (k:=n) (v:=u) hk
    refine .cons n t (sT (prog:=prog) (w:=w) h1' (by simpa using h2) λj v e=>?_)
    exact h3 (j+1) v (by simpa using e)
def At:List V->Hp->VK->Prop:=λxs H Q=>∃(d:Addr) (kvs:List (dY×V)) (ns:List Int),xs=[.ref d]/\H d=some (.dK kvs)/\kvs.map (·.1)=ns.map Sum.inl/\ns.length<64/\∀(l:Addr) (ns':List Int),H l=none->ns'.Perm ns->ns'.Pairwise (·<=·)->Q (.ref l) (upd H l (.lst (ns'.map V.int)))
theorem sF(hc:X.calm=true):ja X (.builtin "sorted") At:=by
 intro pins s σ H xs us Q I r h
 obtain⟨d,kvs,ns,rfl,hd,hk,h64,q⟩:=h
 obtain⟨u,rfl,rx⟩:=m5 r
 cases rx
 obtain⟨z,lo,vs,rel,dd⟩:=pE I.hok hd
 obtain⟨ep,hat⟩:=dd.dictAt
 have hh:X.A.handled=none:=I.ok.hd hc
 have kl:=rel.length
 have hv:vs.map (·.1)=ns.map Sum.inl:=by rw[<-rel.keys];exact hk
 have vl:vs.length=ns.length:=by have:=congrArg jz hv;simpa using this
 refine Calls.call_function_entry kind_sorted plain_sorted entry_sorted (args_sorted1 _) ?_
 unfold Builtin.«sorted»
 refine wpAny_bind (m:=checkCount "sorted" 1 1 _) (wpAny_pure ?_)
 refine wpAny_bind (PySem.W.kdu_collect (A:=X.A.in1) (lB (knd:=dk X.prog X.w) (kvs:=vs) (ep:=ep) lo) hh hat (by rw[<-kl];exact z) λh' tk acc hkp hacc=>?_)
 have hl:acc.toList.length=vs.length:=by rw[bI];exact hacc.1
 have hI:IntsAre acc.toList ns:=sT (prog:=X.prog) (w:=X.w) hv hl λj v e=>hacc.2 j v (by rw[<-bQ];exact e)
 refine wpAny_bind (wpAny_newList ?_ (by rw[hl,<-kl];exact z))
 have hoL:(h'.push (seqObj "list" acc.toList.toArray 0)).get? h'.objs.size=some (seqObj "list" acc.toList.toArray 0):=aD _ rfl
 show wpAny _ _ _ _ _ {s with heap:=h'.push (seqObj "list" acc.toList.toArray 0),toks:=tk}
 refine wpAny_bind (wpAny_holding (wpAny_call_entry slot_list_sort ⟨_,hoL,rfl⟩ entry_list_sort (list_sort_tree hoL hI (by rw[hl,vl];exact h64) λout ns' a1 a2 a3=>⟨_,rfl,?_⟩) (args_list_sort _)))
 refine wpAny_pure ⟨_,rfl,?_⟩
 obtain⟨e,he⟩:=sortedHeap_at (n:=0) (out:=out) hoL
 have hn:=qo a1
 have hlen:ns'.length=ns.length:=a2.length_eq
 have I1:bN X pins σ H {s with heap:=h',toks:=tk}:=I.kept hkp
 refine⟨.ref h'.objs.size,_,I1.laid (t':=tk) (λb u q1=>?_) (aw _) (show fA X.prog X.w _ _ _ (.lst (ns'.map V.int)) from⟨?_,out.toList,e,hn,?_⟩),rfl,q _ _ (I1.hok.fresh (aw _)) a2 a3⟩
 ·have lt:=aF q1
  rw[sortedHeap_old (aH lt) (by rw[size_push'];exact cG lt)]
  exact aj _ q1
 ·rw[ab,hlen];exact bn (bW h64) (by decide)
 ·rw[fj];exact he
end
structure GC(K:Fg)(x qual:Str)(st:Stmt)(dV:Value)(f:Addr)(fd:FuncData):Prop where
 ex:∃(oc:Value) (od:Option Addr) (kV doc pm:Value) (an:Option Addr) (cdv ct:Value) (osl:Array (Option Value)),
  fd=aT x qual (bT st) (aW st) (ap st) dV kV doc pm an cdv ct/\K.lookup f=some ⟨oc,od,.func fd,osl⟩/\aR K cdv qual=true
 kp:aM K (.ref f)=true
section
variable{P:Program}{w:World}{K:Fg}{mg:Str->Option Value}{base:Heap}
theorem GC.ok{x qual:Str}{st:Stmt}{dV:Value}{f:Addr}{fd:FuncData}{N ps:List Str}{k:Nat}{sp:Sp}(F:GC K x qual st dV f fd)(S:cf N ps (ap st))(len:∀vs H Q E,sp vs H Q E->vs.length=ps.length)
  (hbody:∀(cdv:Value) (A:Around) (outer:List Env) (s:Shared) (H:Hp) (vs:List V) (Q:VK) (E:XK),dc k (A.deeper (envOfC qual (ap st) s.heap.objs.size f cdv))->sp vs H Q E->
   ∃t,jV (fN fU P w K mg base N qual (ap st) f cdv A outer s H E).nox (aW st) t/\t {nx:=λ_ H'=>Q .non H',rt:=Q} (cY N vs) H):eK P w K mg base fU (k+1) f fd ps sp:=by
 obtain⟨oc,od,kV,doc,pm,an,cdv,ct,osl,rfl,lk,hcd⟩:=F.ex
 refine Jn lk hcd S len λA outer s H vs Q E hr hsp=>?_
 obtain⟨t,h,q⟩:=hbody cdv A outer s H vs Q E hr hsp
 exact⟨t,h.nox,q⟩
theorem G1{x qual:Str}{st:Stmt}{dV:Value}{f:Addr}{oc:Value}{od an:Option Addr}{osl:Array (Option Value)}{kV doc pm cdv ct:Value}(l:K.lookup f=some ⟨oc,od,.func (aT x qual (bT st) (aW st) (ap st) dV kV doc pm an cdv ct),osl⟩)
  (c:aR K cdv qual=true) (k:aM K (.ref f)=true):GC K x qual st dV f (aT x qual (bT st) (aW st) (ap st) dV kV doc pm an cdv ct):=⟨⟨oc,od,kV,doc,pm,an,cdv,ct,osl,rfl,l,c⟩,k⟩
end
structure pc(P:Program)(w:World)(K:Fg)(mg:Str->Option Value)(base:Heap)(x:Str)(ps:List Str)(k:Nat)(dvs:List V)(sp:Sp):Prop where
 ex:∃(f:Addr) (fd:FuncData) (ds:List Value),mg x=some (.ref f)/\aM K (.ref f)=true/\m9 K fd ps ds/\cv dvs ds/\eK P w K mg base fU k f fd ps sp
theorem Ku{X:Cx}{x:Str}{ps:List Str}{k:Nat}{dvs:List V}{sp:Sp}{e:Expr}{es:List Expr}{t:TA}{p pos:Pos}(c:pc X.prog X.w X.K X.mg X.base x ps k dvs sp)(hr:dc k X.A)(hg:Gl X x)(ha:PA X (e::es) t)
  (hdb:(x==("__debug__":Str))=false:=by decide) (he:starEach (e::es) X.env=(false,eval e X.env)::starEach es X.env:=by rfl) (hpl:(backTo pos (starEach es X.env)).any (·.1)=false:=by rfl) :
  PE X (.Call (.Name x p) (e::es) [] pos) (bE sp dvs E0 t):=by
 obtain⟨f,fd,ds,hm,hk,hb,hd,F⟩:=c.ex
 exact Bw F hr hg hm hk hb hd E8 ha hdb he hpl
end L2
end
section
namespace Bg
open PySem L2
inductive ba where
 |num (x:Str) (z:Int)
 |op (x s a b:Str)
 |call (x:Str) (k:Nat) (as:List Str)
 |say (a:Str)
 |jump (to:Nat)
 |test (a:Str) (to:Nat)
 |give (a:Str)
structure qT where
 name:Str
 params:List Str
 rows:List ba
def oj:ba->Str
 |.num _ _=>"num"|.op _ _ _ _=>"op"|.call _ _ _=>"call"|.say _=>"say"|.jump _=>"jump"|.test _ _=>"test"|.give _=>"give"
def dD(H:Hp)(v:V):ba->Prop
 |.num x z=>∃p,v=.ref p/\H p=some (.tup [.str "num",.str x,.int z])
 |.op x s a b=>∃p,v=.ref p/\H p=some (.tup [.str "op",.str x,.str s,.str a,.str b])
 |.call x k as=>∃p q,v=.ref p/\H p=some (.tup [.str "call",.str x,.int (k:Nat),.ref q])/\H q=some (.tup (as.map V.str))
 |.say a=>∃p,v=.ref p/\H p=some (.tup [.str "say",.str a])
 |.jump to=>∃p,v=.ref p/\H p=some (.tup [.str "jump",.int (to:Nat)])
 |.test a to=>∃p,v=.ref p/\H p=some (.tup [.str "test",.str a,.int (to:Nat)])
 |.give a=>∃p,v=.ref p/\H p=some (.tup [.str "give",.str a])
def Tp(H H':Hp):Prop:=∀p xs,H p=some (.tup xs)->H' p=some (.tup xs)
theorem Tp.refl(H:Hp):Tp H H:=λ_ _ h=>h
theorem Tp.trans{H H1 H2:Hp}(x:Tp H H1)(y:Tp H1 H2):Tp H H2:=λp xs h=>y p xs (x p xs h)
theorem Tp.of_same{H H':Hp}(x:aV H H'):Tp H H':=λp xs h=>x p _ h
theorem Tp.of_but{a:Addr}{ys:List V}{H H':Hp}(x:fh a H H')(ha:H a=some (.lst ys)):Tp H H':=λp xs h=>x p _ (by rintro rfl;rw[h] at ha;cases ha) h
theorem Tp.new{p:Addr}{H H1:Hp}{o:HO}(x:Tp H H1)(hp:H1 p=none):Tp H (upd H1 p o):=λb xs h=>by
 rw[ax (ar (x b xs h) hp)];exact x b xs h
theorem Tp.lst{p:Addr}{H H1:Hp}{ys:List V}{o:HO}(x:Tp H H1)(hp:H1 p=some (.lst ys)):Tp H (upd H1 p o):=λb xs h=>by
 have h1:=x b xs h
 rw[ax (by rintro rfl;rw[h1] at hp;cases hp)];exact h1
theorem dD.mono{H H':Hp}{v:V}{r:ba}(h:dD H v r)(t:Tp H H'):dD H' v r:=by
 cases r with
 |num x z=>obtain⟨p,e,h⟩:=h;exact⟨p,e,t _ _ h⟩
 |op x s a b=>obtain⟨p,e,h⟩:=h;exact⟨p,e,t _ _ h⟩
 |call x k as=>obtain⟨p,q,e,h,h'⟩:=h;exact⟨p,q,e,t _ _ h,t _ _ h'⟩
 |say a=>obtain⟨p,e,h⟩:=h;exact⟨p,e,t _ _ h⟩
 |jump to=>obtain⟨p,e,h⟩:=h;exact⟨p,e,t _ _ h⟩
 |test a to=>obtain⟨p,e,h⟩:=h;exact⟨p,e,t _ _ h⟩
 |give a=>obtain⟨p,e,h⟩:=h;exact⟨p,e,t _ _ h⟩
theorem dD.ref{H:Hp}{v:V}{r:ba}(h:dD H v r):∃p xs,v=.ref p/\H p=some (.tup (.str (oj r)::xs)):=by
 cases r with
 |num x z=>obtain⟨p,e,h⟩:=h;exact⟨p,_,e,h⟩
 |op x s a b=>obtain⟨p,e,h⟩:=h;exact⟨p,_,e,h⟩
 |call x k as=>obtain⟨p,q,e,h,h'⟩:=h;exact⟨p,_,e,h⟩
 |say a=>obtain⟨p,e,h⟩:=h;exact⟨p,_,e,h⟩
 |jump to=>obtain⟨p,e,h⟩:=h;exact⟨p,_,e,h⟩
 |test a to=>obtain⟨p,e,h⟩:=h;exact⟨p,_,e,h⟩
 |give a=>obtain⟨p,e,h⟩:=h;exact⟨p,_,e,h⟩
structure cK{α:Type}(R:V->α->Prop)(vs:List V)(rs:List α):Prop where
 len:vs.length=rs.length
 at_:∀(i:Nat) v r,vs[i]?=some v->rs[i]?=some r->R v r
theorem cK.nil{α:Type}{R:V->α->Prop}:cK R [] []:=⟨rfl,λi v r h=>by simp at h⟩
theorem cK.imp{α:Type}{R R':V->α->Prop}{vs:List V}{rs:List α}(h:cK R vs rs)(f:∀v r,R v r->R' v r):cK R' vs rs:=⟨h.len,λi v r a b=>f v r (h.at_ i v r a b)⟩
theorem cK.snoc{α:Type}{R:V->α->Prop}{vs:List V}{rs:List α}{v:V}{r:α}(h:cK R vs rs)(q:R v r):cK R (vs++[v]) (rs++[r]):=by
 refine⟨by simp[h.len],λi w t a b=>?_⟩
 by_cases hi:i<vs.length
 ·rw[bJ hi] at a
  rw[bJ (by rw[<-h.len];exact hi)] at b
  exact h.at_ i w t a b
 ·rw[aX (by omega)] at a
  rw[aX (by rw[<-h.len];omega)] at b
  have e:i-vs.length=0:=by
   have:=(af.mp a).1
   simp at this;omega
  rw[e] at a
  rw[<-h.len,e] at b
  simp at a b
  rw[<-a,<-b];exact q
theorem cK.set{α:Type}{R:V->α->Prop}{vs:List V}{rs:List α}{j:Nat}{v:V}{r:α}(h:cK R vs rs)(q:R v r):cK R (vs.set j v) (rs.set j r):=by
 refine⟨by simp[h.len],λi w t a b=>?_⟩
 by_cases e:j=i
 ·subst e
  have hj:j<vs.length:=by have:=(af.mp a).1;rw[cR] at this;exact this
  rw[bg hj] at a
  rw[bg (by rw[<-h.len];exact hj)] at b
  cases a;cases b;exact q
 ·rw[bC e] at a b
  exact h.at_ i w t a b
theorem cK.get{α:Type}{R:V->α->Prop}{vs:List V}{rs:List α}(h:cK R vs rs){i:Nat}(hi:i<rs.length):∃v r,vs[i]?=some v/\rs[i]?=some r/\R v r:=by
 have h1:i<vs.length:=by rw[h.len];exact hi
 exact⟨vs[i],rs[i],aa h1,aa hi,h.at_ i _ _ (aa h1) (aa hi)⟩
theorem cK.of_v{α:Type}{R:V->α->Prop}{vs:List V}{rs:List α}(h:cK R vs rs){i:Nat}{v:V}(e:vs[i]?=some v):∃r,rs[i]?=some r/\R v r:=by
 have h1:=(af.mp e).1
 obtain⟨v',r,e1,e2,q⟩:=h.get (i:=i) (by rw[<-h.len];exact h1)
 rw[e] at e1;cases e1
 exact⟨r,e2,q⟩
def qx(H:Hp)(v:V)(b:qT):Prop:=∃p q r rs,v=.ref p/\H p=some (.tup [.str b.name,.ref q,.ref r])/\H q=some (.tup (b.params.map V.str))/\H r=some (.tup rs)/\cK (dD H) rs b.rows
theorem qx.mono{H H':Hp}{v:V}{b:qT}(h:qx H v b)(t:Tp H H'):qx H' v b:=by
 obtain⟨p,q,r,rs,e,h1,h2,h3,h4⟩:=h
 exact⟨p,q,r,rs,e,t _ _ h1,t _ _ h2,t _ _ h3,h4.imp λ_ _ z=>z.mono t⟩
def kP(K:Fg)(H:Hp)(a:Addr)(ns:List Int):Prop:=
 (∃o,H a=some (.frz o (.lst (ns.map V.int))))\/∃(o:Obj) (its:Array Value) (n:Nat),K.lookup a=some o/\o.cls=.type "list"/\o.dict=none/\o.data=.seq its n/\its.size<=sizeLine/\cv (ns.map V.int) its.toList
theorem kP.sq{K:Fg}{H:Hp}{a:Addr}{ns:List Int}(h:kP K H a ns):ce K H a (ns.map V.int):=by
 rcases h with⟨o,h⟩|h
 ·exact .inl (.inr ⟨o,h⟩)
 ·exact .inr h
def Fz(H H':Hp):Prop:=∀p o u,H p=some (.frz o u)->H' p=some (.frz o u)
theorem Fz.of_but{a:Addr}{ys:List V}{H H':Hp}(x:fh a H H')(ha:H a=some (.lst ys)):Fz H H':=λp o u h=>x p _ (by rintro rfl;rw[h] at ha;cases ha) h
theorem Fz.of_same{H H':Hp}(x:aV H H'):Fz H H':=λp o u h=>x p _ h
theorem kP.mono{K:Fg}{H H':Hp}{a:Addr}{ns:List Int}(h:kP K H a ns)(f:Fz H H'):kP K H' a ns:=by
 rcases h with⟨o,h⟩|h
 ·exact .inl ⟨o,f _ _ _ h⟩
 ·exact .inr h
def kh(K:Fg)(H:Hp)(st:Addr)(k:Nat):Prop:=∃scr ns c,H st=some (.lst [.ref scr,.int (k:Nat),.int c])/\kP K H scr ns/\ns.length<=63
theorem kh.lst{K:Fg}{H:Hp}{st:Addr}{k:Nat}(h:kh K H st k):∃ys,H st=some (.lst ys):=by
 obtain⟨scr,ns,c,e,_⟩:=h;exact⟨_,e⟩
theorem kh.mono{K:Fg}{H H':Hp}{a st:Addr}{k:Nat}{ys:List V}(h:kh K H st k)(x:fh a H H')(ha:H a=some (.lst ys))(n:st≠a):kh K H' st k:=by
 obtain⟨scr,ns,c,e,q,l⟩:=h
 exact⟨scr,ns,c,x _ _ n e,q.mono (.of_but x ha),l⟩
theorem kh.same{K:Fg}{H H':Hp}{st:Addr}{k:Nat}(h:kh K H st k)(x:aV H H'):kh K H' st k:=by
 obtain⟨scr,ns,c,e,q,l⟩:=h
 exact⟨scr,ns,c,x _ _ e,q.mono (.of_same x),l⟩
theorem kh.new{K:Fg}{H:Hp}{st p:Addr}{o:HO}{k:Nat}(h:kh K H st k)(hp:H p=none):kh K (upd H p o) st k:=h.same ((aV.refl H).new hp)
def bY(K:Fg):Sp:=λvs H Q _=>∃(st:Addr) (m:Int) (k:Nat),vs=[.ref st,.int m]/\kh K H st k/\k<=1000000/\0<m/\m<2 ^ 64/\
 ∀(d:Int) (H':Hp),0<=d->d<m->kh K H' st (k+1)->fh st H H'->Q (.int d) H'
def FA:List Str:=["part","call","say","jump","test","give"]
structure Nm(y:Str):Prop where
 l1:1<=y.length
 l8:y.length<=8
 GN:∀c∈y.cps.toList,97<=c/\c<=122
 no:y∉FA
theorem Nm.ne{y:Str}(h:Nm y):y≠"":=by
 rintro rfl
 exact absurd h.l1 (by decide +kernel)
def jI(K:Fg):Sp:=λvs H Q _=>∃(st:Addr) (n k:Nat),vs=[.ref st,.int (n:Nat)]/\kh K H st k/\k<=900000/\n<=20/\
 ∀(l:Addr) (ys:List Str) (k':Nat) (H':Hp),H l=none->ys.length=n->ys.Nodup->(∀y∈ys,Nm y)->H' l=some (.lst (ys.map V.str))->kh K H' st k'->k'<=k+11->fh st H H'->Q (.ref l) H'
def kF(K:Fg):Sp:=λvs H Q _=>∃(st:Addr) (k:Nat),vs=[.ref st]/\kh K H st k/\k<=900000/\
 ∀(z:Int) (k':Nat) (H':Hp),0<=z->z<2 ^ 64->kh K H' st k'->k'<=k+4->fh st H H'->Q (.int z) H'
def BR:List Str:=["+","-","*","<","="]
def sA(ys:List Str)(cs:List Nat)(n:Nat):ba->Prop
 |.num x z=>x∈ys/\0<=z/\z<2 ^ 64
 |.op x s a b=>x∈ys/\s∈BR/\a=""/\b=""
 |.call x k as=>x∈ys/\∃c,cs[k]?=some c/\as=az c ("":Str)
 |.say a=>a=""
 |.jump to=>to<n
 |.test a to=>a=""/\to<n
 |.give a=>a=""
def aO(ns:List Nat):List V:=ns.map λn=>V.int (n:Nat)
def gh(K:Fg):Sp:=λvs H Q _=>∃(st nm cn:Addr) (n k:Nat) (ys:List Str) (cs:List Nat),vs=[.ref st,.ref nm,.int (n:Nat),.ref cn]/\kh K H st k/\k<=800000/\H nm=some (.lst (ys.map V.str))/\ys≠[]/\ys.length<=100/\
 1<=n/\n<=1000/\H cn=some (.lst (aO cs))/\cs≠[]/\cs.length<=100/\(∀c∈cs,c<=4)/\nm≠st/\cn≠st/\
 ∀(v:V) (r:ba) (k':Nat) (H':Hp),dD H' v r->sA ys cs n r->kh K H' st k'->k'<=k+8->fh st H H'->Q v H'
def bS(n:Nat):ba->List Nat
 |.jump to=>[to]
 |.test _ to=>[n+1,to]
 |.give _=>[]
 |_=>[n+1]
def kD(K:Fg):Sp:=λvs H Q _=>∃(rl:Addr) (n:Nat) (rvs:List V) (v:V) (r:ba),vs=[.ref rl,.int (n:Nat)]/\(H rl=some (.lst rvs)\/H rl=some (.tup rvs))/\rvs[n]?=some v/\dD H v r/\∀l,H l=none->Q (.ref l) (upd H l (.lst (aO (bS n r))))
def gI:ba->V
 |.num x _=>.str x
 |.op x _ _ _=>.str x
 |.call x _ _=>.str x
 |_=>.non
def jW:ba->Bool
 |.jump _=>true
 |.give _=>true
 |_=>false
def sS:ba->Bool
 |.num _ _=>true
 |_=>false
structure sB(ys:List Str)(cs:List Nat)(rs:List ba):Prop where
 pos:rs≠[]
 few:rs.length<=100
 rough:∀r∈rs,sA ys cs rs.length r
def stp(rs:List ba)(n:Nat):Nat:=match rs[n]? with
 |some (.jump t)=>t
 |_=>n
def runJ(rs:List ba):Nat->Nat->Nat
 |0,n=>n
 |k+1,n=>runJ rs k (stp rs n)
def fL:ba->Bool
 |.jump _=>true
 |_=>false
def su(rs:List ba):Prop:=∀n,n<rs.length->∀r,rs[runJ rs rs.length n]?=some r->fL r=false
def jm(K:Fg):Sp:=λvs H Q _=>∃(rl nm:Addr) (bare:Bool) (rvs:List V) (rs:List ba) (ys:List Str) (R:ba->Prop),vs=[.ref rl,.ref nm,.bl bare]/\H rl=some (.lst rvs)/\cK (dD H) rvs rs/\rs≠[]/\rs.length<=100/\(∀r∈rs,R r)/\R (.say "")/\R (.give "")/\(∀t,R (.jump t)->t<rs.length)/\H nm=some (.lst (ys.map V.str))/\ys≠[]/\(∀y∈ys,bare=true->R (.num y 3))/\nm≠rl/\
 (bare=true->2<=rs.length)/\∀(rvs':List V) (rs':List ba) (H':Hp),H' rl=some (.lst rvs')->cK (dD H') rvs' rs'->rs'.length=rs.length->(∀r∈rs',R r)->(rs'.getLast?.map jW=some true)->(bare=true->rs'.head?.map sS=some true)->su rs'->fh rl H H'->Q (.ref rl) H'
def vP(H:Hp)(v:V)(ks:List Str):Prop:=∃a,v=.ref a/\H a=some (.lst (ks.map V.str))
structure Jh(ps:List Str)(rs:List ba)(kss:List (List Str)):Prop where
 zero:∀ks,kss[0]?=some ks->∀y∈ks,y∈ps
 on:∀(n m:Nat) r ks km,rs[n]?=some r->m∈bS n r->kss[n]?=some ks->kss[m]?=some km->∀y∈km,y∈ks\/gI r=.str y
def gi(K:Fg):Sp:=λvs H Q _=>∃(rl nm pr:Addr) (rvs:List V) (rs:List ba) (ys ps:List Str) (cs:List Nat),vs=[.ref rl,.ref nm,.ref pr]/\H rl=some (.lst rvs)/\cK (dD H) rvs rs/\sB ys cs rs/\(rs.getLast?.map jW=some true)/\
 H nm=some (.lst (ys.map V.str))/\ys.length<=100/\H pr=some (.lst (ps.map V.str))/\ps.length<=100/\(∀y∈ps,y∈ys)/\(ps=[]->rs.head?.map sS=some true)/\
 ∀(kl:Addr) (refs:List V) (kss:List (List Str)) (H':Hp),H kl=none->H' kl=some (.lst refs)->cK (vP H') refs kss->kss.length=rs.length->(∀(i:Nat) ks,kss[i]?=some ks->ks.length<=100/\(∀y∈ks,y∈ys)/\(ks≠[]\/(i=0/\ps=[])))->Jh ps rs kss->aV H H'->Q (.ref kl) H'
def jK(ks:List Str):ba->ba->Prop
 |.num x z,r=>r=.num x z
 |.op x s _ _,r=>∃a b,r=.op x s a b/\a∈ks/\b∈ks
 |.call x k as,r=>∃bs:List Str,r=.call x k bs/\bs.length=as.length/\∀b∈bs,b∈ks
 |.say _,r=>∃a,r=.say a/\a∈ks
 |.jump to,r=>r=.jump to
 |.test _ to,r=>∃a,r=.test a to/\a∈ks
 |.give _,r=>∃a,r=.give a/\a∈ks
def jj(K:Fg):Sp:=λvs H Q _=>∃(st rl kl:Addr) (k:Nat) (rvs refs:List V) (rs:List ba) (kss:List (List Str)) (ys:List Str) (cs:List Nat),vs=[.ref st,.ref rl,.ref kl]/\kh K H st k/\k<=700000/\H rl=some (.lst rvs)/\cK (dD H) rvs rs/\sB ys cs rs/\(∀y∈ys,y≠"")/\(∀c∈cs,c<=4)/\
 H kl=some (.lst refs)/\cK (vP H) refs kss/\kss.length=rs.length/\(∀(i:Nat) ks,kss[i]?=some ks->ks.length<=100)/\(∀(i:Nat) ks r,kss[i]?=some ks->rs[i]?=some r->ks≠[]\/sS r=true)/\(∀a∈refs,a≠.ref st)/\rl≠st/\kl≠st/\
 ∀(p:Addr) (rvs':List V) (rs':List ba) (k':Nat) (H':Hp),H' p=some (.tup rvs')->cK (dD H') rvs' rs'->rs'.length=rs.length->(∀(i:Nat) ks r r',kss[i]?=some ks->rs[i]?=some r->rs'[i]?=some r'->jK ks r r')->kh K H' st k'->k'<=k+5*rs.length->fh st H H'->Q (.ref p) H'
def eN:ba->List Str
 |.op _ _ a b=>[a,b]
 |.call _ _ as=>as
 |.say a=>[a]
 |.test a _=>[a]
 |.give a=>[a]
 |_=>[]
def Ea(ys:List Str)(cs:List Nat)(n:Nat):ba->Prop
 |.num x z=>x∈ys/\0<=z/\z<2 ^ 64
 |.op x s a b=>x∈ys/\s∈BR/\a∈ys/\b∈ys
 |.call x k as=>x∈ys/\cs[k]?=some as.length/\∀a∈as,a∈ys
 |.say a=>a∈ys
 |.jump to=>to<n
 |.test a to=>a∈ys/\to<n
 |.give a=>a∈ys
structure qy(ys:List Str)(cs:List Nat)(b:qT):Prop where
 pnd:b.params.Nodup
 pin:∀y∈b.params,y∈ys
 pos:b.rows≠[]
 few:b.rows.length<=60
 rows:∀r∈b.rows,Ea ys cs b.rows.length r
 last:b.rows.getLast?.map jW=some true
 ring:su b.rows
 known:∃kss,kss.length=b.rows.length/\Jh b.params b.rows kss/\∀(n:Nat) r ks,b.rows[n]?=some r->kss[n]?=some ks->∀y∈eN r,y∈ks
structure D9(ys:List Str)(cs:List Nat)(bs:List qT):Prop where
 ynd:ys.Nodup
 ynm:∀y∈ys,Nm y
 y2:2<=ys.length
 y6:ys.length<=6
 pos:1<=bs.length
 few:bs.length<=5
 nnd:(bs.map (·.name)).Nodup
 nnm:∀b∈bs,Nm b.name
 cnt:bs.map (·.params.length)=cs
 c4:∀c∈cs,c<=4
 part:∀b∈bs,qy ys cs b
def mL(K:Fg):Sp:=λvs H Q _=>∃(st nm pr cn:Addr) (wd:Str) (m k:Nat) (ys ps:List Str) (cs:List Nat),vs=[.ref st,.str wd,.ref nm,.ref pr,.ref cn,.int (m:Nat)]/\kh K H st k/\k<=600000/\H nm=some (.lst (ys.map V.str))/\ys≠[]/\ys.length<=100/\(∀y∈ys,y≠"")/\
 H pr=some (.lst (ps.map V.str))/\ps.length<=100/\ps.Nodup/\(∀y∈ps,y∈ys)/\H cn=some (.lst (aO cs))/\cs≠[]/\cs.length<=100/\(∀c∈cs,c<=4)/\1<=m/\m<=50/\nm≠st/\pr≠st/\cn≠st/\
 ∀(v:V) (b:qT) (k':Nat) (H':Hp),qx H' v b->b.name=wd->b.params=ps->qy ys cs b->b.rows.length<=m+1->kh K H' st k'->k'<=k+1000->fh st H H'->Q v H'
def iC(K:Fg):Sp:=λvs H Q _=>∃(st:Addr) (m k:Nat),vs=[.ref st,.int (m:Nat)]/\kh K H st k/\k<=500000/\1<=m/\m<=50/\
 ∀(p:Addr) (pvs:List V) (bs:List qT) (ys:List Str) (cs:List Nat) (k':Nat) (H':Hp),H' p=some (.tup pvs)->cK (qx H') pvs bs->D9 ys cs bs->(∀b∈bs,b.rows.length<=m+1)->kh K H' st k'->k'<=k+10000->fh st H H'->Q (.ref p) H'
def Ex:ba->V
 |.jump to=>.int (to:Nat)
 |.test _ to=>.int (to:Nat)
 |_=>.non
def IQ:Sp:=λvs H Q _=>∃v r,vs=[v]/\dD H v r/\∀(p:Addr) (H':Hp),H' p=some (.tup ((eN r).map V.str))->aV H H'->Q (.ref p) H'
abbrev iB(_:Fg):Sp:=IQ
def gs(_:Fg):Sp:=λvs H Q _=>∃v r,vs=[v]/\dD H v r/\∀(H':Hp),aV H H'->Q (gI r) H'
def eD(_:Fg):Sp:=λvs H Q _=>∃v r,vs=[v]/\dD H v r/\Q (Ex r) H
def Lg:Sp:=λvs H Q _=>∃(rt:Addr) (n:Nat) (rvs:List V) (v:V) (r:ba),vs=[.ref rt,.int (n:Nat)]/\H rt=some (.tup rvs)/\rvs[n]?=some v/\dD H v r/\∀(p:Addr) (H':Hp),H' p=some (.tup (aO (bS n r)))->aV H H'->Q (.ref p) H'
abbrev e8(_:Fg):Sp:=Lg
def sp_law(K:Fg):Sp:=λvs H Q _=>∃(scr:Addr) (ns:List Int),vs=[.ref scr]/\kP K H scr ns/\ns.length<=63/\∀H',Q (.bl true) H'
abbrev JZ:Nat:=0
abbrev hV:Nat:=1
abbrev G8:Nat:=1
abbrev rR:Nat:=2
abbrev Ha:Nat:=1
abbrev rT:Nat:=2
abbrev xL:Nat:=2
abbrev kL:Nat:=3
abbrev G7:Nat:=0
abbrev rQ:Nat:=1
abbrev EH:Nat:=0
abbrev ph:Nat:=1
abbrev xM:Nat:=1
abbrev kM:Nat:=2
abbrev EG:Nat:=1
abbrev pf:Nat:=2
abbrev J4:Nat:=3
abbrev vG:Nat:=4
abbrev CY:Nat:=4
abbrev nO:Nat:=5
abbrev CW:Nat:=0
abbrev nN:Nat:=1
abbrev EK:Nat:=0
abbrev lC:Nat:=1
abbrev EI:Nat:=0
abbrev jC:Nat:=1
abbrev CU:Nat:=1
abbrev kg:Nat:=2
theorem cI{c:Prop}[Decidable c]{A B:Prop}(h1:c->A)(h2:¬c->B):if decide c=true then A else B:=by
 by_cases h:c
 ·rw[decide_eq_true h];exact ut (h1 h)
 ·rw[decide_eq_false h];exact lg (h2 h)
theorem mt{c:Prop}[Decidable c]{A B:Prop}(h1:¬c->A)(h2:c->B):if(!decide c)=true then A else B:=by
 by_cases h:c
 ·rw[decide_eq_true h];exact lg (h2 h)
 ·rw[decide_eq_false h];exact ut (h1 h)
theorem uW{b:Bool}{A B:Prop}(h1:b=true->A)(h2:b=false->B):if b=true then A else B:=by
 cases b with
 |true=>exact ut (h1 rfl)
 |false=>exact lg (h2 rfl)
theorem vT{α:Type}{xs:List α}{i:Int}{v:α}(h0:0<=i)(e:xs[i.toNat]?=some v):Jk xs i=some v:=by
 have h1:=(af.mp e).1
 unfold Jk Jq
 rw[if_pos h0,if_pos (by lia)]
 exact e
theorem m6{K:Fg}{p:Addr}{xs:List V}{i:Int}{v:V}{H:Hp}{Q:VK}(h:ce K H p xs)(h0:0<=i)(e:xs[i.toNat]?=some v)(q:Q v H):dN K (.ref p) (.int i) H Q:=
 .inl ⟨p,xs,i,v,rfl,rfl,h,vT h0 e,q⟩
theorem dM{K:Fg}{p:Addr}{xs:List V}{i:Int}{v:V}{H:Hp}{Q:VK}(h:H p=some (.tup xs))(h0:0<=i)(e:xs[i.toNat]?=some v)(q:Q v H):dN K (.ref p) (.int i) H Q:=
 .inr (.inl ⟨p,xs,i,v,rfl,rfl,dZ.of h,vT h0 e,q⟩)
theorem MA{K:Fg}{z:Str}{i:Int}{c:Nat}{H:Hp}{Q:VK}(hz:z.length<=sizeLine)(h0:0<=i)(e:z.cps.toList[i.toNat]?=some c)(q:Q (.str ⟨#[c]⟩) H):dN K (.str z) (.int i) H Q:=
 .inr (.inr ⟨z,i,c,rfl,rfl,hz,vT h0 e,q⟩)
theorem yx{p:Addr}{xs:List V}{i:Int}{v:V}{H:Hp}{Q:Hp->Prop}(h:H p=some (.lst xs))(h0:0<=i)(h1:i.toNat<xs.length)(q:Q (upd H p (.lst (xs.set i.toNat v)))):nv (.ref p) (.int i) v H Q:=by
 refine⟨p,xs,i,i.toNat,rfl,rfl,h,?_,q⟩
 unfold Jq
 rw[if_pos h0,if_pos (by lia)]
theorem cc{n:Nat}(h:n<=100000):n<sizeLine:=fX h (by decide)
theorem uX{ns:List Nat}{i:Nat}{n:Nat}(h:ns[i]?=some n):(aO ns)[i]?=some (.int (n:Nat)):=by
 unfold aO;rw[aC,h];rfl
theorem bv(ns:List Nat):(aO ns).length=ns.length:=by unfold aO;rw[ab]
theorem yC{ys:List Str}{i:Nat}{y:Str}(h:ys[i]?=some y):(ys.map V.str)[i]?=some (.str y):=by rw[aC,h];rfl
theorem mz{H:Hp}{a b:Addr}{xs ys:List V}(h:H a=some (.lst xs))(h':H b=some (.tup ys)):a≠b:=iH h h' (by intro z;cases z)
theorem j4{D:Addr}{te:TE}{E:og}{σ:St}{H:Hp}(h:te σ H λy H2=>∃ys,H2 D=some (.lst ys)/\ys.length<sizeLine/\E.nx σ (upd H2 D (.lst (ys++[y])))):pR D qP te E σ H:=by
 unfold pR qP
 dsimp only
 rw[if_pos rfl]
 exact h
theorem no{x y:V}{A B:Prop}(h:¬x=y)(q:B):if decide (x=y)=true then A else B:=cI (λz=>absurd z h) λ_=>q
theorem Gz{x:V}{A B:Prop}(q:A):if decide (x=x)=true then A else B:=cI (λ_=>q) λz=>absurd rfl z
theorem CO{b:Bool}{A B:Prop}(e:b=true)(q:A):if b=true then A else B:=by rw[e];exact ut q
theorem CN{b:Bool}{A B:Prop}(e:b=false)(q:B):if b=true then A else B:=by rw[e];exact lg q
theorem jE(xs:List V)(c:Nat):ng xs none (some (c:Int))=xs.take c:=by
 unfold ng
 rw[HT.sIx_none,HT.sIx_nat,m7,Nat.sub_zero,<-List.take_eq_take_min]
theorem xp(xs:List V)(c:Nat):ng xs (some (c:Int)) none=xs.drop c:=by
 unfold ng
 rw[HT.sIx_none,HT.sIx_nat]
 by_cases h:c<=xs.length
 ·rw[mU h];exact dA (by rw[dU];lia)
 ·rw[Nat.min_eq_right (by lia),List.drop_length,List.drop_of_length_le (by lia),List.take_nil]
theorem qA(ys:List Str):(ys.map V.str).all iG=true:=by
 rw[eT]
 intro v hv
 obtain⟨y,_,rfl⟩:=bV.mp hv
 rfl
theorem sP(y:Str)(ls:List Str):qX (.str y) (ls.map V.str)=decide (y∈ls):=by
 unfold qX
 rw[oZ,Bool.eq_iff_iff,gN,decide_eq_true_eq]
 constructor
 ·rintro⟨z,hz,e⟩
  have e':(z==y)=true:=e
  have:z=y:=by simpa using e'
  rw[<-this];exact hz
 ·intro h
  exact⟨y,h,by show(y==y)=true;simp⟩
theorem fh.past{a l:Addr}{H H1 H2:Hp}(x:fh a H H1)(hl:H l=none)(y:fh l H1 H2):fh a H H2:=λc u n h=>y c u (ar h hl) (x c u n h)
end Bg
end
section
namespace Bg
open PySem PySem.Spec PyProof.Rows L2
abbrev eL:List Str:=["_law_state","_law_many"]
abbrev zt:List Str:=["_law_state","_law_many","_law_script","_law_k","_law_digit","_law_cell"]
def FR(K:Fg):TS:=(dt (bA (kW) (bA (kW) (bA (gH K) (au 5) (au 5)) (tC (.int 1999999973))) (au 1)))
def FS(K:Fg):TS:=(bB (ci (bA (kW) (bA (gH K) (au 5) (au 5)) (tC (.int 2147483587))) (bb 5)) (FR K))
def yE(K:Fg):TS:=(bB (ci (bA (kW) (bA (gH K) (bA (kW) (au 5) (tC (.int 2147483629))) (bA (cN K) (au 3) (tC (.int 3)))) (tC (.int 2147483629))) (bb 5)) (FS K))
def FT(K:Fg):TS:=(bB (eP (cb (bA (Iv) (iI (jP K) (ao (au 2) aP)) (tC (.int 0)))) (ci (bA (cN K) (au 5) (bA (gH K) (bA (dN K) (au 2) (bA (kW) (bA (gH K) (au 3) (tC (.int 7))) (iI (jP K) (ao (au 2) aP)))) (bA (cN K) (tC (.int 48271)) (au 3)))) (bb 5)) cO) (yE K))
def pZ(K:Fg):TS:=(bB (ci (bA (cN K) (bA (gH K) (au 3) (tC (.int 7919))) (tC (.int 5))) (bb 5)) (FT K))
def FU(K:Fg):TS:=(dt (au 4))
def yF(K:Fg):TS:=(eP (cb (bA ((zo K true)) (bA (dN K) (au 0) (tC (.int 2))) (gu (ao (tC (.int 0)) (ao (Mo L8 (tC (.int 1))) aP))))) (bB (ci (iI (Io) (ao (bA (dN K) (au 0) (tC (.int 2))) (ao (au 1) aP))) (CK K 2 (kS (oi (au 0) (tC (.int 2)) nv) (kS (bb 4) xB)))) (FU K)) cO)
def yG(K:Fg):TS:=(bB (eP (wO (cb (bA (wI) (bA (cN K) (bA (Ar) (au 3) (tC (.int 12))) (tC (.int 1))) (iI (jP K) (ao (au 2) aP)))) (cb (bA (iy K) (bA (kW) (bA (dN K) (au 2) (tC (.int 0))) (tC (.int 2))) (tC (.int 1))))) (bB (eP (cb (bA (iy K) (bA (kW) (au 3) (tC (.int 12))) (tC (.int 0)))) (ci (bA (dN K) (au 2) (bA (cN K) (bA (Ar) (au 3) (tC (.int 12))) (tC (.int 1)))) (oi (au 0) (tC (.int 2)) nv)) cO) (yF K)) (eP (cb (bA (wI) (au 3) (iI (jP K) (ao (au 2) aP)))) (dt (bA (kW) (bA (dN K) (au 2) (au 3)) (au 1))) cO)) (pZ K))
def FV(K:Fg):TS:=(bB (ci (bA (cN K) (au 3) (tC (.int 1))) (oi (au 0) (tC (.int 1)) nv)) (yG K))
def FQ(K:Fg):TS:=(bB (ci (BT (Ds K) (au 0) gy (kX (tC (.int 2)))) (Bm K 2 (kS (bb 2) (kS (bb 3) xB)))) (FV K))
abbrev kz:List Str:=["_law_state","_law_many"]
abbrev rV:List Str:=["_law_state","_law_many","_law_letters","_law_size","_law_at","_law_first","_law_base","_law_found","_law_k","_law_some","_law_name"]
def vi(K:Fg):TS:=(dt (au 7))
def vj(K:Fg):TS:=(i4 (vh K "list" eC (au 7) (ao (au 10) aP)))
def vk(K:Fg):TS:=(bB (eP (JA (cb (bA ((zo K false)) (au 10) (gu (ao (tC (.str "part")) (ao (tC (.str "call")) (ao (tC (.str "say")) (ao (tC (.str "jump")) (ao (tC (.str "test")) (ao (tC (.str "give")) aP))))))))) (wO (cb (bA (wI) (au 3) (tC (.int 8)))) (cb (bA (iy K) (bA (kW) (bA (cN K) (au 3) (au 8)) (tC (.int 3))) (tC (.int 1)))))) (ci (bA (cN K) (au 10) (tC (.str "x"))) (bb 10)) cO) (vj K))
def DJ(K:Fg):TS:=(bB (ci (vh K "str" (Jw K) (tC (.str "")) (ao (au 9) aP)) (bb 10)) (vk K))
def DK(K:Fg):TS:=(bB (ci (bA (cN K) (bA (cN K) (BT (Ds K) (au 6) gy (kX (au 4))) (gM (ao (bA (dN K) (au 2) (bA (kW) (bA (cN K) (au 5) (bA (gH K) (tC (.int 5)) (au 8))) (tC (.int 26)))) aP))) (BT (Ds K) (au 6) (kX (bA (cN K) (au 4) (tC (.int 1)))) gy)) (bb 9)) (DJ K))
def vm(K:Fg):TS:=(bB (jQ (qW (ao (au 1) aP)) (bb 8) (DK K)) (vi K))
def DM(K:Fg):TS:=(bB (ci (gM aP) (bb 7)) (vm K))
def DN(K:Fg):TS:=(bB (ci (jX [] 1 (qW (ao (au 3) aP)) (bb 11) qP (bA (dN K) (au 2) (bA (kW) (bA (cN K) (au 5) (bA (gH K) (bA (gH K) (tC (.int 7)) (au 11)) (bE (bY K) [] E0 (ao (au 0) (ao (tC (.int 4)) aP))))) (tC (.int 26))))) (bb 6)) (DM K))
def DO(K:Fg):TS:=(bB (ci (bE (bY K) [] E0 (ao (au 0) (ao (tC (.int 26)) aP))) (bb 5)) (DN K))
def ua(K:Fg):TS:=(bB (ci (bE (bY K) [] E0 (ao (au 0) (ao (au 3) aP))) (bb 4)) (DO K))
def AK(K:Fg):TS:=(bB (ci (bA (cN K) (tC (.int 1)) (bE (bY K) [] E0 (ao (au 0) (ao (tC (.int 8)) aP)))) (bb 3)) (ua K))
def Ch(K:Fg):TS:=(bB (ci (tC (.str "abcdefghijklmnopqrstuvwxyz")) (bb 2)) (AK K))
abbrev kB:List Str:=["_law_state"]
abbrev vN:List Str:=["_law_state"]
def DT(K:Fg):TS:=(dt (bA (dN K) (gM (ao (tC (.int 0)) (ao (tC (.int 1)) (ao (bA (u7) (bA (u7) (bA (BC) (tC (.int 2)) (tC (.int 64))) (tC (.int 1))) (bE (bY K) [] E0 (ao (au 0) (ao (tC (.int 3)) aP)))) (ao (bE (bY K) [] E0 (ao (au 0) (ao (tC (.int 12)) aP))) aP))))) (bE (bY K) [] E0 (ao (au 0) (ao (tC (.int 4)) aP)))))
def Cj(K:Fg):TS:=(bB (eP (cb (bA (iy K) (bE (bY K) [] E0 (ao (au 0) (ao (tC (.int 2)) aP))) (tC (.int 0)))) (dt (bA (cN K) (bA (gH K) (bE (bY K) [] E0 (ao (au 0) (ao (bA (BC) (tC (.int 2)) (tC (.int 31))) aP))) (bA (BC) (tC (.int 2)) (tC (.int 33)))) (bE (bY K) [] E0 (ao (au 0) (ao (bA (BC) (tC (.int 2)) (tC (.int 31))) aP))))) cO) (DT K))
abbrev ga:List Str:=["_law_state","_law_names_here","_law_many","_law_counts"]
abbrev nc:List Str:=["_law_state","_law_names_here","_law_many","_law_counts","_law_x","_law_sort","_law_k"]
def uD(K:Fg):TS:=(dt (bA (dN K) (gM (ao (gu (ao (tC (.str "jump")) (ao (bE (bY K) [] E0 (ao (au 0) (ao (au 2) aP))) aP))) (ao (gu (ao (tC (.str "give")) (ao (tC (.str "")) aP))) aP))) (bA (u7) (au 5) (tC (.int 10)))))
def uE(K:Fg):TS:=(bB (eP (cb (bA (wI) (au 5) (tC (.int 10)))) (dt (gu (ao (tC (.str "test")) (ao (tC (.str "")) (ao (bE (bY K) [] E0 (ao (au 0) (ao (au 2) aP))) aP))))) cO) (uD K))
def uF(K:Fg):TS:=(bB (eP (cb (bA (wI) (au 5) (tC (.int 8)))) (dt (gu (ao (tC (.str "say")) (ao (tC (.str "")) aP)))) cO) (uE K))
def uG(K:Fg):TS:=(dt (gu (ao (tC (.str "call")) (ao (au 4) (ao (au 6) (ao (bA (gH K) (gu (ao (tC (.str "")) aP)) (bA (dN K) (au 3) (au 6))) aP))))))
def uH(K:Fg):TS:=(bB (eP (cb (bA (iy K) (au 5) (tC (.int 6)))) (bB (ci (bE (bY K) [] E0 (ao (au 0) (ao (iI (jP K) (ao (au 3) aP)) aP))) (bb 6)) (uG K)) cO) (uF K))
def uI(K:Fg):TS:=(bB (eP (cb (bA (wI) (au 5) (tC (.int 6)))) (dt (gu (ao (tC (.str "op")) (ao (au 4) (ao (bA (dN K) (tC (.str "+-*<=")) (bE (bY K) [] E0 (ao (au 0) (ao (tC (.int 5)) aP)))) (ao (tC (.str "")) (ao (tC (.str "")) aP))))))) cO) (uH K))
def uJ(K:Fg):TS:=(bB (eP (cb (bA (wI) (au 5) (tC (.int 2)))) (dt (gu (ao (tC (.str "num")) (ao (au 4) (ao (bE (kF K) [] E0 (ao (au 0) aP)) aP))))) cO) (uI K))
def uK(K:Fg):TS:=(bB (ci (bE (bY K) [] E0 (ao (au 0) (ao (tC (.int 12)) aP))) (bb 5)) (uJ K))
def rJ(K:Fg):TS:=(bB (ci (bA (dN K) (au 1) (bE (bY K) [] E0 (ao (au 0) (ao (iI (jP K) (ao (au 1) aP)) aP)))) (bb 4)) (uK K))
abbrev ky:List Str:=["_law_rows","_law_n"]
abbrev vI:List Str:=["_law_rows","_law_n"]
def DG(K:Fg):TS:=(dt (gM (ao (bA (cN K) (au 1) (tC (.int 1))) aP)))
def DH(K:Fg):TS:=(bB (eP (cb (bA (iy K) (bA (dN K) (bA (dN K) (au 0) (au 1)) (tC (.int 0))) (tC (.str "give")))) (dt (gM aP)) cO) (DG K))
def DI(K:Fg):TS:=(bB (eP (cb (bA (iy K) (bA (dN K) (bA (dN K) (au 0) (au 1)) (tC (.int 0))) (tC (.str "test")))) (dt (gM (ao (bA (cN K) (au 1) (tC (.int 1))) (ao (bA (dN K) (bA (dN K) (au 0) (au 1)) (tC (.int 2))) aP)))) cO) (DH K))
def B9(K:Fg):TS:=(bB (eP (cb (bA (iy K) (bA (dN K) (bA (dN K) (au 0) (au 1)) (tC (.int 0))) (tC (.str "jump")))) (dt (gM (ao (bA (dN K) (bA (dN K) (au 0) (au 1)) (tC (.int 1))) aP))) cO) (DI K))
abbrev jf:List Str:=["_law_rows","_law_names_here","_law_bare"]
abbrev si:List Str:=["_law_rows","_law_names_here","_law_bare","_law_last","_law_n","_law_to","_law_turn"]
def AH(K:Fg):TS:=(dt (au 0))
def AI(K:Fg):TS:=(eP (cb (bA (iy K) (bA (dN K) (bA (dN K) (au 0) (au 5)) (tC (.int 0))) (tC (.str "jump")))) (ci (bA (dN K) (gM (ao (gu (ao (tC (.str "say")) (ao (tC (.str "")) aP))) (ao (gu (ao (tC (.str "give")) (ao (tC (.str "")) aP))) aP))) (iI (BB) (ao (bA (iy K) (au 4) (au 3)) aP))) (oi (au 0) (au 4) nv)) cO)
def AJ(K:Fg):TS:=(eP (cb (bA (iy K) (bA (dN K) (bA (dN K) (au 0) (au 5)) (tC (.int 0))) (tC (.str "jump")))) (ci (bA (dN K) (bA (dN K) (au 0) (au 5)) (tC (.int 1))) (bb 5)) cO)
def tX(K:Fg):TS:=(bB (jQ (jF K (au 0)) (bb 6) (AJ K)) (AI K))
def tY(K:Fg):TS:=(bB (ci (au 4) (bb 5)) (tX K))
def tZ(K:Fg):TS:=(bB (jQ (qW (ao (iI (jP K) (ao (au 0) aP)) aP)) (bb 4) (tY K)) (AH K))
def t8(K:Fg):TS:=(bB (eP (wO (tB (au 2)) (wO (cb (bA (As K) (bA (dN K) (bA (dN K) (au 0) (tC (.int 0))) (tC (.int 0))) (tC (.str "num")))) (cb (bA (Iv) (au 3) (tC (.int 0)))))) (ci (gu (ao (tC (.str "num")) (ao (bA (dN K) (au 1) (tC (.int 0))) (ao (tC (.int 3)) aP)))) (oi (au 0) (tC (.int 0)) nv)) cO) (tZ K))
def t9(K:Fg):TS:=(bB (eP (cb (bA ((zo K true)) (bA (dN K) (bA (dN K) (au 0) (au 3)) (tC (.int 0))) (gu (ao (tC (.str "jump")) (ao (tC (.str "give")) aP))))) (ci (gu (ao (tC (.str "give")) (ao (tC (.str "")) aP))) (oi (au 0) (au 3) nv)) cO) (t8 K))
def yN(K:Fg):TS:=(bB (ci (bA (u7) (iI (jP K) (ao (au 0) aP)) (tC (.int 1))) (bb 3)) (t9 K))
abbrev gb:List Str:=["_law_rows","_law_names_here","_law_params"]
abbrev jD:List Str:=["_law_rows","_law_names_here","_law_params","_law_known","_law_more","_law_n","_law_left","_law_m","_law_kept"]
def uL(K:Fg):TS:=(dt (au 3))
def uM(K:Fg):TS:=(ci (tC (.bl true)) (bb 4))
def oA(K:Fg):TS:=(eP (cb (bA (wI) (iI (jP K) (ao (au 8) aP)) (iI (jP K) (ao (bA (dN K) (au 3) (au 7)) aP)))) (bB (ci (au 8) (oi (au 3) (au 7) nv)) (uM K)) cO)
def oB(K:Fg):TS:=(bB (ci (jX [] 1 (jF K (bA (dN K) (au 3) (au 7))) (bb 9) (cb (bA ((zo K false)) (au 9) (au 6))) (au 9)) (bb 8)) (oA K))
def oC(K:Fg):TS:=(jQ (jF K (bE (kD K) [] E0 (ao (au 0) (ao (au 5) aP)))) (bb 7) (oB K))
def oE(K:Fg):TS:=(bB (eP (cb (bA ((zo K false)) (bA (dN K) (bA (dN K) (au 0) (au 5)) (tC (.int 0))) (gu (ao (tC (.str "num")) (ao (tC (.str "op")) (ao (tC (.str "call")) aP)))))) (ci (bA (cN K) (au 6) (gM (ao (bA (dN K) (bA (dN K) (au 0) (au 5)) (tC (.int 1))) aP))) (bb 6)) cO) (oC K))
def lu(K:Fg):TS:=(bB (ci (bA (dN K) (au 3) (au 5)) (bb 6)) (oE K))
def oF(K:Fg):TS:=(jQ (qW (ao (iI (jP K) (ao (au 0) aP)) aP)) (bb 5) (lu K))
def uN(K:Fg):TS:=(bB (ci (tC (.bl false)) (bb 4)) (oF K))
def nF(K:Fg):TS:=(bB (mN (tB (au 4)) (uN K)) (uL K))
def nG(K:Fg):TS:=(bB (ci (tC (.bl true)) (bb 4)) (nF K))
def nH(K:Fg):TS:=(bB (ci (iI (wH K) (ao (au 2) aP)) (oi (au 3) (tC (.int 0)) nv)) (nG K))
def rK(K:Fg):TS:=(bB (ci (jX [] 1 (jF K (au 0)) (bb 9) qP (iI (wH K) (ao (au 1) aP))) (bb 3)) (nH K))
abbrev je:List Str:=["_law_state","_law_rows","_law_known"]
abbrev pw:List Str:=["_law_state","_law_rows","_law_known","_law_found","_law_n","_law_row","_law_some","_law_thing"]
def AF(K:Fg):TS:=(dt (iI (ie K) (ao (au 3) aP)))
def AG(K:Fg):TS:=(i4 (vh K "list" eC (au 3) (ao (bA (cN K) (gu (ao (bA (dN K) (au 5) (tC (.int 0))) aP)) (iI (ie K) (ao (au 6) aP))) aP)))
def tT(K:Fg):TS:=(i4 (vh K "list" eC (au 6) (ao (au 7) aP)))
def tU(K:Fg):TS:=(bB (eP (cb (bA (iy K) (au 7) (tC (.str "")))) (ci (bA (dN K) (bA (dN K) (au 2) (au 4)) (bE (bY K) [] E0 (ao (au 0) (ao (iI (jP K) (ao (bA (dN K) (au 2) (au 4)) aP)) aP)))) (bb 7)) (eP (tB (iI (KU K) (ao (au 7) (ao (tC (.ty "tuple")) aP)))) (ci (iI (ie K) (ao (jX [] 1 (jF K (au 7)) (bb 8) qP (bA (dN K) (bA (dN K) (au 2) (au 4)) (bE (bY K) [] E0 (ao (au 0) (ao (iI (jP K) (ao (bA (dN K) (au 2) (au 4)) aP)) aP))))) aP)) (bb 7)) cO)) (tT K))
def tV(K:Fg):TS:=(bB (jQ (jF K (BT (Ds K) (au 5) (kX (tC (.int 1))) gy)) (bb 7) (tU K)) (AG K))
def oW(K:Fg):TS:=(bB (ci (gM aP) (bb 6)) (tV K))
def tW(K:Fg):TS:=(bB (jQ (EA K (ao (au 1) aP)) (CK K 2 (kS (bb 4) (kS (bb 5) xB))) (oW K)) (AF K))
def yH(K:Fg):TS:=(bB (ci (gM aP) (bb 3)) (tW K))
abbrev mn:List Str:=["_law_state","_law_word","_law_names_here","_law_params","_law_counts","_law_most"]
abbrev vM:List Str:=["_law_state","_law_word","_law_names_here","_law_params","_law_counts","_law_most","_law_many","_law_rows","_law_known"]
def zc(K:Fg):TS:=(dt (gu (ao (au 1) (ao (iI (ie K) (ao (au 3) aP)) (ao (bE (jj K) [] E0 (ao (au 0) (ao (au 7) (ao (au 8) aP)))) aP)))))
def zd(K:Fg):TS:=(bB (ci (bE (gi K) [] E0 (ao (au 7) (ao (au 2) (ao (au 3) aP)))) (bb 8)) (zc K))
def ze(K:Fg):TS:=(bB (ci (bE (jm K) [] E0 (ao (au 7) (ao (au 2) (ao (bA (iy K) (iI (jP K) (ao (au 3) aP)) (tC (.int 0))) aP)))) (bb 7)) (zd K))
def zf(K:Fg):TS:=(bB (ci (jX [] 1 (qW (ao (au 6) aP)) (bb 9) qP (bE (gh K) [] E0 (ao (au 0) (ao (au 2) (ao (au 6) (ao (au 4) aP)))))) (bb 7)) (ze K))
def Gj(K:Fg):TS:=(bB (ci (iI (L6) (ao (bA (cN K) (tC (.int 1)) (iI (BB) (ao (bA (iy K) (iI (jP K) (ao (au 3) aP)) (tC (.int 0))) aP))) (ao (bA (cN K) (tC (.int 1)) (bE (bY K) [] E0 (ao (au 0) (ao (au 5) aP)))) aP))) (bb 6)) (zf K))
abbrev iu:List Str:=["_law_state","_law_most"]
abbrev nQ:List Str:=["_law_state","_law_most","_law_five","_law_words","_law_names_here","_law_counts","_law_found","_law_word","_law_many","_law_turn","_law_params"]
def zg(K:Fg):TS:=(dt (iI (ie K) (ao (au 6) aP)))
def rA(K:Fg):TS:=(i4 (vh K "list" eC (au 6) (ao (bE (mL K) [] E0 (ao (au 0) (ao (au 7) (ao (au 4) (ao (au 10) (ao (au 5) (ao (au 1) aP))))))) aP)))
def rB(K:Fg):TS:=(bB (ci (BT (Ds K) (bA (cN K) (BT (Ds K) (au 4) (kX (au 9)) gy) (BT (Ds K) (au 4) gy (kX (au 9)))) gy (kX (au 8))) (bb 10)) (rA K))
def rC(K:Fg):TS:=(bB (ci (bE (bY K) [] E0 (ao (au 0) (ao (iI (jP K) (ao (au 4) aP)) aP))) (bb 9)) (rB K))
def rD(K:Fg):TS:=(bB (jQ (JT K (ao (au 3) (ao (au 5) aP))) (CK K 2 (kS (bb 7) (kS (bb 8) xB))) (rC K)) (zg K))
def rE(K:Fg):TS:=(bB (ci (gM aP) (bb 6)) (rD K))
def rF(K:Fg):TS:=(bB (ci (jX [7] 0 (jF K (au 3)) (bb 7) qP (bE (bY K) [] E0 (ao (au 0) (ao (bA (cN K) (iI (L7) (ao (tC (.int 4)) (ao (iI (jP K) (ao (au 4) aP)) aP))) (tC (.int 1))) aP)))) (bb 5)) (rE K))
def rG(K:Fg):TS:=(bB (ci (bE (jI K) [] E0 (ao (au 0) (ao (bA (cN K) (tC (.int 2)) (bE (bY K) [] E0 (ao (au 0) (ao (tC (.int 5)) aP)))) aP))) (bb 4)) (rF K))
def rH(K:Fg):TS:=(bB (ci (BT (Ds K) (bE (jI K) [] E0 (ao (au 0) (ao (tC (.int 5)) aP))) gy (kX (bA (dN K) (gM (ao (bA (cN K) (tC (.int 1)) (bE (bY K) [] E0 (ao (au 0) (ao (tC (.int 3)) aP)))) (ao (tC (.int 5)) aP))) (au 2)))) (bb 3)) (rG K))
def vx(K:Fg):TS:=(bB (ci (iI (BB) (ao (bA (iy K) (bA (kW) (bA (Ar) (iI (MD K) (ao (BT (Ds K) (bA (dN K) (au 0) (tC (.int 0))) gy (kX (tC (.int 1)))) aP)) (tC (.int 4))) (tC (.int 16))) (tC (.int 5))) aP)) (bb 2)) (rH K))
end Bg
end
section
namespace Bg
open PySem L2
abbrev GN:Str:="abcdefghijklmnopqrstuvwxyz"
theorem A4:GN.length<=sizeLine:=by decide +kernel
def one(c:Nat):Str:=⟨#[c]⟩
theorem xo:∀cs:List Nat,(Txt.join "" (cs.map one)).cps.toList=cs
 |[]=>by decide +kernel
 |c::r=>by
  unfold Txt.join
  rw[StrLaws.glued_eq_join]
  induction r generalizing c with
  |nil=>rfl
  |cons d r ih=>
   show(one c++("":Str)++Str.join "" ((d::r).map one)).cps.toList=_
   have e:(one c++("":Str)++Str.join "" ((d::r).map one)).cps.toList=(one c).cps.toList++("":Str).cps.toList++(Str.join "" ((d::r).map one)).cps.toList:=by
    show((one c).cps++("":Str).cps++(Str.join "" ((d::r).map one)).cps).toList=_
    rw[jR,jR]
   rw[e,ih d]
   rfl
theorem lG(y:Str):y.length=y.cps.toList.length:=by
 show y.cps.size=_
 rw[bI]
theorem xg:∀j:Nat,j<26->GN.cps.toList[j]?=some (97+j):=by decide +kernel
theorem FB:∀y∈FA,y.length<=4:=by decide +kernel
theorem DB:∀y∈FA,y.cps.toList.getLast?≠some 120:=by decide +kernel
theorem Be(y:Str):(y++"x").cps.toList=y.cps.toList++[120]:=by
 show(y.cps++("x":Str).cps).toList=_
 rw[jR]
 rfl
theorem xX{y:Str}{cs:List Nat}(h:y.cps.toList=cs)(l1:1<=cs.length)(l8:cs.length<=8)(a:∀c∈cs,97<=c/\c<=122)(n:y∉FA):Nm y:=
 ⟨by rw[lG,h];exact l1,by rw[lG,h];exact l8,by rw[h];exact a,n⟩
theorem LM{y:Str}{cs:List Nat}(h:y.cps.toList=cs)(l8:cs.length<=7)(a:∀c∈cs,97<=c/\c<=122):Nm (y++"x"):=by
 have e:=Be y
 rw[h] at e
 refine⟨by rw[lG,e,ai];simp,by rw[lG,e,ai];simp;lia,λc hc=>?_,λhm=>?_⟩
 ·rw[e] at hc
  rcases aB.mp hc with z|z
  ·exact a c z
  ·rw[ae.mp z];decide
 ·have:=DB _ hm
  rw[e,List.getLast?_append] at this
  exact this rfl
def Mv(st b l:Addr)(n sz at':Nat)(f:Int)(H4:Hp)(i:Nat):St->Hp->Prop:=λσ' H'=>∃(ys:List Str) (o1 o2 o3:Option V),σ'=[some (.ref st),some (.int (n:Nat)),some (.str GN),some (.int (sz:Nat)),some (.int (at':Nat)),some (.int f),some (.ref b),some (.ref l),o1,o2,o3]/\H' l=some (.lst (ys.map V.str))/\ys.length=i/\(∀y∈ys,Nm y)/\(∀(j:Nat) y,ys[j]?=some y->y.cps.toList[at']?=some (97+((f+5*(j:Int)) % 26).toNat))/\fh l (upd H4 l (.lst [])) H'
theorem IA{K:Fg}{vs:List V}{H:Hp}{Q:VK}{E:XK}(h:jI K vs H Q E):Ch K {nx:=λ_ H'=>Q .non H',rt:=Q} (cY rV vs) H:=by
 obtain⟨st,n,k,rfl,S,hk,hn,q⟩:=h
 refine⟨_,rfl,st,8,k,rfl,S,by lia,by decide,by decide,λd H1 d0 d1 S1 B1=>.inl ⟨_,_,rfl,rfl,?_⟩⟩
 obtain⟨sz,hsz,z1,z8⟩:∃sz:Nat,(1:Int)+d=(sz:Int)/\1<=sz/\sz<=8:=⟨(1+d).toNat,by lia,by lia,by lia⟩
 show ua K _ [some (.ref st),some (.int (n:Nat)),some (.str GN),some (.int ((1:Int)+d)),none,none,none,none,none,none,none] H1
 rw[hsz]
 refine⟨_,rfl,_,rfl,st,_,k+1,rfl,S1,by lia,by lia,by lia,λa H2 a0 a1 S2 B2'=>?_⟩
 obtain⟨at',rfl⟩:∃j:Nat,a=(j:Int):=⟨a.toNat,by lia⟩
 have B2:=B1.trans B2'
 refine⟨_,rfl,st,26,k+2,rfl,S2,by lia,by decide,by decide,λf H3 f0 f1 S3 B3'=>?_⟩
 have B3:=B2.trans B3'
 refine⟨_,rfl,_,rfl,by lia,by lia,λb hb=>?_⟩
 obtain⟨ys3,hs3⟩:=S3.lst
 have nb:b≠st:=λz=>by rw[z,hs3] at hb;cases hb
 refine sJ (λi σ' H'=>∃(bc:List Nat) (kk:Nat) (o:Option V),σ'=[some (.ref st),some (.int (n:Nat)),some (.str GN),some (.int (sz:Nat)),some (.int (at':Nat)),some (.int f),none,none,none,none,none,o]/\
  H' b=some (.lst ((bc.map one).map V.str))/\bc.length=i/\(∀c∈bc,97<=c/\c<=122)/\kh K H' st kk/\kk<=k+3+i/\fh st H H') ?_ ?_ ?_
 ·exact⟨[],k+3,none,rfl,ag,rfl,by simp,S3.new hb,by lia,B3.new hb⟩
 ·rintro i σ' H' hi ⟨bs,kk,o,rfl,hbl,hlen,hone,S4,hkk,B4⟩
  have hi:i<sz:=by simpa using hi
  refine j4 ?_
  refine⟨_,rfl,_,rfl,_,rfl,.inl ⟨_,_,rfl,rfl,.inl ⟨by decide,by decide⟩,_,rfl,st,4,kk,rfl,S4,by lia,by decide,by decide,λe H5 e0 e1 S5 B5=>.inl ⟨_,_,rfl,rfl,.inr ⟨by lia,by lia⟩,.inl ⟨_,_,rfl,rfl,_,_,rfl,rfl,(by show(0:Int)<26;decide),?_⟩⟩⟩⟩
  have x0:0<=(f+7*(0+(i:Int))*e) % 26:=cP _ (by decide)
  have x1:(f+7*(0+(i:Int))*e) % 26<26:=cJ _ (by decide)
  refine MA A4 x0 (xg _ (by lia)) ?_
  have x2:((f+7*(0+(i:Int))*e) % 26).toNat<26:=by lia
  generalize ((f+7*(0+(i:Int))*e) % 26).toNat=x at x2
  have h5:=B5 b _ nb hbl
  refine⟨_,h5,cc (by rw[ab,ab];lia),bs++[97+x],kk+1,_,rfl,?_,by simp[hlen],?_,?_,by lia,?_⟩
  ·rw[ag,aN,aN];rfl
  ·intro y hy
   rcases aB.mp hy with z|z
   ·exact hone y z
   ·rw[ae.mp z];lia
  ·exact S5.mono .upd_at h5 (Ne.symm nb)
  ·exact λc' u n' h'=>by
    have w:=(B4.trans B5) c' u n' h'
    have ncb:c'≠b:=λz=>by
     have:H c'=none:=(B3.free (λz'=>n' z') (by rw[z];exact hb))
     rw[this] at h';cases h'
    rw[ax ncb];exact w
 ·rintro σ' H4 ⟨bs,kk,o,rfl,hbl,hlen,hone,S4,hkk,B4⟩
  have hlen:bs.length=sz:=by simpa using hlen
  have hkk:kk<=k+3+sz:=by simpa using hkk
  refine⟨(by show 0<=sizeLine;decide),λl hl=>?_⟩
  have nlb:b≠l:=ar hbl hl
  obtain⟨ys4,hs4⟩:=S4.lst
  have nls:st≠l:=ar hs4 hl
  have Hl:H l=none:=B4.free (Ne.symm nls) hl
  show vm K _ [some (.ref st),some (.int (n:Nat)),some (.str GN),some (.int (sz:Nat)),some (.int (at':Nat)),some (.int f),some (.ref b),some (.ref l),none,none,none] (upd H4 l (.lst []))
  refine⟨_,rfl,_,rfl,by lia,by lia,lE (Mv st b l n sz at' f H4) ⟨[],none,none,none,rfl,ag,rfl,by simp,by simp,.refl _ _⟩ ?_ ?_⟩
  ·rintro i σ' H5 hi ⟨ys,o1,o2,o3,rfl,hyl,ylen,yok,ycd,B5⟩
   have hi:i<n:=by simpa using hi
   have hb5:H5 b=some (.lst ((bs.map one).map V.str)):=B5 b _ nlb (by rw[ax nlb];exact hbl)
   refine⟨_,rfl,_,rfl,_,rfl,.inl ⟨b,_,rfl,ce.of hb5,λp1 hp1=>?_⟩⟩
   rw[jE,<-fI,<-fI]
   have np1b:b≠p1:=ar hb5 hp1
   have np1l:l≠p1:=ar hyl hp1
   refine⟨_,rfl,_,rfl,_,rfl,.inl ⟨_,_,rfl,rfl,.inl ⟨by decide,by decide⟩,.inl ⟨_,_,rfl,rfl,_,_,rfl,rfl,(by show(0:Int)<26;decide),?_⟩⟩⟩
   have e00:(0:Int)+(i:Int)=(i:Int):=by lia
   rw[e00]
   have x0:0<=(f+5*(i:Int)) % 26:=cP _ (by decide)
   have x1:(f+5*(i:Int)) % 26<26:=cJ _ (by decide)
   obtain⟨c,hc⟩:∃c,c=97+((f+5*(i:Int)) % 26).toNat:=⟨_,rfl⟩
   refine MA A4 x0 (by rw[xg _ (by lia),<-hc]) ⟨(by show 1<=sizeLine;decide),λp2 hp2=>?_⟩
   have np12:p1≠p2:=ar ag hp2
   have np2b:b≠p2:=ar (by rw[ax np1b];exact hb5) hp2
   have np2l:l≠p2:=ar (by rw[ax np1l];exact hyl) hp2
   refine .inr (.inr (.inl ⟨p1,p2,_,_,rfl,rfl,by rw[ax np12,ag],ag,?_,λp3 hp3=>?_⟩))
   ·have:=cc (n:=9) (by decide)
    rw[ab,ab,be]
    show min at' bs.length+1<=sizeLine
    lia
   have np13:p1≠p3:=ar (by rw[ax np12];exact ag) hp3
   have np3b:b≠p3:=ar (by rw[ax np2b,ax np1b];exact hb5) hp3
   have np3l:l≠p3:=ar (by rw[ax np2l,ax np1l];exact hyl) hp3
   refine⟨_,rfl,_,rfl,.inl ⟨_,_,rfl,rfl,_,rfl,.inl ⟨b,_,rfl,ce.of (by rw[ax np3b,ax np2b,ax np1b];exact hb5),λp4 hp4=>?_⟩⟩⟩
   rw[show((at':Int)+1)=((at'+1:Nat):Int) by lia,xp,<-om,<-om]
   have np34:p3≠p4:=ar ag hp4
   have np4l:l≠p4:=ar (by rw[ax np3l,ax np2l,ax np1l];exact hyl) hp4
   refine .inr (.inr (.inl ⟨p3,p4,_,_,rfl,rfl,by rw[ax np34,ag],ag,?_,λp5 hp5=>?_⟩))
   ·have:=cc (n:=100) (by decide)
    rw[ai,ab,ab,ab,ab,be,dU]
    show min at' bs.length+1+(bs.length-(at'+1))<=sizeLine
    lia
   have np5l:l≠p5:=ar (by rw[ax np4l,ax np3l,ax np2l,ax np1l];exact hyl) hp5
   have ew:((bs.take at').map one).map V.str++[V.str ⟨#[c]⟩]++((bs.drop (at'+1)).map one).map V.str=((bs.take at'++[c]++bs.drop (at'+1)).map one).map V.str:=by rw[aN,aN,aN,aN];rfl
   rw[ew]
   have wl:(bs.take at'++[c]++bs.drop (at'+1)).length=sz:=by rw[ai,ai,be,dU,aS];lia
   have wone:∀y∈bs.take at'++[c]++bs.drop (at'+1),97<=y/\y<=122:=λy hy=>by
    rcases aB.mp hy with z|z
    ·rcases aB.mp z with z|z
     ·exact hone y (fo z)
     ·rw[ae.mp z];lia
    ·exact hone y (List.mem_of_mem_drop z)
   have wat:(bs.take at'++[c]++bs.drop (at'+1))[at']?=some c:=by
    have tl:(bs.take at').length=at':=by rw[be];lia
    rw[eh,aX (by lia),tl,dB]
    rfl
   generalize bs.take at'++[c]++bs.drop (at'+1)=w at wl wone wat ⊢
   have B6:=((((B5.new (o:=.lst (((bs.take at').map one).map V.str)) hp1).new (o:=.lst [V.str ⟨#[c]⟩]) hp2).new (o:=.lst (((bs.take at').map one).map V.str++[V.str ⟨#[c]⟩])) hp3).new (o:=.lst (((bs.drop (at'+1)).map one).map V.str)) hp4).new (o:=.lst ((w.map one).map V.str)) hp5
   have h6:(upd (upd (upd (upd (upd H5 p1 (.lst (((bs.take at').map one).map V.str))) p2 (.lst [V.str ⟨#[c]⟩])) p3 (.lst (((bs.take at').map one).map V.str++[V.str ⟨#[c]⟩]))) p4 (.lst (((bs.drop (at'+1)).map one).map V.str))) p5 (.lst ((w.map one).map V.str))) l=some (.lst (ys.map V.str)):=by
    rw[ax np5l,ax np4l,ax np3l,ax np2l,ax np1l];exact hyl
   have g6:(upd (upd (upd (upd (upd H5 p1 (.lst (((bs.take at').map one).map V.str))) p2 (.lst [V.str ⟨#[c]⟩])) p3 (.lst (((bs.take at').map one).map V.str++[V.str ⟨#[c]⟩]))) p4 (.lst (((bs.drop (at'+1)).map one).map V.str))) p5 (.lst ((w.map one).map V.str))) p5=some (.lst ((w.map one).map V.str)):=ag
   generalize (upd (upd (upd (upd (upd H5 p1 (.lst (((bs.take at').map one).map V.str))) p2 (.lst [V.str ⟨#[c]⟩])) p3 (.lst (((bs.take at').map one).map V.str++[V.str ⟨#[c]⟩]))) p4 (.lst (((bs.drop (at'+1)).map one).map V.str))) p5 (.lst ((w.map one).map V.str)))=H6 at B6 h6 g6 ⊢
   have wsum:((w.map one).map (·.length)).sum=w.length:=by
    rw[cx,show((λx:Str=>x.length) ∘ one)=λ_=>1 from rfl,List.map_const',List.sum_replicate_nat,Nat.mul_one]
   refine⟨rfl,_,rfl,"",p5,w.map one,rfl,rfl,ce.of g6,?_,?_⟩
   ·have e:("":Str).length=0:=by decide +kernel
    rw[wsum,e,Nat.mul_zero];lia
   have jl:=xo w
   generalize Txt.join "" (w.map one)=nmw at jl ⊢
   show vk K _ [some (.ref st),some (.int (n:Nat)),some (.str GN),some (.int (sz:Nat)),some (.int (at':Nat)),some (.int f),some (.ref b),some (.ref l),some (.int (i:Int)),some (.ref p5),some (.str nmw)] H6
   have nl:nmw.length=sz:=by rw[lG,jl,wl]
   have app:∀(nw:Str) (H7:Hp),Nm nw->nw.cps.toList[at']?=some c->fh l (upd H4 l (.lst [])) H7->H7 l=some (.lst (ys.map V.str))->vj K {nx:=Mv st b l n sz at' f H4 (i+1),rt:=Q,ct:=Mv st b l n sz at' f H4 (i+1),bk:=vi K {nx:=λ_ H'=>Q .non H',rt:=Q}} [some (.ref st),some (.int (n:Nat)),some (.str GN),some (.int (sz:Nat)),some (.int (at':Nat)),some (.int f),some (.ref b),some (.ref l),some (.int (i:Int)),some (.ref p5),some (.str nw)] H7:=λnw H7 w1 w2 B7 h7=>by
    refine⟨_,rfl,.inl ⟨rfl,_,ce.of h7⟩,_,rfl,l,_,_,rfl,rfl,h7,cc (by rw[ab];lia),?_⟩
    refine⟨ys++[nw],_,_,_,rfl,?_,by simp[ylen],?_,?_,B7.trans .upd_at⟩
    ·rw[ag,aN];rfl
    ·intro y hy
     rcases aB.mp hy with z|z
     ·exact yok y z
     ·rw[ae.mp z];exact w1
    ·intro j y hy
     by_cases cj:j<ys.length
     ·rw[bJ cj] at hy;exact ycd j y hy
     ·have cj2:j=i:=by
       have:=(af.mp hy).1
       rw[ai,aS] at this
       lia
      subst cj2
      rw[aX (by lia),ylen,dB] at hy
      cases hy
      rw[<-hc];exact w2
   refine⟨_,rfl,(by show 6<=sizeLine;decide),λt ht=>⟨t,_,rfl,.inr (dZ.of ag),rfl,rfl,_,rfl,?_⟩⟩
   have ntl:l≠t:=ar h6 ht
   have B7:=B6.new (o:=.tup [V.str "part",V.str "call",V.str "say",V.str "jump",V.str "test",V.str "give"]) ht
   have h7:(upd H6 t (.tup [V.str "part",V.str "call",V.str "say",V.str "jump",V.str "test",V.str "give"])) l=some (.lst (ys.map V.str)):=by rw[ax ntl];exact h6
   have xl:("x":Str).length=1:=by decide +kernel
   have xat:(nmw++"x").cps.toList[at']?=some c:=by
    rw[Be,jl,bJ (by rw[wl];lia)];exact wat
   show if qX (.str nmw) (FA.map V.str)=true then _ else _
   rw[sP]
   refine cI (λhin=>?_) (λhin=>?_)
   ·refine⟨_,rfl,.inr (.inl ⟨_,_,rfl,rfl,by rw[xl];have:=cc (n:=100) (by decide);lia,?_⟩)⟩
    have z4:=FB _ hin
    exact app _ _ (LM jl (by rw[wl];lia) wone) xat B7 h7
   ·refine⟨_,rfl,_,_,rfl,rfl,_,rfl,cI (λh8=>?_) (λ_=>?_)⟩
    ·refine⟨_,rfl,_,rfl,.inl ⟨_,_,rfl,rfl,_,_,rfl,rfl,(by show(0:Int)<3;decide),.inl ⟨rfl,_,rfl,cI (λ_=>?_) (λ_=>?_)⟩⟩⟩
     ·refine⟨_,rfl,.inr (.inl ⟨_,_,rfl,rfl,by rw[xl];have:=cc (n:=100) (by decide);lia,?_⟩)⟩
      exact app _ _ (LM jl (by rw[wl];lia) wone) xat B7 h7
     ·exact app _ _ (xX jl (by lia) (by lia) wone hin) (by rw[jl];exact wat) B7 h7
    ·exact lg (app _ _ (xX jl (by lia) (by lia) wone hin) (by rw[jl];exact wat) B7 h7)
  ·rintro σ' H5 ⟨ys,o1,o2,o3,rfl,hyl,ylen,yok,ycd,B5⟩
   have ylen:ys.length=n:=by simpa using ylen
   have nd:ys.Nodup:=by
    rw[List.Nodup,List.pairwise_iff_getElem]
    intro i j hi hj lt e
    have e1:=ycd i _ (aa hi)
    have e2:=ycd j _ (aa hj)
    rw[e,e2] at e1
    have e3:=Option.some.inj e1
    have a1:0<=(f+5*(i:Int)) % 26:=cP _ (by decide)
    have a2:0<=(f+5*(j:Int)) % 26:=cP _ (by decide)
    lia
   refine⟨_,rfl,q l ys kk H5 Hl ylen nd yok hyl ((S4.new hl).mono B5 ag nls) (by lia) (B4.through hl B5)⟩
structure MJ(rl:Addr)(H:Hp)(R:ba->Prop)(n:Nat)(H':Hp)(rvs:List V)(rs:List ba):Prop where
 at_:H' rl=some (.lst rvs)
 all:cK (dD H') rvs rs
 len:rs.length=n
 rough:∀r∈rs,R r
 but:fh rl H H'
theorem MJ.vlen{rl:Addr}{H H':Hp}{R:ba->Prop}{n:Nat}{rvs:List V}{rs:List ba}(m:MJ rl H R n H' rvs rs):rvs.length=n:=m.all.len.trans m.len
theorem MJ.grown{rl:Addr}{H H' H2:Hp}{R:ba->Prop}{n:Nat}{rvs:List V}{rs:List ba}(m:MJ rl H R n H' rvs rs)(s:aV H' H2):MJ rl H R n H2 rvs rs:=
 ⟨s _ _ m.at_,m.all.imp λ_ _ z=>z.mono (.of_same s),m.len,m.rough,λb o nb h=>s _ _ (m.but b o nb h)⟩
theorem MJ.set{rl:Addr}{H H':Hp}{R:ba->Prop}{n:Nat}{rvs:List V}{rs:List ba}{v:V}{r:ba}(j:Nat)(m:MJ rl H R n H' rvs rs)(q:dD H' v r)(ro:R r) :
  MJ rl H R n (upd H' rl (.lst (rvs.set j v))) (rvs.set j v) (rs.set j r):=by
 have t:Tp H' (upd H' rl (.lst (rvs.set j v))):=(Tp.refl H').lst m.at_
 refine⟨ag,(m.all.set q).imp λ_ _ z=>z.mono t,by rw[cR];exact m.len,λr' hr'=>?_,m.but.trans .upd_at⟩
 rcases List.mem_or_eq_of_mem_set hr' with z|z
 ·exact m.rough r' z
 ·rw[z];exact ro
theorem MJ.get{rl:Addr}{H H':Hp}{R:ba->Prop}{n:Nat}{rvs:List V}{rs:List ba}(m:MJ rl H R n H' rvs rs){j:Nat}(hj:j<n):∃p xs r,rvs[j]?=some (.ref p)/\rs[j]?=some r/\H' p=some (.tup (.str (oj r)::xs))/\dD H' (.ref p) r/\R r:=by
 obtain⟨v,r,e1,e2,q⟩:=m.all.get (i:=j) (by rw[m.len];exact hj)
 obtain⟨p,xs,rfl,hp⟩:=q.ref
 exact⟨p,xs,r,e1,e2,hp,q,m.rough r (aA e2)⟩
def Je(n:Nat)(rs:List ba):Prop:=∃r,rs[n-1]?=some r/\jW r=true
def Ly(bare:Bool)(rs:List ba):Prop:=bare=true->∃r,rs[0]?=some r/\sS r=true
theorem kj{r:ba}(h:oj r="jump"):∃to,r=.jump to:=by
 cases r with
 |jump to=>exact⟨to,rfl⟩
 |num x z=>exact absurd h (by show ¬("num":Str)="jump";decide +kernel)
 |op x s a b=>exact absurd h (by show ¬("op":Str)="jump";decide +kernel)
 |call x k as=>exact absurd h (by show ¬("call":Str)="jump";decide +kernel)
 |say a=>exact absurd h (by show ¬("say":Str)="jump";decide +kernel)
 |test a to=>exact absurd h (by show ¬("test":Str)="jump";decide +kernel)
 |give a=>exact absurd h (by show ¬("give":Str)="jump";decide +kernel)
theorem JV{r:ba}(h:oj r="num"):sS r=true:=by
 cases r with
 |num x z=>rfl
 |jump to=>exact absurd h (by show ¬("jump":Str)="num";decide +kernel)
 |op x s a b=>exact absurd h (by show ¬("op":Str)="num";decide +kernel)
 |call x k as=>exact absurd h (by show ¬("call":Str)="num";decide +kernel)
 |say a=>exact absurd h (by show ¬("say":Str)="num";decide +kernel)
 |test a to=>exact absurd h (by show ¬("test":Str)="num";decide +kernel)
 |give a=>exact absurd h (by show ¬("give":Str)="num";decide +kernel)
theorem JU{r:ba}(h:qX (.str (oj r)) [V.str "jump",V.str "give"]=true):jW r=true:=by
 cases r with
 |jump to=>rfl
 |give a=>rfl
 |num x z=>exact absurd h (by show ¬qX (.str "num") [V.str "jump",V.str "give"]=true;decide +kernel)
 |op x s a b=>exact absurd h (by show ¬qX (.str "op") [V.str "jump",V.str "give"]=true;decide +kernel)
 |call x k as=>exact absurd h (by show ¬qX (.str "call") [V.str "jump",V.str "give"]=true;decide +kernel)
 |say a=>exact absurd h (by show ¬qX (.str "say") [V.str "jump",V.str "give"]=true;decide +kernel)
 |test a to=>exact absurd h (by show ¬qX (.str "test") [V.str "jump",V.str "give"]=true;decide +kernel)
theorem iZ{a b:Str}(h:V.str a=V.str b):a=b:=by cases h;rfl
theorem yB{rs:List ba}{n:Nat}(h:∀r,rs[n]?=some r->fL r=false):stp rs n=n:=by
 unfold stp
 cases e:rs[n]? with
 |none=>rfl
 |some r=>cases r with
  |jump t=>exact absurd (h _ e) (by show ¬true=false;decide)
  |_=>rfl
theorem nZ{rs:List ba}{n:Nat}(h:∀r,rs[n]?=some r->fL r=false):∀k,runJ rs k n=n
 |0=>rfl
 |k+1=>by
  show runJ rs k (stp rs n)=n
  rw[yB h];exact nZ h k
theorem lK(rs:List ba):∀(k n:Nat),runJ rs (k+1) n=stp rs (runJ rs k n)
 |0,n=>rfl
 |k+1,n=>by
  show runJ rs (k+1) (stp rs n)=stp rs (runJ rs k (stp rs n))
  exact lK rs k (stp rs n)
theorem FC{rs:List ba}{j:Nat}{r':ba}(hr:fL r'=false)(hj:j<rs.length):∀(k m:Nat),(∀r,rs[runJ rs k m]?=some r->fL r=false)->∀r,(rs.set j r')[runJ (rs.set j r') k m]?=some r->fL r=false:=by
 have at_j:∀r,(rs.set j r')[j]?=some r->fL r=false:=λr e=>by
  rw[bg hj] at e;cases e;exact hr
 intro k
 induction k with
 |zero=>
  intro m h r e
  by_cases c:j=m
  ·subst c;exact at_j r e
  ·have e':(rs.set j r')[m]?=some r:=e
   rw[bC c] at e';exact h r e'
 |succ k ih=>
  intro m h r e
  by_cases c:j=m
  ·subst c
   rw[nZ at_j] at e;exact at_j r e
  ·have es:stp (rs.set j r') m=stp rs m:=by unfold stp;rw[bC c]
   have e':(rs.set j r')[runJ (rs.set j r') k (stp (rs.set j r') m)]?=some r:=e
   rw[es] at e'
   exact ih (stp rs m) h r e'
theorem pJ{r:ba}(h:¬oj r="jump"):fL r=false:=by
 cases r<;>first|rfl|exact absurd rfl h
def Mt(rl nm:Addr)(bare:Bool)(H:Hp)(R:ba->Prop)(n i:Nat):St->Hp->Prop:=λσ' H'=>∃(rvs:List V) (rs:List ba) (o4 o5 o6:Option V),σ'=[some (.ref rl),some (.ref nm),some (.bl bare),some (.int ((n-1:Nat):Nat)),o4,o5,o6]/\MJ rl H R n H' rvs rs/\Je n rs/\Ly bare rs/\∀m,m<i->∀r,rs[runJ rs n m]?=some r->fL r=false
theorem Ft{K:Fg}{vs:List V}{H:Hp}{Q:VK}{E:XK}(h:jm K vs H Q E):yN K {nx:=λ_ H'=>Q .non H',rt:=Q} (cY si vs) H:=by
 obtain⟨rl,nm,bare,rvs,rs,ys,R,rfl,hrl,hA,hpos,hfew,hR,rSay,rGive,rJump,hnm,ysne,rNum,nnr,hbare,q⟩:=h
 obtain⟨n,hn⟩:∃n,n=rs.length:=⟨_,rfl⟩
 have n1:1<=n:=by rw[hn];exact eJ.mpr hpos
 have n100:n<=100:=by rw[hn];exact hfew
 have M0:MJ rl H R n H rvs rs:=⟨hrl,hA,hn.symm,hR,.refl _ _⟩
 refine⟨_,rfl,_,_,rfl,.inl ⟨_,ce.of hrl,rfl⟩,_,_,rfl,rfl,?_⟩
 show t9 K _ [some (.ref rl),some (.ref nm),some (.bl bare),some (.int (((rvs.length:Nat):Int)-1)),none,none,none] H
 rw[show((rvs.length:Nat):Int)-1=((n-1:Nat):Nat) by rw[M0.vlen];lia]
 have loop:∀H',Mt rl nm bare H R n 0 [some (.ref rl),some (.ref nm),some (.bl bare),some (.int ((n-1:Nat):Nat)),none,none,none] H'->tZ K {nx:=λ_ H'=>Q .non H',rt:=Q} [some (.ref rl),some (.ref nm),some (.bl bare),some (.int ((n-1:Nat):Nat)),none,none,none] H':=λH' P0=>by
  obtain⟨rvs0,rs0,_,_,_,_,MM,_,_,_⟩:=id P0
  refine⟨_,rfl,_,_,rfl,.inl ⟨_,ce.of MM.at_,rfl⟩,_,rfl,by lia,by rw[MM.vlen];lia,lE (λi=>Mt rl nm bare H R n i) P0 ?_ ?_⟩
  ·rintro i σ' H1 hi ⟨rvs,rs,o4,o5,o6,rfl,M,hE,hN,hJ⟩
   have hi:i<n:=by rw[MM.vlen] at hi;simpa using hi
   have e0:(0:Int)+(i:Int)=((i:Nat):Int):=by lia
   show tY K _ [some (.ref rl),some (.ref nm),some (.bl bare),some (.int ((n-1:Nat):Nat)),some (.int ((0:Int)+(i:Int))),o5,o6] H1
   rw[e0]
   refine⟨_,rfl,?_⟩
   show tX K _ [some (.ref rl),some (.ref nm),some (.bl bare),some (.int ((n-1:Nat):Nat)),some (.int (i:Nat)),some (.int (i:Nat)),o6] H1
   refine .inl ⟨_,rfl,rl,rfl,⟨_,ce.of M.at_⟩,ib (xs:=rvs) (λj σ H'=>∃(to:Nat) (o:Option V),σ=[some (.ref rl),some (.ref nm),some (.bl bare),some (.int ((n-1:Nat):Nat)),some (.int (i:Nat)),some (.int (to:Nat)),o]/\H'=H1/\to<n/\(∀r,rs[i]?=some r->sS r=true->to=i)/\to=runJ rs j i)
    ⟨i,o6,rfl,rfl,hi,λ_ _ _=>rfl,rfl⟩ (λ_ _ _ _ ⟨_,_,_,e,_⟩=>by rw[e];exact ce.of M.at_) ?_ ?_⟩
   ·rintro j x σ' H2 hx ⟨to,o,rfl,rfl,hto,hk,hrun⟩
    obtain⟨p,xs,r,e1,e2,hp,hra,hro⟩:=M.get hto
    have e1':rvs[((to:Nat):Int).toNat]?=some (.ref p):=by simpa using e1
    refine⟨_,rfl,_,rfl,m6 (ce.of M.at_) (by lia) e1' (dM hp (by decide) rfl (.inl ⟨rfl,_,rfl,cI (λhw=>?_) (λhw=>?_)⟩))⟩
    ·obtain⟨t',rfl⟩:=kj (iZ hw)
     obtain⟨p',e3,hp'⟩:=hra
     cases e3
     refine⟨_,rfl,_,rfl,m6 (ce.of M.at_) (by lia) e1' (dM hp' (by decide) rfl ?_)⟩
     refine⟨t',_,rfl,rfl,by rw[hn];exact rJump _ hro,λr hr hnum=>?_,?_⟩
     ·have:=hk r hr hnum
      rw[this] at e2
      rw[e2] at hr;cases hr;cases hnum
     ·rw[lK,<-hrun];unfold stp;rw[e2]
    ·refine⟨to,_,rfl,rfl,hto,hk,?_⟩
     rw[lK,<-hrun,yB]
     intro r' hr'
     rw[e2] at hr';cases hr'
     exact pJ λz=>hw (by rw[z])
   ·rintro σ' H2 ⟨to,o,rfl,rfl,hto,hk,hrun⟩
    rw[M.vlen] at hrun
    obtain⟨p,xs,r,e1,e2,hp,hra,hro⟩:=M.get hto
    have e1':rvs[((to:Nat):Int).toNat]?=some (.ref p):=by simpa using e1
    refine⟨_,rfl,_,rfl,m6 (ce.of M.at_) (by lia) e1' (dM hp (by decide) rfl (.inl ⟨rfl,_,rfl,cI (λhw=>?_) (λhw=>⟨rvs,rs,_,_,_,rfl,M,hE,hN,λm hm=>?_⟩)⟩))⟩
    rotate_left
    ·by_cases cm:m<i
     ·exact hJ m cm
     ·have:m=i:=by lia
      subst this
      intro r' hr'
      rw[<-hrun,e2] at hr';cases hr'
      exact pJ λz=>hw (by rw[z])
    obtain⟨t',rfl⟩:=kj (iZ hw)
    refine⟨(by show 2<=sizeLine;decide),λp1 hp1=>⟨(by show 2<=sizeLine;decide),λp2 hp2=>⟨(by show 2<=sizeLine;decide),λl hl=>?_⟩⟩⟩
    have n12:p1≠p2:=ar ag hp2
    have n1l:p1≠l:=ar (by rw[ax n12];exact ag) hl
    have n2l:p2≠l:=ar ag hl
    have sm:aV H2 (upd (upd (upd H2 p1 (.tup [V.str "say",V.str ""])) p2 (.tup [V.str "give",V.str ""])) l (.lst [V.ref p1,V.ref p2])):=(((aV.refl H2).new hp1).new hp2).new hl
    have M2:=M.grown sm
    have hl2:(upd (upd (upd H2 p1 (.tup [V.str "say",V.str ""])) p2 (.tup [V.str "give",V.str ""])) l (.lst [V.ref p1,V.ref p2])) l=some (.lst [V.ref p1,V.ref p2]):=ag
    have h1:(upd (upd (upd H2 p1 (.tup [V.str "say",V.str ""])) p2 (.tup [V.str "give",V.str ""])) l (.lst [V.ref p1,V.ref p2])) p1=some (.tup [V.str "say",V.str ""]):=by rw[ax n1l,ax n12,ag]
    have h2:(upd (upd (upd H2 p1 (.tup [V.str "say",V.str ""])) p2 (.tup [V.str "give",V.str ""])) l (.lst [V.ref p1,V.ref p2])) p2=some (.tup [V.str "give",V.str ""]):=by rw[ax n2l,ag]
    generalize (upd (upd (upd H2 p1 (.tup [V.str "say",V.str ""])) p2 (.tup [V.str "give",V.str ""])) l (.lst [V.ref p1,V.ref p2]))=H3 at M2 hl2 h1 h2 ⊢
    have fin:∀(v:V) (r:ba),dD H3 v r->R r->fL r=false->(i=n-1->jW r=true)->oi (au 0) (au 4) nv v [some (.ref rl),some (.ref nm),some (.bl bare),some (.int ((n-1:Nat):Nat)),some (.int (i:Nat)),some (.int (to:Nat)),o] H3 (Mt rl nm bare H R n (i+1)):=λv r hv hr hj he=>by
     refine⟨_,rfl,_,rfl,yx M2.at_ (by lia) (by rw[M2.vlen];simpa using hi) ?_⟩
     have ei:((i:Nat):Int).toNat=i:=by simp
     rw[ei]
     refine⟨_,rs.set i r,_,_,_,rfl,M2.set i hv hr,?_,λhb=>?_,λm hm=>?_⟩
     ·obtain⟨r1,a1,a2⟩:=hE
      by_cases c:i=n-1
      ·exact⟨r,by rw[<-c,bg (by rw[M2.len];exact hi)],he c⟩
      ·exact⟨r1,by rw[bC c];exact a1,a2⟩
     ·obtain⟨r0,a1,a2⟩:=hN hb
      have c:i≠0:=λc=>by
       subst c
       have:=hk r0 a1 a2
       subst this
       rw[e2] at a1;cases a1;cases a2
      exact⟨r0,by rw[bC c];exact a1,a2⟩
     ·have il:i<rs.length:=by rw[M2.len];exact hi
      by_cases cm:m<i
      ·exact FC hj il n m (hJ m cm)
      ·have:m=i:=by lia
       subst this
       have atm:∀r',(rs.set m r)[m]?=some r'->fL r'=false:=λr' e=>by rw[bg il] at e;cases e;exact hj
       intro r' hr'
       rw[nZ atm] at hr'
       exact atm r' hr'
    refine⟨_,rfl,_,rfl,.inl ⟨rfl,?_⟩⟩
    refine .inr ⟨_,rfl,?_⟩
    by_cases c:i=n-1
    ·have ec:decide (V.int (i:Nat)=V.int ((n-1:Nat):Nat))=true:=by rw[c];exact decide_eq_true rfl
     rw[ec]
     exact m6 (ce.of hl2) (by decide) rfl (fin _ (.give "") ⟨p2,rfl,h2⟩ rGive rfl λ_=>rfl)
    ·have ec:decide (V.int (i:Nat)=V.int ((n-1:Nat):Nat))=false:=decide_eq_false (λz=>c (by injection z with z;lia))
     rw[ec]
     exact m6 (ce.of hl2) (by decide) rfl (fin _ (.say "") ⟨p1,rfl,h1⟩ rSay rfl λz=>absurd z c)
  ·rintro σ' H1 ⟨rvs,rs',o4,o5,o6,rfl,M,hE,hN,hJ⟩
   rw[MM.vlen,de] at hJ
   refine⟨_,rfl,q rvs rs' H1 M.at_ M.all (M.len.trans hn) M.rough ?_ ?_ (by intro m hm;rw[M.len] at hm ⊢;exact hJ m hm) M.but⟩
   ·obtain⟨r,a1,a2⟩:=hE
    rw[dQ,M.len,a1,cS,a2]
   ·intro hb
    obtain⟨r,a1,a2⟩:=hN hb
    rw[iM,a1,cS,a2]
 have second:∀(H':Hp) (rvs:List V) (rs:List ba),MJ rl H R n H' rvs rs->Je n rs->t8 K {nx:=λ_ H'=>Q .non H',rt:=Q} [some (.ref rl),some (.ref nm),some (.bl bare),some (.int ((n-1:Nat):Nat)),none,none,none] H':=λH' rvs rs M hE=>by
  refine⟨_,rfl,bare,rfl,uW (λhb=>?_) (λhb=>?_)⟩
  ·have n2:2<=n:=by rw[hn];exact hbare hb
   obtain⟨p,xs,r,e1,e2,hp,hra,hro⟩:=M.get (j:=0) (by lia)
   refine⟨_,rfl,m6 (ce.of M.at_) (by decide) e1 (dM hp (by decide) rfl (.inl ⟨rfl,_,rfl,mt (λhw=>?_) (λhw=>?_)⟩))⟩
   ·refine⟨_,rfl,_,_,rfl,rfl,_,rfl,cI (λ_=>?_) (λhz=>absurd (show(0:Int)<((n-1:Nat):Nat) by lia) hz)⟩
    have hnm':=M.but nm _ nnr hnm
    obtain⟨y,yr,rfl⟩:∃y yr,ys=y::yr:=List.exists_cons_of_ne_nil ysne
    refine⟨_,rfl,m6 (ce.of hnm') (by decide) rfl ⟨(by show 3<=sizeLine;decide),λp2 hp2=>?_⟩⟩
    have M2:=M.grown ((aV.refl H').new (o:=.tup [V.str "num",V.str y,V.int 3]) hp2)
    refine⟨_,rfl,yx M2.at_ (by decide) (by rw[M2.vlen];exact n1) (loop _ ⟨_,rs.set 0 (.num y 3),_,_,_,rfl,M2.set 0 ⟨p2,rfl,ag⟩ (rNum y aL hb),?_,λ_=>⟨.num y 3,bg (by rw[M.len];exact n1),rfl⟩,λ_ z=>absurd z (dO _)⟩)⟩
    obtain⟨r1,a1,a2⟩:=hE
    exact⟨r1,by rw[bC (by lia)];exact a1,a2⟩
   ·exact lg (loop _ ⟨rvs,rs,_,_,_,rfl,M,hE,λ_=>⟨r,e2,JV (iZ hw)⟩,λ_ z=>absurd z (dO _)⟩)
  ·exact lg (loop _ ⟨rvs,rs,_,_,_,rfl,M,hE,λhb'=>(by rw[hb] at hb';cases hb'),λ_ z=>absurd z (dO _)⟩)
 obtain⟨p,xs,r,e1,e2,hp,hra,hro⟩:=M0.get (j:=n-1) (by lia)
 have e1':rvs[((n-1:Nat):Int).toNat]?=some (.ref p):=by simpa using e1
 refine⟨_,rfl,_,rfl,m6 (ce.of hrl) (by lia) e1' (dM hp (by decide) rfl ⟨(by show 2<=sizeLine;decide),λt ht=>⟨t,_,rfl,.inr (dZ.of ag),rfl,rfl,_,rfl,?_⟩⟩)⟩
 have M1:=M0.grown ((aV.refl H).new (o:=.tup [V.str "jump",V.str "give"]) ht)
 refine uW (λhb=>?_) (λhb=>?_)
 ·refine⟨(by show 2<=sizeLine;decide),λp2 hp2=>?_⟩
  have M2:=M1.grown ((aV.refl _).new (o:=.tup [V.str "give",V.str ""]) hp2)
  refine⟨_,rfl,_,rfl,yx M2.at_ (by lia) (by rw[M2.vlen];lia) ?_⟩
  have ei:((n-1:Nat):Int).toNat=n-1:=by simp
  rw[ei]
  exact second _ _ _ (M2.set (n-1) (r:=.give "") ⟨p2,rfl,ag⟩ rGive) ⟨.give "",bg (by rw[M0.len];lia),rfl⟩
 ·refine second _ _ _ M1 ⟨r,e2,JU ?_⟩
  have hb':(!qX (.str (oj r)) [V.str "jump",V.str "give"])=false:=hb
  simpa using hb'
def Jj(kl:Addr)(H:Hp)(v:V)(ks:List Str):Prop:=∃a,v=.ref a/\a≠kl/\H a=some (.lst (ks.map V.str))
theorem Jj.same{kl:Addr}{H H':Hp}{v:V}{ks:List Str}(h:Jj kl H v ks)(s:aV H H'):Jj kl H' v ks:=by
 obtain⟨a,e,n,h⟩:=h;exact⟨a,e,n,s _ _ h⟩
theorem Jj.upd{kl:Addr}{H:Hp}{v:V}{ks:List Str}{o:HO}(h:Jj kl H v ks):Jj kl (upd H kl o) v ks:=by
 obtain⟨a,e,n,h⟩:=h;exact⟨a,e,n,by rw[ax n];exact h⟩
def qO(kss:List (List Str)):Nat:=(kss.map jz).sum
theorem yD:∀{kss:List (List Str)} {m:Nat} {ks kp:List Str},kss[m]?=some ks->qO (kss.set m kp)+ks.length=qO kss+kp.length
 |[],m,ks,kp,h=>by simp at h
 |a::r,0,ks,kp,h=>by
  simp at h;subst h
  show kp.length+qO r+a.length=a.length+qO r+kp.length
  lia
 |a::r,m+1,ks,kp,h=>by
  have ih:=yD (kss:=r) (m:=m) (ks:=ks) (kp:=kp) (by simpa using h)
  show a.length+qO (r.set m kp)+ks.length=a.length+qO r+kp.length
  lia
structure KJ(kl:Addr)(H:Hp)(ys ps:List Str)(w:Str)(n:Nat)(H':Hp)(refs:List V)(kss:List (List Str)):Prop where
 at_:H' kl=some (.lst refs)
 all:cK (Jj kl H') refs kss
 len:kss.length=n
 wit:∀(i:Nat) ks,kss[i]?=some ks->ks.length<=100/\(∀y∈ks,y∈ys)/\(w∈ks\/(i=0/\ps=[]))
 same:aV H H'
theorem KJ.grown{kl:Addr}{H H' H2:Hp}{ys ps:List Str}{w:Str}{n:Nat}{refs:List V}{kss:List (List Str)}(k:KJ kl H ys ps w n H' refs kss)(s:aV H' H2):KJ kl H ys ps w n H2 refs kss:=
 ⟨s _ _ k.at_,k.all.imp λ_ _ z=>z.same s,k.len,k.wit,k.same.trans s⟩
theorem KJ.vlen{kl:Addr}{H H':Hp}{ys ps:List Str}{w:Str}{n:Nat}{refs:List V}{kss:List (List Str)}(k:KJ kl H ys ps w n H' refs kss):refs.length=n:=k.all.len.trans k.len
theorem KJ.get{kl:Addr}{H H':Hp}{ys ps:List Str}{w:Str}{n:Nat}{refs:List V}{kss:List (List Str)}(k:KJ kl H ys ps w n H' refs kss){j:Nat}(hj:j<n):∃a ks,refs[j]?=some (.ref a)/\kss[j]?=some ks/\a≠kl/\H' a=some (.lst (ks.map V.str)):=by
 obtain⟨v,ks,e1,e2,a,rfl,n1,h1⟩:=k.all.get (i:=j) (by rw[k.len];exact hj)
 exact⟨a,ks,e1,e2,n1,h1⟩
theorem KJ.set{kl a:Addr}{H H':Hp}{ys ps:List Str}{w:Str}{n m:Nat}{refs:List V}{kss:List (List Str)}{kp:List Str}(k:KJ kl H ys ps w n H' refs kss)(hkl:H kl=none)(na:a≠kl)(ha:H' a=some (.lst (kp.map V.str)))
  (hw:kp.length<=100/\(∀y∈kp,y∈ys)/\(w∈kp\/(m=0/\ps=[]))):KJ kl H ys ps w n (upd H' kl (.lst (refs.set m (.ref a)))) (refs.set m (.ref a)) (kss.set m kp):=by
 refine⟨ag,cK.set (k.all.imp λ_ _ z=>z.upd) ⟨a,rfl,na,by rw[ax na];exact ha⟩,by rw[cR];exact k.len,λi ks e=>?_,λb o h=>?_⟩
 ·by_cases c:m=i
  ·subst c
   have hi:m<kss.length:=by have:=(af.mp e).1;rw[cR] at this;exact this
   rw[bg hi] at e;cases e;exact hw
  ·rw[bC c] at e;exact k.wit i ks e
 ·rw[ax (ar h hkl)];exact k.same _ _ h
theorem qV{α:Type}(p:α->Bool)(l:List α)(i:Nat)(v:α)(h:l[i]?=some v):(l.take (i+1)).filter p=(l.take i).filter p++(if p v=true then[v] else[]):=by
 rw[fr,h,List.filter_append]
 cases hp:p v<;>simp[hp]
theorem G4{r:ba}(h:qX (.str (oj r)) [V.str "num",V.str "op",V.str "call"]=true):∃x,gI r=.str x:=by
 cases r with
 |num x z=>exact⟨x,rfl⟩
 |op x s a b=>exact⟨x,rfl⟩
 |call x k as=>exact⟨x,rfl⟩
 |jump to=>exact absurd h (by show ¬qX (.str "jump") [V.str "num",V.str "op",V.str "call"]=true;decide +kernel)
 |say a=>exact absurd h (by show ¬qX (.str "say") [V.str "num",V.str "op",V.str "call"]=true;decide +kernel)
 |test a to=>exact absurd h (by show ¬qX (.str "test") [V.str "num",V.str "op",V.str "call"]=true;decide +kernel)
 |give a=>exact absurd h (by show ¬qX (.str "give") [V.str "num",V.str "op",V.str "call"]=true;decide +kernel)
theorem IL{H:Hp}{p:Addr}{r:ba}{x:Str}(h:dD H (.ref p) r)(e:gI r=.str x):∃xs,H p=some (.tup (.str (oj r)::.str x::xs)):=by
 cases r with
 |num y z=>cases e;obtain⟨p',e',h⟩:=h;cases e';exact⟨_,h⟩
 |op y s a b=>cases e;obtain⟨p',e',h⟩:=h;cases e';exact⟨_,h⟩
 |call y k as=>cases e;obtain⟨p',q,e',h,_⟩:=h;cases e';exact⟨_,h⟩
 |jump to=>cases e
 |say a=>cases e
 |test a to=>cases e
 |give a=>cases e
theorem EO{ys:List Str}{cs:List Nat}{rs:List ba}{i m j:Nat}{r:ba}(hr:rs[i]?=some r)(ro:sA ys cs rs.length r)(hE:rs.getLast?.map jW=some true)(hm:(bS i r)[j]?=some m):m<rs.length:=by
 have hi:i<rs.length:=(af.mp hr).1
 have nx:jW r=false->i+1<rs.length:=λhe=>by
  by_cases c:i+1<rs.length
  ·exact c
  ·have ei:i=rs.length-1:=by lia
   rw[dQ,<-ei,hr,cS,he] at hE
   cases hE
 have mem:=aA hm
 cases r with
 |jump to=>rw[ae.mp mem];exact ro
 |test a to=>
  rcases aJ.mp mem with e|e
  ·rw[e];exact nx rfl
  ·rw[ae.mp e];exact ro.2
 |give a=>cases mem
 |num x z=>rw[ae.mp mem];exact nx rfl
 |op x s a b=>rw[ae.mp mem];exact nx rfl
 |call x k as=>rw[ae.mp mem];exact nx rfl
 |say a=>rw[ae.mp mem];exact nx rfl
def sw(rs:List ba)(i:Nat)(kss:List (List Str)):Prop:=∀(n m:Nat) r ks km,n<i->rs[n]?=some r->m∈bS n r->kss[n]?=some ks->kss[m]?=some km->∀y∈km,y∈ks\/gI r=.str y
def vQ(ps:List Str)(kss:List (List Str)):Prop:=∀ks,kss[0]?=some ks->∀y∈ks,y∈ps
theorem vQ.set{ps:List Str}{kss:List (List Str)}{m:Nat}{km kp:List Str}(h:vQ ps kss)(e:kss[m]?=some km)(s:∀y∈kp,y∈km):vQ ps (kss.set m kp):=by
 intro ks e0 y hy
 by_cases c:m=0
 ·subst c
  have hl:0<kss.length:=(af.mp e).1
  rw[bg hl] at e0;cases e0
  exact h km e y (s y hy)
 ·rw[bC c] at e0;exact h ks e0 y hy
def Lm(rl nm pr kl:Addr)(H:Hp)(ys ps:List Str)(w:Str)(rs:List ba)(B i:Nat):St->Hp->Prop:=λσ' H'=>∃(refs:List V) (kss:List (List Str)) (more:Bool) (o5 o6 o7 o8:Option V),σ'=[some (.ref rl),some (.ref nm),some (.ref pr),some (.ref kl),some (.bl more),o5,o6,o7,o8]/\KJ kl H ys ps w rs.length H' refs kss/\2*qO kss+more.toNat<=B/\vQ ps kss/\(more=false->sw rs i kss)
def Mw(rl nm pr kl:Addr)(H:Hp)(ys ps:List Str)(w:Str)(rs:List ba)(B i:Nat)(la l:Addr)(ls:List Str)(ms:List Nat)(kss0:List (List Str))(j:Nat):St->Hp->Prop:=λσ' H'=>∃(refs:List V) (kss:List (List Str)) (more:Bool) (o7 o8:Option V),σ'=[some (.ref rl),some (.ref nm),some (.ref pr),some (.ref kl),some (.bl more),some (.int (i:Nat)),some (.ref la),o7,o8]/\KJ kl H ys ps w rs.length H' refs kss/\2*qO kss+more.toNat<=B/\H' la=some (.lst (ls.map V.str))/\H' l=some (.lst (aO ms))/\vQ ps kss/\
 (more=false->kss=kss0/\sw rs i kss0/\∀j',j'<j->∀m km,ms[j']?=some m->kss0[m]?=some km->∀y∈km,y∈ls)
def uk(a b:Addr)(H H':Hp):Prop:=∀c o,c≠a->c≠b->H c=some o->H' c=some o
theorem uk.refl(a b:Addr)(H:Hp):uk a b H H:=λ_ _ _ _ h=>h
theorem uk.trans{a b:Addr}{H H1 H2:Hp}(x:uk a b H H1)(y:uk a b H1 H2):uk a b H H2:=λc o n m h=>y c o n m (x c o n m h)
theorem uk.of_l{a b:Addr}{H H':Hp}(x:fh a H H'):uk a b H H':=λc o n _ h=>x c o n h
theorem uk.of_r{a b:Addr}{H H':Hp}(x:fh b H H'):uk a b H H':=λc o _ m h=>x c o m h
theorem uk.upd_r{a b:Addr}{H:Hp}{o:HO}:uk a b H (upd H b o):=.of_r .upd_at
theorem uk.tp{a b:Addr}{H H':Hp}{xs ys:List V}(x:uk a b H H')(ha:H a=some (.lst xs))(hb:H b=some (.lst ys)):Tp H H':=λp zs h=>
 x p _ (by rintro rfl;rw[h] at ha;cases ha) (by rintro rfl;rw[h] at hb;cases hb) h
theorem uk.but{a b:Addr}{H H1 H2:Hp}(x:fh a H H1)(hb:H b=none)(y:uk a b H1 H2):fh a H H2:=λc o n h=>y c o n (ar h hb) (x c o n h)
def vY:V->Nat
 |.str s=>if s="" then 1 else 0
 |.ref _=>4
 |_=>0
def Cq(ks:List Str)(H:Hp):V->Prop
 |.str s=>s=""->ks≠[]
 |.int _=>True
 |.ref q=>∃as:List Str,H q=some (.tup (as.map V.str))/\as.length<=4/\ks≠[]
 |_=>False
theorem Cq.mono{ks:List Str}{H H':Hp}{x:V}(h:Cq ks H x)(t:Tp H H'):Cq ks H' x:=by
 cases x with
 |str s=>exact h
 |int i=>exact h
 |ref q=>obtain⟨as,h1,h2⟩:=h;exact⟨as,t _ _ h1,h2⟩
 |_=>exact h.elim
def D4(ks:List Str)(H:Hp)(y x:V):Prop:=match x with
 |.str s=>(s=""->∃z∈ks,y=.str z)/\(s≠""->y=.str s)
 |.int i=>y=.int i
 |.ref q=>∃(as bs:List Str) (q':Addr),H q=some (.tup (as.map V.str))/\y=.ref q'/\H q'=some (.tup (bs.map V.str))/\bs.length=as.length/\∀b∈bs,b∈ks
 |_=>False
theorem D4.mono{ks:List Str}{H H':Hp}{x y:V}(h:D4 ks H y x)(t:Tp H H'):D4 ks H' y x:=by
 cases x with
 |str s=>exact h
 |int i=>exact h
 |ref q=>obtain⟨as,bs,q',h1,h2,h3,h4⟩:=h;exact⟨as,bs,q',t _ _ h1,h2,t _ _ h3,h4⟩
 |_=>exact h.elim
theorem Bl{K:Fg}{σ:St}{st kl a:Addr}{i k:Nat}{refs:List V}{ks:List Str}{H:Hp}{Q:VK}(h0:σ[0]?=some (some (.ref st)))(h2:σ[2]?=some (some (.ref kl)))(h4:σ[4]?=some (some (.int (i:Nat))))
  (hkl:H kl=some (.lst refs)) (hr:refs[i]?=some (.ref a)) (ha:H a=some (.lst (ks.map V.str))) (ne:ks≠[]) (len:ks.length<=100) (S:kh K H st k) (hk:k<=900000) (na:a≠st)
  (q:∀(y:Str) (H':Hp),y∈ks->kh K H' st (k+1)->fh st H H'->Q (.str y) H') :
  bA (dN K) (bA (dN K) (au 2) (au 4)) (bE (bY K) [] E0 (ao (au 0) (ao (iI (jP K) (ao (bA (dN K) (au 2) (au 4)) aP)) aP))) σ H Q:=by
 have hl:0<ks.length:=eJ.mpr ne
 have hr':refs[((i:Nat):Int).toNat]?=some (.ref a):=by simpa using hr
 refine⟨_,h2,_,h4,m6 (ce.of hkl) (by lia) hr' ⟨_,h0,_,h2,_,h4,m6 (ce.of hkl) (by lia) hr' ⟨_,_,rfl,.inl ⟨_,ce.of ha,rfl⟩,st,_,k,rfl,S,by lia,by rw[ab];lia,by rw[ab];lia,λd H1 d0 d1 S1 B1=>?_⟩⟩⟩
 rw[ab] at d1
 have dl:d.toNat<ks.length:=by lia
 exact m6 (ce.of (B1 a _ na ha)) d0 (yC (aa dl)) (q _ H1 (dS dl) S1 B1)
theorem Es{K:Fg}{st rl kl fd p sm a:Addr}{i k:Nat}{refs vs:List V}{ks:List Str}{x:V}{H:Hp}{D:og}(hkl:H kl=some (.lst refs))(hr:refs[i]?=some (.ref a))(ha:H a=some (.lst (ks.map V.str)))(len:ks.length<=100)(S:kh K H st k)(hk:k<=800000)(na:a≠st)(nk:kl≠st)
  (hsm:H sm=some (.lst vs)) (vl:vs.length<=100) (ns:sm≠st) (ok:Cq ks H x)
  (q:∀(y:V) (k':Nat) (H':Hp),D4 ks H' y x->H' sm=some (.lst (vs++[y]))->kh K H' st k'->k'<=k+vY x->uk st sm H H'->D.nx [some (.ref st),some (.ref rl),some (.ref kl),some (.ref fd),some (.int (i:Nat)),some (.ref p),some (.ref sm),some y] H') :
  tU K D [some (.ref st),some (.ref rl),some (.ref kl),some (.ref fd),some (.int (i:Nat)),some (.ref p),some (.ref sm),some x] H:=by
 have app:∀(y:V) (k':Nat) (H1:Hp),D4 ks H1 y x->kh K H1 st k'->k'<=k+vY x->fh st H H1->tT K D [some (.ref st),some (.ref rl),some (.ref kl),some (.ref fd),some (.int (i:Nat)),some (.ref p),some (.ref sm),some y] H1:=λy k' H1 f S1 l1 B1=>by
  have h1:=B1 sm _ ns hsm
  refine⟨_,rfl,.inl ⟨rfl,_,ce.of h1⟩,_,rfl,sm,_,_,rfl,rfl,h1,cc (by lia),?_⟩
  exact q y k' _ (f.mono ((Tp.refl H1).lst h1)) ag (S1.mono .upd_at h1 (Ne.symm ns)) l1 ((uk.of_l B1).trans .upd_r)
 cases x with
 |str s=>
  refine⟨_,rfl,.inl ⟨rfl,_,rfl,cI (λe=>?_) (λe=>?_)⟩⟩
  ·have e':s="":=by cases e;rfl
   refine Bl rfl rfl rfl hkl hr ha (ok e') len S (by lia) na λy H' hy S' B'=>?_
   refine app (.str y) _ H' ⟨λ_=>⟨y,hy,rfl⟩,λz=>absurd e' z⟩ S' ?_ B'
   show k+1<=k+(if s="" then 1 else 0)
   rw[if_pos e'];exact aw _
  ·refine⟨_,rfl,_,_,_,rfl,.str_tuple _,_,rfl,lg ?_⟩
   exact app (.str s) k H ⟨λz=>absurd (by rw[z]) e,λ_=>rfl⟩ S (by lia) (.refl _ _)
 |int j=>
  refine⟨_,rfl,.inl ⟨rfl,_,rfl,no (λz=>by cases z) ?_⟩⟩
  refine⟨_,rfl,_,_,_,rfl,.int_tuple _,_,rfl,lg ?_⟩
  exact app (.int j) k H rfl S (by lia) (.refl _ _)
 |ref t=>
  obtain⟨as,ht,l4,ne⟩:=ok
  obtain⟨ys0,hst⟩:=S.lst
  have nt:t≠st:=Ne.symm (mz hst ht)
  refine⟨_,rfl,.inr (.inr (.inl ⟨t,_,_,rfl,rfl,dZ.of ht,_,rfl,lg ?_⟩))⟩
  refine⟨_,rfl,_,_,_,rfl,.tup_tuple (dZ.of ht),_,rfl,ut ?_⟩
  refine .inr ⟨_,rfl,t,rfl,⟨_,dZ.of ht⟩,λL hL=>?_⟩
  have nL:L≠st:=λz=>by rw[z,hst] at hL;cases hL
  refine Eg (xs:=as.map V.str) (λj σ' H'=>∃(bs:List Str) (k':Nat) (o:Option V),σ'=[some (.ref st),some (.ref rl),some (.ref kl),some (.ref fd),some (.int (i:Nat)),some (.ref p),some (.ref sm),some (.ref t),o]/\H' L=some (.lst (bs.map V.str))/\bs.length=j/\(∀b∈bs,b∈ks)/\kh K H' st k'/\k'<=k+j/\fh st H H') ?_ ?_ ?_ ?_
  ·exact⟨[],k,none,rfl,ag,rfl,by simp,S.new hL,by lia,(fh.refl st H).new hL⟩
  ·rintro j σ' H' _ ⟨_,_,_,_,_,_,_,_,_,B⟩
   exact dZ.of (B t _ nt ht)
  ·rintro j x σ' H' hx ⟨bs,k',o,rfl,hb,bl,bm,S',hk',B'⟩
   have jl:j<as.length:=by have:=(af.mp hx).1;rw[ab] at this;exact this
   refine j4 (Bl rfl rfl rfl (B' kl _ nk hkl) hr (B' a _ na ha) ne len S' (by lia) na λy H2 hy S2 B2=>?_)
   have h2:=B2 L _ nL hb
   refine⟨_,h2,cc (by rw[ab];lia),bs++[y],k'+1,_,rfl,by rw[ag,aN];rfl,by simp[bl],λb hb'=>?_,S2.mono .upd_at h2 (Ne.symm nL),by lia,?_⟩
   ·rcases aB.mp hb' with z|z
    ·exact bm b z
    ·rw[ae.mp z];exact hy
   ·exact λc u n h=>by rw[ax (ar h hL)];exact(B'.trans B2) c u n h
  ·rintro σ' H2 ⟨bs,k',o,_,hb,bl,bm,S',hk',B'⟩
   rw[ab] at bl hk'
   refine⟨L,_,rfl,.inl ⟨ce.of hb,λl hl=>?_⟩⟩
   have nl:L≠l:=ar hb hl
   have h2:=B' t _ nt ht
   refine app (.ref l) k' _ ⟨as,bs,l,by rw[ax (ar h2 hl)];exact h2,rfl,ag,bl,bm⟩ (S'.new hl) ?_ (B'.new hl)
   show k'<=k+4
   lia
 |_=>exact ok.elim
theorem Ei(w:V)(rest:List V):ng (w::rest) (some 1) none=rest:=by
 unfold ng
 have e1:HT.sIx (w::rest).length 0 (some 1)=1:=by
  rw[show(1:Int)=((1:Nat):Int) from rfl,HT.sIx_nat,bM];lia
 rw[e1,HT.sIx_none,List.drop_succ_cons,m7,bM]
 exact dA (by lia)
theorem Eh(w:V){rest:List V}(h:rest≠[]):¬(HT.sIx (w::rest).length 0 (some 1)=0/\HT.sIx (w::rest).length (w::rest).length none=(w::rest).length):=by
 rintro⟨h1,_⟩
 rw[show(1:Int)=((1:Nat):Int) from rfl,HT.sIx_nat,bM] at h1
 lia
theorem JR{K:Fg}{st rl kl fd p a:Addr}{i k:Nat}{refs fs rest:List V}{w:Str}{ks:List Str}{H:Hp}{D:og}{o6 o7:Option V}(hkl:H kl=some (.lst refs))(hr:refs[i]?=some (.ref a))(ha:H a=some (.lst (ks.map V.str)))(len:ks.length<=100)(S:kh K H st k)(hk:k<=750000)(na:a≠st)(nk:kl≠st)
  (hp:H p=some (.tup (.str w::rest))) (rne:rest≠[]) (rl4:rest.length<=4) (ok:∀x∈rest,Cq ks H x) (cs5:(rest.map vY).sum<=5) (hfd:H fd=some (.lst fs)) (fl:fs.length<=100) (nf:fd≠st)
  (q:∀(o6 o7:Option V) (p':Addr) (vs:List V) (k':Nat) (H':Hp),H' fd=some (.lst (fs++[.ref p']))->H' p'=some (.tup (.str w::vs))->cK (D4 ks H') vs rest->kh K H' st k'->k'<=k+5->uk st fd H H'->D.nx [some (.ref st),some (.ref rl),some (.ref kl),some (.ref fd),some (.int (i:Nat)),some (.ref p),o6,o7] H') :
  oW K D [some (.ref st),some (.ref rl),some (.ref kl),some (.ref fd),some (.int (i:Nat)),some (.ref p),o6,o7] H:=by
 obtain⟨ys0,hst⟩:=S.lst
 refine⟨(by show 0<=sizeLine;decide),λsm hsm=>?_⟩
 have nsm:sm≠st:=λz=>by rw[z,hst] at hsm;cases hsm
 have s1:aV H (upd H sm (.lst [])):=(aV.refl H).new hsm
 have g1:(upd H sm (.lst [])) sm=some (.lst []):=ag
 show tV K D [some (.ref st),some (.ref rl),some (.ref kl),some (.ref fd),some (.int (i:Nat)),some (.ref p),some (.ref sm),o7] (upd H sm (.lst []))
 generalize upd H sm (.lst [])=H1 at s1 g1 ⊢
 refine .inr ⟨_,rfl,_,rfl,.inr ⟨p,_,rfl,dZ.of (s1 _ _ hp),Eh _ rne,λtp htp=>?_⟩⟩
 rw[Ei]
 have s2:aV H (upd H1 tp (.tup rest)):=s1.new htp
 have g2:(upd H1 tp (.tup rest)) sm=some (.lst []):=by rw[ax (ar g1 htp)];exact g1
 have t2:(upd H1 tp (.tup rest)) tp=some (.tup rest):=ag
 generalize upd H1 tp (.tup rest)=H2 at s2 g2 t2 ⊢
 have nts:tp≠st:=Ne.symm (mz (s2 _ _ hst) t2)
 have ntm:tp≠sm:=Ne.symm (mz g2 t2)
 have nfm:fd≠sm:=ar hfd hsm
 have nkm:kl≠sm:=ar hkl hsm
 have nam:a≠sm:=ar ha hsm
 have nps:p≠st:=Ne.symm (mz hst hp)
 have npm:p≠sm:=ar hp hsm
 refine⟨tp,rfl,⟨_,dZ.of t2⟩,kR (xs:=rest) (λj σ' H'=>∃(vs:List V) (k':Nat) (o:Option V),σ'=[some (.ref st),some (.ref rl),some (.ref kl),some (.ref fd),some (.int (i:Nat)),some (.ref p),some (.ref sm),o]/\H' sm=some (.lst vs)/\cK (D4 ks H') vs (rest.take j)/\kh K H' st k'/\k'<=k+((rest.take j).map vY).sum/\uk st sm H2 H') ?_ ?_ ?_ ?_⟩
 ·exact⟨[],k,o7,rfl,g2,.nil,S.same s2,by simp,.refl _ _ _⟩
 ·rintro j σ' H' _ ⟨_,_,_,_,_,_,_,_,B⟩
  exact dZ.of (B tp _ nts ntm t2)
 ·rintro j x σ' H' hx ⟨vs,k',o,rfl,hvs,hA,S',hk',B'⟩
  have jl:j<rest.length:=(af.mp hx).1
  have et:rest.take (j+1)=rest.take j++[x]:=by rw[fr,hx];rfl
  have c5:((rest.take j).map vY).sum<=5:=by
   have e:=congrArg (λl=>(l.map vY).sum) (List.take_append_drop j rest)
   simp only[aN,List.sum_append] at e
   lia
  have vl:vs.length<=4:=by rw[hA.len,be];lia
  refine Es (B' kl _ nk nkm (s2 _ _ hkl)) hr (B' a _ na nam (s2 _ _ ha)) len S' (by lia) na nk hvs (by lia) nsm (((ok x (aA hx)).mono (.of_same s2)).mono (B'.tp (s2 _ _ hst) g2)) λy k2 H3 f h3 S3 l3 B3=>?_
  obtain⟨ys1,hst'⟩:=S'.lst
  refine⟨vs++[y],k2,_,rfl,h3,?_,S3,?_,B'.trans B3⟩
  ·rw[et];exact(hA.imp λ_ _ z=>z.mono (B3.tp hst' hvs)).snoc f
  ·rw[et,aN,List.sum_append]
   show k2<=k+(((rest.take j).map vY).sum+(vY x+0))
   lia
 ·rintro σ' H3 ⟨vs,k',o,rfl,hvs,hA,S',hk',B'⟩
  rw[bK] at hA hk'
  have h3p:=B' p _ nps npm (s2 _ _ hp)
  have h3f:=B' fd _ nf nfm (s2 _ _ hfd)
  obtain⟨ys1,hst'⟩:=S'.lst
  have vl:vs.length=rest.length:=hA.len
  have vne:vs≠[]:=λz=>rne (du.mp (by rw[<-vl,z];rfl))
  have BH:fh st H H3:=(uk.but (s2.but) hsm B')
  refine⟨_,rfl,.inl ⟨rfl,_,ce.of h3f⟩,_,rfl,dM h3p (by decide) rfl ⟨(by show 1<=sizeLine;decide),λt1 ht1=>⟨_,rfl,sm,_,rfl,.inl ⟨ce.of (by rw[ax (ar hvs ht1)];exact hvs),λt4 ht4=>?_⟩⟩⟩⟩
  have n14:t1≠t4:=ar ag ht4
  refine .inr (.inr (.inr ⟨t1,t4,[.str w],vs,rfl,rfl,dZ.of (by rw[ax n14];exact ag),dZ.of ag,by simp,?_,λz=>absurd z vne,λ_ t5 ht5=>?_⟩))
  ·have:=cc (n:=100) (by decide)
   show 1+vs.length<=sizeLine
   lia
  have s5:aV H3 (upd (upd (upd H3 t1 (.tup [.str w])) t4 (.tup vs)) t5 (.tup (.str w::vs))):=(((aV.refl H3).new ht1).new ht4).new ht5
  have g5:(upd (upd (upd H3 t1 (.tup [.str w])) t4 (.tup vs)) t5 (.tup (.str w::vs))) t5=some (.tup (.str w::vs)):=ag
  show eC (.ref fd) [.ref t5] (upd (upd (upd H3 t1 (.tup [.str w])) t4 (.tup vs)) t5 (.tup (.str w::vs))) λx H1=>D.nx [some (.ref st),some (.ref rl),some (.ref kl),some (.ref fd),some (.int (i:Nat)),some (.ref p),some (.ref sm),o] H1
  generalize upd (upd (upd H3 t1 (.tup [.str w])) t4 (.tup vs)) t5 (.tup (.str w::vs))=H5 at s5 g5 ⊢
  have h5f:=s5 _ _ h3f
  refine⟨fd,_,_,rfl,rfl,h5f,cc (by lia),?_⟩
  have tp6:Tp H5 (upd H5 fd (.lst (fs++[.ref t5]))):=(Tp.refl H5).lst h5f
  refine q _ _ t5 vs k' _ ag (tp6 _ _ g5) ((hA.imp λ_ _ z=>z.mono (.of_same s5)).imp λ_ _ z=>z.mono tp6) ((S'.same s5).mono .upd_at h5f (Ne.symm nf)) (by lia) ?_
  exact λc u n m h=>by rw[ax m];exact s5 _ _ (BH c u n h)
theorem FJ{s:Str}(h:s∈BR):s≠"":=by
 intro e
 subst e
 exact absurd h (by decide +kernel)
theorem xU{as bs:List Str}(h:as.map V.str=bs.map V.str):as.length=bs.length:=by
 have:=congrArg jz h
 simpa using this
theorem rZ{ks:List Str}{H:Hp}{y:V}{s:Str}(h:D4 ks H y (.str s))(n:s≠""):y=.str s:=h.2 n
theorem pF{ks:List Str}{H:Hp}{y:V}(h:D4 ks H y (.str "")):∃z∈ks,y=.str z:=h.1 rfl
theorem rX{s:Str}(n:s≠""):vY (.str s)=0:=by
 show(if s="" then 1 else 0)=0
 rw[if_neg n]
theorem MW{vs:List V}(h:vs.length=2):∃a b,vs=[a,b]:=by
 match vs,h with
 |[a,b],_=>exact⟨a,b,rfl⟩
theorem MI{vs:List V}(h:vs.length=1):∃a,vs=[a]:=by
 match vs,h with
 |[a],_=>exact⟨a,rfl⟩
theorem M9{vs:List V}(h:vs.length=3):∃a b c,vs=[a,b,c]:=by
 match vs,h with
 |[a,b,c],_=>exact⟨a,b,c,rfl⟩
theorem Na{vs:List V}(h:vs.length=4):∃a b c d,vs=[a,b,c,d]:=by
 match vs,h with
 |[a,b,c,d],_=>exact⟨a,b,c,d,rfl⟩
theorem GX{H:Hp}{p:Addr}{r:ba}{ys ks:List Str}{cs:List Nat}{n:Nat}(hra:dD H (.ref p) r)(ro:sA ys cs n r)(yne:∀y∈ys,y≠"")(cs4:∀c∈cs,c<=4)(hks:ks≠[]\/sS r=true) :
  ∃rest,H p=some (.tup (.str (oj r)::rest))/\rest≠[]/\rest.length<=4/\(∀x∈rest,Cq ks H x)/\(rest.map vY).sum<=5/\∀(H':Hp) (p':Addr) (vs:List V),cK (D4 ks H') vs rest->H' p'=some (.tup (.str (oj r)::vs))->Tp H H'->∃r',dD H' (.ref p') r'/\jK ks r r':=by
 cases r with
 |num x z=>
  obtain⟨p',e,h⟩:=hra
  cases e
  have xn:=yne x ro.1
  refine⟨_,h,by simp,by simp,λv hv=>?_,?_,λH' p' vs hA hp' t=>?_⟩
  ·rcases aJ.mp hv with rfl|hv
   ·exact λz=>absurd z xn
   ·rw[ae.mp hv];exact trivial
  ·show vY (.str x)+(0+0)<=5
   rw[rX xn];decide
  ·obtain⟨a,b,rfl⟩:=MW hA.len
   have e1:=rZ (hA.at_ 0 _ _ rfl rfl) xn
   have e2:b=.int z:=hA.at_ 1 _ _ rfl rfl
   subst e1 e2
   exact⟨.num x z,⟨p',rfl,hp'⟩,rfl⟩
 |op x s a b=>
  obtain⟨p',e,h⟩:=hra
  cases e
  obtain⟨xy,ss,rfl,rfl⟩:=ro
  have xn:=yne x xy
  have sn:=FJ ss
  have kn:ks≠[]:=hks.resolve_right (by intro z;cases z)
  refine⟨_,h,by simp,by simp,λv hv=>?_,?_,λH' p' vs hA hp' t=>?_⟩
  ·rcases aJ.mp hv with rfl|hv
   ·exact λz=>absurd z xn
   ·rcases aJ.mp hv with rfl|hv
    ·exact λz=>absurd z sn
    ·rcases aJ.mp hv with rfl|hv
     ·exact λ_=>kn
     ·rw[ae.mp hv];exact λ_=>kn
  ·show vY (.str x)+(vY (.str s)+(vY (.str "")+(vY (.str "")+0)))<=5
   rw[rX xn,rX sn];decide +kernel
  ·obtain⟨v1,v2,v3,v4,rfl⟩:=Na hA.len
   have e1:=rZ (hA.at_ 0 _ _ rfl rfl) xn
   have e2:=rZ (hA.at_ 1 _ _ rfl rfl) sn
   obtain⟨z3,m3,e3⟩:=pF (hA.at_ 2 _ _ rfl rfl)
   obtain⟨z4,m4,e4⟩:=pF (hA.at_ 3 _ _ rfl rfl)
   subst e1 e2 e3 e4
   exact⟨.op x s z3 z4,⟨p',rfl,hp'⟩,z3,z4,rfl,m3,m4⟩
 |call x k as=>
  obtain⟨p',q,e,h,hq⟩:=hra
  cases e
  obtain⟨xy,c,hc,rfl⟩:=ro
  have xn:=yne x xy
  have kn:ks≠[]:=hks.resolve_right (by intro z;cases z)
  have c4:=cs4 c (aA hc)
  refine⟨_,h,by simp,by simp,λv hv=>?_,?_,λH' p' vs hA hp' t=>?_⟩
  ·rcases aJ.mp hv with rfl|hv
   ·exact λz=>absurd z xn
   ·rcases aJ.mp hv with rfl|hv
    ·exact trivial
    ·rw[ae.mp hv];exact⟨_,hq,by rw[bf];exact c4,kn⟩
  ·show vY (.str x)+(0+(4+0))<=5
   rw[rX xn];decide
  ·obtain⟨v1,v2,v3,rfl⟩:=M9 hA.len
   have e1:=rZ (hA.at_ 0 _ _ rfl rfl) xn
   have e2:v2=.int (k:Nat):=hA.at_ 1 _ _ rfl rfl
   obtain⟨as',bs,q',hq',e3,h3,hl,hm⟩:=(show D4 ks H' v3 (.ref q) from hA.at_ 2 _ _ rfl rfl)
   subst e1 e2 e3
   have:=t _ _ hq
   rw[hq'] at this
   have e:=xU (HO.tup.inj (Option.some.inj this))
   exact⟨.call x k bs,⟨p',q',rfl,hp',h3⟩,bs,rfl,hl.trans e,hm⟩
 |say a=>
  obtain⟨p',e,h⟩:=hra
  cases e
  have ro:a="":=ro
  subst ro
  have kn:ks≠[]:=hks.resolve_right (by intro z;cases z)
  refine⟨_,h,by simp,by simp,λv hv=>?_,?_,λH' p' vs hA hp' t=>?_⟩
  ·rw[ae.mp hv];exact λ_=>kn
  ·show vY (.str "")+0<=5
   decide +kernel
  ·obtain⟨v1,rfl⟩:=MI hA.len
   obtain⟨z,m,e⟩:=pF (hA.at_ 0 _ _ rfl rfl)
   subst e
   exact⟨.say z,⟨p',rfl,hp'⟩,z,rfl,m⟩
 |jump to=>
  obtain⟨p',e,h⟩:=hra
  cases e
  refine⟨_,h,by simp,by simp,λv hv=>?_,?_,λH' p' vs hA hp' t=>?_⟩
  ·rw[ae.mp hv];exact trivial
  ·show 0+0<=5
   decide
  ·obtain⟨v1,rfl⟩:=MI hA.len
   have e:v1=.int (to:Nat):=hA.at_ 0 _ _ rfl rfl
   subst e
   exact⟨.jump to,⟨p',rfl,hp'⟩,rfl⟩
 |test a to=>
  obtain⟨p',e,h⟩:=hra
  cases e
  obtain⟨ro,_⟩:a=""/\_:=ro
  subst ro
  have kn:ks≠[]:=hks.resolve_right (by intro z;cases z)
  refine⟨_,h,by simp,by simp,λv hv=>?_,?_,λH' p' vs hA hp' t=>?_⟩
  ·rcases aJ.mp hv with rfl|hv
   ·exact λ_=>kn
   ·rw[ae.mp hv];exact trivial
  ·show vY (.str "")+(0+0)<=5
   decide +kernel
  ·obtain⟨v1,v2,rfl⟩:=MW hA.len
   obtain⟨z,m,e⟩:=pF (hA.at_ 0 _ _ rfl rfl)
   have e2:v2=.int (to:Nat):=hA.at_ 1 _ _ rfl rfl
   subst e e2
   exact⟨.test z to,⟨p',rfl,hp'⟩,z,rfl,m⟩
 |give a=>
  obtain⟨p',e,h⟩:=hra
  cases e
  have ro:a="":=ro
  subst ro
  have kn:ks≠[]:=hks.resolve_right (by intro z;cases z)
  refine⟨_,h,by simp,by simp,λv hv=>?_,?_,λH' p' vs hA hp' t=>?_⟩
  ·rw[ae.mp hv];exact λ_=>kn
  ·show vY (.str "")+0<=5
   decide +kernel
  ·obtain⟨v1,rfl⟩:=MI hA.len
   obtain⟨z,m,e⟩:=pF (hA.at_ 0 _ _ rfl rfl)
   subst e
   exact⟨.give z,⟨p',rfl,hp'⟩,z,rfl,m⟩
theorem Fs{K:Fg}{vs:List V}{H:Hp}{Q:VK}{E:XK}(h:jj K vs H Q E):yH K {nx:=λ_ H'=>Q .non H',rt:=Q} (cY pw vs) H:=by
 obtain⟨st,rl,kl,k,rvs,refs,rs,kss,ys,cs,rfl,S,hk,hrl,hA,hOk,yne,cs4,hkl,hT,klen,k100,kne,rst,nrl,nkl,q⟩:=h
 obtain⟨ys0,hst⟩:=S.lst
 refine⟨(by show 0<=sizeLine;decide),λfd hfd=>?_⟩
 have nf:fd≠st:=λz=>by rw[z,hst] at hfd;cases hfd
 have s1:aV H (upd H fd (.lst [])):=(aV.refl H).new hfd
 have g1:(upd H fd (.lst [])) fd=some (.lst []):=ag
 show tW K _ [some (.ref st),some (.ref rl),some (.ref kl),some (.ref fd),none,none,none,none] (upd H fd (.lst []))
 generalize upd H fd (.lst [])=H1 at s1 g1 ⊢
 refine⟨_,rfl,rl,rfl,⟨_,ce.of (s1 _ _ hrl)⟩,Ev (xs:=rvs) (λi σ' H'=>∃(fs:List V) (rs':List ba) (k':Nat) (o4 o5 o6 o7:Option V),σ'=[some (.ref st),some (.ref rl),some (.ref kl),some (.ref fd),o4,o5,o6,o7]/\H' fd=some (.lst fs)/\cK (dD H') fs rs'/\rs'.length=i/\
  (∀(j:Nat) ks r r',kss[j]?=some ks->rs[j]?=some r->rs'[j]?=some r'->jK ks r r')/\kh K H' st k'/\k'<=k+5*i/\fh st H H') ?_ ?_ ?_ ?_⟩
 ·exact⟨[],[],k,none,none,none,none,rfl,g1,.nil,rfl,λj ks r r' _ _ z=>by simp at z,S.same s1,by lia,s1.but⟩
 ·rintro i σ' H' _ ⟨_,_,_,_,_,_,_,_,_,_,_,_,_,_,B⟩
  exact ce.of (B rl _ nrl hrl)
 ·rintro i x σ' H' tp hx htp ⟨fs,rs',k',o4,o5,o6,o7,rfl,hfs,hR,rlen,hF,S',hk',B'⟩
  obtain⟨r,hr,hra⟩:=hA.of_v hx
  obtain⟨p,xs,rfl,_⟩:=hra.ref
  have il:i<rs.length:=(af.mp hr).1
  have few:=hOk.few
  obtain⟨v,ks,e1,e2,a,rfl,ha⟩:=hT.get (i:=i) (by rw[klen];exact il)
  have na:a≠st:=λz=>rst (.ref a) (aA e1) (by rw[z])
  have B2:fh st H (upd H' tp (.tup [.int (i:Nat),.ref p])):=B'.new htp
  have s2:aV H' (upd H' tp (.tup [.int (i:Nat),.ref p])):=(aV.refl H').new htp
  have g2:(upd H' tp (.tup [.int (i:Nat),.ref p])) tp=some (.tup [.int (i:Nat),.ref p]):=ag
  generalize upd H' tp (.tup [.int (i:Nat),.ref p])=H2 at B2 s2 g2 ⊢
  refine⟨tp,_,rfl,dZ.of g2,rfl,_,_,rfl,_,_,rfl,rfl,?_⟩
  show oW K _ [some (.ref st),some (.ref rl),some (.ref kl),some (.ref fd),some (.int (i:Nat)),some (.ref p),o6,o7] H2
  have T2:Tp H H2:=.of_but B2 hst
  obtain⟨rest,h1,h2,h3,h4,h5,h6⟩:=GX (ks:=ks) (hra.mono T2) (hOk.rough r (aA hr)) yne cs4 (kne i ks r e2 hr)
  have f2:=s2 _ _ hfs
  have S2:=S'.same s2
  obtain⟨ys2,hst2⟩:=S2.lst
  refine JR (B2 kl _ nkl hkl) e1 (B2 a _ na ha) (k100 i ks e2) S2 (by lia) na nkl h1 h2 h3 h4 h5 f2 (by rw[hR.len,rlen];lia) nf λp6 p7 p' vs k3 H3 f3 g3 hA3 S3 l3 B3=>?_
  have T3:Tp H2 H3:=B3.tp hst2 f2
  obtain⟨r',hr',hf'⟩:=h6 H3 p' vs hA3 g3 T3
  refine⟨fs++[.ref p'],rs'++[r'],k3,_,_,_,_,rfl,f3,((hR.imp λ_ _ z=>(z.mono (.of_same s2)).mono T3)).snoc hr',by simp[rlen],λj ks' r1 r2 a1 a2 a3=>?_,S3,by lia,?_⟩
  ·by_cases c:j<rs'.length
   ·rw[bJ c] at a3
    exact hF j ks' r1 r2 a1 a2 a3
   ·have c2:j=i:=by
     have:=(af.mp a3).1
     rw[ai,aS] at this
     lia
    subst c2
    rw[aX (by lia),rlen,dB] at a3
    cases a3
    rw[e2] at a1;cases a1
    rw[hr] at a2;cases a2
    exact hf'
  ·exact λc u n h=>by
    have hc:=B2 c u n h
    exact B3 c u n (ar h hfd) hc
 ·rintro σ' H' ⟨fs,rs',k',o4,o5,o6,o7,rfl,hfs,hR,rlen,hF,S',hk',B'⟩
  rw[hA.len] at rlen hk'
  refine⟨_,rfl,fd,_,rfl,.inl ⟨ce.of hfs,λl hl=>?_⟩⟩
  exact q l fs rs' k' _ ag (hR.imp λ_ _ z=>z.mono ((Tp.refl H').new hl)) rlen hF (S'.new hl) hk' (B'.new hl)
theorem Cl{K:Fg}{H:Hp}{st:Addr}{k:Nat}{v:V}{ks:List Str}(S:kh K H st k)(h:vP H v ks):v≠.ref st:=by
 rintro rfl
 obtain⟨a,e,h⟩:=h
 cases e
 obtain⟨scr,ns,c,hs,_⟩:=S
 rw[h] at hs
 cases ks with
 |nil=>cases hs
 |cons y r=>cases hs
theorem zM{ks:List Str}{r r':ba}(h:jK ks r r')(n:Nat):bS n r'=bS n r:=by
 cases r with
 |num x z=>have h:r'=.num x z:=h;subst h;rfl
 |op x s a b=>obtain⟨_,_,rfl,_⟩:=h;rfl
 |call x k as=>obtain⟨_,rfl,_⟩:=h;rfl
 |say a=>obtain⟨_,rfl,_⟩:=h;rfl
 |jump t=>have h:r'=.jump t:=h;subst h;rfl
 |test a t=>obtain⟨_,rfl,_⟩:=h;rfl
 |give a=>obtain⟨_,rfl,_⟩:=h;rfl
theorem CI{ks:List Str}{r r':ba}(h:jK ks r r'):gI r'=gI r:=by
 cases r with
 |num x z=>have h:r'=.num x z:=h;subst h;rfl
 |op x s a b=>obtain⟨_,_,rfl,_⟩:=h;rfl
 |call x k as=>obtain⟨_,rfl,_⟩:=h;rfl
 |say a=>obtain⟨_,rfl,_⟩:=h;rfl
 |jump t=>have h:r'=.jump t:=h;subst h;rfl
 |test a t=>obtain⟨_,rfl,_⟩:=h;rfl
 |give a=>obtain⟨_,rfl,_⟩:=h;rfl
theorem Er{ks:List Str}{r r':ba}(h:jK ks r r'):jW r'=jW r:=by
 cases r with
 |num x z=>have h:r'=.num x z:=h;subst h;rfl
 |op x s a b=>obtain⟨_,_,rfl,_⟩:=h;rfl
 |call x k as=>obtain⟨_,rfl,_⟩:=h;rfl
 |say a=>obtain⟨_,rfl,_⟩:=h;rfl
 |jump t=>have h:r'=.jump t:=h;subst h;rfl
 |test a t=>obtain⟨_,rfl,_⟩:=h;rfl
 |give a=>obtain⟨_,rfl,_⟩:=h;rfl
theorem CH{ks:List Str}{r r':ba}(h:jK ks r r'):fL r'=fL r:=by
 cases r with
 |num x z=>have h:r'=.num x z:=h;subst h;rfl
 |op x s a b=>obtain⟨_,_,rfl,_⟩:=h;rfl
 |call x k as=>obtain⟨_,rfl,_⟩:=h;rfl
 |say a=>obtain⟨_,rfl,_⟩:=h;rfl
 |jump t=>have h:r'=.jump t:=h;subst h;rfl
 |test a t=>obtain⟨_,rfl,_⟩:=h;rfl
 |give a=>obtain⟨_,rfl,_⟩:=h;rfl
theorem zN{ks:List Str}{r r':ba}(h:jK ks r r'):∀y∈eN r',y∈ks:=by
 cases r with
 |num x z=>have h:r'=.num x z:=h;subst h;intro y hy;cases hy
 |op x s a b=>
  obtain⟨c,d,rfl,h1,h2⟩:=h
  intro y hy
  rcases aJ.mp hy with rfl|hy
  ·exact h1
  ·rw[ae.mp hy];exact h2
 |call x k as=>obtain⟨_,rfl,_,h⟩:=h;exact h
 |say a=>obtain⟨_,rfl,h⟩:=h;intro y hy;rw[ae.mp hy];exact h
 |jump t=>have h:r'=.jump t:=h;subst h;intro y hy;cases hy
 |test a t=>obtain⟨_,rfl,h⟩:=h;intro y hy;rw[ae.mp hy];exact h
 |give a=>obtain⟨_,rfl,h⟩:=h;intro y hy;rw[ae.mp hy];exact h
theorem GY{ys ks:List Str}{cs:List Nat}{n:Nat}{r r':ba}(ro:sA ys cs n r)(hk:∀y∈ks,y∈ys)(h:jK ks r r'):Ea ys cs n r':=by
 cases r with
 |num x z=>have h:r'=.num x z:=h;subst h;exact ro
 |op x s a b=>obtain⟨c,d,rfl,h1,h2⟩:=h;exact⟨ro.1,ro.2.1,hk _ h1,hk _ h2⟩
 |call x k as=>
  obtain⟨bs,rfl,hl,h⟩:=h
  obtain⟨r1,c,r2,r3⟩:=ro
  refine⟨r1,?_,λa ha=>hk _ (h a ha)⟩
  rw[hl,r3,bf];exact r2
 |say a=>obtain⟨_,rfl,h⟩:=h;exact hk _ h
 |jump t=>have h:r'=.jump t:=h;subst h;exact ro
 |test a t=>obtain⟨_,rfl,h⟩:=h;exact⟨hk _ h,ro.2⟩
 |give a=>obtain⟨_,rfl,h⟩:=h;exact hk _ h
structure oo(rs rs':List ba):Prop where
 len:rs'.length=rs.length
 fill:∀(i:Nat) r r',rs[i]?=some r->rs'[i]?=some r'->∃ks,jK ks r r'
theorem oo.get{rs rs':List ba}(h:oo rs rs'){i:Nat}{r':ba}(e:rs'[i]?=some r'):∃r ks,rs[i]?=some r/\jK ks r r':=by
 have hi:i<rs.length:=by rw[<-h.len];exact(af.mp e).1
 obtain⟨ks,f⟩:=h.fill i _ _ (aa hi) e
 exact⟨_,ks,aa hi,f⟩
theorem oo.stp{rs rs':List ba}(h:oo rs rs')(n:Nat):stp rs' n=stp rs n:=by
 unfold Bg.stp
 cases e:rs'[n]? with
 |none=>
  have:rs[n]?=none:=by rw[List.getElem?_eq_none_iff] at e ⊢;rw[<-h.len];exact e
  rw[this]
 |some r'=>
  obtain⟨r,ks,e1,f⟩:=h.get e
  rw[e1]
  cases r with
  |num x z=>have f:r'=.num x z:=f;subst f;rfl
  |op x s a b=>obtain⟨_,_,rfl,_⟩:=f;rfl
  |call x k as=>obtain⟨_,rfl,_⟩:=f;rfl
  |say a=>obtain⟨_,rfl,_⟩:=f;rfl
  |jump t=>have f:r'=.jump t:=f;subst f;rfl
  |test a t=>obtain⟨_,rfl,_⟩:=f;rfl
  |give a=>obtain⟨_,rfl,_⟩:=f;rfl
theorem oo.runJ{rs rs':List ba}(h:oo rs rs'):∀(k n:Nat),runJ rs' k n=runJ rs k n
 |0,_=>rfl
 |k+1,n=>by
  show Bg.runJ rs' k (Bg.stp rs' n)=Bg.runJ rs k (Bg.stp rs n)
  rw[h.stp];exact oo.runJ h k _
theorem oo.ring{rs rs':List ba}(h:oo rs rs')(q:su rs):su rs':=by
 intro n hn r' e
 rw[h.len] at hn
 rw[h.len,h.runJ] at e
 obtain⟨r,ks,e1,f⟩:=h.get e
 rw[CH f];exact q n hn r e1
theorem K8{K:Fg}{vs:List V}{H:Hp}{Q:VK}{E:XK}(h:mL K vs H Q E):Gj K {nx:=λ_ H'=>Q .non H',rt:=Q} (cY vM vs) H:=by
 obtain⟨st,nm,pr,cn,wd,m,k,ys,ps,cs,rfl,S,hk,hnm,ysne,ysl,yne,hpr,psl,pnd,pin,hcn,csne,csl,cs4,m1,m50,nnm,npr,ncn,q⟩:=h
 refine⟨_,rfl,_,_,rfl,.inl ⟨_,ce.of hpr,rfl⟩,.inl ⟨rfl,.inr ⟨_,rfl,.inl ⟨_,_,rfl,rfl,_,rfl,_,rfl,st,_,k,rfl,S,by lia,by lia,by lia,λd H1 d0 d1 S1 B1=>.inl ⟨_,_,rfl,rfl,_,_,rfl,?_⟩⟩⟩⟩⟩
 rw[ab]
 obtain⟨n,hn,n1,n51,nm1,n2⟩:∃n:Nat,(if 1+d>1+(if decide (V.int ((ps.length:Nat):Int)=V.int 0)=true then 1 else 0) then 1+d else 1+(if decide (V.int ((ps.length:Nat):Int)=V.int 0)=true then 1 else 0))=(n:Int)/\1<=n/\n<=52/\n<=m+1/\(ps=[]->2<=n):=by
  by_cases c:ps=[]
  ·have e:decide (V.int ((ps.length:Nat):Int)=V.int 0)=true:=by rw[c];rfl
   rw[e,if_pos rfl]
   by_cases c2:1+d>1+1
   ·rw[if_pos c2];exact⟨(1+d).toNat,by lia,by lia,by lia,by lia,λ_=>by lia⟩
   ·rw[if_neg c2];exact⟨2,rfl,by lia,by lia,by lia,λ_=>by lia⟩
  ·have e:decide (V.int ((ps.length:Nat):Int)=V.int 0)=false:=decide_eq_false λz=>c (du.mp (by injection z with z;lia))
   rw[e,if_neg Bool.false_ne_true]
   by_cases c2:1+d>1+0
   ·rw[if_pos c2];exact⟨(1+d).toNat,by lia,by lia,by lia,by lia,λz=>absurd z c⟩
   ·rw[if_neg c2];exact⟨1,rfl,by lia,by lia,by lia,λz=>absurd z c⟩
 rw[hn]
 show zf K _ [some (.ref st),some (.str wd),some (.ref nm),some (.ref pr),some (.ref cn),some (.int (m:Nat)),some (.int (n:Nat)),none,none] H1
 refine⟨_,rfl,_,rfl,by lia,by lia,λL hL=>?_⟩
 obtain⟨ys1,hs1⟩:=S1.lst
 have nL:L≠st:=λz=>by rw[z,hs1] at hL;cases hL
 have HL:H L=none:=B1.free nL hL
 refine sJ (λi σ' H'=>∃(rvs:List V) (rs:List ba) (k':Nat) (o:Option V),σ'=[some (.ref st),some (.str wd),some (.ref nm),some (.ref pr),some (.ref cn),some (.int (m:Nat)),some (.int (n:Nat)),none,none,o]/\
  H' L=some (.lst rvs)/\cK (dD H') rvs rs/\rs.length=i/\(∀r∈rs,sA ys cs n r)/\kh K H' st k'/\k'<=k+1+8*i/\fh st H H') ?_ ?_ ?_
 ·exact⟨[],[],k+1,none,rfl,ag,.nil,rfl,by simp,S1.new hL,by lia,B1.new hL⟩
 ·rintro i σ' H' hi ⟨rvs,rs,k',o,rfl,hrl,hA,rlen,ro,S',hk',B'⟩
  have hi:i<n:=by simpa using hi
  refine j4 ⟨_,rfl,_,rfl,_,rfl,_,rfl,st,nm,cn,n,k',ys,cs,rfl,S',by lia,B' nm _ nnm hnm,ysne,ysl,n1,by lia,B' cn _ ncn hcn,csne,csl,cs4,nnm,ncn,λv r k2 H2 hv hr S2 l2 B2=>?_⟩
  have h2:=B2 L _ nL hrl
  have t2:Tp H' H2:=by obtain⟨_,e⟩:=S'.lst;exact .of_but B2 e
  have t3:Tp H2 (upd H2 L (.lst (rvs++[v]))):=(Tp.refl H2).lst h2
  refine⟨_,h2,cc (by rw[hA.len];lia),rvs++[v],rs++[r],k2,_,rfl,ag,(hA.imp λ_ _ z=>(z.mono t2).mono t3).snoc (hv.mono t3),by simp[rlen],λr' hr'=>?_,S2.mono .upd_at h2 (Ne.symm nL),by lia,?_⟩
  ·rcases aB.mp hr' with z|z
   ·exact ro r' z
   ·rw[ae.mp z];exact hr
  ·exact fh.past (B'.trans B2) HL .upd_at
 ·rintro σ' H2 ⟨rvs,rs,k2,o,_,hrl,hA,rlen,ro,S2,hk2,B2⟩
  have rlen:rs.length=n:=by simpa using rlen
  have hk2:k2<=k+1+8*n:=by simpa using hk2
  have nnL:nm≠L:=ar hnm HL
  have npL:pr≠L:=ar hpr HL
  have Ok:sB ys cs rs:=⟨λz=>by rw[z] at rlen;simp at rlen;lia,by lia,by rw[rlen];exact ro⟩
  show ze K _ [some (.ref st),some (.str wd),some (.ref nm),some (.ref pr),some (.ref cn),some (.int (m:Nat)),some (.int (n:Nat)),some (.ref L),none] H2
  have hpr2:=B2 pr _ npr hpr
  have ebare:decide (V.int (((ps.map V.str).length:Nat):Int)=V.int 0)=true->ps=[]:=λz=>by
   have z':=of_decide_eq_true z
   rw[ab] at z'
   injection z' with z'
   exact du.mp (by lia)
  have ebare':ps=[]->decide (V.int (((ps.map V.str).length:Nat):Int)=V.int 0)=true:=λz=>by rw[z];rfl
  refine⟨_,rfl,_,rfl,_,rfl,_,_,rfl,.inl ⟨_,ce.of hpr2,rfl⟩,.inl ⟨rfl,L,nm,_,rvs,rs,ys,sA ys cs n,rfl,hrl,hA,Ok.pos,Ok.few,ro,rfl,rfl,λt ht=>by rw[rlen];exact ht,B2 nm _ nnm hnm,ysne,λy hy _=>⟨hy,by decide,by decide⟩,nnL,λz=>by rw[rlen];exact n2 (ebare z),λrvs' rs' H3 h3 hA3 len3 hR3 hE3 hN3 hJ3 B3=>?_⟩⟩
  have n3:rs'.length=n:=len3.trans rlen
  have Ok3:sB ys cs rs':=⟨λz=>by rw[z] at n3;simp at n3;lia,by lia,by rw[n3];exact hR3⟩
  have S3:kh K H3 st k2:=S2.mono B3 hrl (Ne.symm nL)
  have BH3:fh st H H3:=fh.past B2 HL B3
  show zd K _ [some (.ref st),some (.str wd),some (.ref nm),some (.ref pr),some (.ref cn),some (.int (m:Nat)),some (.int (n:Nat)),some (.ref L),none] H3
  refine⟨_,rfl,_,rfl,_,rfl,L,nm,pr,rvs',rs',ys,ps,cs,rfl,h3,hA3,Ok3,hE3,BH3 nm _ nnm hnm,ysl,BH3 pr _ npr hpr,psl,pin,λz=>hN3 (ebare' z),λkl refs kss H4 hkl h4 hT lk hK hKn s4=>?_⟩
  have S4:=S3.same s4
  have BH4:fh st H H4:=BH3.trans s4.but
  have nkl:kl≠st:=λz=>by obtain⟨_,e⟩:=S3.lst;rw[z,e] at hkl;cases hkl
  show zc K _ [some (.ref st),some (.str wd),some (.ref nm),some (.ref pr),some (.ref cn),some (.int (m:Nat)),some (.int (n:Nat)),some (.ref L),some (.ref kl)] H4
  refine⟨_,rfl,_,rfl,pr,_,rfl,.inl ⟨ce.of (BH4 pr _ npr hpr),λt ht=>?_⟩⟩
  have s5:aV H4 (upd H4 t (.tup (ps.map V.str))):=(aV.refl H4).new ht
  have g5:(upd H4 t (.tup (ps.map V.str))) t=some (.tup (ps.map V.str)):=ag
  generalize upd H4 t (.tup (ps.map V.str))=H5 at s5 g5 ⊢
  have S5:=S4.same s5
  have hT5:cK (vP H5) refs kss:=hT.imp λ_ _ ⟨a,e,h⟩=>⟨a,e,s5 _ _ h⟩
  refine⟨_,rfl,_,rfl,_,rfl,st,L,kl,k2,rvs',refs,rs',kss,ys,cs,rfl,S5,by lia,s5 _ _ (s4 _ _ h3),(hA3.imp λ_ _ z=>(z.mono (.of_same s4)).mono (.of_same s5)),Ok3,yne,cs4,s5 _ _ h4,hT5,lk,λi ks e=>(hK i ks e).1,λi ks r e1 e2=>?_,λa ha=>?_,nL,nkl,λp rvs6 rs6 k6 H6 h6 hA6 len6 hF S6 l6 B6=>?_⟩
  ·rcases(hK i ks e1).2.2 with z|⟨z1,z2⟩
   ·exact .inl z
   ·subst z1
    have:=hN3 (ebare' z2)
    rw[iM,e2] at this
    exact .inr (Option.some.inj this)
  ·obtain⟨i,hi,e⟩:=fk.mp ha
   obtain⟨ks,_,z⟩:=hT5.of_v (i:=i) (v:=a) (by rw[aa hi,e])
   exact Cl S5 z
  refine⟨(by show 3<=sizeLine;decide),λf hf=>?_⟩
  obtain⟨_,e5⟩:=S5.lst
  have t6:Tp H5 H6:=.of_but B6 e5
  have t7:Tp H6 (upd H6 f (.tup [.str wd,.ref t,.ref p])):=(Tp.refl H6).new hf
  have ksAt:∀(i:Nat) r,rs'[i]?=some r->∃ks,kss[i]?=some ks:=λi r e=>⟨_,aa (by rw[lk];exact(af.mp e).1)⟩
  have al:oo rs' rs6:=⟨len6,λi r r' e1 e2=>by
   obtain⟨ks,ek⟩:=ksAt i r e1
   exact⟨ks,hF i ks r r' ek e1 e2⟩⟩
  have both:∀(i:Nat) r',rs6[i]?=some r'->∃r ks,rs'[i]?=some r/\kss[i]?=some ks/\jK ks r r':=λi r' e=>by
   obtain⟨r,_,e1,_⟩:=al.get e
   obtain⟨ks,ek⟩:=ksAt i r e1
   exact⟨r,ks,e1,ek,hF i ks r r' ek e1 e⟩
  have ok:qy ys cs ⟨wd,ps,rs6⟩:=by
   refine⟨pnd,pin,λz=>?_,?_,λr' hr'=>?_,?_,al.ring hJ3,kss,?_,⟨hKn.zero,λi m r' ks km e hm ek em y hy=>?_⟩,λi r' ks e ek=>?_⟩
   ·have z':rs6=[]:=z
    rw[z',n3] at len6;simp at len6;lia
   ·show rs6.length<=60
    lia
   ·show Ea ys cs rs6.length r'
    obtain⟨i,hi,e⟩:=fk.mp hr'
    obtain⟨r,ks,e1,e2,f⟩:=both i r' (by rw[<-e];exact aa hi)
    rw[len6,n3]
    exact GY (hR3 r (aA e1)) (hK i ks e2).2.1 f
   ·show rs6.getLast?.map jW=some true
    have hl:rs6.length-1<rs6.length:=by lia
    obtain⟨r,ks,e1,e2,f⟩:=both (rs6.length-1) _ (aa hl)
    rw[dQ,aa hl,cS,Er f]
    rw[dQ,<-len6,e1,cS] at hE3
    exact hE3
   ·show kss.length=rs6.length
    rw[lk,len6]
   ·obtain⟨r,ks',e1,e2,f⟩:=both i r' e
    rw[zM f] at hm
    rw[CI f]
    exact hKn.on i m r ks km e1 hm ek em y hy
   ·obtain⟨r,ks',e1,e2,f⟩:=both i r' e
    rw[ek] at e2;cases e2
    exact zN f
  refine q _ ⟨wd,ps,rs6⟩ k6 _ ⟨f,t,p,rvs6,rfl,ag,t7 _ _ (t6 _ _ g5),t7 _ _ h6,hA6.imp λ_ _ z=>z.mono t7⟩ rfl rfl ok (by show rs6.length<=m+1;lia) (S6.new hf) (by lia) ?_
  exact((BH4.trans s5.but).trans B6).new hf
inductive w5(rs:List ba)(un:Option Str):Nat->Prop where
 |zero:w5 rs un 0
 |step {n m:Nat} {r:ba}:w5 rs un n->rs[n]?=some r->(∀y,un=some y->gI r≠.str y)->m∈bS n r->w5 rs un m
structure cp(rs:List ba):Prop where
 pos:0<rs.length
 few:rs.length<64
 inr:∀(n m:Nat) r,rs[n]?=some r->m∈bS n r->m<rs.length
 ring:su rs
theorem w5.lt{rs:List ba}{un:Option Str}(g:cp rs){m:Nat}(h:w5 rs un m):m<rs.length:=by
 cases h with
 |zero=>exact g.pos
 |step _ e _ hm=>exact g.inr _ _ _ e hm
theorem EN{rs:List ba}(hg:∀r∈rs,∀t:Nat,Ex r=.int (t:Nat)->t<rs.length)(hE:rs.getLast?.map jW=some true):∀(n m:Nat) r,rs[n]?=some r->m∈bS n r->m<rs.length:=by
 intro i m r hr mem
 have hi:i<rs.length:=(af.mp hr).1
 have nx:jW r=false->i+1<rs.length:=λhe=>by
  by_cases c:i+1<rs.length
  ·exact c
  ·have ei:i=rs.length-1:=by lia
   rw[dQ,<-ei,hr,cS,he] at hE
   cases hE
 have hm:=hg r (aA hr)
 cases r with
 |jump to=>rw[ae.mp mem];exact hm to rfl
 |test a to=>
  rcases aJ.mp mem with e|e
  ·rw[e];exact nx rfl
  ·rw[ae.mp e];exact hm to rfl
 |give a=>cases mem
 |num x z=>rw[ae.mp mem];exact nx rfl
 |op x s a b=>rw[ae.mp mem];exact nx rfl
 |call x k as=>rw[ae.mp mem];exact nx rfl
 |say a=>rw[ae.mp mem];exact nx rfl
theorem qy.good{ys:List Str}{cs:List Nat}{b:qT}(h:qy ys cs b):cp b.rows:=by
 have:=h.few
 refine⟨eJ.mpr h.pos,by lia,EN (λr hr t e=>?_) h.last,h.ring⟩
 have ro:=h.rows r hr
 cases r with
 |jump to=>
  injection e with e
  have:to=t:=by lia
  subst this;exact ro
 |test a to=>
  injection e with e
  have:to=t:=by lia
  subst this;exact ro.2
 |_=>cases e
theorem yo(rs:List ba):∀(j k n:Nat),runJ rs (j+k) n=runJ rs j (runJ rs k n)
 |j,0,n=>rfl
 |j,k+1,n=>by
  show runJ rs (j+k) (stp rs n)=runJ rs j (runJ rs k (stp rs n))
  exact yo rs j k (stp rs n)
theorem Lh{rs:List ba}(g:cp rs){n:Nat}(h:n<rs.length):stp rs n<rs.length:=by
 unfold stp
 rw[aa h]
 cases e:rs[n] with
 |jump t=>exact g.inr n t (.jump t) (by rw[aa h,e]) (ae.mpr rfl)
 |_=>exact h
theorem mE{rs:List ba}(g:cp rs):∀(k:Nat) {n:Nat},n<rs.length->runJ rs k n<rs.length
 |0,_,h=>h
 |k+1,_,h=>mE g k (Lh g h)
theorem pO{rs:List ba}{k n:Nat}(hk:k<=rs.length)(h:∀r,rs[runJ rs k n]?=some r->fL r=false):runJ rs rs.length n=runJ rs k n:=by
 have e:rs.length=(rs.length-k)+k:=by lia
 rw[e,yo]
 exact nZ h _
theorem dH:∀{n:Nat} {l:List Nat},l.Nodup->(∀x∈l,x<n)->l.length<=n
 |0,l,_,h=>by
  cases l with
  |nil=>exact aw _
  |cons a r=>exact absurd (h a aL) (dO _)
 |n+1,l,nd,h=>by
  by_cases c:n∈l
  ·have h1:=dH (n:=n) (l:=l.erase n) (nd.erase n) λx hx=>by
    have:=(nd.mem_erase_iff).mp hx
    have:=h x this.2
    lia
   rw[hZ c] at h1
   lia
  ·have h1:=dH (n:=n) nd λx hx=>by
    have:=h x hx
    have:x≠n:=λz=>c (z ▸ hx)
    lia
   lia
theorem nh:∀{l:List Nat},l.Pairwise (·<=·)->l.Nodup->l.Pairwise (·<·)
 |[],_,_=>.nil
 |a::r,h,nd=>by
  rw[dq] at h ⊢
  rw[cB] at nd
  refine⟨λx hx=>?_,nh h.2 nd.2⟩
  have:=h.1 x hx
  have:a≠x:=λz=>nd.1 (z ▸ hx)
  lia
theorem Dp{ms:List Int}{ns:List Nat}(p:ms.Perm (ns.map λn=>((n:Nat):Int)))(s:ms.Pairwise (·<=·))(nd:ns.Nodup):∃ks:List Nat,ms=ks.map (λn=>((n:Nat):Int))/\(∀x,x∈ks↔x∈ns)/\ks.Pairwise (·<·):=by
 have hm:ms.map (λi=>((i.toNat:Nat):Int))=ms:=by
  have:∀i∈ms,((i.toNat:Nat):Int)=i:=λi hi=>by
   obtain⟨n,_,e⟩:=bV.mp (p.mem_iff.mp hi)
   lia
  exact(fO this).trans (qS _)
 have pk:(ms.map ef).Perm ns:=by
  have:=p.map ef
  rw[cx] at this
  have e:ns.map (ef ∘ λn=>((n:Nat):Int))=ns:=by
   have:∀n∈ns,(ef ∘ λn=>((n:Nat):Int)) n=n:=λn _=>by simp
   exact(fO this).trans (qS _)
  rw[e] at this
  exact this
 refine⟨ms.map ef,?_,λx=>pk.mem_iff,nh ?_ (pk.nodup_iff.mpr nd)⟩
 ·rw[cx];exact hm.symm
 ·rw[fq]
  exact s.imp λ{a b} h=>by lia
def JD:Option Str->V
 |none=>.non
 |some y=>.str y
def cw(_:Fg):Sp:=λvs H Q _=>∃(rt:Addr) (n:Nat) (rvs:List V) (rs:List ba),vs=[.ref rt,.int (n:Nat)]/\H rt=some (.tup rvs)/\cK (dD H) rvs rs/\cp rs/\n<rs.length/\Q (.int (runJ rs rs.length n:Nat)) H
def gL(_:Fg):Sp:=λvs H Q _=>∃(rt:Addr) (un:Option Str) (rvs:List V) (rs:List ba),vs=[.ref rt,JD un]/\H rt=some (.tup rvs)/\cK (dD H) rvs rs/\cp rs/\
 ∀(l:Addr) (ns:List Nat) (H':Hp),(∀m,m∈ns↔w5 rs un m)->ns.Pairwise (·<·)->H' l=some (.lst (aO ns))->H l=none->aV H H'->Q (.ref l) H'
def dm(rs:List ba)(m:Nat):Prop:=w5 rs none m/\∀r,rs[m]?=some r->fL r=false
def IR:Sp:=λvs H Q _=>∃(rt:Addr) (rvs:List V) (rs:List ba),vs=[.ref rt]/\H rt=some (.tup rvs)/\cK (dD H) rvs rs/\cp rs/\
 ∀(l:Addr) (ns:List Nat) (H':Hp),(∀m,m∈ns↔dm rs m)->ns.Pairwise (·<·)->H' l=some (.lst (aO ns))->H l=none->aV H H'->Q (.ref l) H'
abbrev cX(_:Fg):Sp:=IR
abbrev zV:Nat:=1
abbrev fJ:Nat:=2
abbrev zW:Nat:=2
abbrev md:Nat:=3
abbrev xK:Nat:=3
abbrev fW:Nat:=4
end Bg
end
section
namespace Bg
open PySem PySem.Spec PyProof.Rows L2
abbrev dv:List Str:=["rows","n"]
abbrev oJ:List Str:=["rows","n","at"]
def wQ(K:Fg):TS:=(dt (au 2))
def wR(K:Fg):TS:=(ci (bE (eD K) [] E0 (ao (bA (dN K) (au 0) (au 2)) aP)) (bb 2))
def qc(K:Fg):TS:=(bB (mN (cb (bA (iy K) (bA (dN K) (bA (dN K) (au 0) (au 2)) (tC (.int 0))) (tC (.str "jump")))) (wR K)) (wQ K))
def ue(K:Fg):TS:=(bB (ci (au 1) (bb 2)) (qc K))
abbrev gG:List Str:=["rows","unset"]
abbrev oK:List Str:=["rows","unset","found","waiting","n","to"]
def wS(K:Fg):TS:=(dt (iI At (ao (au 2) aP)))
def wT(K:Fg):TS:=(i4 (vh K "list" eC (au 3) (ao (au 5) aP)))
def mQ(K:Fg):TS:=(eP (cb (bA ((Iw true)) (au 5) (au 2))) (bB (ci (tC (.bl true)) (oi (au 2) (au 5) u6)) (wT K)) cO)
def qd(K:Fg):TS:=(eP (JA (cb (bA (MC) (au 1) (tC .non))) (cb (bA (As K) (bE (gs K) [] E0 (ao (bA (dN K) (au 0) (au 4)) aP)) (au 1)))) (jQ (jF K (bE (e8 K) [] E0 (ao (au 0) (ao (au 4) aP)))) (bb 5) (mQ K)) cO)
def wU(K:Fg):TS:=(bB (ci (FM K "list" Ix (au 3)) (bb 4)) (qd K))
def qe(K:Fg):TS:=(bB (mN (cb (bA (Iv) (iI (jP K) (ao (au 3) aP)) (tC (.int 0)))) (wU K)) (wS K))
def qf(K:Fg):TS:=(bB (ci (gM (ao (tC (.int 0)) aP)) (bb 3)) (qe K))
def uf(K:Fg):TS:=(bB (ci (FO [((tC (.int 0)),(tC (.bl true)))]) (bb 2)) (qf K))
abbrev dC:List Str:=["rows"]
abbrev kO:List Str:=["rows"]
def rq(K:Fg):TS:=(dt (jX [] 1 (jF K (bE (gL K) [.non] E0 (ao (au 0) aP))) (bb 1) (cb (bA (As K) (bA (dN K) (bA (dN K) (au 0) (au 1)) (tC (.int 0))) (tC (.str "jump")))) (au 1)))
abbrev ir:List Str:=["row"]
abbrev qw:List Str:=["row","word"]
def yW(K:Fg):TS:=(dt (gu aP))
def yX(K:Fg):TS:=(bB (eP (cb (bA ((zo K false)) (au 1) (gu (ao (tC (.str "say")) (ao (tC (.str "test")) (ao (tC (.str "give")) aP)))))) (dt (gu (ao (bA (dN K) (au 0) (tC (.int 1))) aP))) cO) (yW K))
def yY(K:Fg):TS:=(bB (eP (cb (bA (iy K) (au 1) (tC (.str "call")))) (dt (iI (ie K) (ao (bA (dN K) (au 0) (tC (.int 3))) aP))) cO) (yX K))
def yZ(K:Fg):TS:=(bB (eP (cb (bA (iy K) (au 1) (tC (.str "op")))) (dt (gu (ao (bA (dN K) (au 0) (tC (.int 3))) (ao (bA (dN K) (au 0) (tC (.int 4))) aP)))) cO) (yY K))
def vw(K:Fg):TS:=(bB (ci (bA (dN K) (au 0) (tC (.int 0))) (bb 1)) (yZ K))
abbrev gQ:List Str:=["row"]
abbrev so:List Str:=["row"]
def AQ(K:Fg):TS:=(dt (tC .non))
def zb(K:Fg):TS:=(bB (eP (cb (bA ((zo K false)) (bA (dN K) (au 0) (tC (.int 0))) (gu (ao (tC (.str "num")) (ao (tC (.str "op")) (ao (tC (.str "call")) aP)))))) (dt (bA (dN K) (au 0) (tC (.int 1)))) cO) (AQ K))
abbrev fS:List Str:=["row"]
abbrev sj:List Str:=["row"]
def AL(K:Fg):TS:=(dt (tC .non))
def AM(K:Fg):TS:=(bB (eP (cb (bA (iy K) (bA (dN K) (au 0) (tC (.int 0))) (tC (.str "test")))) (dt (bA (dN K) (au 0) (tC (.int 2)))) cO) (AL K))
def yO(K:Fg):TS:=(bB (eP (cb (bA (iy K) (bA (dN K) (au 0) (tC (.int 0))) (tC (.str "jump")))) (dt (bA (dN K) (au 0) (tC (.int 1)))) cO) (AM K))
abbrev fZ:List Str:=["rows","n"]
abbrev qt:List Str:=["rows","n","word"]
def yP(K:Fg):TS:=(dt (gu (ao (bA (cN K) (au 1) (tC (.int 1))) aP)))
def yQ(K:Fg):TS:=(bB (eP (cb (bA (iy K) (au 2) (tC (.str "test")))) (dt (gu (ao (bA (cN K) (au 1) (tC (.int 1))) (ao (bE (eD K) [] E0 (ao (bA (dN K) (au 0) (au 1)) aP)) aP)))) cO) (yP K))
def yR(K:Fg):TS:=(bB (eP (cb (bA (iy K) (au 2) (tC (.str "jump")))) (dt (gu (ao (bE (eD K) [] E0 (ao (bA (dN K) (au 0) (au 1)) aP)) aP))) cO) (yQ K))
def yS(K:Fg):TS:=(bB (eP (cb (bA (iy K) (au 2) (tC (.str "give")))) (dt (gu aP)) cO) (yR K))
def vt(K:Fg):TS:=(bB (ci (bA (dN K) (bA (dN K) (au 0) (au 1)) (tC (.int 0))) (bb 2)) (yS K))
end Bg
end
section
namespace Bg
open PySem L2
theorem Dy{K:Fg}{vs:List V}{H:Hp}{Q:VK}{E:XK}(h:iB K vs H Q E):vw K {nx:=λ_ H'=>Q .non H',rt:=Q} (cY qw vs) H:=by
 obtain⟨v,r,rfl,hr,q⟩:=h
 cases r with
 |num x z=>
  obtain⟨p,rfl,h⟩:=hr
  refine⟨_,rfl,dM h (by decide) rfl ?_⟩
  refine⟨_,rfl,.inl ⟨rfl,_,rfl,no (by decide +kernel) ?_⟩⟩
  refine⟨_,rfl,.inl ⟨rfl,_,rfl,no (by decide +kernel) ?_⟩⟩
  refine⟨_,rfl,(by show 3<=sizeLine;decide),λt ht=>⟨t,_,rfl,.inr (dZ.of ag),rfl,rfl,_,rfl,CN (by decide +kernel) ?_⟩⟩
  have nt:p≠t:=ar h ht
  exact⟨(by show 0<=sizeLine;decide),λt2 ht2=>q t2 _ ag (((aV.refl H).new ht).new ht2)⟩
 |op x s a b=>
  obtain⟨p,rfl,h⟩:=hr
  refine⟨_,rfl,dM h (by decide) rfl ?_⟩
  refine⟨_,rfl,.inl ⟨rfl,_,rfl,Gz ?_⟩⟩
  exact⟨_,rfl,dM h (by decide) rfl ⟨_,rfl,dM h (by decide) rfl ⟨(by show 2<=sizeLine;decide),λt ht=>q t _ ag ((aV.refl H).new ht)⟩⟩⟩
 |call x k as=>
  obtain⟨p,q1,rfl,h,h1⟩:=hr
  refine⟨_,rfl,dM h (by decide) rfl ?_⟩
  refine⟨_,rfl,.inl ⟨rfl,_,rfl,no (by decide +kernel) ?_⟩⟩
  refine⟨_,rfl,.inl ⟨rfl,_,rfl,Gz ?_⟩⟩
  exact⟨_,rfl,dM h (by decide) rfl ⟨_,_,rfl,.inr ⟨dZ.of h1,q _ _ h1 (aV.refl H)⟩⟩⟩
 |say a=>
  obtain⟨p,rfl,h⟩:=hr
  refine⟨_,rfl,dM h (by decide) rfl ?_⟩
  refine⟨_,rfl,.inl ⟨rfl,_,rfl,no (by decide +kernel) ?_⟩⟩
  refine⟨_,rfl,.inl ⟨rfl,_,rfl,no (by decide +kernel) ?_⟩⟩
  refine⟨_,rfl,(by show 3<=sizeLine;decide),λt ht=>⟨t,_,rfl,.inr (dZ.of ag),rfl,rfl,_,rfl,CO (by decide +kernel) ?_⟩⟩
  have nt:p≠t:=ar h ht
  exact⟨_,rfl,dM (by rw[ax nt];exact h) (by decide) rfl ⟨(by show 1<=sizeLine;decide),λt2 ht2=>q t2 _ ag (((aV.refl H).new ht).new ht2)⟩⟩
 |jump to=>
  obtain⟨p,rfl,h⟩:=hr
  refine⟨_,rfl,dM h (by decide) rfl ?_⟩
  refine⟨_,rfl,.inl ⟨rfl,_,rfl,no (by decide +kernel) ?_⟩⟩
  refine⟨_,rfl,.inl ⟨rfl,_,rfl,no (by decide +kernel) ?_⟩⟩
  refine⟨_,rfl,(by show 3<=sizeLine;decide),λt ht=>⟨t,_,rfl,.inr (dZ.of ag),rfl,rfl,_,rfl,CN (by decide +kernel) ?_⟩⟩
  have nt:p≠t:=ar h ht
  exact⟨(by show 0<=sizeLine;decide),λt2 ht2=>q t2 _ ag (((aV.refl H).new ht).new ht2)⟩
 |test a to=>
  obtain⟨p,rfl,h⟩:=hr
  refine⟨_,rfl,dM h (by decide) rfl ?_⟩
  refine⟨_,rfl,.inl ⟨rfl,_,rfl,no (by decide +kernel) ?_⟩⟩
  refine⟨_,rfl,.inl ⟨rfl,_,rfl,no (by decide +kernel) ?_⟩⟩
  refine⟨_,rfl,(by show 3<=sizeLine;decide),λt ht=>⟨t,_,rfl,.inr (dZ.of ag),rfl,rfl,_,rfl,CO (by decide +kernel) ?_⟩⟩
  have nt:p≠t:=ar h ht
  exact⟨_,rfl,dM (by rw[ax nt];exact h) (by decide) rfl ⟨(by show 1<=sizeLine;decide),λt2 ht2=>q t2 _ ag (((aV.refl H).new ht).new ht2)⟩⟩
 |give a=>
  obtain⟨p,rfl,h⟩:=hr
  refine⟨_,rfl,dM h (by decide) rfl ?_⟩
  refine⟨_,rfl,.inl ⟨rfl,_,rfl,no (by decide +kernel) ?_⟩⟩
  refine⟨_,rfl,.inl ⟨rfl,_,rfl,no (by decide +kernel) ?_⟩⟩
  refine⟨_,rfl,(by show 3<=sizeLine;decide),λt ht=>⟨t,_,rfl,.inr (dZ.of ag),rfl,rfl,_,rfl,CO (by decide +kernel) ?_⟩⟩
  have nt:p≠t:=ar h ht
  exact⟨_,rfl,dM (by rw[ax nt];exact h) (by decide) rfl ⟨(by show 1<=sizeLine;decide),λt2 ht2=>q t2 _ ag (((aV.refl H).new ht).new ht2)⟩⟩
theorem Fw{K:Fg}{vs:List V}{H:Hp}{Q:VK}{E:XK}(h:gs K vs H Q E):zb K {nx:=λ_ H'=>Q .non H',rt:=Q} (cY so vs) H:=by
 obtain⟨v,r,rfl,hr,q⟩:=h
 cases r with
 |num x z=>
  obtain⟨p,rfl,h⟩:=hr
  refine⟨_,rfl,dM h (by decide) rfl ?_⟩
  refine⟨(by show 3<=sizeLine;decide),λt ht=>⟨t,_,rfl,.inr (dZ.of ag),rfl,rfl,_,rfl,CO (by decide +kernel) ?_⟩⟩
  have nt:p≠t:=ar h ht
  exact⟨_,rfl,dM (by rw[ax nt];exact h) (by decide) rfl (q _ ((aV.refl H).new ht))⟩
 |op x s a b=>
  obtain⟨p,rfl,h⟩:=hr
  refine⟨_,rfl,dM h (by decide) rfl ?_⟩
  refine⟨(by show 3<=sizeLine;decide),λt ht=>⟨t,_,rfl,.inr (dZ.of ag),rfl,rfl,_,rfl,CO (by decide +kernel) ?_⟩⟩
  have nt:p≠t:=ar h ht
  exact⟨_,rfl,dM (by rw[ax nt];exact h) (by decide) rfl (q _ ((aV.refl H).new ht))⟩
 |call x k as=>
  obtain⟨p,q1,rfl,h,h1⟩:=hr
  refine⟨_,rfl,dM h (by decide) rfl ?_⟩
  refine⟨(by show 3<=sizeLine;decide),λt ht=>⟨t,_,rfl,.inr (dZ.of ag),rfl,rfl,_,rfl,CO (by decide +kernel) ?_⟩⟩
  have nt:p≠t:=ar h ht
  exact⟨_,rfl,dM (by rw[ax nt];exact h) (by decide) rfl (q _ ((aV.refl H).new ht))⟩
 |say a=>
  obtain⟨p,rfl,h⟩:=hr
  refine⟨_,rfl,dM h (by decide) rfl ?_⟩
  refine⟨(by show 3<=sizeLine;decide),λt ht=>⟨t,_,rfl,.inr (dZ.of ag),rfl,rfl,_,rfl,CN (by decide +kernel) ?_⟩⟩
  have nt:p≠t:=ar h ht
  exact q _ ((aV.refl H).new ht)
 |jump to=>
  obtain⟨p,rfl,h⟩:=hr
  refine⟨_,rfl,dM h (by decide) rfl ?_⟩
  refine⟨(by show 3<=sizeLine;decide),λt ht=>⟨t,_,rfl,.inr (dZ.of ag),rfl,rfl,_,rfl,CN (by decide +kernel) ?_⟩⟩
  have nt:p≠t:=ar h ht
  exact q _ ((aV.refl H).new ht)
 |test a to=>
  obtain⟨p,rfl,h⟩:=hr
  refine⟨_,rfl,dM h (by decide) rfl ?_⟩
  refine⟨(by show 3<=sizeLine;decide),λt ht=>⟨t,_,rfl,.inr (dZ.of ag),rfl,rfl,_,rfl,CN (by decide +kernel) ?_⟩⟩
  have nt:p≠t:=ar h ht
  exact q _ ((aV.refl H).new ht)
 |give a=>
  obtain⟨p,rfl,h⟩:=hr
  refine⟨_,rfl,dM h (by decide) rfl ?_⟩
  refine⟨(by show 3<=sizeLine;decide),λt ht=>⟨t,_,rfl,.inr (dZ.of ag),rfl,rfl,_,rfl,CN (by decide +kernel) ?_⟩⟩
  have nt:p≠t:=ar h ht
  exact q _ ((aV.refl H).new ht)
theorem Fu{K:Fg}{vs:List V}{H:Hp}{Q:VK}{E:XK}(h:eD K vs H Q E):yO K {nx:=λ_ H'=>Q .non H',rt:=Q} (cY sj vs) H:=by
 obtain⟨v,r,rfl,hr,q⟩:=h
 cases r with
 |num x z=>
  obtain⟨p,rfl,h⟩:=hr
  refine⟨_,rfl,dM h (by decide) rfl (.inl ⟨rfl,_,rfl,no (by decide +kernel) ?_⟩)⟩
  exact⟨_,rfl,dM h (by decide) rfl (.inl ⟨rfl,_,rfl,no (by decide +kernel) q⟩)⟩
 |op x s a b=>
  obtain⟨p,rfl,h⟩:=hr
  refine⟨_,rfl,dM h (by decide) rfl (.inl ⟨rfl,_,rfl,no (by decide +kernel) ?_⟩)⟩
  exact⟨_,rfl,dM h (by decide) rfl (.inl ⟨rfl,_,rfl,no (by decide +kernel) q⟩)⟩
 |call x k as=>
  obtain⟨p,q1,rfl,h,h1⟩:=hr
  refine⟨_,rfl,dM h (by decide) rfl (.inl ⟨rfl,_,rfl,no (by decide +kernel) ?_⟩)⟩
  exact⟨_,rfl,dM h (by decide) rfl (.inl ⟨rfl,_,rfl,no (by decide +kernel) q⟩)⟩
 |say a=>
  obtain⟨p,rfl,h⟩:=hr
  refine⟨_,rfl,dM h (by decide) rfl (.inl ⟨rfl,_,rfl,no (by decide +kernel) ?_⟩)⟩
  exact⟨_,rfl,dM h (by decide) rfl (.inl ⟨rfl,_,rfl,no (by decide +kernel) q⟩)⟩
 |jump to=>
  obtain⟨p,rfl,h⟩:=hr
  exact⟨_,rfl,dM h (by decide) rfl (.inl ⟨rfl,_,rfl,Gz ⟨_,rfl,dM h (by decide) rfl q⟩⟩)⟩
 |test a to=>
  obtain⟨p,rfl,h⟩:=hr
  refine⟨_,rfl,dM h (by decide) rfl (.inl ⟨rfl,_,rfl,no (by decide +kernel) ?_⟩)⟩
  exact⟨_,rfl,dM h (by decide) rfl (.inl ⟨rfl,_,rfl,Gz ⟨_,rfl,dM h (by decide) rfl q⟩⟩)⟩
 |give a=>
  obtain⟨p,rfl,h⟩:=hr
  refine⟨_,rfl,dM h (by decide) rfl (.inl ⟨rfl,_,rfl,no (by decide +kernel) ?_⟩)⟩
  exact⟨_,rfl,dM h (by decide) rfl (.inl ⟨rfl,_,rfl,no (by decide +kernel) q⟩)⟩
theorem Dv{K:Fg}{vs:List V}{H:Hp}{Q:VK}{E:XK}(h:e8 K vs H Q E):vt K {nx:=λ_ H'=>Q .non H',rt:=Q} (cY qt vs) H:=by
 obtain⟨rt,n,rvs,v,r,rfl,hrt,hv,hr,q⟩:=h
 have hn:rvs[((n:Nat):Int).toNat]?=some v:=by simpa using hv
 have n0:(0:Int)<=((n:Nat):Int):=by lia
 have e1:(((n+1:Nat):Nat):Int)=(n:Int)+1:=by lia
 cases r with
 |num x z=>
  have hr0:=hr
  obtain⟨p,rfl,h⟩:=hr
  refine⟨_,rfl,_,rfl,dM hrt n0 hn (dM h (by decide) rfl ?_)⟩
  refine⟨_,rfl,.inl ⟨rfl,_,rfl,no (by decide +kernel) ?_⟩⟩
  refine⟨_,rfl,.inl ⟨rfl,_,rfl,no (by decide +kernel) ?_⟩⟩
  refine⟨_,rfl,.inl ⟨rfl,_,rfl,no (by decide +kernel) ?_⟩⟩
  exact⟨_,rfl,.inl ⟨_,_,rfl,rfl,⟨(by show 1<=sizeLine;decide),λt ht=>q t _ (by rw[ag];first|rfl|(unfold aO bS;simp only[bt,cr,e1])) ((aV.refl H).new ht)⟩⟩⟩
 |op x s a b=>
  have hr0:=hr
  obtain⟨p,rfl,h⟩:=hr
  refine⟨_,rfl,_,rfl,dM hrt n0 hn (dM h (by decide) rfl ?_)⟩
  refine⟨_,rfl,.inl ⟨rfl,_,rfl,no (by decide +kernel) ?_⟩⟩
  refine⟨_,rfl,.inl ⟨rfl,_,rfl,no (by decide +kernel) ?_⟩⟩
  refine⟨_,rfl,.inl ⟨rfl,_,rfl,no (by decide +kernel) ?_⟩⟩
  exact⟨_,rfl,.inl ⟨_,_,rfl,rfl,⟨(by show 1<=sizeLine;decide),λt ht=>q t _ (by rw[ag];first|rfl|(unfold aO bS;simp only[bt,cr,e1])) ((aV.refl H).new ht)⟩⟩⟩
 |call x k as=>
  have hr0:=hr
  obtain⟨p,q1,rfl,h,h1⟩:=hr
  refine⟨_,rfl,_,rfl,dM hrt n0 hn (dM h (by decide) rfl ?_)⟩
  refine⟨_,rfl,.inl ⟨rfl,_,rfl,no (by decide +kernel) ?_⟩⟩
  refine⟨_,rfl,.inl ⟨rfl,_,rfl,no (by decide +kernel) ?_⟩⟩
  refine⟨_,rfl,.inl ⟨rfl,_,rfl,no (by decide +kernel) ?_⟩⟩
  exact⟨_,rfl,.inl ⟨_,_,rfl,rfl,⟨(by show 1<=sizeLine;decide),λt ht=>q t _ (by rw[ag];first|rfl|(unfold aO bS;simp only[bt,cr,e1])) ((aV.refl H).new ht)⟩⟩⟩
 |say a=>
  have hr0:=hr
  obtain⟨p,rfl,h⟩:=hr
  refine⟨_,rfl,_,rfl,dM hrt n0 hn (dM h (by decide) rfl ?_)⟩
  refine⟨_,rfl,.inl ⟨rfl,_,rfl,no (by decide +kernel) ?_⟩⟩
  refine⟨_,rfl,.inl ⟨rfl,_,rfl,no (by decide +kernel) ?_⟩⟩
  refine⟨_,rfl,.inl ⟨rfl,_,rfl,no (by decide +kernel) ?_⟩⟩
  exact⟨_,rfl,.inl ⟨_,_,rfl,rfl,⟨(by show 1<=sizeLine;decide),λt ht=>q t _ (by rw[ag];first|rfl|(unfold aO bS;simp only[bt,cr,e1])) ((aV.refl H).new ht)⟩⟩⟩
 |jump to=>
  have hr0:=hr
  obtain⟨p,rfl,h⟩:=hr
  refine⟨_,rfl,_,rfl,dM hrt n0 hn (dM h (by decide) rfl ?_)⟩
  refine⟨_,rfl,.inl ⟨rfl,_,rfl,no (by decide +kernel) ?_⟩⟩
  refine⟨_,rfl,.inl ⟨rfl,_,rfl,Gz ?_⟩⟩
  exact⟨_,rfl,_,rfl,dM hrt n0 hn ⟨_,_,rfl,hr0,⟨(by show 1<=sizeLine;decide),λt ht=>q t _ (by rw[ag];first|rfl|(unfold aO bS;simp only[bt,cr,e1])) ((aV.refl H).new ht)⟩⟩⟩
 |test a to=>
  have hr0:=hr
  obtain⟨p,rfl,h⟩:=hr
  refine⟨_,rfl,_,rfl,dM hrt n0 hn (dM h (by decide) rfl ?_)⟩
  refine⟨_,rfl,.inl ⟨rfl,_,rfl,no (by decide +kernel) ?_⟩⟩
  refine⟨_,rfl,.inl ⟨rfl,_,rfl,no (by decide +kernel) ?_⟩⟩
  refine⟨_,rfl,.inl ⟨rfl,_,rfl,Gz ?_⟩⟩
  exact⟨_,rfl,.inl ⟨_,_,rfl,rfl,⟨_,rfl,_,rfl,dM hrt n0 hn ⟨_,_,rfl,hr0,⟨(by show 2<=sizeLine;decide),λt ht=>q t _ (by rw[ag];first|rfl|(unfold aO bS;simp only[bt,cr,e1])) ((aV.refl H).new ht)⟩⟩⟩⟩⟩
 |give a=>
  have hr0:=hr
  obtain⟨p,rfl,h⟩:=hr
  refine⟨_,rfl,_,rfl,dM hrt n0 hn (dM h (by decide) rfl ?_)⟩
  refine⟨_,rfl,.inl ⟨rfl,_,rfl,Gz ?_⟩⟩
  exact⟨(by show 0<=sizeLine;decide),λt ht=>q t _ (by rw[ag];first|rfl|(unfold aO bS;simp only[bt,cr,e1])) ((aV.refl H).new ht)⟩
theorem MF{K:Fg}{rl nm pr kl la l:Addr}{H H':Hp}{ys ps ls:List Str}{w:Str}{rs:List ba}{kss0:List (List Str)}{B i mm j0:Nat}{ms:List Nat}{refs:List V}{kss:List (List Str)}{more:Bool}{o8:Option V}{rt:VK}{bk:St->Hp->Prop}
  (hkl:H kl=none) (nla:la≠kl) (nl:l≠kl) (hw:w∈ls) (hm:mm<rs.length) (hmj:ms[j0]?=some mm) (hz:vQ ps kss) (hc:more=false->kss=kss0/\sw rs i kss0/\∀j',j'<j0->∀m km,ms[j']?=some m->kss0[m]?=some km->∀y∈km,y∈ls) (k:KJ kl H ys ps w rs.length H' refs kss) (hB:2*qO kss+more.toNat<=B) (hla:H' la=some (.lst (ls.map V.str))) (hl:H' l=some (.lst (aO ms))) :
  oB K {nx:=Mw rl nm pr kl H ys ps w rs B i la l ls ms kss0 (j0+1),rt:=rt,ct:=Mw rl nm pr kl H ys ps w rs B i la l ls ms kss0 (j0+1),bk:=bk} [some (.ref rl),some (.ref nm),some (.ref pr),some (.ref kl),some (.bl more),some (.int (i:Nat)),some (.ref la),some (.int (mm:Nat)),o8] H':=by
 obtain⟨am,km,e1,e2,nam,ham⟩:=k.get hm
 obtain⟨k1,k2,k3⟩:=k.wit mm km e2
 have e1':refs[((mm:Nat):Int).toNat]?=some (.ref am):=by simpa using e1
 refine .inl ⟨_,rfl,_,rfl,m6 (ce.of k.at_) (by lia) e1' ⟨am,rfl,⟨_,ce.of ham⟩,λD hD=>?_⟩⟩
 have nD:kl≠D:=ar k.at_ hD
 have naD:am≠D:=ar ham hD
 have nlaD:la≠D:=ar hla hD
 have nlD:l≠D:=ar hl hD
 refine jh (xs:=km.map V.str) (λj σ' H2=>∃o,σ'=[some (.ref rl),some (.ref nm),some (.ref pr),some (.ref kl),some (.bl more),some (.int (i:Nat)),some (.ref la),some (.int (mm:Nat)),o8,o]/\H2=upd H' D (.lst (((km.take j).filter λy=>decide (y∈ls)).map V.str))) ?_ ?_ ?_ ?_
 ·exact⟨none,rfl,rfl⟩
 ·rintro j σ' H2 _ ⟨o,_,rfl⟩
  exact ce.of (by rw[ax naD];exact ham)
 ·rintro j x σ' H2 hx ⟨o,rfl,rfl⟩
  rw[aC] at hx
  obtain⟨y,hy,rfl⟩:∃y,km[j]?=some y/\V.str y=x:=by
   cases e:km[j]? with
   |none=>rw[e] at hx;cases hx
   |some y=>rw[e] at hx;exact⟨y,rfl,Option.some.inj hx⟩
  have jl:j<km.length:=(af.mp hy).1
  have fl:((km.take j).filter λy=>decide (y∈ls)).length<=100:=bn (dR _ _) (by rw[be];lia)
  have ft:=qV (λy=>decide (y∈ls)) km j y hy
  refine⟨_,rfl,_,rfl,la,_,rfl,.inl (ce.of (by rw[ax nlaD];exact hla)),rfl,qA _,_,rfl,?_⟩
  show if qX (.str y) (ls.map V.str)=true then _ else _
  rw[sP]
  refine cI (λhin=>?_) (λhin=>?_)
  ·refine⟨_,rfl,_,ag,cc (by rw[ab];lia),_,rfl,?_⟩
   rw[wY,ft,if_pos (by simpa using hin),aN]
   rfl
  ·refine⟨_,rfl,?_⟩
   rw[ft,if_neg (by simpa using hin),cQ]
 ·rintro σ' H2 ⟨o,_,rfl⟩
  have et:km.take (km.map V.str).length=km:=dA (by rw[ab];exact aw _)
  rw[et]
  have fl:(km.filter λy=>decide (y∈ls)).length<=km.length:=dR _ _
  have fm:∀y∈km.filter (λy=>decide (y∈ls)),y∈ys:=λy hy=>k2 y (fg.mp hy).1
  have fw:w∈km.filter (λy=>decide (y∈ls))\/(mm=0/\ps=[]):=k3.imp (λz=>fg.mpr ⟨z,by simpa using hw⟩) id
  have fs:∀y∈km.filter (λy=>decide (y∈ls)),y∈km:=λy hy=>(fg.mp hy).1
  have fe:¬(km.filter (λy=>decide (y∈ls))).length<km.length->∀y∈km,y∈ls:=λhn y hy=>by
   have:=List.length_filter_eq_length_iff.mp (Nat.le_antisymm (dR (λy=>decide (y∈ls)) km) (lW.mp hn)) y hy
   simpa using this
  generalize km.filter (λy=>decide (y∈ls))=kp at fl fm fw fs fe
  have k':=k.grown ((aV.refl H').new (o:=.lst (kp.map V.str)) hD)
  have hla':(upd H' D (.lst (kp.map V.str))) la=some (.lst (ls.map V.str)):=by rw[ax nlaD];exact hla
  have hl':(upd H' D (.lst (kp.map V.str))) l=some (.lst (aO ms)):=by rw[ax nlD];exact hl
  have ham':(upd H' D (.lst (kp.map V.str))) am=some (.lst (km.map V.str)):=by rw[ax naD];exact ham
  have hD':(upd H' D (.lst (kp.map V.str))) D=some (.lst (kp.map V.str)):=ag
  generalize upd H' D (.lst (kp.map V.str))=H3 at k' hla' hl' ham' hD'
  show oA K _ [some (.ref rl),some (.ref nm),some (.ref pr),some (.ref kl),some (.bl more),some (.int (i:Nat)),some (.ref la),some (.int (mm:Nat)),some (.ref D)] H3
  refine⟨_,rfl,_,_,rfl,.inl ⟨_,ce.of hD',rfl⟩,_,rfl,_,rfl,m6 (ce.of k'.at_) (by lia) e1' ⟨_,_,rfl,.inl ⟨_,ce.of ham',rfl⟩,_,_,rfl,rfl,_,rfl,cI (λhlt=>?_) (λhlt=>?_)⟩⟩
  ·rw[ab,ab] at hlt
   refine⟨_,rfl,_,rfl,_,rfl,yx k'.at_ (by lia) (by rw[k'.vlen];simpa using hm) ?_⟩
   have ei:((mm:Nat):Int).toNat=mm:=by simp
   rw[ei]
   have ss:=yD (kp:=kp) e2
   refine⟨_,kss.set mm kp,true,_,_,rfl,k'.set hkl (Ne.symm nD) hD' ⟨by lia,fm,fw⟩,?_,by rw[ax nla];exact hla',by rw[ax nl];exact hl',hz.set e2 fs,λz=>by cases z⟩
   have:(true:Bool).toNat=1:=rfl
   lia
  ·rw[ab,ab] at hlt
   refine⟨refs,kss,more,_,_,rfl,k',hB,hla',hl',hz,λhmo=>?_⟩
   obtain⟨c1,c2,c3⟩:=hc hmo
   refine⟨c1,c2,λj' hj' m km' hm' hk'=>?_⟩
   by_cases cj:j'<j0
   ·exact c3 j' cj m km' hm' hk'
   ·have:j'=j0:=by lia
    subst this
    rw[hmj] at hm';cases hm'
    rw[<-c1,e2] at hk';cases hk'
    exact fe (by lia)
theorem pG{ms:List Nat}{j:Nat}{x:V}(h:(aO ms)[j]?=some x):∃m,ms[j]?=some m/\x=.int (m:Nat):=by
 unfold aO at h
 rw[aC] at h
 cases e:ms[j]? with
 |none=>rw[e] at h;cases h
 |some m=>rw[e] at h;exact⟨m,rfl,(Option.some.inj h).symm⟩
theorem ME{K:Fg}{rl nm pr kl:Addr}{H H':Hp}{ys ps:List Str}{cs:List Nat}{w:Str}{B i:Nat}{rvs:List V}{rs:List ba}{refs:List V}{kss:List (List Str)}{more:Bool}{o6 o7 o8:Option V}{rt:VK}{bk:St->Hp->Prop}
  (hkl:H kl=none) (hrl:H rl=some (.lst rvs)) (hA:cK (dD H) rvs rs) (hOk:sB ys cs rs) (hE:rs.getLast?.map jW=some true) (hw0:ps=[]->∃z,rs[0]?=some (.num w z)) (hi:i<rs.length) (k:KJ kl H ys ps w rs.length H' refs kss) (hB:2*qO kss+more.toNat<=B) (hz:vQ ps kss) (hP:more=false->sw rs i kss) :
  lu K {nx:=Lm rl nm pr kl H ys ps w rs B (i+1),rt:=rt,ct:=Lm rl nm pr kl H ys ps w rs B (i+1),bk:=bk} [some (.ref rl),some (.ref nm),some (.ref pr),some (.ref kl),some (.bl more),some (.int (i:Nat)),o6,o7,o8] H':=by
 obtain⟨a,ks,e1,e2,na,ha⟩:=k.get hi
 obtain⟨k1,k2,k3⟩:=k.wit i ks e2
 obtain⟨v,r,f1,f2,hra⟩:=hA.get (i:=i) hi
 obtain⟨p,xs,rfl,hp⟩:=hra.ref
 have e1':refs[((i:Nat):Int).toNat]?=some (.ref a):=by simpa using e1
 have f1':rvs[((i:Nat):Int).toNat]?=some (.ref p):=by simpa using f1
 have nkl:rl≠kl:=ar hrl hkl
 have ways:∀(la:Addr) (ls:List Str) (H2:Hp),la≠kl->w∈ls->(∀y∈ls,y∈ks\/gI r=.str y)->KJ kl H ys ps w rs.length H2 refs kss->H2 la=some (.lst (ls.map V.str))->
   oC K {nx:=Lm rl nm pr kl H ys ps w rs B (i+1),rt:=rt,ct:=Lm rl nm pr kl H ys ps w rs B (i+1),bk:=bk} [some (.ref rl),some (.ref nm),some (.ref pr),some (.ref kl),some (.bl more),some (.int (i:Nat)),some (.ref la),o7,o8] H2:=λla ls H2 nla hwl hls k2 hla=>by
  refine .inl ⟨_,rfl,_,rfl,rl,i,rvs,.ref p,r,rfl,.inl (k2.same _ _ hrl),f1,hra.mono (.of_same k2.same),λl hl=>?_⟩
  have nl:l≠kl:=λz=>by rw[z,k2.at_] at hl;cases hl
  have nlal:la≠l:=ar hla hl
  refine⟨l,rfl,⟨_,ce.of ag⟩,ib (xs:=aO (bS i r)) (λj=>Mw rl nm pr kl H ys ps w rs B i la l ls (bS i r) kss j) ?_ ?_ ?_ ?_⟩
  ·exact⟨refs,kss,more,_,_,rfl,k2.grown ((aV.refl H2).new hl),hB,by rw[ax nlal];exact hla,ag,hz,λhmo=>⟨rfl,hP hmo,λj' hj'=>absurd hj' (dO _)⟩⟩
  ·rintro j σ' H3 _ ⟨_,_,_,_,_,_,_,_,_,h3,_,_⟩
   exact ce.of h3
  ·rintro j x σ' H3 hx ⟨refs3,kss3,more3,o73,o83,rfl,k3',hB3,hla3,hl3,hz3,hc3⟩
   obtain⟨mm,hmm,rfl⟩:=pG hx
   exact MF hkl nla nl hwl (EO f2 (hOk.rough r (aA f2)) hE hmm) hmm hz3 hc3 k3' hB3 hla3 hl3
  ·rintro σ' H3 ⟨refs3,kss3,more3,o73,o83,rfl,k3',hB3,hla3,hl3,hz3,hc3⟩
   refine⟨refs3,kss3,more3,_,_,_,_,rfl,k3',hB3,hz3,λhmo=>?_⟩
   obtain⟨c1,c2,c3⟩:=hc3 hmo
   subst c1
   intro n m r' ks' km hn hr' hm' hks' hkm y hy
   by_cases cn:n<i
   ·exact c2 n m r' ks' km cn hr' hm' hks' hkm y hy
   ·have:n=i:=by lia
    subst this
    rw[f2] at hr';cases hr'
    rw[e2] at hks';cases hks'
    obtain⟨j',hj',hmj⟩:=fk.mp hm'
    have hmj':(bS n r)[j']?=some m:=by rw[aa hj',hmj]
    exact hls y (c3 j' (by rw[bv];exact hj') m km hmj' hkm y hy)
 refine⟨_,rfl,_,rfl,m6 (ce.of k.at_) (by lia) e1' ?_⟩
 show oE K _ [some (.ref rl),some (.ref nm),some (.ref pr),some (.ref kl),some (.bl more),some (.int (i:Nat)),some (.ref a),o7,o8] H'
 refine⟨_,rfl,_,rfl,m6 (ce.of (k.same _ _ hrl)) (by lia) f1' (dM (k.same _ _ hp) (by decide) rfl ⟨(by show 3<=sizeLine;decide),λt ht=>⟨t,_,rfl,.inr (dZ.of ag),rfl,rfl,_,rfl,?_⟩⟩)⟩
 have sm:=(aV.refl H').new (o:=.tup [V.str "num",V.str "op",V.str "call"]) ht
 have kt:=k.grown sm
 have hat:=sm _ _ ha
 generalize upd H' t (.tup [V.str "num",V.str "op",V.str "call"])=H1 at sm kt hat ⊢
 refine uW (λhb=>?_) (λhb=>?_)
 ·have hb':qX (.str (oj r)) [V.str "num",V.str "op",V.str "call"]=true:=hb
  obtain⟨x,hx⟩:=G4 hb'
  obtain⟨xs',hp'⟩:=IL hra hx
  refine⟨_,rfl,_,rfl,_,rfl,m6 (ce.of (kt.same _ _ hrl)) (by lia) f1' (dM (kt.same _ _ hp') (by decide) rfl ⟨(by show 1<=sizeLine;decide),λp1 hp1=>?_⟩)⟩
  have na1:a≠p1:=ar hat hp1
  refine .inr (.inr (.inl ⟨a,p1,_,_,rfl,rfl,by rw[ax na1];exact hat,ag,?_,λp2 hp2=>?_⟩))
  ·have:=cc (n:=101) (by decide)
   rw[ab]
   show ks.length+1<=sizeLine
   lia
  have k5:=(kt.grown ((aV.refl H1).new (o:=.lst [V.str x]) hp1)).grown ((aV.refl _).new (o:=.lst (ks.map V.str++[V.str x])) hp2)
  have np2:p2≠kl:=λz=>by
   have:=(kt.grown ((aV.refl H1).new (o:=.lst [V.str x]) hp1)).at_
   rw[z,this] at hp2;cases hp2
  refine ways p2 (ks++[x]) _ np2 ?_ (λy hy=>(aB.mp hy).imp id λz=>by rw[ae.mp z];exact hx) k5 (by rw[ag,aN];rfl)
  rcases k3 with z|⟨z1,z2⟩
  ·exact bh _ z
  ·obtain⟨zz,hz⟩:=hw0 z2
   subst z1
   rw[f2] at hz;cases hz;cases hx
   exact aQ _ (ae.mpr rfl)
 ·refine ways a ks _ na ?_ (λy hy=>.inl hy) kt hat
  rcases k3 with z|⟨z1,z2⟩
  ·exact z
  ·obtain⟨zz,hz⟩:=hw0 z2
   subst z1
   rw[f2] at hz;cases hz
   exact absurd (show qX (.str "num") [V.str "num",V.str "op",V.str "call"]=false from hb) (by decide +kernel)
theorem DA{α:Type}(n:Nat)(a:α):az (n+1) a=az n a++[a]:=by
 exact List.replicate_succ'
theorem yn{K:Fg}{vs:List V}{H:Hp}{Q:VK}{E:XK}(h:gi K vs H Q E):rK K {nx:=λ_ H'=>Q .non H',rt:=Q} (cY jD vs) H:=by
 obtain⟨rl,nm,pr,rvs,rs,ys,ps,cs,rfl,hrl,hA,hOk,hE,hnm,ysl,hpr,psl,pin,hnum,q⟩:=h
 have n1:1<=rs.length:=eJ.mpr hOk.pos
 obtain⟨w,wy,wp,w0⟩:∃w:Str,w∈ys/\(ps≠[]->w∈ps)/\(ps=[]->∃z,rs[0]?=some (.num w z)):=by
  cases ps with
  |cons p r=>exact⟨p,pin p aL,λ_=>aL,λz=>by cases z⟩
  |nil=>
   have h0:=hnum rfl
   rw[iM] at h0
   cases e:rs[0]? with
   |none=>rw[e] at h0;cases h0
   |some r=>
    rw[e,cS] at h0
    cases r with
    |num x z=>exact⟨x,(hOk.rough _ (aA e)).1,λz=>absurd rfl z,λ_=>⟨z,rfl⟩⟩
    |_=>cases h0
 refine .inl ⟨_,rfl,rl,rfl,⟨_,ce.of hrl⟩,λkl hkl=>?_⟩
 have nrl:rl≠kl:=ar hrl hkl
 have nnm:nm≠kl:=ar hnm hkl
 have npr:pr≠kl:=ar hpr hkl
 refine jh (xs:=rvs) (λj σ' H'=>∃(refs:List V) (o:Option V),σ'=[some (.ref rl),some (.ref nm),some (.ref pr),none,none,none,none,none,none,o]/\H' kl=some (.lst refs)/\cK (Jj kl H') refs (az j ys)/\aV H H') ?_ ?_ ?_ ?_
 ·exact⟨[],none,rfl,ag,.nil,(aV.refl H).new hkl⟩
 ·rintro j σ' H' _ ⟨_,_,_,_,_,s⟩
  exact ce.of (s _ _ hrl)
 ·rintro j x σ' H' hx ⟨refs,o,rfl,hk,ha,s⟩
  refine j4 ?_
  have jl:j<rvs.length:=(af.mp hx).1
  have rl100:rvs.length<=100:=by rw[hA.len];exact hOk.few
  have rlen:refs.length=j:=by rw[ha.len,bf]
  refine⟨_,rfl,nm,_,rfl,.inl (ce.of (s _ _ hnm)),λa ha0=>?_⟩
  have nak:kl≠a:=ar hk ha0
  refine⟨refs,by rw[ax nak];exact hk,cc (by lia),refs++[.ref a],_,rfl,ag,?_,λb o h=>?_⟩
  ·rw[DA]
   refine cK.snoc (ha.imp λ_ _ z=>(z.same ((aV.refl H').new ha0)).upd) ⟨a,rfl,Ne.symm nak,?_⟩
   rw[ax (Ne.symm nak),ag]
  ·have h1:=s b o h
   rw[ax (ar h hkl),ax (ar h1 ha0)];exact h1
 ·rintro σ' H1 ⟨refs,o,_,hk,ha,s⟩
  rw[hA.len] at ha
  have rlen:refs.length=rs.length:=by rw[ha.len,bf]
  show nH K _ [some (.ref rl),some (.ref nm),some (.ref pr),some (.ref kl),none,none,none,none,none] H1
  refine⟨_,rfl,pr,_,rfl,.inl (ce.of (s _ _ hpr)),λa ha0=>?_⟩
  have nak:kl≠a:=ar hk ha0
  have K0:KJ kl H ys [] w rs.length H1 refs (az rs.length ys):=⟨hk,ha,by rw[bf],λi ks e=>by
   have hm:=aA e
   rw[dW] at hm
   rw[hm.2];exact⟨ysl,λy hy=>hy,.inl wy⟩,s⟩
  have K1:=K0.grown ((aV.refl H1).new (o:=.lst (ps.map V.str)) ha0)
  refine⟨_,rfl,yx K1.at_ (by decide) (by rw[rlen];exact n1) ?_⟩
  have K2:KJ kl H ys ps w rs.length (upd (upd H1 a (.lst (ps.map V.str))) kl (.lst (refs.set 0 (.ref a)))) (refs.set 0 (.ref a)) ((az rs.length ys).set 0 ps):=by
   have z:=K1.set (m:=0) (kp:=ps) (a:=a) hkl (Ne.symm nak) ag ⟨psl,pin,.inr ⟨rfl,rfl⟩⟩
   refine⟨z.at_,z.all,z.len,λi ks e=>?_,z.same⟩
   by_cases c:0=i
   ·subst c
    rw[bg (by rw[bf];exact n1)] at e;cases e
    refine⟨psl,pin,?_⟩
    by_cases e:ps=[]
    ·exact .inr ⟨rfl,e⟩
    ·exact .inl (wp e)
   ·obtain⟨z1,z2,z3⟩:=z.wit i ks e
    refine⟨z1,z2,?_⟩
    rcases z3 with z3|z3
    ·exact .inl z3
    ·exact absurd z3.1.symm c
  show nG K _ [some (.ref rl),some (.ref nm),some (.ref pr),some (.ref kl),none,none,none,none,none] (upd (upd H1 a (.lst (ps.map V.str))) kl (.lst (refs.set 0 (.ref a))))
  generalize upd (upd H1 a (.lst (ps.map V.str))) kl (.lst (refs.set 0 (.ref a)))=H2 at K2 ⊢
  generalize refs.set 0 (.ref a)=refs2 at K2
  have Z2:vQ ps ((az rs.length ys).set 0 ps):=λks e y hy=>by
   rw[bg (by rw[bf];exact n1)] at e;cases e;exact hy
  generalize (az rs.length ys).set 0 ps=kss2 at K2 Z2
  show nF K _ [some (.ref rl),some (.ref nm),some (.ref pr),some (.ref kl),some (.bl true),none,none,none,none] H2
  refine⟨λm σ' H'=>∃(refs:List V) (kss:List (List Str)) (more:Bool) (o5 o6 o7 o8:Option V),σ'=[some (.ref rl),some (.ref nm),some (.ref pr),some (.ref kl),some (.bl more),o5,o6,o7,o8]/\KJ kl H ys ps w rs.length H' refs kss/\vQ ps kss/\(more=false->sw rs rs.length kss)/\2*qO kss+more.toNat=m,⟨_,refs2,kss2,true,_,_,_,_,rfl,K2,Z2,(λz=>by cases z),rfl⟩,?_⟩
  rintro m σ' H' ⟨refs3,kss3,more,o5,o6,o7,o8,rfl,K3,Z3,P3,hm⟩
  refine⟨_,rfl,more,rfl,uW (λhmore=>?_) (λhmore=>?_)⟩
  ·subst hmore
   refine⟨Lm rl nm pr kl H ys ps w rs (2*qO kss3) rs.length,?_,?_⟩
   ·rintro σ4 H4 ⟨refs4,kss4,more4,p5,p6,p7,p8,rfl,K4,hB,Z4,P4⟩
    refine⟨_,?_,refs4,kss4,more4,_,_,_,_,rfl,K4,Z4,P4,rfl⟩
    have:(true:Bool).toNat=1:=rfl
    lia
   ·-- more=False;for n in range(len(rows))
    show oF K _ [some (.ref rl),some (.ref nm),some (.ref pr),some (.ref kl),some (.bl false),o5,o6,o7,o8] H'
    have hlr:=K3.same _ _ hrl
    refine⟨_,rfl,_,_,rfl,.inl ⟨_,ce.of hlr,rfl⟩,_,rfl,by lia,by rw[hA.len];have:=hOk.few;lia,lE (λi=>Lm rl nm pr kl H ys ps w rs (2*qO kss3) i) ⟨refs3,kss3,false,_,_,_,_,rfl,K3,by simp,Z3,λ_ n _ _ _ _ hn=>absurd hn (dO _)⟩ ?_ ?_⟩
    ·rintro i σ5 H5 hi ⟨refs5,kss5,more5,p5,p6,p7,p8,rfl,K5,hB,Z5,P5⟩
     have hi:i<rs.length:=by rw[hA.len] at hi;simpa using hi
     have e0:(0:Int)+(i:Int)=((i:Nat):Int):=by lia
     show lu K _ [some (.ref rl),some (.ref nm),some (.ref pr),some (.ref kl),some (.bl more5),some (.int ((0:Int)+(i:Int))),p6,p7,p8] H5
     rw[e0]
     exact ME hkl hrl hA hOk hE w0 hi K5 hB Z5 P5
    ·rintro σ5 H5 h5
     rw[hA.len,de] at h5
     exact h5
  ·refine⟨_,rfl,q kl refs3 kss3 H' hkl K3.at_ (K3.all.imp λ_ _ ⟨a,e,_,h⟩=>⟨a,e,h⟩) K3.len (λi ks e=>?_) ⟨Z3,λn m r ks km hr hm hks hkm=>P3 hmore n m r ks km (af.mp hr).1 hr hm hks hkm⟩ K3.same⟩
   obtain⟨z1,z2,z3⟩:=K3.wit i ks e
   refine⟨z1,z2,z3.imp (λz e=>?_) id⟩
   rw[e] at z;cases z
theorem sD{H H1:Hp}{a:Addr}{o:HO}(s:aV H H1)(h:H a=none):aV H (upd H1 a o):=λb u e=>by
 rw[ax (ar e h)];exact s b u e
theorem Aw{K:Fg}{vs:List V}{H:Hp}{Q:VK}{E:XK}(h:cw K vs H Q E):ue K {nx:=λ_ H'=>Q .non H',rt:=Q} (cY oJ vs) H:=by
 obtain⟨rt,n,rvs,rs,rfl,hrt,hA,g,hn,q⟩:=h
 refine⟨_,rfl,?_⟩
 show qc K _ [some (.ref rt),some (.int (n:Nat)),some (.int (n:Nat))] H
 refine⟨λm σ' H'=>∃k,k<=rs.length/\m=rs.length-k/\σ'=[some (.ref rt),some (.int (n:Nat)),some (.int (runJ rs k n:Nat))]/\H'=H,⟨_,0,bF _,rfl,rfl,rfl⟩,?_⟩
 rintro m σ' H' ⟨k,hk,rfl,rfl,rfl⟩
 have lt:=mE g k hn
 obtain⟨v,r,e1,e2,hra⟩:=hA.get lt
 obtain⟨p,xs,rfl,hp⟩:=hra.ref
 have e1':rvs[((runJ rs k n:Nat):Int).toNat]?=some (.ref p):=by simpa using e1
 refine⟨_,rfl,_,rfl,dM hrt (by lia) e1' (dM hp (by decide) rfl (.inl ⟨rfl,_,rfl,cI (λhw=>?_) (λhw=>?_)⟩))⟩
 ·obtain⟨t',rfl⟩:=kj (iZ hw)
  have kl:k<rs.length:=by
   by_cases c:k<rs.length
   ·exact c
   ·have:k=rs.length:=by lia
    subst this
    have:=g.ring n hn _ e2
    cases this
  refine⟨λσ' H''=>σ'=[some (.ref rt),some (.int (n:Nat)),some (.int (runJ rs (k+1) n:Nat))]/\H''=H',?_,?_⟩
  ·rintro σ4 H4 ⟨rfl,rfl⟩
   exact⟨rs.length-(k+1),by lia,k+1,kl,rfl,rfl,rfl⟩
  ·refine⟨_,rfl,_,rfl,dM hrt (by lia) e1' ⟨.ref p,.jump t',rfl,hra,?_⟩⟩
   have e:runJ rs (k+1) n=t':=by rw[lK];unfold stp;rw[e2]
   rw[e]
   exact⟨rfl,rfl⟩
 ·have e:=pO (rs:=rs) (k:=k) (n:=n) hk λr' hr'=>by
   rw[e2] at hr';cases hr'
   exact pJ λz=>hw (by rw[z])
  rw[e] at q
  exact⟨_,rfl,q⟩
def dG(F:List Nat):List (dY×V):=F.map λ(n:Nat)=>(Sum.inl ((n:Nat):Int),V.bl true)
theorem Gr:∀(F:List Nat) (m:Nat),(gz (dG F) (Sum.inl (m:Int))).isSome=decide (m∈F)
 |[],m=>rfl
 |a::r,m=>by
  unfold gz dG
  rw[bt,fc]
  by_cases c:m=a
  ·subst c
   rw[decide_eq_true (by rfl:((Sum.inl (m:Int),V.bl true):dY×V).1=Sum.inl (m:Int))]
   rw[decide_eq_true aL]
   rfl
  ·have e:decide (((Sum.inl (a:Int),V.bl true):dY×V).1=Sum.inl (m:Int))=false:=decide_eq_false λz=>c (by injection z with z;lia)
   rw[e]
   have ih:=Gr r m
   unfold gz dG at ih
   refine Eq.trans ih ?_
   rw[Bool.eq_iff_iff,decide_eq_true_eq,decide_eq_true_eq,aJ]
   exact⟨.inr,λz=>z.resolve_left c⟩
theorem putF{F:List Nat}{m:Nat}(h:m∉F):ix (dG F) (Sum.inl (m:Int)) (V.bl true)=dG (F++[m]):=by
 have e:gz (dG F) (Sum.inl (m:Int))=none:=by
  have:=Gr F m
  rw[decide_eq_false h] at this
  cases q:gz (dG F) (Sum.inl (m:Int)) with
  |none=>rfl
  |some v=>rw[q] at this;cases this
 rw[pL _ e]
 unfold dG
 rw[aN]
 rfl
theorem xN(F:List Nat):(dG F).length=F.length:=by unfold dG;rw[ab]
def GB(rs:List ba)(un:Option Str)(F:List Nat)(n:Nat):Prop:=∀r,rs[n]?=some r->(∀y,un=some y->gI r≠.str y)->∀m∈bS n r,m∈F
theorem GB.mono{rs:List ba}{un:Option Str}{F F':List Nat}{n:Nat}(h:GB rs un F n)(s:∀x∈F,x∈F'):GB rs un F' n:=λr e hy m hm=>s m (h r e hy m hm)
structure WI(rs:List ba)(un:Option Str)(F W:List Nat)(now:Nat->Prop):Prop where
 nd:F.Nodup
 way:∀x∈F,w5 rs un x
 zero:0∈F
 sub:∀x∈W,x∈F
 cl:∀x∈F,x∈W\/now x\/GB rs un F x
theorem WI.add{rs:List ba}{un:Option Str}{F W:List Nat}{now:Nat->Prop}{m:Nat}(i:WI rs un F W now)(h:m∉F)(w:w5 rs un m):WI rs un (F++[m]) (W++[m]) now:=by
 refine⟨pI i.nd h,λx hx=>?_,bh _ i.zero,λx hx=>?_,λx hx=>?_⟩
 ·rcases aB.mp hx with z|z
  ·exact i.way x z
  ·rw[ae.mp z];exact w
 ·rcases aB.mp hx with z|z
  ·exact bh _ (i.sub x z)
  ·exact aQ _ z
 ·rcases aB.mp hx with z|z
  ·rcases i.cl x z with a|a|a
   ·exact .inl (bh _ a)
   ·exact .inr (.inl a)
   ·exact .inr (.inr (a.mono λy hy=>bh _ hy))
  ·exact .inl (aQ _ z)
def Mx(rt fd wl:Addr)(H:Hp)(rs:List ba)(un:Option Str)(m:Nat):St->Hp->Prop:=λσ' H'=>∃(F W:List Nat) (o4 o5:Option V),σ'=[some (.ref rt),some (JD un),some (.ref fd),some (.ref wl),o4,o5]/\H' fd=some (.dK (dG F))/\H' wl=some (.lst (aO W))/\WI rs un F W (λ_=>False)/\aV H H'/\2*(rs.length-F.length)+W.length<=m
def MY(rt fd wl tp:Addr)(H:Hp)(rs:List ba)(un:Option Str)(ms:List Nat)(n m j:Nat):St->Hp->Prop:=λσ' H'=>∃(F W:List Nat) (o5:Option V),σ'=[some (.ref rt),some (JD un),some (.ref fd),some (.ref wl),some (.int (n:Nat)),o5]/\H' fd=some (.dK (dG F))/\H' wl=some (.lst (aO W))/\H' tp=some (.tup (aO ms))/\WI rs un F W (λx=>x=n)/\aV H H'/\2*(rs.length-F.length)+W.length<=m/\∀i,i<j->∀x,ms[i]?=some x->x∈F
theorem sR(ns:List Nat)(n:Nat):aO (ns++[n])=aO ns++[V.int (n:Nat)]:=by unfold aO;rw[aN];rfl
theorem WI.done{rs:List ba}{un:Option Str}{F:List Nat}(i:WI rs un F [] (λ_=>False))(m:Nat):m∈F↔w5 rs un m:=by
 refine⟨i.way m,λh=>?_⟩
 induction h with
 |zero=>exact i.zero
 |step _ e hy hm ih=>
  rcases i.cl _ ih with z|z|z
  ·cases z
  ·exact z.elim
  ·exact z _ e hy _ hm
theorem WI.len{rs:List ba}{un:Option Str}{F W:List Nat}{now:Nat->Prop}(g:cp rs)(i:WI rs un F W now):F.length<=rs.length:=dH i.nd λx hx=>(i.way x hx).lt g
theorem JE{K:Fg}{rt fd wl:Addr}{H H1:Hp}{rvs:List V}{rs:List ba}{un:Option Str}{F W:List Nat}{n m:Nat}{r:ba}{v:V}{o5:Option V}{D:og}(hrt:H rt=some (.tup rvs))(hfd:H fd=none)(hwl:H wl=none)(nfw:fd≠wl)(g:cp rs)
  (e1:rvs[n]?=some v) (e2:rs[n]?=some r) (hra:dD H v r) (hy:∀y,un=some y->gI r≠.str y) (hn:w5 rs un n) (h1:H1 fd=some (.dK (dG F))) (h2:H1 wl=some (.lst (aO W))) (i:WI rs un F W (λx=>x=n)) (s:aV H H1) (hm:2*(rs.length-F.length)+W.length<=m) (hmb:m<=1000)
  (q:∀(σ':St) (H':Hp),Mx rt fd wl H rs un m σ' H'->D.nx σ' H') :
  jQ (jF K (bE (e8 K) [] E0 (ao (au 0) (ao (au 4) aP)))) (bb 5) (mQ K) D [some (.ref rt),some (JD un),some (.ref fd),some (.ref wl),some (.int (n:Nat)),o5] H1:=by
 refine .inr ⟨_,rfl,_,rfl,rt,n,rvs,v,r,rfl,s _ _ hrt,e1,hra.mono (.of_same s),λtp H2 htp s2=>⟨tp,rfl,⟨_,dZ.of htp⟩,kR (xs:=aO (bS n r)) (MY rt fd wl tp H rs un (bS n r) n m) ?_ ?_ ?_ ?_⟩⟩
 ·exact⟨F,W,_,rfl,s2 _ _ h1,s2 _ _ h2,htp,i,s.trans s2,hm,λi hi=>absurd hi (dO _)⟩
 ·rintro j σ' H' _ ⟨_,_,_,_,_,_,h3,_⟩
  exact dZ.of h3
 ·rintro j x σ' H' hx ⟨F',W',p5,rfl,h3,h4,h5,i',s',hm',hj⟩
  obtain⟨to,hto,rfl⟩:=pG hx
  have hw:w5 rs un to:=.step hn e2 hy (aA hto)
  have fl:=i'.len g
  have few:=g.few
  show mQ K _ [some (.ref rt),some (JD un),some (.ref fd),some (.ref wl),some (.int (n:Nat)),some (.int (to:Nat))] H'
  refine⟨_,rfl,_,rfl,fd,_,rfl,oe.k (k:=Sum.inl (to:Int)) h3,_,rfl,?_⟩
  show if(!(gz (dG F') (Sum.inl (to:Int))).isSome)=true then _ else _
  rw[Gr]
  refine mt (λhin=>?_) (λhin=>?_)
  ·have nd':=dH (pI i'.nd hin) (n:=rs.length) λy hy'=>by
    rcases aB.mp hy' with z|z
    ·exact(i'.way y z).lt g
    ·rw[ae.mp z];exact hw.lt g
   rw[ai,aS] at nd'
   refine⟨_,rfl,_,rfl,fd,_,rfl,xb.k (k:=Sum.inl (to:Int)) h3 (cc (by rw[xN];lia)),?_⟩
   rw[putF hin]
   have h4':(upd H' fd (.dK (dG (F'++[to])))) wl=some (.lst (aO W')):=by rw[ax (Ne.symm nfw)];exact h4
   have nwl:W'.length<=100000:=by lia
   refine⟨_,rfl,.inl ⟨rfl,_,ce.of h4'⟩,_,rfl,wl,_,_,rfl,rfl,h4',cc (by rw[bv];exact nwl),?_⟩
   have ntf:tp≠fd:=λz=>by rw[z,h3] at h5;cases h5
   have ntw:tp≠wl:=λz=>by rw[z,h4] at h5;cases h5
   refine⟨F'++[to],W'++[to],_,rfl,by rw[ax nfw,ag],by rw[ag,sR],by rw[ax ntw,ax ntf];exact h5,i'.add hin hw,sD (sD s' hfd) hwl,?_,λk hk x hxk=>?_⟩
   ·simp only[ai,aS];lia
   ·by_cases c:k<j
    ·exact bh _ (hj k c x hxk)
    ·have:k=j:=by lia
     subst this
     rw[hto] at hxk;cases hxk
     exact aQ _ (ae.mpr rfl)
  ·refine⟨F',W',_,rfl,h3,h4,h5,i',s',hm',λk hk x hxk=>?_⟩
   by_cases c:k<j
   ·exact hj k c x hxk
   ·have:k=j:=by lia
    subst this
    rw[hto] at hxk;cases hxk
    exact hin
 ·rintro σ' H' ⟨F',W',p5,rfl,h3,h4,h5,i',s',hm',hj⟩
  rw[bv] at hj
  refine q _ _ ⟨F',W',_,_,rfl,h3,h4,⟨i'.nd,i'.way,i'.zero,i'.sub,λx hx=>?_⟩,s',hm'⟩
  rcases i'.cl x hx with z|z|z
  ·exact .inl z
  ·subst z
   refine .inr (.inr λr' e _ m' hm'=>?_)
   rw[e2] at e;cases e
   obtain⟨k,hk,ek⟩:=fk.mp hm'
   exact hj k hk m' (by rw[aa hk,ek])
  ·exact .inr (.inr z)
theorem Ax{K:Fg}{vs:List V}{H:Hp}{Q:VK}{E:XK}(h:gL K vs H Q E):uf K {nx:=λ_ H'=>Q .non H',rt:=Q} (cY oK vs) H:=by
 obtain⟨rt,un,rvs,rs,rfl,hrt,hA,g,q⟩:=h
 refine λfd hfd=>⟨ag,[(Sum.inl 0,V.bl true)],rfl,by decide,?_⟩
 have e0:upd (upd H fd (.dK [])) fd (.dK (gc [] [(Sum.inl 0,V.bl true)]))=upd H fd (.dK (dG [0])):=by
  rw[wY]
  have:gc [] [((Sum.inl 0:dY),V.bl true)]=dG [0]:=by
   show ix [] (Sum.inl 0) (V.bl true)=_
   rw[pL _ Gs];rfl
  rw[this]
 show qf K _ [some (.ref rt),some (JD un),some (.ref fd),none,none,none] (upd (upd H fd (.dK [])) fd (.dK (gc [] [(Sum.inl 0,V.bl true)])))
 rw[e0]
 refine⟨(by show 1<=sizeLine;decide),λwl hwl0=>?_⟩
 have nfw:fd≠wl:=ar ag hwl0
 have hwl:H wl=none:=by
  have:(upd H fd (.dK (dG [0]))) wl=H wl:=ax (Ne.symm nfw)
  rw[<-this];exact hwl0
 show qe K _ [some (.ref rt),some (JD un),some (.ref fd),some (.ref wl),none,none] (upd (upd H fd (.dK (dG [0]))) wl (.lst [V.int 0]))
 have few0:=g.few
 refine⟨λm σ' H'=>m<=1000/\Mx rt fd wl H rs un m σ' H',⟨2*(rs.length-1)+1,by lia,[0],[0],none,none,rfl,by rw[ax nfw,ag],ag,⟨by simp,λx hx=>by rw[ae.mp hx];exact .zero,by simp,λx hx=>hx,λx hx=>.inl hx⟩,sD (sD (aV.refl H) hfd) hwl,by simp⟩,?_⟩
 rintro m σ' H1 ⟨hmb,F,W,o4,o5,rfl,h1,h2,i,s,hm⟩
 refine⟨_,rfl,_,_,rfl,.inl ⟨_,ce.of h2,rfl⟩,_,_,rfl,rfl,_,rfl,cI (λhl=>?_) (λhl=>?_)⟩
 ·rw[bv] at hl
  obtain⟨L,n,rfl⟩:∃L n,W=L++[n]:=by
   rcases i7 W with z|⟨L,n,z⟩
   ·subst z;simp at hl
   ·exact⟨L,n,by rw[z,i6]⟩
  have hnF:=i.sub n (aQ _ (ae.mpr rfl))
  have hn:=i.way n hnF
  have nl:=hn.lt g
  obtain⟨v,r,e1,e2,hra⟩:=hA.get nl
  have hm1:2*(rs.length-F.length)+L.length<=m-1:=by rw[ai,aS] at hm;lia
  have m0:0<m:=by rw[ai,aS] at hm;lia
  refine⟨Mx rt fd wl H rs un (m-1),λσ4 H4 h4=>⟨m-1,by lia,by lia,h4⟩,?_⟩
  rw[sR] at h2
  refine⟨_,rfl,.inl ⟨rfl,_,ce.of h2⟩,wl,_,V.int (n:Nat),rfl,rfl,h2,?_,?_⟩
  ·rw[ai,aS,Nat.add_sub_cancel,aX (aw _),dB];rfl
  rw[jx]
  show qd K _ [some (.ref rt),some (JD un),some (.ref fd),some (.ref wl),some (.int (n:Nat)),o5] (upd H1 wl (.lst (aO L)))
  have h1':(upd H1 wl (.lst (aO L))) fd=some (.dK (dG F)):=by rw[ax nfw];exact h1
  have h2':(upd H1 wl (.lst (aO L))) wl=some (.lst (aO L)):=ag
  have s':aV H (upd H1 wl (.lst (aO L))):=sD s hwl
  generalize upd H1 wl (.lst (aO L))=H2 at h1' h2' s'
  have i':WI rs un F L (λx=>x=n):=⟨i.nd,i.way,i.zero,λx hx=>i.sub x (bh _ hx),λx hx=>by
   rcases i.cl x hx with z|z|z
   ·rcases aB.mp z with z|z
    ·exact .inl z
    ·exact .inr (.inl (ae.mp z))
   ·exact z.elim
   ·exact .inr (.inr z)⟩
  have e1':rvs[((n:Nat):Int).toNat]?=some v:=by simpa using e1
  cases un with
  |none=>
   refine⟨_,rfl,rfl,_,rfl,ut (ut ?_)⟩
   exact JE hrt hfd hwl nfw g e1 e2 hra (λy z=>by cases z) hn h1' h2' i' s' hm1 (by lia) λ_ _ z=>z
  |some y=>
   refine⟨_,rfl,rfl,_,rfl,lg ?_⟩
   refine⟨_,rfl,_,rfl,dM (s' _ _ hrt) (by lia) e1' ⟨v,r,rfl,hra.mono (.of_same s'),λH3 s3=>⟨_,rfl,.inl ⟨?_,_,rfl,?_⟩⟩⟩⟩
   ·cases r<;>rfl
   ·refine mt (λhne=>?_) (λhe=>?_)
    ·exact JE hrt hfd hwl nfw g e1 e2 hra (λy' z=>by cases z;exact hne) hn (s3 _ _ h1') (s3 _ _ h2') i' (s'.trans s3) hm1 (by lia) λ_ _ z=>z
    ·refine⟨F,L,_,_,rfl,s3 _ _ h1',s3 _ _ h2',⟨i'.nd,i'.way,i'.zero,i'.sub,λx hx=>?_⟩,s'.trans s3,hm1⟩
     rcases i'.cl x hx with z|z|z
     ·exact .inl z
     ·subst z
      refine .inr (.inr λr' e hy=>?_)
      rw[e2] at e;cases e
      exact absurd he (hy y rfl)
     ·exact .inr (.inr z)
 ·rw[bv] at hl
  have:W=[]:=du.mp (by lia)
  subst this
  have fl:=i.len g
  have few:=g.few
  refine⟨_,rfl,fd,_,F.map (λn=>((n:Nat):Int)),rfl,h1,?_,by rw[ab];lia,λl ns' hl' hp hs=>?_⟩
  ·unfold dG;rw[cx,cx];rfl
  ·obtain⟨ks,rfl,hk,hr⟩:=Dp hp hs i.nd
   have e:(ks.map λn=>((n:Nat):Int)).map V.int=aO ks:=by unfold aO;rw[cx];rfl
   rw[e]
   refine q l ks _ (λm=>(hk m).trans (i.done m)) hr ag (s.free hl') (s.new hl')
def Kb(rs:List ba)(m:Nat):Bool:=match rs[m]? with
 |some r=>!fL r
 |none=>false
theorem Bu{rs:List ba}{m:Nat}(h:m<rs.length):Kb rs m=true↔∀r,rs[m]?=some r->fL r=false:=by
 unfold Kb
 rw[aa h]
 constructor
 ·intro z r e;cases e;simpa using z
 ·intro z;simpa using z _ rfl
theorem Gu{r:ba}{rs:List ba}{m:Nat}(e:rs[m]?=some r):(!decide (V.str (oj r)=V.str "jump"))=Kb rs m:=by
 unfold Kb
 rw[e]
 cases r with
 |jump t=>show(!decide (V.str "jump"=V.str "jump"))=false;decide +kernel
 |num x z=>show(!decide (V.str "num"=V.str "jump"))=true;decide +kernel
 |op x s a b=>show(!decide (V.str "op"=V.str "jump"))=true;decide +kernel
 |call x k as=>show(!decide (V.str "call"=V.str "jump"))=true;decide +kernel
 |say a=>show(!decide (V.str "say"=V.str "jump"))=true;decide +kernel
 |test a t=>show(!decide (V.str "test"=V.str "jump"))=true;decide +kernel
 |give a=>show(!decide (V.str "give"=V.str "jump"))=true;decide +kernel
theorem v8(a b:List Nat):aO (a++b)=aO a++aO b:=by unfold aO;rw[aN]
theorem yk{K:Fg}{vs:List V}{H:Hp}{Q:VK}{E:XK}(h:cX K vs H Q E):rq K {nx:=λ_ H'=>Q .non H',rt:=Q} (cY kO vs) H:=by
 obtain⟨rt,rvs,rs,rfl,hrt,hA,g,q⟩:=h
 refine .inl ⟨_,rfl,rt,none,rvs,rs,rfl,hrt,hA,g,λl ns H1 hns hr hl hl0 s1=>⟨l,rfl,⟨_,ce.of hl⟩,λD hD=>?_⟩⟩
 have nD:l≠D:=ar hl hD
 have nlt:∀m∈ns,m<rs.length:=λm hm=>((hns m).mp hm).lt g
 refine jh (xs:=aO ns) (λj σ' H'=>∃o,σ'=[some (.ref rt),o]/\H'=upd H1 D (.lst (aO ((ns.take j).filter (Kb rs))))) ?_ ?_ ?_ ?_
 ·exact⟨none,rfl,rfl⟩
 ·rintro j σ' H' _ ⟨o,_,rfl⟩
  exact ce.of (by rw[ax nD];exact hl)
 ·rintro j x σ' H' hx ⟨o,rfl,rfl⟩
  obtain⟨m,hm,rfl⟩:=pG hx
  have ml:=nlt m (aA hm)
  obtain⟨v,r,e1,e2,hra⟩:=(hA.imp λ_ _ z=>z.mono (Tp.of_same s1)).get ml
  have nj:j<ns.length:=(af.mp hm).1
  have few:=g.few
  have nsl:ns.length<=rs.length:=dH (hr.imp λh=>aH h) nlt
  have ft:=qV (Kb rs) ns j m hm
  have fl:((ns.take j).filter (Kb rs)).length<=100:=bn (dR _ _) (by rw[be];lia)
  obtain⟨p,xs,rfl,hp⟩:=hra.ref
  have e1':rvs[((m:Nat):Int).toNat]?=some (.ref p):=by simpa using e1
  have nrt:rt≠D:=ar (s1 _ _ hrt) hD
  have np:p≠D:=ar hp hD
  refine⟨_,rfl,_,rfl,dM (by rw[ax nrt];exact s1 _ _ hrt) (by lia) e1' (dM (by rw[ax np];exact hp) (by decide) rfl (.inl ⟨rfl,_,rfl,?_⟩))⟩
  rw[Gu e2]
  refine uW (λhb=>?_) (λhb=>?_)
  ·refine⟨_,rfl,_,ag,cc (by rw[bv];lia),_,rfl,?_⟩
   rw[wY,ft,if_pos hb,v8]
   rfl
  ·refine⟨_,rfl,?_⟩
   rw[ft,if_neg (by rw[hb];decide),cQ]
 ·rintro σ' H2 ⟨o,_,rfl⟩
  have et:ns.take (aO ns).length=ns:=dA (by rw[bv];exact aw _)
  rw[et]
  refine q D _ _ (λm=>?_) (hr.filter _) ag (s1.free hD) (s1.new hD)
  rw[fg]
  constructor
  ·rintro⟨h1,h2⟩
   exact⟨(hns m).mp h1,(Bu (nlt m h1)).mp h2⟩
  ·rintro⟨h1,h2⟩
   have h1':=(hns m).mpr h1
   exact⟨h1',(Bu (nlt m h1')).mpr h2⟩
end Bg
end
section
namespace L2
open PySem PySem.Spec PyProof.Rows
structure QE(X:Cx)(e:Expr)(t:TE):Prop where
 up:PE X e t
structure QT(X:Cx)(e:Expr)(t:TT):Prop where
 up:PT X e t
structure QW(X:Cx)(e:Expr)(t:TT):Prop where
 up:PW X e t
structure QA(X:Cx)(e:List Expr)(t:TA):Prop where
 up:PA X e t
structure QS(X:Cx)(e:Stmt)(t:TS):Prop where
 up:PS X e t
structure lc(X:Cx)(e:List Stmt)(t:TS):Prop where
 up:jV X e t
structure QG(X:Cx)(e:Expr)(t:TG):Prop where
 up:PG X e t
structure LA(X:Cx)(e:List Expr)(t:Cp):Prop where
 up:Ll X e t
structure QI(X:Cx)(a b:Expr)(t:TI):Prop where
 up:PI X a b t
structure QO(X:Cx)(e:Option Expr)(t:TO):Prop where
 up:PO X e t
structure GJ(X:Cx)(e:List Expr)(t:TT):Prop where
 up:Co X e t
theorem qv(i:Nat){x:Str}{pos:Pos}(hN:X.N[i]?=some x:=by rfl)(hv:Ml X.env.scope x:=by first|exact Or.inl rfl|exact Or.inr (Or.inl rfl)|exact Or.inr (Or.inr rfl))(hd:(x==("__debug__":Str))=false:=by decide)(hcd:(x==("__classdict__":Str))=false:=by decide):QE X (.Name x pos) (au i):=
 ⟨pv i hN hv hd hcd⟩
theorem aE{i j pos}:QE X (.Constant (.int i) j pos) (tC (.int i)):=
 ⟨Kv ⟩
theorem lI{b j pos}:QE X (.Constant (.bool b) j pos) (tC (.bl b)):=
 ⟨LR ⟩
theorem mD{j pos}:QE X (.Constant .none j pos) (tC .non):=
 ⟨Kx ⟩
theorem bH{x j pos}:QE X (.Constant (.str x) j pos) (tC (.str x)):=
 ⟨Ky ⟩
theorem bG{op:Operator}{r:R2}(ho:jM X (binaryOp op) r)(ha:QE X a ta)(hb:QE X b tb):QE X (.BinOp a op b pos) (bA r ta tb):=
 ⟨LV ho ha.up hb.up⟩
theorem Js{op:UnaryOp}{r:V->Hp->VK->Prop}(ho:Mj X (unaryOp op) r)(ha:QE X a ta):QE X (.UnaryOp op a pos) (Mo r ta):=
 ⟨LW ho ha.up⟩
theorem pM{op:CmpOp}{r:R2}(ho:jM X (compareOp op) r)(ha:QE X a ta)(hb:QE X b tb)(hm:behindInMarks op b=false):QE X (.Compare a [op] [b] pos) (bA r ta tb):=
 ⟨HB ho ha.up hb.up hm⟩
theorem Fm{c:Expr}(hc:QT X c tA)(ha:QE X a ta)(hb:QE X b tb):QE X (.IfExp c a b pos) (MG tA ta tb):=
 ⟨Fc hc.up ha.up hb.up⟩
theorem gm{lo hi:Option Expr}{r:V->Option Int->Option Int->Hp->VK->Prop}(hr:Eb X r)(he:QE X e te)(hl:QO X lo tl)(hu:QO X hi th):QE X (.Subscript e (.Slice lo hi none p2) pos) (BT r te tl th):=
 ⟨Fd hr he.up hl.up hu.up⟩
theorem bu{r:R2}(hr:Gw X r)(ha:QE X a ta)(hb:QE X b tb)(hs:AZ b):QE X (.Subscript a b pos) (bA r ta tb):=
 ⟨LU hr ha.up hb.up hs⟩
theorem cM{x1}(h:QA X es t):QE X (.Tuple es x1 pos) (gu t):=
 ⟨Kz h.up⟩
theorem dj(h:QA X es t):QE X (.List es pos) (gM t):=
 ⟨Kw h.up⟩
theorem jG{id:String}(pa:PlainAttrs T)(slot:Slot T name id)(hty:typeOf (.builtin id)=pure (.type "method_descriptor"))(hm:Lk X id r)(ho:QE X o to)(ha:QA X (e::es) t)(hbase:attributeBase o name X.env (eval o X.env)=eval o X.env:=by rfl)(hfew:((backTo cpos (starEach (e::es) X.env)).all (λx=>!x.1)&&(backToKw cpos (keywordEach [] X.env)).all (λx=>x.1.isSome)
   && decide ((e::es).length+([]:List Keyword).length+(if([]:List Keyword).isEmpty then 0 else 1)<30))=true:=by rfl) (hline:(apos.endLine==cpos.line)=true:=by rfl) (hs:starEach (e::es) X.env=(false,eval e X.env)::starEach es X.env:=by rfl) (hplain:(backTo cpos (starEach es X.env)).any (·.1)=false:=by rfl):QE X (.Call (.Attribute o name apos) (e::es) [] cpos) (vh X.K T r to t):=
 ⟨LS pa slot hty hm ho.up ha.up hbase hfew hline hs hplain⟩
theorem Aq{id:String}(pa:PlainAttrs T)(slot:Slot T name id)(hty:typeOf (.builtin id)=pure (.type "method_descriptor"))(hm:Lk X id r)(ho:QE X o to)(hbase:attributeBase o name X.env (eval o X.env)=eval o X.env:=by rfl)(hline:(apos.endLine==cpos.line)=true:=by rfl):QE X (.Call (.Attribute o name apos) [] [] cpos) (FM X.K T r to):=
 ⟨Ks pa slot hty hm ho.up hbase hline⟩
theorem ca{id:String}(hc:ja X (.builtin id) r)(hg:Gl X x)(hm:X.mg x=none)(hv:bootBuiltins x=some (.builtin id))(ha:QA X (e::es) t)(hn:x≠"__name__":=by decide)(hdb:(x==("__debug__":Str))=false:=by decide)(he:starEach (e::es) X.env=(false,eval e X.env)::starEach es X.env:=by rfl)(hpl:(backTo pos (starEach es X.env)).any (·.1)=false:=by rfl):QE X (.Call (.Name x p) (e::es) [] pos) (iI r t):=
 ⟨E9 hc hg hm hv ha.up hn hdb he hpl⟩
theorem cz(hc:ja X (.type T) r)(hg:Gl X x)(hm:X.mg x=none)(hv:bootBuiltins x=some (.type T))(ha:QA X (e::es) t)(hn:x≠"__name__":=by decide)(hdb:(x==("__debug__":Str))=false:=by decide)(he:starEach (e::es) X.env=(false,eval e X.env)::starEach es X.env:=by rfl)(hpl:(backTo pos (starEach es X.env)).any (·.1)=false:=by rfl):QE X (.Call (.Name x p) (e::es) [] pos) (iI r t):=
 ⟨Do hc hg hm hv ha.up hn hdb he hpl⟩
theorem bO{X:Cx}{x:Str}{ps:List Str}{k:Nat}{sp:Sp}{e:Expr}{es:List Expr}{t:TA}{p pos:Pos}(c:aK X.prog X.w X.K X.mg X.base x ps k sp)(hr:dc k X.A)(hg:Gl X x)(ha:QA X (e::es) t)(hdb:(x==("__debug__":Str))=false:=by decide)(he:starEach (e::es) X.env=(false,eval e X.env)::starEach es X.env:=by rfl)(hpl:(backTo pos (starEach es X.env)).any (·.1)=false:=by rfl):QE X (.Call (.Name x p) (e::es) [] pos) (bE sp [] E0 t):=
 ⟨LT c hr hg ha.up hdb he hpl⟩
theorem mC{wi:TI}(ok:sh sc N scope NY js)(hsc:X.env.scope=sc)(hN:X.N=N)(hk:NY.length=N.length+k)(hc:X.calm=true)(hit:QI X target iter wi)(hg:∀cl C s₀ H₀ fp,QG (eM X NY scope cl C s₀ H₀ fp) target g)(hi:∀cl C s₀ H₀ fp,GJ (eM X NY scope cl C s₀ H₀ fp) ifs tc)(he:∀cl C s₀ H₀ fp,QE (eM X NY scope cl C s₀ H₀ fp) elt te)(hs:∀x,foldedSetIterable iter X.env x=pure x:=by intro _;rfl):QE X (.ListComp elt [⟨target,iter,ifs,0⟩] scope pos) (jX js k wi g tc te):=
 ⟨HC ok hsc hN hk hc hit.up (λcl C s₀ H₀ fp=>(hg cl C s₀ H₀ fp).up) (λcl C s₀ H₀ fp=>(hi cl C s₀ H₀ fp).up) (λcl C s₀ H₀ fp=>(he cl C s₀ H₀ fp).up) hs⟩
theorem pN{wi:TI}{i:Nat}{y:Str}{py spos:Pos}(ok:sh sc N scope NY js)(hsc:X.env.scope=sc)(hN:X.N=N)(hk:NY.length=N.length+k)(hc:X.calm=true)(hit:QI X target iter wi)(hg:∀cl C s₀ H₀ fp,QG (eM X NY scope cl C s₀ H₀ fp) target g)(hi:∀cl C s₀ H₀ fp,GJ (eM X NY scope cl C s₀ H₀ fp) ifs tc)(he:∀cl C s₀ H₀ fp,QE (eM X NY scope cl C s₀ H₀ fp) elt te)(nd:X.N.Nodup)(hy:X.N[i]?=some y)(hl:Ji X.env.scope y)(hsw:swapsWith (.ListComp elt [⟨target,iter,ifs,0⟩] scope pos) (some (.Name y py)) spos.line X.env=pure true)(hs:∀x,foldedSetIterable iter X.env x=pure x:=by intro _;rfl)(hf:X.fn y=true\/X.env.scope.names.lookup y=some .local:=by first|exact .inl rfl|exact .inr rfl|assumption):QS X (.Assign [.Name y py] (.ListComp elt [⟨target,iter,ifs,0⟩] scope pos) spos) (ci (jX js k wi g tc te) (bb i)):=
 ⟨HZ ok hsc hN hk hc hit.up (λcl C s₀ H₀ fp=>(hg cl C s₀ H₀ fp).up) (λcl C s₀ H₀ fp=>(hi cl C s₀ H₀ fp).up) (λcl C s₀ H₀ fp=>(he cl C s₀ H₀ fp).up) nd hy hl hsw hs hf⟩
theorem ik :QO X none gy:=
 ⟨HW ⟩
theorem im(h:QE X e te):QO X (some e) (kX te):=
 ⟨HX h.up⟩
theorem av :QA X [] aP:=
 ⟨Kr ⟩
theorem ad(ha:QE X e te)(hr:QA X es t)(hs:starEach (e::es) X.env=(false,eval e X.env)::starEach es X.env:=by rfl):QA X (e::es) (ao te t):=
 ⟨Hz ha.up hr.up hs⟩
theorem bq{op:CmpOp}{r:R2}(ho:jM X (compareOp op) r)(ha:QE X a ta)(hb:QE X b tb)(hm:behindInMarks op b=false):QT X (.Compare a [op] [b] pos) (cb (bA r ta tb)):=
 ⟨Ie ho ha.up hb.up hm⟩
theorem Fp(ha:QT X a tA):QT X (.UnaryOp .Not a pos) (IT tA):=
 ⟨KN ha.up⟩
theorem oS{rest:List Expr}(ha:QT X a tA)(hb:QW X (.BoolOp .And (b::rest) pos) tB'):QW X (.BoolOp .And (a::b::rest) pos) (wO tA tB'):=
 ⟨KP ha.up hb.up⟩
theorem nX(ha:QT X a tA):QW X (.BoolOp .And [a] pos) tA:=
 ⟨Ig ha.up⟩
theorem u5{rest:List Expr}(ha:QT X a tA)(hb:QW X (.BoolOp .Or (b::rest) pos) tB'):QW X (.BoolOp .Or (a::b::rest) pos) (JA tA tB'):=
 ⟨LZ ha.up hb.up⟩
theorem qL(ha:QT X a tA):QW X (.BoolOp .Or [a] pos) tA:=
 ⟨KQ ha.up⟩
theorem QW.pt{X:Cx}{e:Expr}{t:TT}(h:QW X e t):QT X e t:=
 ⟨PW.pt h.up⟩
theorem tF{e:Expr}{t:TE}(h:QE X e t)(he:∀whole,isTrue e X.env whole=(do let v <-whole;standAt e.pos;holding [v] (truthy v)):=by intro _;rfl):QT X e (tB t):=
 ⟨KO h.up he⟩
theorem ki{a:Expr}{ta:TA}{p pos:Pos}(hg:Gl X "range")(hm:X.mg "range"=none)(ha:QA X [a] ta)(hs:starEach [a] X.env=[(false,eval a X.env)]:=by rfl):QI X tg (.Call (.Name "range" p) [a] [] pos) (qW ta):=
 ⟨Dq hg hm ha.up hs⟩
theorem Ij{a:Expr}{ta:TA}{p pos:Pos}(hg:Gl X "enumerate")(hm:X.mg "enumerate"=none)(ha:QA X [a] ta)(hs:starEach [a] X.env=[(false,eval a X.env)]:=by rfl):QI X (.Tuple elts k tpos) (.Call (.Name "enumerate" p) [a] [] pos) (EA X.K ta):=
 ⟨HN hg hm ha.up hs⟩
theorem KS{a b:Expr}{ta:TA}{p pos:Pos}(hg:Gl X "zip")(hm:X.mg "zip"=none)(ha:QA X [a,b] ta)(hs:starEach [a,b] X.env=[(false,eval a X.env),(false,eval b X.env)]:=by rfl)(hs2:starEach [b] X.env=[(false,eval b X.env)]:=by rfl):QI X (.Tuple elts k tpos) (.Call (.Name "zip" p) [a,b] [] pos) (JT X.K ta):=
 ⟨KG hg hm ha.up hs hs2⟩
theorem eY{tg l:Expr}{tl:TE}(hl:QE X l tl):QI X tg l (jF X.K tl):=
 ⟨KD hl.up⟩
theorem bZ{i:Nat}{x:Str}(hN:X.N.Nodup)(hi:X.N[i]?=some x)(hx:Ji X.env.scope x)(hf:X.fn x=true\/X.env.scope.names.lookup x=some .local:=by first|exact .inl rfl|exact .inr rfl|assumption):QG X (.Name x pos) (bb i):=
 ⟨HJ hN hi hx hf⟩
theorem wF{es:List Expr}{k:Nat}{t:Cp}{n:Nat}(hc:X.calm=true)(h:LA X es t)(hn:(assignEach es X.env).length=n:=by rfl)(hst:(assignEach es X.env).findIdx? (·.1)=none:=by rfl):QG X (.Tuple es k pos) (CK X.K n t):=
 ⟨KC hc h.up hn hst⟩
theorem By{es:List Expr}{k:Nat}{t:Cp}{n:Nat}(hc:X.calm=true)(h:LA X es t)(hn:(assignEach es X.env).length=n:=by rfl)(hst:(assignEach es X.env).findIdx? (·.1)=none:=by rfl):QG X (.Tuple es k pos) (Bm X.K n t):=
 ⟨HK hc h.up hn hst⟩
theorem nW :LA X [] xB:=
 ⟨HM ⟩
theorem gp{e:Expr}{es:List Expr}{t:TG}{u:Cp}(h1:QG X e t)(h2:LA X es u)(hs:(assignEach (e::es) X.env).map (·.2)=assign e X.env::(assignEach es X.env).map (·.2):=by rfl):LA X (e::es) (kS t u):=
 ⟨Fe h1.up h2.up hs⟩
theorem jO{o i:Expr}{to ti:TE}{t:GL}(ho:QE X o to)(hi:QE X i ti)(hs:GH X t)(ha:∀v,assign (.Subscript o i pos) X.env v=(do
   let ov <-holding [v] (eval o X.env)
   let iv <-holding [v,ov] (eval i X.env)
   standAt pos
   holding [v,ov,iv] (setItem ov iv v)
   release [v,ov,iv] []):=by intro _;rfl):QG X (.Subscript o i pos) (oi to ti t):=
 ⟨KB ho.up hi.up hs ha⟩
theorem bz{i:Nat}{x:Str}{e:Expr}{te:TE}{pos':Pos}(hN:X.N.Nodup)(hi:X.N[i]?=some x)(hx:Ji X.env.scope x)(he:QE X e te)(hs:swapsWith e (some (.Name x pos')) pos.line X.env=pure false:=by rfl)(hf:X.fn x=true\/X.env.scope.names.lookup x=some .local:=by first|exact .inl rfl|exact .inr rfl|assumption):QS X (.Assign [.Name x pos'] e pos) (ci te (bb i)):=
 ⟨KM hN hi hx he.up hs hf⟩
theorem iT{tg e:Expr}{te:TE}{g:TG}(he:QE X e te)(hg:QG X tg g)(hs:swapsWithSole [tg] e pos.line X.env=pure false:=by rfl)(hw:swappedStores [tg] e X.env=pure none:=by rfl)(h1:(assignEach [tg] X.env).map (·.2)=[assign tg X.env]:=by rfl):QS X (.Assign [tg] e pos) (ci te g):=
 ⟨KH he.up hg.up hs hw h1⟩
theorem fP(he:QE X e te)(hs:swapsWith e none pos.line X.env=pure false:=by rfl):QS X (.Expr e pos) (i4 te):=
 ⟨Ia he.up hs⟩
theorem bL(he:QE X e te):QS X (.Return (some e) pos) (dt te):=
 ⟨KL he.up⟩
theorem cU{c:Expr}{a b:List Stmt}{tc:TT}(hc:QT X c tc)(ha:lc X a t)(hb:lc X b u):QS X (.If c a b pos) (eP tc t u):=
 ⟨LX hc.up ha.up hb.up⟩
theorem lJ{c:Expr}{body:List Stmt}{tc:TT}{tb:TS}(hp:PassesOwn (model X.prog X.w) X.A X.env X.xe)(hc:QT X c tc)(hb:lc X body tb):QS X (.While c body [] pos) (mN tc tb):=
 ⟨Fj hp hc.up hb.up⟩
theorem fb{iter:Expr}{body:List Stmt}{wi:TI}{g:TG}{tb:TS}{pos:Pos}(hp:PassesOwn (model X.prog X.w) X.A X.env X.xe)(hc:X.calm=true)(hi:QI X tg iter wi)(hg:QG X tg g)(hb:lc X body tb)(hs:∀x,foldedSetIterable iter X.env x=pure x:=by intro _;rfl):QS X (.For tg iter body [] pos) (jQ wi g tb):=
 ⟨KK hp hc hi.up hg.up hb.up hs⟩
theorem yh :QS X (.Continue pos) FN:=
 ⟨yg ⟩
theorem ay{st:Stmt}{rest:List Stmt}(h1:QS X st t)(h2:lc X rest u):lc X (st::rest) (bB t u):=
 ⟨Fk h1.up h2.up⟩
theorem aI{st:Stmt}(h1:QS X st t):lc X [st] t:=
 ⟨Ic h1.up⟩
theorem bU :lc X [] cO:=
 ⟨Ib ⟩
theorem wE{x:Str}{v:V}{u:Value}{pos:Pos}(hg:Gl X x)(hm:X.mg x=none)(hv:bootBuiltins x=some u)(r:cy v u)(hn:x≠"__name__":=by decide)(hd:(x==("__debug__":Str))=false:=by decide):QE X (.Name x pos) (tC v):=
 ⟨HA hg hm hv r hn hd⟩
theorem j9{X:Cx}:GJ X [] qP:=
 ⟨HU ⟩
theorem wG{X:Cx}{c:Expr}{t:TT}(h:QT X c t):GJ X [c] t:=
 ⟨HV h.up⟩
structure Mh(X:Cx)(pos:Pos)(keys:List (Option Expr))(values:List Expr)(trs:List (TE×TE)):Prop where
 up:Lz X pos keys values trs
theorem Im{X:Cx}{pos:Pos}:Mh X pos [] [] []:=⟨HY⟩
theorem Fo{X:Cx}{pos:Pos}{k v:Expr}{ks:List (Option Expr)}{vs:List Expr}{tk tv:TE}{trs:List (TE×TE)}(hk:QE X k tk)(hv:QE X v tv)(hr:Mh X pos ks vs trs):Mh X pos (some k::ks) (v::vs) ((tk,tv)::trs):=⟨Fi hk.up hv.up hr.up⟩
theorem Ih{X:Cx}{pos:Pos}{keys:List (Option Expr)}{values:List Expr}{trs:List (TE×TE)}(h:Mh X pos keys values trs)(hall:keys.all (·.isSome)=true)(hl:keys.length=values.length)(h0:keys≠[])(h15:keys.length<=15):QE X (.Dict keys values pos) (FO trs):=⟨HG h.up hall hl h0 h15⟩
theorem tE{X:Cx}{pos:Pos}:QE X (.Dict [] [] pos) tR:=⟨Fa⟩
theorem KR{X:Cx}{x:Str}{ps:List Str}{k:Nat}{dvs:List V}{sp:Sp}{e:Expr}{es:List Expr}{t:TA}{p pos:Pos}(c:pc X.prog X.w X.K X.mg X.base x ps k dvs sp)(hr:dc k X.A)(hg:Gl X x)(ha:QA X (e::es) t)
  (hdb:(x==("__debug__":Str))=false:=by decide) (he:starEach (e::es) X.env=(false,eval e X.env)::starEach es X.env:=by rfl) (hpl:(backTo pos (starEach es X.env)).any (·.1)=false:=by rfl) :
  QE X (.Call (.Name x p) (e::es) [] pos) (bE sp dvs E0 t):=⟨Ku c hr hg ha.up hdb he hpl⟩
end L2
end
section
namespace PySem.W
open PySem PySem.Calls PyProof.Rows PyProof.V PySem.Spec
section
variable{prog:Program}{w:World}{A:Around}{E:Value->Shared->Prop}{s:Shared}{r l:Addr}
end
end PySem.W
namespace L2
open PySem PySem.Spec PyProof.Rows
section
variable{X:Cx}
end
end L2
end
section
namespace HT
open PySem PyProof.Rows
section
variable{prog:Program}{w:World}{A:Around}{E:Value->Shared->Prop}{s:Shared}
theorem cat_tup0{t b:Addr}{vs ws:List Value}{Q:Value->Shared->Prop}(ht:IsTup s.heap t vs.toArray)(hb:IsTup s.heap b ws.toArray)(hv:vs=[])(h:Q (.ref b) s):wpAny (model prog w) A (binaryOp .Add (.ref t) (.ref b)) Q E s:=by
 obtain⟨⟨cls,dd,data,sl⟩,ho,hc,n,hd⟩:=id ht
 obtain⟨⟨cls2,dd2,data2,sl2⟩,ho2,hc2,n2,hd2⟩:=id hb
 simp only at hc hd hc2 hd2
 subst hc hd hc2 hd2
 exact concat_meets ⟨_,ho,rfl⟩ ⟨_,ho2,rfl⟩ noFill_tuple_add seq_tuple_add iO iE (ia _ _)
   (tuple_addW0 t b vs.toArray ws.toArray n n2 dd dd2 sl sl2 (by simp[hv])) ⟨ho,ho2,h⟩
theorem getItem_tuple_all{t sl:Addr}{items:Array Value}{vl vu:Value}{lo hi:Option Int}{Q:Value->Shared->Prop}(ht:IsTup s.heap t items)(hs:s.heap.IsSliceOf sl vl vu .none)(pl:IsPart vl lo)(pu:IsPart vu hi)
  (hw:sIx items.size 0 lo=0/\sIx items.size items.size hi=items.size) (h:Q (.ref t) s):wpAny (model prog w) A (getItem (.ref t) (.ref sl)) Q E s:=by
 obtain⟨os,hos,hcs,hds⟩:=id hs
 have hTs:s.TypeIs (.ref sl) "slice":=⟨os,hos,hcs⟩
 unfold getItem
 try with_reducible refine wpAny_holding ?_
 first|refine wpAny_bind (wpAny_pure ?_)|skip
 refine wpAny_bind (wpAny_sequenceKey ht.typeIs (by decide) ?_)
 refine wpAny_bind (wpAny_callSpecial?_slot (name:=Str.ofString "__getitem__") ht.typeIs dP
  (wpAny_call_entry dP ht.typeIs entry_tuple_getitem ?_ (args_tuple_getitem _ _)))
 show wpAny _ _ (Builtin.Tuple.tupleItemsOf (.ref t) >>= _) _ _ s
 refine wpAny_bind (tupleItemsOf_ ht ?_)
 refine wpAny_bind (wpAny_typeOf hTs ?_)
 rw[if_pos (by decide)]
 refine wpAny_bind (lM hs pl pu ?_)
 have hyes:(((sIx items.size 0 lo:Nat):Int)==0&&(1:Int)==1&&(sIx items.size items.size hi-sIx items.size 0 lo)==items.size)=true:=by
  rw[hw.1,hw.2];simp
 show wpAny _ _ (if(((sIx items.size 0 lo:Nat):Int)==0&&(1:Int)==1&&(sIx items.size items.size hi-sIx items.size 0 lo)==items.size)=true then _ else _) _ _ s
 rw[if_pos hyes]
 refine wpAny_bind (m:=Builtin.Tuple.tupleIsExact (.ref t)) ?_
 unfold Builtin.Tuple.tupleIsExact
 refine wpAny_bind (wpAny_typeOf ht.typeIs (wpAny_pure ?_))
 rw[if_pos (by decide)]
 exact wpAny_bind (wpAny_rule (wpAny_pure ⟨_,rfl,wpAny_pure h⟩))
end
end HT
namespace L2
open PySem PySem.Spec PyProof.Rows
section
variable{X:Cx}
def Fq(K:Fg):R2:=λx y H Q=>∃a b ys,x=.ref a/\y=.ref b/\dZ K H a []/\dZ K H b ys/\Q (.ref b) H
theorem E7:jM X (binaryOp .Add) (Fq X.K):=by
 intro pins s σ H x y v u Q I rx ry h
 obtain⟨a,b,ys,rfl,rfl,ha,hb,q⟩:=h
 cases rx
 cases ry
 obtain⟨its,r1,p1,_⟩:=I.tuple ha
 obtain⟨its2,r2,p2,_⟩:=I.tuple hb
 exact HT.cat_tup0 p1 p2 (r1.nil_iff.mpr rfl) ⟨.ref b,H,I,rfl,q⟩
def tG(K:Fg):R2:=λx y H Q=>Fq K x y H Q\/cN K x y H Q
theorem tw:jM X (binaryOp .Add) (tG X.K):=E7.or bX
def Jy(K:Fg):V->Option Int->Option Int->Hp->VK->Prop:=λx lo hi H Q=>∃a xs,x=.ref a/\dZ K H a xs/\(HT.sIx xs.length 0 lo=0/\HT.sIx xs.length xs.length hi=xs.length)/\Q (.ref a) H
theorem IP:Eb X (Jy X.K):=by
 intro pins s σ H x v vl vu lo hi sl Q I rx hs pl pu h
 obtain⟨a,xs,rfl,hx,hw,q⟩:=h
 cases rx
 obtain⟨its,r,ht,hz⟩:=I.tuple hx
 have hlen:its.toArray.size=xs.length:=by rw[ak];exact r.length.symm
 refine⟨"tuple",_,dP.lookup,ht.typeIs,?_⟩
 exact HT.getItem_tuple_all ht hs pl pu (by rw[hlen];exact hw) ⟨.ref a,H,I,rfl,q⟩
def Iy(K:Fg):V->Option Int->Option Int->Hp->VK->Prop:=λx lo hi H Q=>Jy K x lo hi H Q\/Ds K x lo hi H Q
theorem BS:Eb X (Iy X.K):=IP.or kC
def Ju(K:Fg):R2:=λx y H Q=>∃p q xs,x=.ref p/\y=.ref q/\dZ K H p xs/\dZ K H q []/\Q (.bl (decide (xs=[]))) H
theorem Hv(hu:X.A.units<cLine):jM X (compareOp .Eq) (Ju X.K):=by
 intro pins s σ H x y v u Q I rx ry h
 obtain⟨p,q,xs,rfl,rfl,h1,h2,qq⟩:=h
 cases rx
 cases ry
 obtain⟨us,r1,t1,_⟩:=I.tuple h1
 obtain⟨vs,r2,t2,_⟩:=I.tuple h2
 have ev:vs=[]:=r2.nil_iff.mpr rfl
 subst ev
 refine SeqAt.eq_tupleAt (e:=λ_=>true) (show s.heap.IsTuple p us.toArray from t1) (show s.heap.IsTuple q ([]:List Value).toArray from t2) hu (λj h1 h2=>absurd h2 (by simp)) ⟨.bl (decide (xs=[])),H,I,?_,qq⟩
 show Value.bool _=Value.bool _
 congr 1
 rw[ak,<-r1.length]
 cases xs<;>simp
def L1(K:Fg):R2:=λx y H Q=>Ju K x y H Q\/iy K x y H Q
theorem Kk(hu:X.A.units<cLine):jM X (compareOp .Eq) (L1 X.K):=(Hv hu).or (dI hu)
end
end L2
end
section
namespace PySem
open Sem (wp)
theorem wq:typeLookup (.type "list") "keys"=pure none:=by rw[typeLookup_type,builtinLookup_eq_fast];kernel_rfl
theorem C2{prog:Program}{w:World}{A:Around}{E:Value->Shared->Prop}{s:Shared}{a:Addr}{xs:Array Value}{k:Nat}{Q:Option Value->Shared->Prop}{sl:Array (Option Value)}
  (hx:s.heap.get? a=some {cls:=.type "list",dict:=none,data:=.seq xs k,slots:=sl}) (hA:A.handled=none)
  (h:∀h' tk,(∀b u,s.heap.get? b=some u->h'.get? b=some u)->Q none {s with heap:=h',toks:=tk}):wpAny (model prog w) A (getAttr? (.ref a) "keys") Q E s:=by
 obtain⟨hp,g,d,tk,os⟩:=s
 have hT:∀tk',(⟨hp,g,d,tk',os⟩:Shared).TypeIs (.ref a) "list":=λ_=>⟨_,hx,rfl⟩
 have f1:=sub_AttributeError
 have f3:=F.slot_list_getattribute.lookup
 have f4:=F.slot_list_getattribute.bind (.ref a)
 have f5:=am_list_getattr_none
 unfold getAttr? getAttrBy? getAttrBy
 repeat (any_goals (first|assumption|exact hT _|((with_reducible show wpAny _ _ (call (Value.builtin "list.__getattribute__") _ _) _ _ _);refine call_meets F.slot_list_getattribute (hT _) am_entry_list_getattribute (F.args_list_getattribute_2 _ _) (meets_getattribute_miss_list a xs k sl "keys" _ wq (by decide +kernel) (by decide +kernel)) ⟨hx,hA,λh' tk' e hx'=>?_⟩)|wp_step))
 obtain⟨t',u',he⟩:=hx'.there
 show wpAny _ _ (getattributeRaised _ _ _ _ _ _ _) _ _ _
 unfold getattributeRaised
 repeat (any_goals (first|assumption|wp_step))
 exact h _ _ hx'.keeps
namespace F
theorem entry_dict_update_loop:entryFor table "dict.update.loop"=some Builtin.«dict.update.loop»:=entryFor_of_tree (by kernel_rfl)
theorem plain_dict_update_loop:plainId "dict.update.loop"=true:=by decide +kernel
end F
def oG(tp:Bool)(h:Heap)(i l:Addr)(k:Nat):Prop:=match tp with
 |true=>h.IsTupleIter i l k
 |false=>h.IsListIter i l k
def LB(tp:Bool)(h:Heap)(l:Addr)(xs:Array Value):Prop:=match tp with
 |true=>h.IsTuple l xs
 |false=>h.IsList l xs
def LH(tp:Bool)(l:Addr):Obj:={cls:=.type (if tp then "tuple_iterator" else "list_iterator"),data:=.fields #[.ref l,.int 0 0]}
section
variable{prog:Program}{w:World}{A:Around}{E:Value->Shared->Prop}{s:Shared}
end
section
variable{prog:Program}{w:World}{A:Around}{E:Value->Shared->Prop}{s:Shared}{t1 t2:Bool}
end
section
variable{prog:Program}{w:World}{A:Around}{E:Value->Shared->Prop}{s:Shared}{t1 t2:Bool}
end
section
variable{prog:Program}{w:World}{A:Around}{R:Result->Shared->Prop}{t1 t2:Bool}{K:Type}[DecidableEq K]{knd:KeyKind prog w K}
end
section
variable{prog:Program}{w:World}{A:Around}{E:Value->Shared->Prop}{s:Shared}{t1 t2:Bool}{K:Type}[DecidableEq K]{knd:KeyKind prog w K}
end
end PySem
namespace L2
open PySem PySem.Spec PyProof.Rows
section
variable{X:Cx}
end
def cT(K:Fg)(x:Str):Addr:=match aG K mainGlobals x with
 |some (some (.ref C))=>C
 |_=>0
theorem Ef{K:Fg}{x:Str}{C:Addr}(h:aG K mainGlobals x=some (some (.ref C))):cT K x=C:=by unfold cT;rw[h]
def LG(s:Stmt)(i:Nat):Stmt:=match s with
 |.ClassDef _ _ _ b _ _ _ _ _ _ _=>b.getD i (.Pass ⟨0,0,0,0⟩)
 |_=>.Pass ⟨0,0,0,0⟩
structure vH(P:Program)(w:World)(K:Fg)(mg:Str->Option Value)(base:Heap)(x:Str)(C:Addr)(ps:List Str)(k:Nat)(sp:Sp):Prop where
 ex:∃(f:Addr) (fd:FuncData),mg x=some (.ref C)/\Mk K C f/\m9 K fd ps []/\eK P w K mg base fU k f fd ps sp
section
variable{X:Cx}{C:Addr}{m x:Str}{ps:List Str}{k:Nat}{sp:Sp}{e o:Expr}{es:List Expr}{ta:TE}{t:TA}{p pos apos:Pos}
theorem Ii(M:vH X.prog X.w X.K X.mg X.base x C ps k sp)(hr:dc (k+1) X.A)(hg:Gl X x)(ha:QA X (e::es) t)
  (hdb:(x==("__debug__":Str))=false:=by decide) (he:starEach (e::es) X.env=(false,eval e X.env)::starEach es X.env:=by rfl) (hpl:(backTo pos (starEach es X.env)).any (·.1)=false:=by rfl) :
  QE X (.Call (.Name x p) (e::es) [] pos) (FP C sp [] E0 t):=by
 obtain⟨f,fd,hm,hM,hb,F⟩:=M.ex
 exact⟨HH hM F hr hg hm hb .nil E8 ha.up hdb he hpl⟩
theorem oR{f:Str}(he:QE X e ta)(hb:attributeBase e f X.env (eval e X.env)=eval e X.env):QE X (.Attribute e f pos) (wP X.K ta f):=⟨Kt he.up hb⟩
theorem qK{f:Str}{value:Expr}{tv:TE}{pos':Pos}(ha:QE X o ta)(hv:QE X value tv)(hs:swapsWith value (some (.Attribute o f pos')) pos.line X.env=pure false):QS X (.Assign [.Attribute o f pos'] value pos) (yq X.K ta tv f):=⟨KI ha.up hv.up hs⟩
theorem j8{d i:Expr}{td ty:TE}(hu:X.A.units+1<cLine)(ho:QE X d td)(hi:QE X i ty)(hs:JF i):QE X (.Subscript d i pos) (nA td ty):=⟨HE hu ho.up hi.up hs⟩
end
section
variable{X:Cx}
theorem sL{es:List Bool}{us vs:List Value}(h1:us.length=es.length)(h2:vs.length=es.length):((dz (min us.toArray.size vs.toArray.size)).all (λj=>(es[j]?).getD false)&&us.toArray.size==vs.toArray.size)=es.all id:=by
 rw[ak,ak,h1,h2,iN,Ec]
 simp
end
inductive AW(K:Fg)(H:Hp):Nat->V->V->Bool->Prop where
 |flat {d:Nat} {x y:V} (hx:iG x=true) (hy:iG y=true):AW K H d x y (xa x y)
 |same {d:Nat} {a:Addr}:AW K H d (.ref a) (.ref a) true
 |lists {d:Nat} {a b:Addr} {us vs:List V} {es:List Bool} (n:a≠b) (ha:ce K H a us) (hb:ce K H b vs) (l1:us.length=vs.length) (l2:es.length=us.length) (h:∀(j:Nat) x y e,us[j]?=some x->vs[j]?=some y->es[j]?=some e->AW K H d x y e):AW K H (d+1) (.ref a) (.ref b) (es.all id)
 |listsL {d:Nat} {a b:Addr} {us vs:List V} (n:a≠b) (ha:ce K H a us) (hb:ce K H b vs) (l1:us.length≠vs.length):AW K H (d+1) (.ref a) (.ref b) false
 |tups {d:Nat} {a b:Addr} {us vs:List V} {es:List Bool} (n:a≠b) (ha:dZ K H a us) (hb:dZ K H b vs) (l1:us.length=vs.length) (l2:es.length=us.length) (h:∀(j:Nat) x y e,us[j]?=some x->vs[j]?=some y->es[j]?=some e->AW K H d x y e):AW K H (d+1) (.ref a) (.ref b) (es.all id)
section
variable{X:Cx}
theorem Bn{A:Around}{s:Shared}{kb:List (dY×V)}{vb:List (dY×Value)}(rb:KV kb vb){ka:List (dY×V)}{va:List (dY×Value)}(ra:KV ka va):∀(f:Nat->V),(∀(j:Nat) k v,ka[j]?=some (k,v)->gz kb k=some (f j))->(∀(j:Nat) k v u w,ka[j]?=some (k,v)->cy v u->cy (f j) w->SeqAt.EqAt A s u w true)->PySem.W.KeqHits A s vb va true:=by
 induction ra with
 |nil=>intro f _ _;exact .nil
 |@cons p q ps qs r _ ih=>
  intro f h1 h2
  obtain⟨k,v⟩:=p
  obtain⟨k',u⟩:=q
  obtain⟨e,rv⟩:=r
  have e':k=k':=e
  subst e'
  have hv:=h1 0 k v rfl
  have rel:=rb.val k
  rw[hv] at rel
  obtain⟨w,hw,rw'⟩:=pz.some_of rel
  have hh:=ih (λj=>f (j+1)) (λj k v e=>h1 (j+1) k v e) λj k v u w e=>h2 (j+1) k v u w e
  exact .hit hw (h2 0 k v u w rfl rv rw') hh
theorem nU{A:Around}{s:Shared}{xs ys:List V}{us vs:List Value}{es:List Bool}(r1:cv xs us)(r2:cv ys vs)(hl:xs.length=ys.length)(he:es.length=xs.length)
  (h:∀(j:Nat) a b e u v,xs[j]?=some a->ys[j]?=some b->es[j]?=some e->cy a u->cy b v->SeqAt.EqAt A s u v e) :
  ∀j (h1:j<us.toArray.size) (h2:j<vs.toArray.size),SeqAt.EqAt A s us.toArray[j] vs.toArray[j] ((es[j]?).getD false):=by
 intro j h1 h2
 have l1:=r1.length
 have l2:=r2.length
 rw[ak] at h1 h2
 have j1:j<xs.length:=by lia
 have j2:j<ys.length:=by lia
 have j3:j<es.length:=by lia
 obtain⟨u,hu',ru⟩:=r1.get (aa j1)
 obtain⟨v,hv,rv⟩:=r2.get (aa j2)
 have eu:us.toArray[j]=u:=by
  have:=aa h1
  rw[hu'] at this
  simpa using(Option.some.inj this).symm
 have ev:vs.toArray[j]=v:=by
  have:=aa h2
  rw[hv] at this
  simpa using(Option.some.inj this).symm
 rw[eu,ev,aa j3,gP]
 exact h j _ _ _ _ _ (aa j1) (aa j2) (aa j3) ru rv
theorem sO{es:List Bool}{us:List Value}(h1:us.length=es.length):(dz us.toArray.size).all (λj=>(es[j]?).getD false)=es.all id:=by
 rw[ak,h1,Ec]
theorem qz{pins:List (Addr×Obj)}{σ:St}{H:Hp}{s:Shared}(I:bN X pins σ H s){d:Nat}{x y:V}{b:Bool}(h:AW X.K H d x y b):∀{A:Around} {u v:Value},A.units+d<cLine->cy x u->cy y v->SeqAt.EqAt A s u v b:=by
 induction h with
 |flat hx hy=>exact λ_ rx ry=>zJ rx ry hx hy
 |same=>
  intro A u v _ rx ry
  cases rx
  cases ry
  exact SeqAt.EqAt.same _
 |@lists d a b us vs es n ha hb hl he h ih=>
  intro A u v hu rx ry
  cases rx
  cases ry
  obtain⟨us',r1,t1,_⟩:=I.list ha
  obtain⟨vs',r2,t2,_⟩:=I.list hb
  have l1:=r1.length
  have l2:=r2.length
  have:=SeqAt.EqAt.of_refs n (SeqAt.RcAt.lists (A:=A) t1.isList t2.isList (by rw[ak,ak];lia) (by lia) (nU (A:=A.in1) r1 r2 hl he λj a b e u v e1 e2 e3 ru rv=>ih j a b e e1 e2 e3 (by show A.units+1+d<cLine;lia) ru rv))
  rw[sO (by lia)] at this
  exact this
 |@listsL d a b us vs n ha hb hl=>
  intro A u v hu rx ry
  cases rx
  cases ry
  obtain⟨us',r1,t1,_⟩:=I.list ha
  obtain⟨vs',r2,t2,_⟩:=I.list hb
  have l1:=r1.length
  have l2:=r2.length
  exact SeqAt.EqAt.of_refs n (SeqAt.RcAt.lists_lengths (A:=A) t1.isList t2.isList (by rw[ak,ak];simp;lia) (by lia))
 |@tups d a b us vs es n ha hb hl he h ih=>
  intro A u v hu rx ry
  cases rx
  cases ry
  obtain⟨us',r1,t1,_⟩:=I.tuple ha
  obtain⟨vs',r2,t2,_⟩:=I.tuple hb
  have l1:=r1.length
  have l2:=r2.length
  have:=SeqAt.EqAt.of_refs n (SeqAt.RcAt.tuples (A:=A) (show s.heap.IsTuple a us'.toArray from t1) (show s.heap.IsTuple b vs'.toArray from t2) (by lia) (nU (A:=A.in1) r1 r2 hl he λj a b e u v e1 e2 e3 ru rv=>ih j a b e e1 e2 e3 (by show A.units+1+d<cLine;lia) ru rv))
  rw[sL (by lia) (by lia)] at this
  exact this
def Iq(K:Fg)(neg:Bool):R2:=λx y H Q=>∃(p q:Addr) (xs ys:List V),x=.ref p/\y=.ref q/\((ce K H p xs/\ce K H q ys)\/(dZ K H p xs/\dZ K H q ys/\xs.length=ys.length))/\
 ((xs.length≠ys.length/\Q (.bl neg) H)\/∃es:List Bool,xs.length=ys.length/\es.length=xs.length/\(∀(j:Nat) a b e,xs[j]?=some a->ys[j]?=some b->es[j]?=some e->AW K H 4 a b e)/\Q (.bl (if neg then !es.all id else es.all id)) H)
theorem Ki(hu:X.A.units+5<cLine):jM X (compareOp .Eq) (Iq X.K false):=by
 intro pins s σ H x y v u Q I rx ry h
 obtain⟨p,q,xs,ys,rfl,rfl,hk,hc⟩:=h
 cases rx
 cases ry
 have hu':X.A.units<cLine:=by lia
 rcases hk with⟨h1,h2⟩|⟨h1,h2,hl0⟩
 ·obtain⟨us,r1,t1,_⟩:=I.list h1
  obtain⟨vs,r2,t2,_⟩:=I.list h2
  have l1:=r1.length
  have l2:=r2.length
  rcases hc with⟨hl,qq⟩|⟨es,hl,he,hE,qq⟩
  ·exact SeqAt.eq_list_lengthsAt t1.isList t2.isList (by rw[ak,ak];simp;lia) hu' ⟨.bl false,H,I,rfl,qq⟩
  ·refine SeqAt.eq_listAt t1.isList t2.isList (by rw[ak,ak];lia) hu' (nU (A:=X.A.in1) r1 r2 hl he λj a b e u v e1 e2 e3 ru rv=>qz I (hE j a b e e1 e2 e3) (by show X.A.units+1+4<cLine;lia) ru rv) ⟨.bl (es.all id),H,I,?_,qq⟩
   show Value.bool _=Value.bool _
   rw[sO (by lia)]
 ·obtain⟨us,r1,t1,_⟩:=I.tuple h1
  obtain⟨vs,r2,t2,_⟩:=I.tuple h2
  have l1:=r1.length
  have l2:=r2.length
  rcases hc with⟨hl,_⟩|⟨es,hl,he,hE,qq⟩
  ·exact absurd hl0 hl
  ·refine SeqAt.eq_tupleAt (show s.heap.IsTuple p us.toArray from t1) (show s.heap.IsTuple q vs.toArray from t2) hu' (nU (A:=X.A.in1) r1 r2 hl he λj a b e u v e1 e2 e3 ru rv=>qz I (hE j a b e e1 e2 e3) (by show X.A.units+1+4<cLine;lia) ru rv) ⟨.bl (es.all id),H,I,?_,qq⟩
   show Value.bool _=Value.bool _
   rw[sL (by lia) (by lia)]
theorem Ko(hu:X.A.units+5<cLine):jM X (compareOp .NotEq) (Iq X.K true):=by
 intro pins s σ H x y v u Q I rx ry h
 obtain⟨p,q,xs,ys,rfl,rfl,hk,hc⟩:=h
 cases rx
 cases ry
 have hu':X.A.units<cLine:=by lia
 rcases hk with⟨h1,h2⟩|⟨h1,h2,hl0⟩
 ·obtain⟨us,r1,t1,_⟩:=I.list h1
  obtain⟨vs,r2,t2,_⟩:=I.list h2
  have l1:=r1.length
  have l2:=r2.length
  rcases hc with⟨hl,qq⟩|⟨es,hl,he,hE,qq⟩
  ·exact SeqAt.RcNeAt.lists_lengths t1.isList t2.isList (by rw[ak,ak];simp;lia) hu' X.prog X.w X.xe _ ⟨.bl true,H,I,rfl,qq⟩
  ·refine SeqAt.RcNeAt.lists t1.isList t2.isList (by rw[ak,ak];lia) hu' (nU (A:=X.A.in1) r1 r2 hl he λj a b e u v e1 e2 e3 ru rv=>qz I (hE j a b e e1 e2 e3) (by show X.A.units+1+4<cLine;lia) ru rv) X.prog X.w X.xe _ ⟨.bl (!es.all id),H,I,?_,qq⟩
   show Value.bool _=Value.bool _
   rw[sO (by lia)]
 ·obtain⟨us,r1,t1,_⟩:=I.tuple h1
  obtain⟨vs,r2,t2,_⟩:=I.tuple h2
  have l1:=r1.length
  have l2:=r2.length
  rcases hc with⟨hl,_⟩|⟨es,hl,he,hE,qq⟩
  ·exact absurd hl0 hl
  ·refine SeqAt.RcNeAt.tuples (show s.heap.IsTuple p us.toArray from t1) (show s.heap.IsTuple q vs.toArray from t2) hu' (nU (A:=X.A.in1) r1 r2 hl he λj a b e u v e1 e2 e3 ru rv=>qz I (hE j a b e e1 e2 e3) (by show X.A.units+1+4<cLine;lia) ru rv) X.prog X.w X.xe _ ⟨.bl (!es.all id),H,I,?_,qq⟩
   show Value.bool _=Value.bool _
   rw[sL (by lia) (by lia)]
def Bz(K:Fg)(neg:Bool):R2:=λx y H Q=>∃(a b:Addr) (ka kb:List (dY×V)) (f:Nat->V),x=.ref a/\y=.ref b/\H a=some (.dK ka)/\H b=some (.dK kb)/\ka.length=kb.length/\(∀(j:Nat) k v,ka[j]?=some (k,v)->gz kb k=some (f j))/\(∀(j:Nat) k v,ka[j]?=some (k,v)->AW K H 4 v (f j) true)/\Q (.bl (!neg)) H
theorem Hu(hu:X.A.units+5<cLine):jM X (compareOp .Eq) (Bz X.K false):=by
 intro pins s σ H x y v u Q I rx ry h
 obtain⟨a,b,ka,kb,f,rfl,rfl,ha,hb,hl,hf,hE,qq⟩:=h
 cases rx
 cases ry
 obtain⟨_,la,va,ra,da⟩:=pE I.hok ha
 obtain⟨_,lb,vb,rb,db⟩:=pE I.hok hb
 refine PySem.W.keq_eq (r:=true) la lb da db (by lia) (λ_=>Bn rb ra f hf λj k v u w e ru rw'=>qz I (hE j k v e) (by show X.A.units+1+4<cLine;lia) ru rw') ⟨.bl true,H,I,?_,qq⟩
 show Value.bool _=Value.bool _
 rw[<-ra.length,<-rb.length,hl];simp
theorem Hx(hu:X.A.units+5<cLine):jM X (compareOp .NotEq) (Bz X.K true):=by
 intro pins s σ H x y v u Q I rx ry h
 obtain⟨a,b,ka,kb,f,rfl,rfl,ha,hb,hl,hf,hE,qq⟩:=h
 cases rx
 cases ry
 obtain⟨_,la,va,ra,da⟩:=pE I.hok ha
 obtain⟨_,lb,vb,rb,db⟩:=pE I.hok hb
 refine PySem.W.keq_ne (r:=true) la lb da db (by lia) (λ_=>Bn rb ra f hf λj k v u w e ru rw'=>qz I (hE j k v e) (by show X.A.units+1+4<cLine;lia) ru rw') ⟨.bl false,H,I,?_,qq⟩
 show Value.bool _=Value.bool _
 rw[<-ra.length,<-rb.length,hl];simp
def Iu(K:Fg):R2:=λx y H Q=>Iq K false x y H Q\/(Bz K false x y H Q\/iy K x y H Q)
def yi(K:Fg):R2:=λx y H Q=>Iq K true x y H Q\/(Bz K true x y H Q\/As K x y H Q)
theorem Am(hu:X.A.units+5<cLine):jM X (compareOp .Eq) (Iu X.K):=(Ki hu).or ((Hu hu).or (dI (by lia)))
theorem tq(hu:X.A.units+5<cLine):jM X (compareOp .NotEq) (yi X.K):=(Ko hu).or ((Hx hu).or (qG (by lia)))
end
section
variable{X:Cx}{pins:List (Addr×Obj)}{σ:St}{H:Hp}{s:Shared}{d:Addr}{kvs:List (dY×V)}{u u':HO}
theorem bN.retell(I:bN X pins σ H s)(e:H d=some u)(new:fA X.prog X.w (upd H d u') s.heap d u')(ht:∀xs,u≠.tup xs)(ho:∀x,u≠.own x)(hb:∀ps,u≠.tbl ps)(hf:∀o v,X.H₀ d≠some (.frz o v)):bN X pins σ (upd H d u') s:=by
 have ne:∀b,H b=none->b≠d:=λb q z=>by rw[z,e] at q;cases q
 refine⟨I.ok,I.os,I.bare,⟨I.base.keep,I.base.slot,λb o q n x=>?_,I.base.there,λb xs q=>?_,λb o v q=>?_,λb ps q=>?_⟩,I.loc,I.cell,?_,λx c q=>?_,λp hp=>?_,λb v q=>?_,I.len⟩
 ·have z:=I.base.free b o q n x
  rw[ax (ne b z)];exact z
 ·have z:=I.base.tups b xs q
  rw[ax (λc=>by rw[c,e] at z;exact ht xs (Option.some.inj z))];exact z
 ·have z:=I.base.frzs b o v q
  rw[ax (λc=>hf o v (by rw[<-c];exact q))];exact z
 ·obtain⟨more,z⟩:=I.base.tbls b ps q
  exact⟨more,by rw[ax (λc=>by rw[c,e] at z;exact hb _ (Option.some.inj z))];exact z⟩
 ·rw[ax (ne _ I.free)];exact I.free
 ·rw[ax (ne _ (I.freeC x c q))];exact I.freeC x c q
 ·obtain⟨h1,h2,h3⟩:=I.pin p hp
  exact⟨h1,by rw[ax (ne _ h2)];exact h2,h3⟩
 ·by_cases c:b=d
  ·subst c
   rw[ag] at q;cases q
   exact new
  ·rw[ax c] at q
   refine(I.hok b v q).stay (λ_ _ _ z=>z) (λa z=>?_) λa xs z=>?_
   ·rw[ax (λc'=>by rw[c',e] at z;exact ho _ (Option.some.inj z))];exact z
   ·rw[ax (λc'=>by rw[c',e] at z;exact ht _ (Option.some.inj z))];exact z
theorem bN.unfrz(I:bN X pins σ H s)(e:H d=some (.dK kvs)):∀o v,X.H₀ d≠some (.frz o v):=λo v q=>by
 have:=I.base.frzs d o v q
 rw[e] at this;cases this
theorem bN.freeze(I:bN X pins σ H s)(e:H d=some (.dK kvs)):∃o,s.heap.get? d=some o/\bN X pins σ (upd H d (.frz o (.dK kvs))) s:=by
 have k:=I.hok d _ e
 obtain⟨z,lo,vs,r,o,es,ep,h1,h2⟩:=id k
 exact⟨o,h1,I.retell e ⟨h1,z,lo,vs,r,o,es,ep,h1,h2⟩ (λ_ q=>by cases q) (λ_ q=>by cases q) (λ_ q=>by cases q) (I.unfrz e)⟩
theorem bN.thaw{o:Obj}(I:bN X pins σ H s)(e:H d=some (.frz o (.dK kvs)))(hf:∀o v,X.H₀ d≠some (.frz o v)):bN X pins σ (upd H d (.dK kvs)) s:=by
 have k:=I.hok d _ e
 exact I.retell e (k.2.stay (λ_ _ _ z=>z) (λa z=>by rw[ax (λc'=>by rw[c',e] at z;cases z)];exact z) λa xs z=>by rw[ax (λc'=>by rw[c',e] at z;cases z)];exact z) (λ_ q=>by cases q) (λ_ q=>by cases q) (λ_ q=>by cases q) hf
def BU(te:TE):TE:=λσ H Q=>te σ H λv H'=>Q v H'\/∃(d:Addr) (kvs kvs':List (dY×V)) (o:Obj),H d=some (.dK kvs)/\H' d=some (.frz o (.dK kvs'))/\Q v (upd H' d (.dK kvs'))
theorem HI{e:Expr}{te:TE}(h:PE X e te):PE X e (BU te):=by
 intro pins s σ H Q I q
 refine fV (h pins s σ H _ I q) λv s1 ⟨x,H1,I1,r1,q1⟩=>?_
 rcases q1 with q1|⟨d,kvs,kvs',o,e1,e2,q1⟩
 ·exact⟨x,H1,I1,r1,q1⟩
 ·exact⟨x,_,I1.thaw e2 (I.unfrz e1),r1,q1⟩
theorem r8{P:Program}{w:World}{k:dY}{u:Value}(h:(dk P w).is k u=true):cy (kV k) u:=by
 cases k with
 |inl i=>
  obtain⟨t,rfl⟩:=Value.isInt_shape (k:=i) (v:=u) h
  exact⟨t,rfl⟩
 |inr x=>
  obtain⟨t,rfl⟩:=Value.isStrOf_shape (x:=x) (v:=u) h
  exact⟨t,rfl⟩
theorem qC{o:Obj}{es0:Array DictEntry}{ep:Nat}(I:bN X pins σ H s)(e:H d=some (.frz o (.dK kvs)))(hep:o.data=.dict es0 ep):(d==sysModules)=false/\∃vs,KV kvs vs/\s.heap.DictAt (dk X.prog X.w) d vs ep:=by
 obtain⟨ho,z,lo,vs,r,o',es,ep',h1,h2,h3,h4⟩:=I.hok d _ e
 rw[ho] at h1;cases h1
 rw[hep] at h3;cases h3
 exact⟨lo,vs,r,o,_,ho,h2,hep,h4⟩
end
def Lu(d:Addr)(kvs:List (dY×V))(o:Obj):It:=⟨λi H=>H d=some (.frz o (.dK kvs))/\i<kvs.length,λi H x H'=>H'=H/\∃k v,kvs[i]?=some (k,v)/\x=kV k,λi H=>H d=some (.frz o (.dK kvs))/\kvs.length<=i⟩
theorem DW{P:Program}{w:World}{K:Fg}{tg:Expr}(d it:Addr)(kvs:List (dY×V))(o:Obj)(es0:Array DictEntry)(ep:Nat)(hep:o.data=.dict es0 ep):uo P w K tg (Lu d kvs o) [it] it (λi h=>h.IsKeyIter it d i kvs.length ep) where
 mem:=by simp
 obj:=λi h st b hb=>by
  have e:b=it:=by simpa using hb
  subst e
  obtain⟨o,e,c,d⟩:=st
  exact⟨o,e,λv z=>by rw[d] at z;cases z⟩
 keep:=λi h h' st k=>st.at λo e=>k it (by simp) o e
 item:=by
  intro X hP hw hK hc i pins s σ H E I hf st hg
  subst hP hw hK
  obtain⟨e,hi⟩:=hg
  obtain⟨lo,vs,rel,dd⟩:=qC I e hep
  have kl:=rel.length
  obtain⟨f0,f1,f2,f3,f4,f5⟩:=hf it (by simp)
  have hi':i<vs.length:=by lia
  have keys:=rel.keys
  have hk:vs[i].1=kvs[i].1:=by
   have e1:(kvs.map (·.1))[i]?=some kvs[i].1:=by rw[aC,aa hi];rfl
   rw[keys,aC,aa hi'] at e1
   exact Option.some.inj e1
  refine wpAny_pyNext_dict_item (by rw[<-kl];exact st) dd (k:=vs[i].1) (v:=vs[i].2) (aa hi') λkey h' hkey st' sb=>?_
  have I1:bN X pins σ H {s with heap:=h'}:=I.turned (t':=s.toks) (λb o hb e=>(sb.2 b hb).trans e) f0 f1 f3 f4 f5
  rw[<-kl] at st'
  obtain⟨o',e',c',d'⟩:=id st'
  refine⟨key,rfl,xC (s:={s with heap:=h'}) e' c' d' (by decide) ⟨kV kvs[i].1,H,I1,r8 (P:=X.prog) (w:=X.w) (by rw[<-hk];exact hkey),⟨rfl,_,_,aa hi,rfl⟩,st',λb hb=>(hf b hb).1⟩⟩
 done:=by
  intro X hP hw hK hc i pins s σ H E I hf st hg
  subst hP hw hK
  obtain⟨e,hi⟩:=hg
  obtain⟨lo,vs,rel,dd⟩:=qC I e hep
  have kl:=rel.length
  obtain⟨f0,f1,f2,f3,f4,f5⟩:=hf it (by simp)
  exact wpAny_pyNext_dict_end (I.ok.hd hc) (by rw[<-kl];exact st) dd (bR (by lia)) λh' eb=>⟨rfl,I.turned (t':=s.toks) (λb o hb e=>eb b o hb e) f0 f1 f3 f4 f5⟩
 self:=λ_ _ _ _ _ st h=>wpAny_pyIter_keyiter st h
section
variable{X:Cx}{tg:Expr}
def EB(te:TE):TI:=λσ H R=>te σ H λx H1=>∃d kvs,x=.ref d/\H1 d=some (.dK kvs)/\∀o,R (Lu d kvs o) (upd H1 d (.frz o (.dK kvs)))
theorem HP{l:Expr}{tl:TE}(hl:PE X l tl):PI X tg l (EB tl):=by
 intro pins s σ H R I h
 refine fV (hl pins s σ H _ I h) λv s1 ⟨x,H1,I1,r1,q1⟩=>?_
 obtain⟨d,kvs,rfl,e,q⟩:=q1
 cases r1
 obtain⟨o,ho,I2⟩:=I1.freeze e
 obtain⟨es0,ep,hep⟩:∃es0 ep,o.data=.dict es0 ep:=by
  obtain⟨_,_,_,_,o',es,ep,h1,_,h3,_⟩:=I1.hok d _ e
  rw[ho] at h1;cases h1
  exact⟨es,ep,h3⟩
 obtain⟨lo,vs,rel,dd⟩:=qC I2 ag hep
 have kl:=rel.length
 refine wpAny_pyIter_dict lo dd ?_
 refine⟨s1.heap.objs.size,[s1.heap.objs.size],_,_,_,rfl,I2.kept (t':=s1.toks) λb o e=>aj _ e,DW d _ kvs o es0 ep hep,⟨_,aD _ rfl,rfl,by rw[kl];rfl⟩,λb hb=>?_,q o⟩
 have e:b=s1.heap.objs.size:=by simpa using hb
 subst e
 exact I2.fpOk (aw _) (I2.hok.fresh (aw _))
end
end L2
end
section
namespace PySem
open Sem (wp)
section
variable{prog:Program}{w:World}{A:Around}{R:Result->Shared->Prop}{K:Type}[DecidableEq K]{knd:KeyKind prog w K}
def px(knd:KeyKind prog w K)(h:Heap)(xs:Array Value)(ks:List K)(vs:List Value):Prop:=∀(j:Nat) k v x,ks[j]?=some k->vs[j]?=some v->xs[j]?=some x->∃t a,x=.ref t/\h.IsTuple t #[a,v]/\knd.is k a=true
theorem px.keep{h h':Heap}{xs:Array Value}{ks:List K}{vs:List Value}(p:px knd h xs ks vs)(k:∀c o,o.cls=.type "tuple"->h.get? c=some o->h'.get? c=some o):px knd h' xs ks vs:=λj a b x e1 e2 e3=>by
 obtain⟨t,y,e,⟨o,ho,hc,r⟩,i⟩:=p j a b x e1 e2 e3
 exact⟨t,y,e,⟨o,k t o hc ho,hc,r⟩,i⟩
theorem Gq{d it l:Addr}{xs:Array Value}{ks:List K}{vs:List Value}{res:Value}(hh:A.handled=none)(n1:d≠it)(n2:d≠l)(n3:it≠l)(hk:ks.length=xs.size)(hv:vs.length=xs.size)(hz:xs.size<=1000) :
  ∀(m i:Nat) (s:Shared) (kvs:List (K×Value)),xs.size-i=m->i<=xs.size->s.heap.IsListIter it l i->s.heap.IsList l xs->px knd s.heap xs ks vs->s.heap.DictOf knd d kvs->kvs.length<=i->
   (∀h' tk,h'.DictOf knd d (merged kvs ((ks.zip vs).drop i))->(∀c o,c≠d->c≠it->s.heap.get? c=some o->h'.get? c=some o)->R (.ok (.ret res)) {s with heap:=h',toks:=tk})->
   codeAny (model prog w) A (.builtin "dict.update.loop" ⟨[.ref d,.ref it,rawInt i,res],[]⟩) R s:=by
 intro m
 induction m with
 |zero=>
  intro i s kvs hm hi hit hl P dd hlen hR
  have ei:i=xs.size:=by lia
  refine codeAny_builtin F.entry_dict_update_loop ?_
  rw[Around.under_plainId F.plain_dict_update_loop _]
  show wpAny _ A.in1 (pyNext (.ref it) >>= _) _ _ s
  refine wpAny_bind (wpAny_pyNext_list_end (A:=A.in1) hh hit hl (by rw[ei];simp) λh' eb=>?_)
  have e0:(ks.zip vs).drop i=[]:=List.drop_of_length_le (by rw[ff];lia)
  rw[e0] at hR
  refine wpAny_bind (wpAny_pure (wpAny_pure (hR h' s.toks ?_ λc o _ c2 e=>eb c o c2 e)))
  obtain⟨o,es,ep,ho,r⟩:=dd
  exact⟨o,es,ep,eb d o n1 ho,r⟩
 |succ m ih=>
  intro i s kvs hm hi hit hl P dd hlen hR
  refine codeAny_builtin F.entry_dict_update_loop ?_
  rw[Around.under_plainId F.plain_dict_update_loop _]
  show wpAny _ A.in1 (pyNext (.ref it) >>= _) _ _ s
  have il:i<xs.size:=by lia
  have hx:xs[i]?=some xs[i]:=bP il
  have kl:i<ks.length:=by lia
  have vl:i<vs.length:=by lia
  obtain⟨t,a,et,⟨ot,hot,hct,nt,hdt⟩,his⟩:=P i ks[i] vs[i] _ (aa kl) (aa vl) hx
  refine wpAny_bind (wpAny_pyNext_list_item hit hl (x:=.ref t) (by rw[hx,et]) λh' hit' sb=>?_)
  have kp:∀c o,c≠it->s.heap.get? c=some o->h'.get? c=some o:=λc o n e=>(sb.2 c n).trans e
  have tit:t≠it:=λz=>by
   obtain⟨o,ho,hc,_⟩:=hit
   rw[<-z,hot] at ho;cases ho
   rw[hct] at hc
   injection hc with hc
   exact absurd hc (by decide)
  have hot':=kp t ot tit hot
  refine wpAny_bind (wpAny_holding (wpAny_bind (wpAny_tryCatch ?_)))
  unfold Builtin.Dict.pairItems
  refine wpAny_bind (wpAny_typeOf (T:="tuple") ⟨_,hot',hct⟩ ?_)
  rw[if_pos (by decide)]
  refine wpAny_bind (wpAny_seqItems hot' hdt (wpAny_pure ?_))
  obtain⟨o,es,ep,ho,r⟩:=dd
  have dd':h'.DictOf knd d kvs:=⟨o,es,ep,kp d o n1 ho,r⟩
  refine wpAny_holding (wpAny_dictSet_pairs (knd:=knd) his dd' (λh2 d2 s2=>?_) (hsz:=bn hlen (bn hi (bn hz (by decide)))))
  have e1:(i:Int)+1=((i+1:Nat):Int):=by lia
  refine wpAny_pure ⟨plainId_quiet F.plain_dict_update_loop _,?_⟩
  rw[e1]
  have el:(ks.zip vs).drop i=(ks[i],vs[i])::(ks.zip vs).drop (i+1):=by
   have hz2:i<(ks.zip vs).length:=by rw[ff];lia
   rw[List.drop_eq_getElem_cons hz2,gO]
  rw[el] at hR
  have nd:∀c o,o.cls=.type "tuple"->h'.get? c=some o->c≠d:=λc o hc e z=>by
   obtain⟨o',_,_,e',x,_⟩:=dd'
   rw[z,e'] at e;cases e
   rw[x.1] at hc
   injection hc with hc
   exact absurd hc (by decide)
  have nit:∀c o,o.cls=.type "tuple"->s.heap.get? c=some o->c≠it:=λc o hc e z=>by
   obtain⟨o',ho',hc',_⟩:=hit
   rw[z,ho'] at e;cases e
   rw[hc'] at hc
   injection hc with hc
   exact absurd hc (by decide)
  refine ih (i+1) _ (stored kvs ks[i] vs[i]) (by lia) (by lia) (hit'.at λo e=>s2.extBut it o (Ne.symm n1) e) ((hl.at λo e=>kp l o (Ne.symm n3) e).at λo e=>s2.extBut l o (Ne.symm n2) e) (P.keep λc o hc e=>s2.extBut c o (nd c o hc (kp c o (nit c o hc e) e)) (kp c o (nit c o hc e) e)) d2 ?_ λh3 tk3 d3 kp3=>?_
  ·have:=merged_length_le kvs [(ks[i],vs[i])]
   exact bn this (Nat.add_le_add_right hlen 1)
  ·exact hR h3 tk3 d3 λc o c1 c2 e=>kp3 c o c1 c2 (s2.extBut c o c1 (kp c o c2 e))
end
section
variable{prog:Program}{w:World}{A:Around}{E:Value->Shared->Prop}{s:Shared}{K:Type}[DecidableEq K]{knd:KeyKind prog w K}
theorem CF{l:Addr}{xs:Array Value}{n:Nat}{ks:List K}{vs:List Value}{Q:Value->Shared->Prop}(hh:A.handled=none)(hl:s.heap.get? l=some {cls:=.type "list",dict:=none,data:=.seq xs n,slots:=#[]})(hk:ks.length=xs.size)(hv:vs.length=xs.size)(hz:xs.size<=1000)(P:px knd s.heap xs ks vs)
  (hQ:∀h' tk,h'.DictOf knd s.heap.objs.size (merged [] (ks.zip vs))->(∀c o,s.heap.get? c=some o->h'.get? c=some o)->Q (.ref s.heap.objs.size) {s with heap:=h',toks:=tk}) :
  wpAny (model prog w) A (call (.type "dict") [.ref l]) Q E s:=by
 refine callType_codes (Q₁:=λobj s₁=>obj=.ref s.heap.objs.size/\s₁={s with heap:=s.heap.push {cls:=.type "dict",data:=.dict #[]}}) F.kt_called_dict (F.kt_typeCall_dict_1 _) F.entry_dict_init (kt_code_dict_new _ ⟨rfl,rfl⟩) ?_
 rintro obj s₁ ⟨rfl,rfl⟩
 have dn:(s.heap.push {cls:=.type "dict",data:=.dict #[]}).DictOf knd s.heap.objs.size []:=Heap.DictOf.new s.heap
 have up:∀c o,s.heap.get? c=some o->(s.heap.push {cls:=.type "dict",data:=.dict #[]}).get? c=some o:=λc o e=>aj _ e
 refine⟨dn.typeIs,F.args_dict_init_2 _ _,?_⟩
 refine wpAny_bind (m:=Builtin.Dict.selfAndRest _ _) (wpAny_bind (wpAny_notOrdered_dict dn.typeIs (wpAny_pure ?_)))
 show wpAny _ _ (Builtin.Dict.updateFrom "dict.__init__" s.heap.objs.size (.ref l) [] .none) _ _ _
 refine wpAny_bind (wpAny_typeOf (T:="list") ⟨_,up _ _ hl,rfl⟩ ?_)
 rw[if_pos (by decide)]
 refine wpAny_bind (C2 (up _ _ hl) hh λh1 tk1 k1=>?_)
 have k2:∀c o,s.heap.get? c=some o->h1.get? c=some o:=λc o e=>k1 c o (up c o e)
 rw[if_pos (show(none:Option Value).isNone=true from rfl)]
 have hl1:h1.IsList l xs:=⟨_,k2 _ _ hl,rfl,n,rfl⟩
 refine wpAny_bind (wpAny_rule (wpAny_bind (wpAny_pyIter_list (s:={s with heap:=h1,toks:=tk1}) hl1 (wpAny_pure ⟨plainId_quiet F.plain_dict_update_loop _,?_⟩))))
 have dn1:h1.DictOf knd s.heap.objs.size []:=by
  obtain⟨o,es,ep,ho,r⟩:=dn
  exact⟨o,es,ep,k1 _ _ ho,r⟩
 have up2:∀c o,h1.get? c=some o->(h1.push (LH false l)).get? c=some o:=λc o e=>aj _ e
 have llt:l<s.heap.objs.size:=aF hl
 have dlt:s.heap.objs.size<h1.objs.size:=let⟨_,_,_,e,_⟩:=dn1;aF e
 refine Gq (A:=A.in1) (knd:=knd) hh (it:=h1.objs.size) (aH dlt) (fz llt) (fz (jY llt dlt)) hk hv hz xs.size 0 _ [] rfl (bF _) ⟨_,aD _ rfl,rfl,rfl⟩ (hl1.at λo e=>up2 _ o e) (P.keep λc o _ e=>up2 c o (k2 c o e)) ?_ (bF _) λh' tk d' kp=>⟨rfl,?_⟩
 ·obtain⟨o,es,ep,ho,r⟩:=dn1
  exact⟨o,es,ep,up2 _ _ ho,r⟩
 ·exact hQ h' tk d' λc o e=>by
   have lt:=aF e
   exact kp c o (aH lt) (aH (jY lt dlt)) (up2 c o (k2 c o e))
end
end PySem
end
section
namespace L2
open PySem PySem.Spec PyProof.Rows
section
variable{X:Cx}
def nY(K:Fg):List V->Hp->VK->Prop:=λxs H Q=>∃(l:Addr) (ps:List V) (kvs:List (dY×V)),xs=[.ref l]/\H l=some (.lst ps)/\ps.length=kvs.length/\kvs.length<=1000/\(∀(j:Nat) x k v,ps[j]?=some x->kvs[j]?=some (k,v)->∃t,x=.ref t/\H t=some (.tup [kV k,v]))/\∀d,H d=none->Q (.ref d) (upd H d (.dK (gc [] kvs)))
theorem qQ:∀{xs:List V} {us:List Value},us.length=xs.length->(∀(j:Nat) x u,xs[j]?=some x->us[j]?=some u->cy x u)->cv xs us
 |[],[],_,_=>.nil
 |x::xs,u::us,hl,h=>.cons (h 0 x u rfl rfl) (qQ (Nat.succ.inj hl) λj x u e1 e2=>h (j+1) x u e1 e2)
theorem LK{kvs:List (dY×V)}:∀{vs:List Value},vs.length=kvs.length->(∀(j:Nat) k v u,kvs[j]?=some (k,v)->vs[j]?=some u->cy v u)->KV kvs ((kvs.map (·.1)).zip vs):=by
 induction kvs with
 |nil=>intro vs _ _;exact .nil
 |cons p r ih=>
  intro vs hl h
  cases vs with
  |nil=>cases hl
  |cons u us=>exact .cons ⟨rfl,h 0 p.1 p.2 u rfl rfl⟩ (ih (Nat.succ.inj hl) λj k v u e1 e2=>h (j+1) k v u e1 e2)
theorem kQ(hc:X.calm=true):ja X (.type "dict") (nY X.K):=by
 intro pins s σ H xs us Q I r h
 obtain⟨l,ps,kvs,rfl,hl,hlen,hz,hp,q⟩:=h
 obtain⟨u,rfl,rx⟩:=m5 r
 cases rx
 obtain⟨z,its,n,rv,el,e⟩:=I.lstM hl
 have l1:=rv.length
 have pr:∀(j:Nat) k v x,kvs[j]?=some (k,v)->its[j]?=some x->∃t a w',x=.ref t/\s.heap.IsTuple t #[a,w']/\cy (kV k) a/\cy v w':=by
  intro j k v x e1 e2
  have jl:j<ps.length:=by have:=(af.mp e1).1;lia
  obtain⟨t,et,ht⟩:=hp j _ k v (aa jl) e1
  obtain⟨u,hu,ru⟩:=rv.get (i:=j) (x:=ps[j]) (aa jl)
  rw[e2] at hu;cases hu
  rw[et] at ru
  cases ru
  obtain⟨its2,r2,t2,_⟩:=I.tuple (dZ.of (K:=X.K) ht)
  obtain⟨a,w',rfl,ra,rw'⟩:=zi r2
  exact⟨t,a,w',rfl,t2,ra,rw'⟩
 obtain⟨vs,hvl,hvs⟩:∃vs:List Value,vs.length=kvs.length/\∀(j:Nat) k v x w',kvs[j]?=some (k,v)->its[j]?=some x->vs[j]?=some w'->cy v w'/\∃t a,x=.ref t/\s.heap.IsTuple t #[a,w']/\cy (kV k) a:=by
  have key:∀m,m<=kvs.length->∃vs:List Value,vs.length=m/\∀(j:Nat) k v x w',kvs[j]?=some (k,v)->its[j]?=some x->vs[j]?=some w'->cy v w'/\∃t a,x=.ref t/\s.heap.IsTuple t #[a,w']/\cy (kV k) a:=by
   intro m
   induction m with
   |zero=>intro _;exact⟨[],rfl,λj k v x w' _ _ e=>by simp at e⟩
   |succ m ih=>
    intro hm
    obtain⟨vs,h1,h2⟩:=ih (by lia)
    have ml:m<kvs.length:=by lia
    have il:m<its.length:=by lia
    obtain⟨t,a,w',et,ht,ra,rw'⟩:=pr m kvs[m].1 kvs[m].2 its[m] (aa ml) (aa il)
    refine⟨vs++[w'],by rw[ai,h1];rfl,λj k v x w2 e1 e2 e3=>?_⟩
    by_cases c:j<vs.length
    ·rw[bJ c] at e3
     exact h2 j k v x w2 e1 e2 e3
    ·have ej:j=m:=by
      have:=(af.mp e3).1
      rw[ai,aS] at this
      lia
     subst ej
     rw[aX (by lia)] at e3
     have:w2=w':=by
      rw[h1,dB] at e3
      exact(Option.some.inj e3).symm
     subst this
     rw[aa ml] at e1
     have e1':=Option.some.inj e1
     rw[aa il] at e2
     have e2':=Option.some.inj e2
     rw[<-e2']
     have k1:kvs[j].1=k:=by rw[e1']
     have v1:kvs[j].2=v:=by rw[e1']
     rw[<-k1,<-v1]
     exact⟨rw',t,a,et,ht,ra⟩
  exact key kvs.length (aw _)
 refine CF (knd:=dk X.prog X.w) (ks:=kvs.map (·.1)) (vs:=vs) (I.ok.hd hc) e (by rw[ab,ak];lia) (by rw[ak];lia) (by rw[ak];lia) (λj k v x e1 e2 e3=>?_) λh' tk d' kp=>?_
 ·rw[aC] at e1
  cases ek:kvs[j]? with
  |none=>rw[ek] at e1;cases e1
  |some p=>
   rw[ek] at e1
   have e1':p.1=k:=Option.some.inj e1
   obtain⟨_,t,a,et,ht,ra⟩:=hvs j p.1 p.2 x v ek (by rw[gt] at e3;exact e3) e2
   exact⟨t,a,et,ht,by rw[<-e1'];exact sU ra⟩
 ·have rel:KV (gc [] kvs) (merged [] ((kvs.map (·.1)).zip vs)):=KV.merge (LK hvl λj k v u e1 e2=>by
   have jl:j<its.length:=by have:=(af.mp e1).1;lia
   exact(hvs j k v _ u e1 (aa jl) e2).1) .nil
  have hlen2:(gc [] kvs).length<=sizeLine:=bn (lh _ _) (bn (show[].length+kvs.length<=1000 by rw[ii];lia) (show 1000<=sizeLine by decide))
  have hn:H s.heap.objs.size=none:=I.hok.fresh (aw _)
  exact⟨.ref s.heap.objs.size,_,I.laid (t':=tk) (o:=.dK (gc [] kvs)) kp (aw _) (v0 hlen2 (beq_eq_false_iff_ne.mpr (fz I.big)) rel d'),rfl,q _ hn⟩
def Fr:List V->Hp->VK->Prop:=λxs H Q=>∃(d:Addr) (kvs:List (dY×V)),xs=[.ref d]/\Rd H d (.dK kvs)/\∀l,H l=none->Q (.ref l) (upd H l (.lst (kvs.map λkv=>kV kv.1)))
theorem zC(hc:X.calm=true):ja X (.type "list") Fr:=by
 intro pins s σ H xs us Q I r h
 obtain⟨d,kvs,rfl,hd,q⟩:=h
 obtain⟨u,rfl,rx⟩:=m5 r
 cases rx
 obtain⟨z,lo,vs,rel,dd⟩:=sM I.hok hd
 obtain⟨ep,hat⟩:=dd.dictAt
 have kl:=rel.length
 refine PySem.W.kdl_call (lB (knd:=dk X.prog X.w) (kvs:=vs) (ep:=ep) lo) (I.ok.hd hc) hat (by rw[<-kl];exact z) λh' tk acc c hk hD hacc=>?_
 have hl:acc.toList.length=vs.length:=by rw[bI];exact hacc.1
 have hv:cv (kvs.map λkv=>kV kv.1) acc.toList:=qQ (by rw[ab];lia) λj x v e1 e2=>by
  rw[aC] at e1
  cases ek:kvs[j]? with
  |none=>rw[ek] at e1;cases e1
  |some p=>
   rw[ek] at e1
   have e1':kV p.1=x:=Option.some.inj e1
   obtain⟨k,y,e3,his⟩:=hacc.2 j v (by rw[<-bQ];exact e2)
   have:k=p.1:=by
    have a1:(vs.map (·.1))[j]?=some k:=by rw[aC,e3];rfl
    rw[<-rel.keys,aC,ek] at a1
    exact(Option.some.inj a1).symm
   subst this
   rw[<-e1']
   exact r8 his
 have hn:H s.heap.objs.size=none:=I.hok.fresh (aw _)
 refine⟨.ref s.heap.objs.size,_,I.laid (t':=tk) (o:=.lst (kvs.map λkv=>kV kv.1)) hk (aw _) ⟨by rw[ab];exact z,acc.toList,c,hv,?_⟩,rfl,q _ hn⟩
 rw[fj];exact hD
end
section
variable{X:Cx}
theorem qR:∀{us:List Value} {ss:List Str},StrsAre us ss->cv (ss.map V.str) us
 |_,_,.nil=>.nil
 |_,_,.cons x t r=>.cons ⟨t,rfl⟩ (qR r)
theorem zS{prog:Program}{w:World}:∀{ss:List Str} {vs:List (dY×Value)} {us:List Value},vs.map (·.1)=ss.map Sum.inr->us.length=vs.length->(∀(j:Nat) v,us[j]?=some v->∃k x,vs[j]?=some (k,x)/\(dk prog w).is k v=true)->cv (ss.map V.str) us:=by
 intro ss vs us h1 h2 h3
 have hl:vs.length=ss.length:=by have:=congrArg jz h1;rw[ab,ab] at this;exact this
 refine qQ (by rw[ab];lia) λj x u e1 e2=>?_
 obtain⟨k,y,e3,his⟩:=h3 j u e2
 rw[aC] at e1
 cases es:ss[j]? with
 |none=>rw[es] at e1;cases e1
 |some z=>
  rw[es] at e1
  have e1':V.str z=x:=Option.some.inj e1
  have ek:k=Sum.inr z:=by
   have a1:(vs.map (·.1))[j]?=some k:=by rw[aC,e3];rfl
   rw[h1,aC,es] at a1
   exact(Option.some.inj a1).symm
  subst ek
  rw[<-e1']
  exact r8 (k:=Sum.inr z) his
def BD:List V->Hp->VK->Prop:=λxs H Q=>∃(d:Addr) (kvs:List (dY×V)) (ss:List Str),xs=[.ref d]/\Rd H d (.dK kvs)/\kvs.map (·.1)=ss.map Sum.inr/\ss.length<64/\∀(l:Addr) (ss':List Str),H l=none->ss'.Perm ss->sortedS ss'=true->Q (.ref l) (upd H l (.lst (ss'.map V.str)))
theorem xj(hc:X.calm=true):ja X (.builtin "sorted") BD:=by
 intro pins s σ H xs us Q I r h
 obtain⟨d,kvs,ss,rfl,hd,hk,h64,q⟩:=h
 obtain⟨u,rfl,rx⟩:=m5 r
 cases rx
 obtain⟨z,lo,vs,rel,dd⟩:=sM I.hok hd
 obtain⟨ep,hat⟩:=dd.dictAt
 have hh:X.A.handled=none:=I.ok.hd hc
 have kl:=rel.length
 have hv:vs.map (·.1)=ss.map Sum.inr:=by rw[<-rel.keys];exact hk
 have vl:vs.length=ss.length:=by have:=congrArg jz hv;rw[ab,ab] at this;exact this
 refine Calls.call_function_entry kind_sorted plain_sorted entry_sorted (args_sorted1 _) ?_
 unfold Builtin.«sorted»
 refine wpAny_bind (m:=checkCount "sorted" 1 1 _) (wpAny_pure ?_)
 refine wpAny_bind (PySem.W.kdu_collect (A:=X.A.in1) (lB (knd:=dk X.prog X.w) (kvs:=vs) (ep:=ep) lo) hh hat (by rw[<-kl];exact z) λh' tk acc hkp hacc=>?_)
 have hl:acc.toList.length=vs.length:=by rw[bI];exact hacc.1
 have hI:cv (ss.map V.str) acc.toList:=zS (prog:=X.prog) (w:=X.w) hv hl λj v e=>hacc.2 j v (by rw[<-bQ];exact e)
 have hS:=pY hI
 refine wpAny_bind (wpAny_newList ?_ (by rw[hl,<-kl];exact z))
 have hoL:(h'.push (seqObj "list" acc.toList.toArray 0)).get? h'.objs.size=some (seqObj "list" acc.toList.toArray 0):=aD _ rfl
 show wpAny _ _ _ _ _ {s with heap:=h'.push (seqObj "list" acc.toList.toArray 0),toks:=tk}
 refine wpAny_bind (wpAny_holding (wpAny_call_entry slot_list_sort ⟨_,hoL,rfl⟩ entry_list_sort (list_sort_treeK strKind_oneLt hoL hS.keysOf (λv₁ v₂ rest e=>keyKind_strs (by rw[<-e];exact hS)) (by rw[hl,vl];exact h64) λst' hp hs=>?_) (args_list_sort _)))
 obtain⟨ss',a1,a2,a3⟩:=sorted_out_str hS hp hs
 refine⟨_,rfl,?_⟩
 refine wpAny_pure ⟨_,rfl,?_⟩
 obtain⟨e,he⟩:=sortedHeap_at (n:=0) (out:=(arrOf st').map (·.2)) hoL
 have hn:=qR a1
 have hlen:ss'.length=ss.length:=a2.length_eq
 have I1:bN X pins σ H {s with heap:=h',toks:=tk}:=I.kept hkp
 refine⟨.ref h'.objs.size,_,I1.laid (t':=tk) (λb u q1=>?_) (aw _) (show fA X.prog X.w _ _ _ (.lst (ss'.map V.str)) from⟨?_,((arrOf st').map (·.2)).toList,e,hn,?_⟩),rfl,q _ _ (I1.hok.fresh (aw _)) a2 a3⟩
 ·have lt:=aF q1
  rw[sortedHeap_old (aH lt) (by rw[size_push'];exact cG lt)]
  exact aj _ q1
 ·rw[ab,hlen];exact bn (bW h64) (by decide)
 ·rw[fj];exact he
def AD(td ty tx:TE):TE:=λσ H Q=>td σ H λx H1=>∃a,x=.ref a/\MK H1 a/\ty σ H1 λy H2=>tx σ H2 λz H3=>∃kvs k,H3 a=some (.dK kvs)/\y=kV k/\kvs.length<sizeLine/\(∀v,gz kvs k=some v->Q v H3)/\(gz kvs k=none->Q z (upd H3 a (.dK (ix kvs k z))))
theorem Fb{o e f:Expr}{apos cpos:Pos}{td ty tx:TE}(ho:PE X o td)(he:PE X e ty)(hf:PE X f tx)(m:M2 X o "setdefault" apos e f cpos):PE X (.Call (.Attribute o "setdefault" apos) [e,f] [] cpos) (AD td ty tx):=by
 intro pins s σ H Q I h
 refine wpAny_Call_method m.base m.few m.line PySem.F.plainAttrs_dict PySem.F.slot_dict_setdefault PySem.F.type_dict_setdefault (fV (ho pins s σ H _ I h) λu s1 ⟨x,H1,I1,rx,a,ex,d,q1⟩=>?_)
 subst ex
 obtain rfl:u=Value.ref a:=rx
 obtain⟨t1,t2,_⟩:=ED I1 d
 refine⟨t1,t2,?_⟩
 rw[m.trees]
 refine Calls.callWith_builtin rfl (Calls.evalArgs_plain (Calls.spliced_cons (fV (he pins s1 σ H1 _ I1 q1) λiv s2 ⟨y,H2,I2,ry,q2⟩=>
  Calls.spliced_cons (fV (hf pins s2 σ H2 _ I2 q2) λfv s3 ⟨z,H3,I3,rz,kvs,k,e3,ey,hl,qs,qn⟩=>Calls.spliced_nil ?_))))
 subst ey
 obtain⟨z1,l1,vs,rel,dd⟩:=pE I3.hok e3
 refine call_meetsIn PySem.F.slot_dict_setdefault dd.typeIs PySem.F.entry_dict_setdefault (PySem.F.args_dict_setdefault_3 _ _ _) (kt_meets_setdefault (dk X.prog X.w) a (sU ry) l1 fv) ⟨vs,dd,by rw[<-rel.length];exact z1,λv hv=>?_,λhv h' d' hs=>?_⟩
 ·have:=rel.val k
  rw[hv] at this
  cases ev:gz kvs k with
  |none=>rw[ev] at this;exact(show False from this).elim
  |some v'=>
   rw[ev] at this
   exact⟨v',H3,I3.tok _,this,qs v' ev⟩
 ·have:=rel.val k
  rw[hv] at this
  cases ev:gz kvs k with
  |some v'=>rw[ev] at this;exact(show False from this).elim
  |none=>
   have hlen:(ix kvs k z).length<=sizeLine:=by have:=kT kvs k z;lia
   refine⟨z,_,rY (t':=s3.toks+1) (ob:=.dK (ix kvs k z)) I3 (by rw[e3];exact True.intro) hs (let⟨ob,_,_,h1,_⟩:=d';⟨ob,h1⟩) (v0 hlen l1 (rel.put k rz) d'),rz,qn ev⟩
end
theorem J9{kvs:List (dY×V)}{vs:List (dY×Value)}(r:KV kvs vs):∀{i:Nat} {p:dY×V} {q:dY×Value},kvs[i]?=some p->vs[i]?=some q->p.1=q.1/\cy p.2 q.2:=by
 induction r with
 |nil=>intro i p q e _;simp at e
 |@cons a b as bs h _ ih=>
  intro i p q e1 e2
  match i with
  |0=>cases e1;cases e2;exact h
  |i+1=>exact ih e1 e2
def Ls(d:Addr)(kvs:List (dY×V))(o:Obj):It:=⟨λi H=>H d=some (.frz o (.dK kvs))/\i<kvs.length,λi H x H'=>∃p k v,H p=none/\x=.ref p/\H'=upd H p (.tup [kV k,v])/\kvs[i]?=some (k,v),λi H=>H d=some (.frz o (.dK kvs))/\kvs.length<=i⟩
theorem AR{P:Program}{w:World}{K:Fg}{elts:List Expr}{k:Nat}{pos:Pos}(d it:Addr)(kvs:List (dY×V))(o:Obj)(es0:Array DictEntry)(ep:Nat)(hep:o.data=.dict es0 ep):uo P w K (.Tuple elts k pos) (Ls d kvs o) [it] it (λi h=>∃ok ov,IsItemIter h it d i kvs.length ep ok ov) where
 mem:=by simp
 obj:=λi h st b hb=>by
  have e:b=it:=by simpa using hb
  subst e
  obtain⟨ok,ov,e⟩:=st
  exact⟨_,e,λv z=>by have z':Data.fields _=Data.cell v:=z;cases z'⟩
 keep:=λi h h' st k=>let⟨ok,ov,e⟩:=st;⟨ok,ov,k it (by simp) _ e⟩
 item:=by
  intro X hP hw hK hc i pins s σ H E I hf st hg
  subst hP hw hK
  obtain⟨ok,ov,st⟩:=st
  obtain⟨e,hi⟩:=hg
  obtain⟨lo,vs,rel,dd⟩:=qC I e hep
  have kl:=rel.length
  have hi':i<vs.length:=by lia
  obtain⟨hk,hv⟩:=J9 rel (aa hi) (aa hi')
  refine wpAny_pyNext_items_item (by rw[<-kl];exact st) dd (k:=vs[i].1) (v:=vs[i].2) (aa hi') λkey h1 hkey ho hT hsz hkp=>?_
  refine⟨_,rfl,?_⟩
  have fT:pe X pins H s.heap.objs.size:=I.fpOk (aw _) (I.hok.fresh (aw _))
  have itlt:it<s.heap.objs.size:=aF st
  refine wpAny_letOwnedTupleGo_items (s:={s with heap:=h1}) ho λh2 he2 hs2=>?_
  have I1:bN X pins σ H {s with heap:=h2,toks:=s.toks}:=I.turnedL (t':=s.toks) (ch:=[it]) (λb o hb q=>by
   have b1:b≠it:=λz=>hb (by simp[z])
   exact(hs2.2 b b1).trans (hkp b o b1 q)) hf
  have gT:h2.get? s.heap.objs.size=some {cls:=.type "tuple",data:=.seq #[key,vs[i].2]}:=(hs2.2 _ (fz itlt)).trans hT
  have rk:cy (kV kvs[i].1) key:=r8 (P:=X.prog) (w:=X.w) (by rw[hk];exact hkey)
  have I2:=I1.adopt (T:=s.heap.objs.size) (o:=.tup [kV kvs[i].1,kvs[i].2]) fT (wX (X:=X) gT rk hv)
  refine⟨.ref s.heap.objs.size,_,I2,rfl,⟨s.heap.objs.size,kvs[i].1,kvs[i].2,fT.1,rfl,rfl,aa hi⟩,⟨key,vs[i].2,by rw[kl];exact he2⟩,λb hb=>?_⟩
  have nT:b≠s.heap.objs.size:=by rw[ae.mp hb];exact aH itlt
  rw[ax nT];exact(hf b hb).1
 done:=by
  intro X hP hw hK hc i pins s σ H E I hf st hg
  subst hP hw hK
  obtain⟨ok,ov,st⟩:=st
  obtain⟨e,hi⟩:=hg
  obtain⟨lo,vs,rel,dd⟩:=qC I e hep
  have kl:=rel.length
  obtain⟨f0,f1,f2,f3,f4,f5⟩:=hf it (by simp)
  exact wpAny_pyNext_items_end (I.ok.hd hc) (by rw[<-kl];exact st) dd (bR (by lia)) λh' eb=>⟨rfl,I.turned (t':=s.toks) (λb o hb e=>eb b o hb e) f0 f1 f3 f4 f5⟩
 self:=λ_ _ _ _ _ st h=>by
  obtain⟨ok,ov,st⟩:=st
  exact PySem.W.kcp_self st h
section
variable{X:Cx}{tg:Expr}
structure M0(X:Cx)(o:Expr)(m:Str)(apos cpos:Pos):Prop where
 base:attributeBase o m X.env (eval o X.env)=eval o X.env
 line:(apos.endLine==cpos.line)=true
theorem JS{pins:List (Addr×Obj)}{σ:St}{H:Hp}{s:Shared}{d:Addr}{kvs:List (dY×V)}(I:bN X pins σ H s)(e:H d=some (.dK kvs)):∃o es0 ep,o.data=.dict es0 ep/\bN X pins σ (upd H d (.frz o (.dK kvs))) s:=by
 obtain⟨o,ho,I2⟩:=I.freeze e
 obtain⟨_,_,_,_,o',es,ep,h1,_,h3,_⟩:=I.hok d _ e
 rw[ho] at h1;cases h1
 exact⟨o,es,ep,h3,I2⟩
def zQ(te:TE):TI:=λσ H R=>te σ H λx H1=>∃d kvs,x=.ref d/\H1 d=some (.dK kvs)/\∀o,R (Ls d kvs o) (upd H1 d (.frz o (.dK kvs)))
theorem Ff{l:Expr}{tl:TE}{apos cpos:Pos}{elts:List Expr}{k:Nat}{pos:Pos}(hl:PE X l tl)(m:M0 X l "items" apos cpos):PI X (.Tuple elts k pos) (.Call (.Attribute l "items" apos) [] [] cpos) (zQ tl):=by
 intro pins s σ H R I h
 refine wpAny_Call_method (T:="dict") (id:="dict.items") m.base rfl m.line PySem.F.plainAttrs_dict PySem.F.slot_dict_items PySem.F.type_dict_items (fV (hl pins s σ H _ I h) λv s1 ⟨x,H1,I1,r1,q1⟩=>?_)
 obtain⟨d,kvs,rfl,e,q⟩:=q1
 cases r1
 obtain⟨t1,t2,_⟩:=ED I1 (.inl ⟨kvs,.inl e⟩)
 refine⟨t1,t2,?_⟩
 obtain⟨z,lo,vs0,rel0,dd0⟩:=pE I1.hok e
 show wpAny _ _ (callWith cpos (.builtin "dict.items") [.ref d] [] []) _ _ s1
 refine method_meetsIn PySem.F.slot_dict_items PySem.F.entry_dict_items rfl (PySem.evalArgs_none ⟨rfl,dd0.typeIs,PySem.F.args_dict_items_1 _,_,meets_dict_items (dk X.prog X.w) d lo,⟨_,dd0⟩,?_⟩)
 have I1':bN X pins σ H1 {s1 with heap:=s1.heap.push {cls:=.type "dict_items",data:=.fields #[.ref d]}}:=I1.kept (t':=s1.toks) λb o e=>aj _ e
 obtain⟨o,es0,ep,hep,I2⟩:=JS I1' e
 obtain⟨_,vs,rel,dd⟩:=qC I2 ag hep
 have kl:=rel.length
 refine wpAny_pyIter_items (s:={s1 with heap:=s1.heap.push {cls:=.type "dict_items",data:=.fields #[.ref d]}}) ⟨_,aD _ rfl,rfl,rfl⟩ dd ?_
 refine⟨_,[_],_,_,_,rfl,I2.kept (t':=s1.toks) λb o e=>aj _ e,AR d _ kvs o es0 ep hep,⟨.none,.none,by rw[kl];exact aD _ rfl⟩,λb hb=>?_,q o⟩
 have e:b=(s1.heap.push {cls:=.type "dict_items",data:=.fields #[.ref d]}).objs.size:=by simpa using hb
 subst e
 exact I2.fpOk (aw _) (I2.hok.fresh (aw _))
end
section
variable{X:Cx}{tg l o e f:Expr}{tl td ty tx:TE}{apos cpos:Pos}
theorem Bx(h:QE X e tl):QE X e (BU tl):=⟨HI h.up⟩
theorem Ik(hl:QE X l tl):QI X tg l (EB tl):=⟨HP hl.up⟩
theorem Fn{elts:List Expr}{k:Nat}{pos:Pos}(hl:QE X l tl)(m:M0 X l "items" apos cpos):QI X (.Tuple elts k pos) (.Call (.Attribute l "items" apos) [] [] cpos) (zQ tl):=⟨Ff hl.up m⟩
theorem Fl(ho:QE X o td)(he:QE X e ty)(hf:QE X f tx)(m:M2 X o "setdefault" apos e f cpos):QE X (.Call (.Attribute o "setdefault" apos) [e,f] [] cpos) (AD td ty tx):=⟨Fb ho.up he.up hf.up m⟩
theorem Ez{A:Around}{k:Nat}(hr:dc k A):A.units+5<cLine:=fX (Nat.add_le_add_left (by decide:5<=64) _) hr.units
end
end L2
end
section
namespace Bg
open PySem L2
theorem zh{ks:List dY}:∀{us:List V} {j:Nat} {k:dY} {u:V},ks.Nodup->ks[j]?=some k->us[j]?=some u->gz (ks.zip us) k=some u:=by
 induction ks with
 |nil=>intro us j k u _ e _;simp at e
 |cons a r ih=>
  intro us j k u nd e1 e2
  obtain⟨na,nr⟩:=cB.mp nd
  cases us with
  |nil=>simp at e2
  |cons b t=>
   rw[List.zip_cons_cons]
   match j with
   |0=>cases e1;cases e2;exact qm rfl
   |j+1=>
    have hk:k∈r:=aA e1
    exact(nI (λz=>na (by rw[show a=k from z];exact hk))).trans (ih nr e1 e2)
theorem uP{ks:List dY}:∀{us:List V} {k:dY},k∉ks->gz (ks.zip us) k=none:=by
 induction ks with
 |nil=>intro us k _;rfl
 |cons a r ih=>
  intro us k h
  cases us with
  |nil=>rfl
  |cons b t=>
   rw[List.zip_cons_cons]
   exact(nI (λz=>h (by rw[show k=a from z.symm];exact aL))).trans (ih λz=>h (bx _ z))
theorem oQ:∀(more acc:List (dY×V)),((acc++more).map (·.1)).Nodup->gc acc more=acc++more
 |[],acc,_=>by show acc=acc++[];rw[cQ]
 |p::r,acc,nd=>by
  have hn:gz acc p.1=none:=by
   cases e:gz acc p.1 with
   |none=>rfl
   |some v=>
    have m:=Jb e
    rw[aN,bt] at nd
    exact absurd rfl ((cF.mp nd).2.2 _ m _ aL)
  show gc (ix acc p.1 p.2) r=acc++p::r
  rw[pL _ hn,oQ r (acc++[(p.1,p.2)]) (by rw[eh];exact nd),eh]
  rfl
structure DL(H:Hp)(d:Addr)(ks:List dY)(ls:List Addr)(vss:List (List V)):Prop where
 at_:H d=some (.dK (ks.zip (ls.map V.ref)))
 kn:ks.Nodup
 ln:ls.Nodup
 l1:ls.length=ks.length
 l2:vss.length=ks.length
 vs:∀(j:Nat) l v,ls[j]?=some l->vss[j]?=some v->H l=some (.lst v)
theorem DL.same{H H':Hp}{d:Addr}{ks:List dY}{ls:List Addr}{vss:List (List V)}(h:DL H d ks ls vss)(s:aV H H'):DL H' d ks ls vss:=⟨s _ _ h.at_,h.kn,h.ln,h.l1,h.l2,λj l v e1 e2=>s _ _ (h.vs j l v e1 e2)⟩
theorem DL.get{H:Hp}{d:Addr}{ks:List dY}{ls:List Addr}{vss:List (List V)}(h:DL H d ks ls vss){j:Nat}{k:dY}(e:ks[j]?=some k):∃l v,ls[j]?=some l/\vss[j]?=some v/\H l=some (.lst v)/\gz (ks.zip (ls.map V.ref)) k=some (.ref l):=by
 have jl:=(af.mp e).1
 have j1:j<ls.length:=by rw[h.l1];exact jl
 have j2:j<vss.length:=by rw[h.l2];exact jl
 refine⟨ls[j],vss[j],aa j1,aa j2,h.vs j _ _ (aa j1) (aa j2),zh h.kn e ?_⟩
 rw[aC,aa j1];rfl
theorem DL.app{H:Hp}{d:Addr}{ks:List dY}{ls:List Addr}{vss:List (List V)}(h:DL H d ks ls vss){j:Nat}{l:Addr}{v:List V}(e1:ls[j]?=some l)(e2:vss[j]?=some v)(x:V):DL (upd H l (.lst (v++[x]))) d ks ls (vss.set j (v++[x])):=by
 have hl:=h.vs j l v e1 e2
 refine⟨by rw[ax (iH h.at_ hl (by intro z;cases z))];exact h.at_,h.kn,h.ln,h.l1,by rw[cR];exact h.l2,λi l' v' f1 f2=>?_⟩
 by_cases c:i=j
 ·subst c
  rw[e1] at f1;cases f1
  rw[bg (af.mp e2).1] at f2
  cases f2
  exact ag
 ·have nl:l'≠l:=λz=>by
   subst z
   obtain⟨a1,a2⟩:=af.mp f1
   obtain⟨b1,b2⟩:=af.mp e1
   exact c ((fQ h.ln).mp (a2.trans b2.symm))
  rw[bC (Ne.symm c)] at f2
  rw[ax nl];exact h.vs i l' v' f1 f2
structure A0(H0 H:Hp)(D:Addr)(ks:List dY)(ts ls:List Addr):Prop where
 at_:H D=some (.lst (ts.map V.ref))
 l1:ts.length=ks.length
 l2:ls.length=ks.length
 ln:ls.Nodup
 pr:∀(j:Nat) t k l,ts[j]?=some t->ks[j]?=some k->ls[j]?=some l->H t=some (.tup [kV k,.ref l])
 em:∀l∈ls,H l=some (.lst [])/\l≠D/\H0 l=none
 sm:fh D H0 H
theorem oy{α:Type}{xs:List α}{x y:α}{j:Nat}(h:(xs++[x])[j]?=some y):(j<xs.length/\xs[j]?=some y)\/(j=xs.length/\y=x):=by
 by_cases c:j<xs.length
 ·rw[bJ c] at h
  exact .inl ⟨c,h⟩
 ·have hl:=(af.mp h).1
  rw[ai,aS] at hl
  have:j=xs.length:=by lia
  subst this
  rw[aX (aw _),dB] at h
  exact .inr ⟨rfl,(Option.some.inj h).symm⟩
theorem A0.nil{H:Hp}{D:Addr}(hD:H D=none):A0 H (upd H D (.lst [])) D [] [] []:=⟨ag,rfl,rfl,eW,λj t k l e=>by simp at e,λl m=>by(cases m),λb u n e=>by(rw[ax n];exact e)⟩
theorem A0.step{H0 H:Hp}{D:Addr}{ks:List dY}{ts ls:List Addr}(p:A0 H0 H D ks ts ls)(h0:H0 D=none){k:dY}{l t:Addr}(nl:H l=none)(nt:upd H l (.lst []) t=none) :
  A0 H0 (upd (upd (upd H l (.lst [])) t (.tup [kV k,.ref l])) D (.lst (ts.map V.ref++[.ref t]))) D (ks++[k]) (ts++[t]) (ls++[l]):=by
 have lD:l≠D:=λz=>by rw[z,p.at_] at nl;cases nl
 have tl:t≠l:=λz=>by rw[z,ag] at nt;cases nt
 have nt':H t=none:=by rw[ax tl] at nt;exact nt
 have tD:t≠D:=λz=>by rw[z,p.at_] at nt';cases nt'
 have keep:∀b u,b≠D->H b=some u->upd (upd (upd H l (.lst [])) t (.tup [kV k,.ref l])) D (.lst (ts.map V.ref++[.ref t])) b=some u:=λb u n e=>by
  rw[ax n,ax (ar e nt'),ax (ar e nl)];exact e
 refine⟨by rw[ag,aN];rfl,by rw[ai,ai,p.l1];rfl,by rw[ai,ai,p.l2];rfl,?_,λj t' k' l' e1 e2 e3=>?_,λl' m=>?_,λb u n e=>keep b u n (p.sm b u n e)⟩
 ·refine cF.mpr ⟨p.ln,by simp,λa ha b hb=>?_⟩
  rw[ae.mp hb]
  intro z
  rw[z] at ha
  rw[(p.em l ha).1] at nl;cases nl
 ·rcases oy e1 with⟨c1,f1⟩|⟨c1,f1⟩<;>rcases oy e2 with⟨c2,f2⟩|⟨c2,f2⟩<;>rcases oy e3 with⟨c3,f3⟩|⟨c3,f3⟩
  ·have:=p.pr j t' k' l' f1 f2 f3
   exact keep t' _ (λz=>by rw[z,p.at_] at this;cases this) this
  all_goals first
   |(exfalso;have:=p.l1;have:=p.l2;lia)
   |(subst f1;subst f2;subst f3;rw[ax tD];exact ag)
 ·rcases aB.mp m with z|z
  ·obtain⟨a,b,c⟩:=p.em l' z
   exact⟨keep l' _ b a,b,c⟩
  ·rw[ae.mp z]
   refine⟨by rw[ax lD,ax (Ne.symm tl)];exact ag,lD,?_⟩
   cases e:H0 l with
   |none=>rfl
   |some u=>rw[p.sm l u lD e] at nl;cases nl
theorem A0.dict{K:Fg}{H0 H:Hp}{D:Addr}{ks:List dY}{ts ls:List Addr}{Q:VK}(p:A0 H0 H D ks ts ls)(h0:H0 D=none)(nd:ks.Nodup)(few:ks.length<=1000)
  (q:∀d H',H0 d=none->(∀l∈ls,H0 l=none)->DL H' d ks ls (az ks.length [])->aV H0 H'->Q (.ref d) H'):nY K [.ref D] H Q:=by
 have zl:(ks.zip (ls.map V.ref)).length=ks.length:=by rw[ff,ab,p.l2,iN]
 have zm:(ks.zip (ls.map V.ref)).map (·.1)=ks:=by
  rw[ly]
  rw[ab,p.l2];exact aw _
 refine⟨D,ts.map V.ref,ks.zip (ls.map V.ref),rfl,p.at_,by rw[ab,zl,p.l1],by lia,λj x k v e1 e2=>?_,λd nd'=>?_⟩
 ·rw[aC] at e1
  cases et:ts[j]? with
  |none=>rw[et] at e1;cases e1
  |some t=>
   rw[et] at e1
   have e1':V.ref t=x:=Option.some.inj e1
   subst e1'
   have jk:j<ks.length:=by have:=(af.mp e2).1;lia
   have jl:j<ls.length:=by rw[p.l2];exact jk
   have e3:=e2
   rw[aa (by rw[zl];exact jk),gO,fR] at e3
   have e3':=Option.some.inj e3
   have k1:ks[j]=k:=congrArg Prod.fst e3'
   have v1:V.ref ls[j]=v:=congrArg Prod.snd e3'
   refine⟨t,rfl,?_⟩
   rw[<-k1,<-v1]
   exact p.pr j t ks[j] ls[j] et (aa jk) (aa jl)
 ·have e0:gc [] (ks.zip (ls.map V.ref))=ks.zip (ls.map V.ref):=oQ _ [] (by rw[jJ,zm];exact nd)
  rw[e0]
  have hd0:H0 d=none:=by
   cases e:H0 d with
   |none=>rfl
   |some u=>
    have:d≠D:=λz=>by rw[z,h0] at e;cases e
    rw[p.sm d u this e] at nd';cases nd'
  refine q d _ hd0 (λl m=>(p.em l m).2.2) ⟨ag,nd,p.ln,p.l2,bf,λj l v e1 e2=>?_⟩ λb u e=>?_
  ·have m:=p.em l (aA e1)
   have hv:v=[]:=(dW.mp (aA e2)).2
   rw[hv,ax (ar m.1 nd')]
   exact m.1
  ·have bD:b≠D:=λz=>by rw[z,h0] at e;cases e
   have:=p.sm b u bD e
   rw[ax (ar this nd')];exact this
def Sd(rs:List ba)(m:Nat):Nat:=runJ rs rs.length m
def vB(rs:List ba)(n t:Nat):Prop:=∃r m,rs[n]?=some r/\m∈bS n r/\Sd rs m=t
inductive D0(rs:List ba)(y:Str):Nat->Prop where
 |here {n:Nat} {r:ba} (hr:rs[n]?=some r) (h:y∈eN r):D0 rs y n
 |on {n t:Nat} {r:ba} (hr:rs[n]?=some r) (hs:gI r≠.str y) (he:vB rs n t) (h:D0 rs y t):D0 rs y n
def nk(n:Nat):dY:=Sum.inl (n:Int)
structure D1(rs:List ba)(ns:List Nat)(pss:List (List Nat)):Prop where
 len:pss.length=ns.length
 at_:∀(j t:Nat) ps,ns[j]?=some t->pss[j]?=some ps->(∀n,n∈ps↔dm rs n/\vB rs n t)/\ps.length<=2*ns.length
def GK(rs:List ba)(n:Nat)(y:Str):Prop:=∃r,rs[n]?=some r/\y∈eN r
structure jN(rs:List ba)(ns:List Nat)(ys:List Str)(pss:List (List Nat))(i n e:Nat)(zs:List Str):Prop where
 nd:ys.Nodup
 len:pss.length=ys.length
 all:∀y,y∈ys↔(∃x∈ns.take i,GK rs x y)\/y∈zs
 at_:∀(j:Nat) y ps,ys[j]?=some y->pss[j]?=some ps->(∀x,x∈ps↔(x∈ns.take i/\GK rs x y)\/(x=n/\y∈zs))/\ps.length<=e
structure vO(rs:List ba)(ys:List Str)(pss:List (List Nat)):Prop where
 nd:ys.Nodup
 len:pss.length=ys.length
 all:∀y,y∈ys↔∃x,dm rs x/\GK rs x y
 at_:∀(j:Nat) y ps,ys[j]?=some y->pss[j]?=some ps->(∀x,x∈ps↔dm rs x/\GK rs x y)/\ps.length<=6400
def mJ(_:Fg):Sp:=λvs H Q _=>∃(rt:Addr) (rvs:List V) (rs:List ba),vs=[.ref rt]/\H rt=some (.tup rvs)/\cK (dD H) rvs rs/\cp rs/\(∀r∈rs,(eN r).length<=100)/\
 ∀(d:Addr) (ys:List Str) (ls:List Addr) (pss:List (List Nat)) (H':Hp),DL H' d (ys.map Sum.inr) ls (pss.map aO)->vO rs ys pss->H d=none->(∀l∈ls,H l=none)->aV H H'->Q (.ref d) H'
def mI(_:Fg):Sp:=λvs H Q _=>∃(rt:Addr) (rvs:List V) (rs:List ba),vs=[.ref rt]/\H rt=some (.tup rvs)/\cK (dD H) rvs rs/\cp rs/\
 ∀(d:Addr) (ns:List Nat) (ls:List Addr) (pss:List (List Nat)) (H':Hp),(∀m,m∈ns↔dm rs m)->ns.Pairwise (·<·)->DL H' d (ns.map nk) ls (pss.map aO)->D1 rs ns pss->H d=none->(∀l∈ls,H l=none)->aV H H'->Q (.ref d) H'
def mK(_:Fg):Sp:=λvs H Q _=>∃(rt d rl:Addr) (y:Str) (rvs:List V) (rs:List ba) (ns:List Nat) (ls:List Addr) (pss:List (List Nat)) (ps:List Nat),vs=[.ref rt,.ref d,.ref rl,.str y]/\H rt=some (.tup rvs)/\cK (dD H) rvs rs/\cp rs/\(∀m,m∈ns↔dm rs m)/\ns.Pairwise (·<·)/\
 DL H d (ns.map nk) ls (pss.map aO)/\D1 rs ns pss/\H rl=some (.lst (aO ps))/\(∀x,x∈ps↔dm rs x/\GK rs x y)/\ps.length<=6400/\
 ∀(l:Addr) (ws:List Nat) (H':Hp),(∀x,x∈ws↔dm rs x/\D0 rs y x)->ws.Nodup->H' l=some (.lst (aO ws))->H l=none->aV H H'->Q (.ref l) H'
structure JI(rs:List ba)(ns:List Nat)(wss:List (List Str))(ss:List Str):Prop where
 srt:PyProof.Rows.sortedS ss=true
 nd:ss.Nodup
 len:wss.length=ns.length
 at_:∀(j n:Nat) ws,ns[j]?=some n->wss[j]?=some ws->ws.Sublist ss/\∀y,y∈ws↔D0 rs y n
def eS(_:Fg):Sp:=λvs H Q _=>∃(rt:Addr) (rvs:List V) (rs:List ba) (zs:List Str),vs=[.ref rt]/\H rt=some (.tup rvs)/\cK (dD H) rvs rs/\cp rs/\(∀r∈rs,(eN r).length<=100)/\zs.length<64/\(∀r∈rs,∀y∈eN r,y∈zs)/\
 ∀(d:Addr) (ns:List Nat) (ts:List Addr) (wss:List (List Str)) (ss:List Str) (H':Hp),(∀m,m∈ns↔dm rs m)->ns.Pairwise (·<·)->H' d=some (.dK ((ns.map nk).zip (ts.map V.ref)))->ts.length=ns.length->(∀(j:Nat) t ws,ts[j]?=some t->wss[j]?=some ws->H' t=some (.tup (ws.map V.str)))->JI rs ns wss ss->H d=none->aV H H'->Q (.ref d) H'
theorem cZ{rs:List ba}(g:cp rs){n:Nat}(h:dm rs n):n<rs.length:=h.1.lt g
theorem uj{rs:List ba}(g:cp rs):∀(k:Nat) {m:Nat},w5 rs none m->w5 rs none (runJ rs k m)
 |0,_,h=>h
 |k+1,m,h=>by
  show w5 rs none (runJ rs k (stp rs m))
  refine uj g k ?_
  unfold stp
  cases e:rs[m]? with
  |none=>exact h
  |some r=>
   cases r with
   |jump to=>exact .step h e (λy z=>by cases z) (by unfold bS;exact aL)
   |_=>exact h
theorem mM{rs:List ba}(g:cp rs){n t:Nat}(h:dm rs n)(e:vB rs n t):dm rs t:=by
 obtain⟨r,m,hr,hm,rfl⟩:=e
 have wm:w5 rs none m:=.step h.1 hr (λy z=>by cases z) hm
 exact⟨uj g _ wm,λr' hr'=>g.ring m (g.inr _ _ _ hr hm) r' hr'⟩
theorem E1{a b:Nat}(h:nk a=nk b):a=b:=by
 unfold nk at h
 injection h with h
 lia
theorem tj{ns:List Nat}(h:ns.Pairwise (·<·)):(ns.map nk).Nodup:=by
 rw[List.Nodup,fq]
 exact h.imp λhlt z=>by have:=E1 z;lia
def FL(_:Fg):Sp:=λvs H Q _=>∃(rt:Addr) (n:Nat) (rvs:List V) (rs:List ba),vs=[.ref rt,.int (n:Nat)]/\H rt=some (.tup rvs)/\cK (dD H) rvs rs/\cp rs/\n<rs.length/\Q (.int (Sd rs n:Nat)) H
abbrev J1:Nat:=4
abbrev vD:Nat:=5
abbrev J2:Nat:=4
abbrev vE:Nat:=5
abbrev J3:Nat:=4
abbrev vF:Nat:=5
abbrev zX:Nat:=5
abbrev jd:Nat:=6
end Bg
end
section
namespace Bg
open PySem PySem.Spec PyProof.Rows L2
abbrev fB:List Str:=["rows"]
abbrev kx:List Str:=["rows","ahead","readers","found","name","n"]
def qg(K:Fg):TS:=(dt (iI (nY K) (ao (BU (jX [5] 1 (zQ (au 3)) (CK K 2 (kS (bb 5) (kS (bb 6) xB))) qP (gu (ao (au 5) (ao (iI (ie K) (ao (au 6) aP)) aP))))) aP)))
def wV(K:Fg):TS:=(i4 (vh K "list" eC (nA (au 3) (au 5)) (ao (au 4) aP)))
def qh(K:Fg):TS:=(jQ (jF K (bE (mK K) [] E0 (ao (au 0) (ao (au 1) (ao (nA (au 2) (au 4)) (ao (au 4) aP)))))) (bb 5) (wV K))
def qi(K:Fg):TS:=(bB (jQ (jF K (iI BD (ao (au 2) aP))) (bb 4) (qh K)) (qg K))
def qj(K:Fg):TS:=(bB (ci (iI (nY K) (ao (BU (jX [5] 0 (EB (au 1)) (bb 5) qP (gu (ao (au 5) (ao (gM aP) aP))))) aP)) (bb 3)) (qi K))
def wW(K:Fg):TS:=(bB (ci (bE (mJ K) [] E0 (ao (au 0) aP)) (bb 2)) (qj K))
def ug(K:Fg):TS:=(bB (ci (bE (mI K) [] E0 (ao (au 0) aP)) (bb 1)) (wW K))
abbrev mh:List Str:=["rows"]
abbrev vK:List Str:=["rows","come","ahead","n","to"]
def Gb(K:Fg):TS:=(dt (au 2))
def Gc(K:Fg):TS:=(i4 (vh K "list" eC (nA (au 2) (bE (cw K) [] E0 (ao (au 0) (ao (au 4) aP)))) (ao (au 3) aP)))
def yT(K:Fg):TS:=(jQ (jF K (bE (e8 K) [] E0 (ao (au 0) (ao (au 3) aP)))) (bb 4) (Gc K))
def yU(K:Fg):TS:=(bB (jQ (jF K (au 1)) (bb 3) (yT K)) (Gb K))
def yV(K:Fg):TS:=(bB (ci (iI (nY K) (ao (jX [3] 0 (jF K (au 1)) (bb 3) qP (gu (ao (au 3) (ao (gM aP) aP)))) aP)) (bb 2)) (yU K))
def Ga(K:Fg):TS:=(bB (ci (bE (cX K) [] E0 (ao (au 0) aP)) (bb 1)) (yV K))
abbrev mi:List Str:=["rows"]
abbrev zv:List Str:=["rows","readers","n","name"]
def Ge(K:Fg):TS:=(dt (au 1))
def Gf(K:Fg):TS:=(i4 (vh K "list" eC (AD (au 1) (au 3) (gM aP)) (ao (au 2) aP)))
def y0(K:Fg):TS:=(jQ (jF K (bE (iB K) [] E0 (ao (bA (dN K) (au 0) (au 2)) aP))) (bb 3) (Gf K))
def y3(K:Fg):TS:=(bB (jQ (jF K (bE (cX K) [] E0 (ao (au 0) aP))) (bb 2) (y0 K)) (Ge K))
def Gd(K:Fg):TS:=(bB (ci tR (bb 1)) (y3 K))
abbrev mj:List Str:=["rows","ahead","readers","name"]
abbrev vL:List Str:=["rows","ahead","readers","name","passed","waiting","n"]
def Gh(K:Fg):TS:=(dt (iI Fr (ao (au 4) aP)))
def y4(K:Fg):TS:=(i4 (vh K "list" BA (au 5) (ao (jX [] 1 (jF K (nA (au 1) (au 6))) (bb 7) (cb (bA (As K) (bE (gs K) [] E0 (ao (bA (dN K) (au 0) (au 7)) aP)) (au 3))) (au 7)) aP)))
def y7(K:Fg):TS:=(eP (cb (bA ((Iw true)) (au 6) (au 4))) (bB (ci (tC (.bl true)) (oi (au 4) (au 6) u6)) (y4 K)) cO)
def Gi(K:Fg):TS:=(bB (ci (FM K "list" Ix (au 5)) (bb 6)) (y7 K))
def y8(K:Fg):TS:=(bB (mN (cb (bA (Iv) (iI (jP K) (ao (au 5) aP)) (tC (.int 0)))) (Gi K)) (Gh K))
def y9(K:Fg):TS:=(bB (ci (iI (wH K) (ao (au 2) aP)) (bb 5)) (y8 K))
def Gg(K:Fg):TS:=(bB (ci tR (bb 4)) (y9 K))
abbrev GF:List Str:=["_law_rows","_law_n"]
def DR(K:Fg):TS:=(dt (au 1))
def DS(K:Fg):TS:=(ci (bA (dN K) (bA (dN K) (au 0) (au 1)) (tC (.int 1))) (bb 1))
def IZ(K:Fg):TS:=(bB (mN (cb (bA (iy K) (bA (dN K) (bA (dN K) (au 0) (au 1)) (tC (.int 0))) (tC (.str "jump")))) (DS K)) (DR K))
end Bg
end
section
namespace Bg
open PySem L2
structure ij(rs:List ba)(ns:List Nat)(pss:List (List Nat))(i:Nat)(n:Nat)(ms:List Nat):Prop where
 len:pss.length=ns.length
 at_:∀(j t:Nat) ps,ns[j]?=some t->pss[j]?=some ps->(∀x,x∈ps↔(x∈ns.take i/\vB rs x t)\/(x=n/\∃m∈ms,Sd rs m=t))/\ps.length<=2*i+ms.length
theorem ij.add{rs:List ba}{ns:List Nat}{pss:List (List Nat)}{i n:Nat}{ms:List Nat}(h:ij rs ns pss i n ms)(nd:ns.Nodup){m:Nat}{j:Nat}{ps:List Nat}(hj:ns[j]?=some (Sd rs m))(hp:pss[j]?=some ps):ij rs ns (pss.set j (ps++[n])) i n (ms++[m]):=by
 refine⟨by rw[cR];exact h.len,λj' t ps' e1 e2=>?_⟩
 have jl:=(af.mp hp).1
 by_cases c:j'=j
 ·subst c
  rw[hj] at e1;cases e1
  rw[bg jl] at e2
  cases e2
  obtain⟨h1,h2⟩:=h.at_ j' _ ps hj hp
  refine⟨λx=>?_,by rw[ai,ai,aS,aS];lia⟩
  rw[aB,h1 x,ae]
  constructor
  ·rintro((z|⟨z,m',hm,hs⟩)|z)
   ·exact .inl z
   ·exact .inr ⟨z,m',bh _ hm,hs⟩
   ·exact .inr ⟨z,m,aQ _ aL,rfl⟩
  ·rintro(z|⟨z,m',hm,hs⟩)
   ·exact .inl (.inl z)
   ·rcases aB.mp hm with z'|z'
    ·exact .inl (.inr ⟨z,m',z',hs⟩)
    ·exact .inr z
 ·rw[bC (Ne.symm c)] at e2
  obtain⟨h1,h2⟩:=h.at_ j' t ps' e1 e2
  refine⟨λx=>?_,by rw[ai];lia⟩
  rw[h1 x]
  constructor
  ·rintro(z|⟨z,m',hm,hs⟩)
   ·exact .inl z
   ·exact .inr ⟨z,m',bh _ hm,hs⟩
  ·rintro(z|⟨z,m',hm,hs⟩)
   ·exact .inl z
   ·rcases aB.mp hm with z'|z'
    ·exact .inr ⟨z,m',z',hs⟩
    ·exfalso
     rw[ae.mp z'] at hs
     rw[hs] at hj
     obtain⟨a1,a2⟩:=af.mp e1
     obtain⟨b1,b2⟩:=af.mp hj
     exact c ((fQ nd).mp (a2.trans b2.symm))
theorem ij.next{rs:List ba}{ns:List Nat}{pss:List (List Nat)}{i n:Nat}{r:ba}(h:ij rs ns pss i n (bS n r))(hi:ns[i]?=some n)(hr:rs[n]?=some r)(n':Nat):ij rs ns pss (i+1) n' []:=by
 have two:(bS n r).length<=2:=by cases r<;>simp[bS]
 refine⟨h.len,λj t ps e1 e2=>?_⟩
 obtain⟨h1,h2⟩:=h.at_ j t ps e1 e2
 refine⟨λx=>?_,by simp only[ii];lia⟩
 rw[h1 x,cC,hi]
 simp only[kr,aB,ae,cq,false_and,exists_false,and_false,or_false]
 constructor
 ·rintro(⟨z,e⟩|⟨rfl,m,hm,hs⟩)
  ·exact⟨.inl z,e⟩
  ·exact⟨.inr rfl,r,m,hr,hm,hs⟩
 ·rintro⟨z|rfl,e⟩
  ·exact .inl ⟨z,e⟩
  ·obtain⟨r',m,hr',hm,hs⟩:=e
   rw[hr] at hr';cases hr'
   exact .inr ⟨rfl,m,hm,hs⟩
theorem ij.done{rs:List ba}{ns:List Nat}{pss:List (List Nat)}{n:Nat}(hn:∀m,m∈ns↔dm rs m)(h:ij rs ns pss ns.length n []):D1 rs ns pss:=⟨h.len,λj t ps e1 e2=>by
 obtain⟨h1,h2⟩:=h.at_ j t ps e1 e2
 refine⟨λx=>?_,by simpa using h2⟩
 rw[h1 x,bK,hn x]
 simp⟩
theorem ij.zero{rs:List ba}{ns:List Nat}(n:Nat):ij rs ns (az ns.length []) 0 n []:=⟨bf,λj t ps e1 e2=>by
 have hv:ps=[]:=(dW.mp (aA e2)).2
 subst hv
 exact⟨λx=>by simp,bF _⟩⟩
theorem nV(ps:List Nat)(n:Nat):aO ps++[.int (n:Nat)]=aO (ps++[n]):=by unfold aO;rw[aN];rfl
theorem pH(pss:List (List Nat))(j:Nat)(ps:List Nat):(pss.map aO).set j (aO ps)=(pss.set j ps).map aO:=by rw[List.map_set]
theorem KZ{K:Fg}{vs:List V}{H:Hp}{Q:VK}{E:XK}(h:mI K vs H Q E):Ga K {nx:=λ_ H'=>Q .non H',rt:=Q} (cY vK vs) H:=by
 obtain⟨rt,rvs,rs,rfl,hrt,hA,g,q⟩:=h
 refine⟨_,rfl,rt,rvs,rs,rfl,hrt,hA,g,λl0 ns H1 hn hp hl0 nl0 s1=>?_⟩
 show yV K _ [some (.ref rt),some (.ref l0),none,none,none] H1
 have nlen:ns.length<=64:=by
  have:=dH (n:=rs.length) (l:=ns) (hp.imp λz=>aH z) λx hx=>cZ g ((hn x).mp hx)
  have:=g.few
  lia
 have nnd:ns.Nodup:=hp.imp λz=>aH z
 refine .inl ⟨_,rfl,l0,rfl,⟨_,ce.of hl0⟩,λD nD=>?_⟩
 refine jh (xs:=aO ns) (λi σ' H'=>∃(ts ls:List Addr) (o:Option V),σ'=[some (.ref rt),some (.ref l0),none,o,none]/\A0 H1 H' D ((ns.take i).map nk) ts ls) ?_ ?_ ?_ ?_
 ·exact⟨[],[],none,rfl,A0.nil nD⟩
 ·rintro i σ' H' _ ⟨ts,ls,o,_,p⟩
  exact ce.of (p.sm _ _ (ar hl0 nD) hl0)
 ·rintro i x σ' H' hx ⟨ts,ls,o,rfl,p⟩
  obtain⟨n,hni,rfl⟩:∃n:Nat,ns[i]?=some n/\x=.int (n:Nat):=by
   unfold aO at hx
   rw[aC] at hx
   cases e:ns[i]? with
   |none=>rw[e] at hx;cases hx
   |some n=>rw[e] at hx;exact⟨n,rfl,(Option.some.inj hx).symm⟩
  refine j4 ⟨_,rfl,(by show 0<=sizeLine;decide),λl nl=>⟨(by show 2<=sizeLine;decide),λt nt=>?_⟩⟩
  have st:=p.step nD (k:=nk n) nl nt
  have lD:l≠D:=λz=>by rw[z,p.at_] at nl;cases nl
  have tl:t≠l:=λz=>by rw[z,ag] at nt;cases nt
  have tD:t≠D:=λz=>by rw[z,ax (Ne.symm lD),p.at_] at nt;cases nt
  have tlen:ts.length<sizeLine:=cc (by rw[p.l1,ab,be];lia)
  refine⟨ts.map V.ref,by rw[ax (Ne.symm tD),ax (Ne.symm lD)];exact p.at_,by rw[ab];exact tlen,ts++[t],ls++[l],_,rfl,?_⟩
  rw[cC,hni,aN]
  exact st
 ·rintro σ' H2 ⟨ts,ls,o,_,p⟩
  have il:(aO ns).length=ns.length:=bv ns
  rw[il,bK] at p
  show aP _ _ _
  unfold aP
  dsimp only
  refine p.dict nD (tj hp) (by rw[ab];lia) λd H3 nd nls dl s3=>?_
  rw[ab] at dl
  show yU K _ [some (.ref rt),some (.ref l0),some (.ref d),none,none] H3
  have dl0:DL H3 d (ns.map nk) ls ((az ns.length ([]:List Nat)).map aO):=by
   rw[ko];exact dl
  refine .inl ⟨_,rfl,l0,rfl,⟨_,ce.of (s3 _ _ hl0)⟩,ib (xs:=aO ns) (λi σ' H'=>∃(pss:List (List Nat)) (o3 o4:Option V),σ'=[some (.ref rt),some (.ref l0),some (.ref d),o3,o4]/\DL H' d (ns.map nk) ls (pss.map aO)/\ij rs ns pss i 0 []/\aV H1 H') ⟨_,_,_,rfl,dl0,.zero 0,s3⟩ ?_ ?_ ?_⟩
  ·rintro i σ' H' _ ⟨pss,o3,o4,_,_,_,s'⟩
   exact ce.of (s' _ _ hl0)
  ·rintro i x σ' H' hx ⟨pss,o3,o4,rfl,dl',ah,s'⟩
   obtain⟨n,hni,rfl⟩:∃n:Nat,ns[i]?=some n/\x=.int (n:Nat):=by
    unfold aO at hx
    rw[aC] at hx
    cases e:ns[i]? with
    |none=>rw[e] at hx;cases hx
    |some n=>rw[e] at hx;exact⟨n,rfl,(Option.some.inj hx).symm⟩
   have ilt:i<ns.length:=(af.mp hni).1
   have stn:dm rs n:=(hn n).mp (aA hni)
   have nlt:=cZ g stn
   obtain⟨v,r,ev,er,ra⟩:=hA.get nlt
   have S':=s1.trans s'
   show yT K _ [some (.ref rt),some (.ref l0),some (.ref d),some (.int (n:Nat)),o4] H'
   refine .inr ⟨_,rfl,_,rfl,rt,n,rvs,v,r,rfl,S' _ _ hrt,ev,ra.mono (.of_same S'),λp H4 hp4 s4=>⟨p,rfl,⟨_,dZ.of hp4⟩,?_⟩⟩
   refine kR (xs:=aO (bS n r)) (λe σ' H'=>∃(pss:List (List Nat)) (o4:Option V),σ'=[some (.ref rt),some (.ref l0),some (.ref d),some (.int (n:Nat)),o4]/\DL H' d (ns.map nk) ls (pss.map aO)/\ij rs ns pss i n ((bS n r).take e)/\aV H1 H'/\H' p=some (.tup (aO (bS n r)))) ⟨pss,_,rfl,dl'.same s4,⟨ah.len,λj t ps e1 e2=>by
     obtain⟨h1,h2⟩:=ah.at_ j t ps e1 e2
     refine⟨λx=>?_,by simpa using h2⟩
     rw[h1 x]
     simp⟩,s'.trans s4,hp4⟩ ?_ ?_ ?_
   ·rintro e σ' H' _ ⟨_,_,_,_,_,_,hp'⟩
    exact dZ.of hp'
   ·rintro e x σ' H5 hx ⟨pss5,o5,rfl,dl5,ah5,s5,hp5⟩
    obtain⟨m,hme,rfl⟩:∃m:Nat,(bS n r)[e]?=some m/\x=.int (m:Nat):=by
     unfold aO at hx
     rw[aC] at hx
     cases ee:(bS n r)[e]? with
     |none=>rw[ee] at hx;cases hx
     |some m=>rw[ee] at hx;exact⟨m,rfl,(Option.some.inj hx).symm⟩
    have hm:m∈bS n r:=aA hme
    have mlt:=g.inr n m r er hm
    have stt:dm rs (Sd rs m):=mM g stn ⟨r,m,er,hm,rfl⟩
    obtain⟨j,hj⟩:=cE.mp ((hn _).mpr stt)
    have S5:=s1.trans s5
    obtain⟨l,v5,el,ev5,hl5,hval⟩:=dl5.get (j:=j) (k:=nk (Sd rs m)) (by rw[aC,hj];rfl)
    obtain⟨ps,eps,hps⟩:∃ps,pss5[j]?=some ps/\v5=aO ps:=by
     rw[aC] at ev5
     cases ee:pss5[j]? with
     |none=>rw[ee] at ev5;cases ev5
     |some ps=>rw[ee] at ev5;exact⟨ps,rfl,(Option.some.inj ev5).symm⟩
    subst hps
    have bound:=(ah5.at_ j _ ps hj eps).2
    have two:(bS n r).length<=2:=by cases r<;>simp[bS]
    have gg:=oe.k (k:=nk (Sd rs m)) dl5.at_
    rw[hval] at gg
    refine⟨_,rfl,_,rfl,_,rfl,rt,m,rvs,rs,rfl,S5 _ _ hrt,hA.imp λ_ _ z=>z.mono (.of_same S5),g,mlt,d,.ref l,rfl,gg,.inl ⟨rfl,_,ce.of hl5⟩,_,rfl,l,_,_,rfl,rfl,hl5,cc (by rw[bv];rw[be] at bound;lia),?_⟩
    refine⟨pss5.set j (ps++[n]),_,rfl,?_,?_,?_,?_⟩
    ·have:=dl5.app el ev5 (.int (n:Nat))
     rw[nV] at this ⊢
     rw[<-pH]
     exact this
    ·rw[cC,hme]
     exact ah5.add nnd hj eps
    ·have hl1:H1 l=none:=nls l (aA el)
     exact λb u e=>by rw[ax (ar e hl1)];exact s5 b u e
    ·rw[ax (iH hp5 hl5 (by intro z;cases z))];exact hp5
   ·rintro σ' H5 ⟨pss5,o5,rfl,dl5,ah5,s5,_⟩
    rw[bv,bK] at ah5
    exact⟨pss5,_,_,rfl,dl5,ah5.next hni er 0,s5⟩
  ·rintro σ' H4 ⟨pss,o3,o4,rfl,dl4,ah4,s4⟩
   rw[il] at ah4
   have dn:H d=none:=by
    cases e:H d with
    |none=>rfl
    |some u=>rw[s1 _ _ e] at nd;cases nd
   exact⟨_,rfl,q d ns ls pss H4 hn hp dl4 (ah4.done hn) dn (λl m=>by
    have:=nls l m
    cases e:H l with
    |none=>rfl
    |some u=>rw[s1 _ _ e] at this;cases this) (s1.trans s4)⟩
theorem DL.add{H:Hp}{d:Addr}{ks:List dY}{ls:List Addr}{vss:List (List V)}(h:DL H d ks ls vss){k:dY}{l:Addr}(nk:k∉ks)(hl:H l=some (.lst []))(nl:l∉ls) :
  gz (ks.zip (ls.map V.ref)) k=none/\DL (upd H d (.dK (ix (ks.zip (ls.map V.ref)) k (.ref l)))) d (ks++[k]) (ls++[l]) (vss++[[]]):=by
 have hn:gz (ks.zip (ls.map V.ref)) k=none:=uP nk
 have ez:ix (ks.zip (ls.map V.ref)) k (.ref l)=(ks++[k]).zip ((ls++[l]).map V.ref):=by
  rw[pL _ hn,aN,List.zip_append (by rw[ab,h.l1])];rfl
 refine⟨hn,by rw[ag,ez],?_,?_,by rw[ai,ai,h.l1];rfl,by rw[ai,ai,h.l2];rfl,λj l' v e1 e2=>?_⟩
 ·refine cF.mpr ⟨h.kn,by simp,λa ha b hb z=>?_⟩
  rw[ae.mp hb] at z
  exact nk (by rw[<-z];exact ha)
 ·refine cF.mpr ⟨h.ln,by simp,λa ha b hb z=>?_⟩
  rw[ae.mp hb] at z
  exact nl (by rw[<-z];exact ha)
 ·have ll:ls.length=vss.length:=by rw[h.l1,h.l2]
  rcases oy e1 with⟨c1,f1⟩|⟨c1,f1⟩<;>rcases oy e2 with⟨c2,f2⟩|⟨c2,f2⟩
  ·have:=h.vs j l' v f1 f2
   rw[ax (iH this h.at_ (by intro z;cases z))];exact this
  ·exfalso;lia
  ·exfalso;lia
  ·subst f1 f2
   rw[ax (iH hl h.at_ (by intro z;cases z))];exact hl
theorem jN.old{rs:List ba}{ns:List Nat}{ys:List Str}{pss:List (List Nat)}{i n e:Nat}{zs:List Str}(h:jN rs ns ys pss i n e zs){y:Str}{j:Nat}{ps:List Nat}(hj:ys[j]?=some y)(hp:pss[j]?=some ps):jN rs ns ys (pss.set j (ps++[n])) i n (e+1) (zs++[y]):=by
 have jl:=(af.mp hp).1
 refine⟨h.nd,by rw[cR];exact h.len,λy'=>?_,λj' y' ps' e1 e2=>?_⟩
 ·rw[h.all y',aB,ae]
  constructor
  ·rintro(z|z)
   ·exact .inl z
   ·exact .inr (.inl z)
  ·rintro(z|z|rfl)
   ·exact .inl z
   ·exact .inr z
   ·exact(h.all y').mp (aA hj)
 ·by_cases c:j'=j
  ·subst c
   rw[hj] at e1;cases e1
   rw[bg jl] at e2
   cases e2
   obtain⟨h1,h2⟩:=h.at_ j' _ ps hj hp
   refine⟨λx=>?_,by rw[ai,aS];lia⟩
   rw[aB,h1 x,ae,aB,ae]
   constructor
   ·rintro((z|⟨z,z'⟩)|z)
    ·exact .inl z
    ·exact .inr ⟨z,.inl z'⟩
    ·exact .inr ⟨z,.inr rfl⟩
   ·rintro(z|⟨z,z'⟩)
    ·exact .inl (.inl z)
    ·exact .inr z
  ·rw[bC (Ne.symm c)] at e2
   obtain⟨h1,h2⟩:=h.at_ j' y' ps' e1 e2
   refine⟨λx=>?_,by lia⟩
   have ne:y'≠y:=λz=>by
    subst z
    obtain⟨a1,a2⟩:=af.mp e1
    obtain⟨b1,b2⟩:=af.mp hj
    exact c ((fQ h.nd).mp (a2.trans b2.symm))
   rw[h1 x,aB,ae]
   constructor
   ·rintro(z|⟨z,z'⟩)
    ·exact .inl z
    ·exact .inr ⟨z,.inl z'⟩
   ·rintro(z|⟨z,z'|z'⟩)
    ·exact .inl z
    ·exact .inr ⟨z,z'⟩
    ·exact absurd z' ne
theorem jN.new{rs:List ba}{ns:List Nat}{ys:List Str}{pss:List (List Nat)}{i n e:Nat}{zs:List Str}(h:jN rs ns ys pss i n e zs){y:Str}(hy:y∉ys):jN rs ns (ys++[y]) (pss++[[n]]) i n (e+1) (zs++[y]):=by
 have ny:∀x,¬((x∈ns.take i/\GK rs x y)\/(x=n/\y∈zs)):=λx z=>by
  rcases z with⟨z,z'⟩|⟨_,z'⟩
  ·exact hy ((h.all y).mpr (.inl ⟨x,z,z'⟩))
  ·exact hy ((h.all y).mpr (.inr z'))
 refine⟨?_,by rw[ai,ai,h.len];rfl,λy'=>?_,λj' y' ps' e1 e2=>?_⟩
 ·refine cF.mpr ⟨h.nd,by simp,λa ha b hb z=>?_⟩
  rw[ae.mp hb] at z
  exact hy (by rw[<-z];exact ha)
 ·rw[aB,ae,h.all y',aB,ae]
  constructor
  ·rintro((z|z)|z)
   ·exact .inl z
   ·exact .inr (.inl z)
   ·exact .inr (.inr z)
  ·rintro(z|z|z)
   ·exact .inl (.inl z)
   ·exact .inl (.inr z)
   ·exact .inr z
 ·have hl:=h.len
  rcases oy e1 with⟨c1,f1⟩|⟨c1,f1⟩<;>rcases oy e2 with⟨c2,f2⟩|⟨c2,f2⟩
  ·obtain⟨h1,h2⟩:=h.at_ j' y' ps' f1 f2
   refine⟨λx=>?_,by lia⟩
   have ne:y'≠y:=λz=>hy (by rw[<-z];exact aA f1)
   rw[h1 x,aB,ae]
   constructor
   ·rintro(z|⟨z,z'⟩)
    ·exact .inl z
    ·exact .inr ⟨z,.inl z'⟩
   ·rintro(z|⟨z,z'|z'⟩)
    ·exact .inl z
    ·exact .inr ⟨z,z'⟩
    ·exact absurd z' ne
  ·exfalso;lia
  ·exfalso;lia
  ·subst f1 f2
   refine⟨λx=>?_,by simp⟩
   rw[ae,aB,ae]
   constructor
   ·intro z
    exact .inr ⟨z,.inr rfl⟩
   ·rintro(z|⟨z,_⟩)
    ·exact absurd (.inl z) (ny x)
    ·exact z
theorem jN.next{rs:List ba}{ns:List Nat}{ys:List Str}{pss:List (List Nat)}{i n e e':Nat}{r:ba}(h:jN rs ns ys pss i n e (eN r))(hi:ns[i]?=some n)(hr:rs[n]?=some r)(le:e<=e')(n':Nat):jN rs ns ys pss (i+1) n' e' []:=by
 have rd:∀y,GK rs n y↔y∈eN r:=λy=>⟨λ⟨r',a,b⟩=>by rw[hr] at a;cases a;exact b,λb=>⟨r,hr,b⟩⟩
 refine⟨h.nd,h.len,λy=>?_,λj y ps e1 e2=>?_⟩
 ·rw[h.all y,cC,hi]
  simp only[kr,aB,ae,cq,or_false]
  constructor
  ·rintro(⟨x,z,z'⟩|z)
   ·exact⟨x,.inl z,z'⟩
   ·exact⟨n,.inr rfl,(rd y).mpr z⟩
  ·rintro⟨x,z|rfl,z'⟩
   ·exact .inl ⟨x,z,z'⟩
   ·exact .inr ((rd y).mp z')
 ·obtain⟨h1,h2⟩:=h.at_ j y ps e1 e2
  refine⟨λx=>?_,bn h2 le⟩
  rw[h1 x,cC,hi]
  simp only[kr,aB,ae,cq,and_false,or_false]
  constructor
  ·rintro(⟨z,z'⟩|⟨rfl,z⟩)
   ·exact⟨.inl z,z'⟩
   ·exact⟨.inr rfl,(rd y).mpr z⟩
  ·rintro⟨z|rfl,z'⟩
   ·exact .inl ⟨z,z'⟩
   ·exact .inr ⟨rfl,(rd y).mp z'⟩
theorem jN.done{rs:List ba}{ns:List Nat}{ys:List Str}{pss:List (List Nat)}{n e:Nat}(hn:∀m,m∈ns↔dm rs m)(h:jN rs ns ys pss ns.length n e [])(he:e<=6400):vO rs ys pss:=by
 refine⟨h.nd,h.len,λy=>?_,λj y ps e1 e2=>?_⟩
 ·rw[h.all y,bK]
  simp only[cq,or_false]
  exact⟨λ⟨x,a,b⟩=>⟨x,(hn x).mp a,b⟩,λ⟨x,a,b⟩=>⟨x,(hn x).mpr a,b⟩⟩
 ·obtain⟨h1,h2⟩:=h.at_ j y ps e1 e2
  refine⟨λx=>?_,by lia⟩
  rw[h1 x,bK,hn x]
  simp
theorem mw{ns:List Nat}{i:Nat}{x:V}(hx:(aO ns)[i]?=some x):∃n:Nat,ns[i]?=some n/\x=.int (n:Nat):=by
 unfold aO at hx
 rw[aC] at hx
 cases e:ns[i]? with
 |none=>rw[e] at hx;cases hx
 |some n=>rw[e] at hx;exact⟨n,rfl,(Option.some.inj hx).symm⟩
theorem wN{ys:List Str}{i:Nat}{x:V}(hx:(ys.map V.str)[i]?=some x):∃y:Str,ys[i]?=some y/\x=.str y:=by
 rw[aC] at hx
 cases e:ys[i]? with
 |none=>rw[e] at hx;cases hx
 |some n=>rw[e] at hx;exact⟨n,rfl,(Option.some.inj hx).symm⟩
structure xf(H:Hp)(l0 d:Addr)(rs:List ba)(ns:List Nat)(H':Hp)(i n e:Nat)(zs:List Str):Prop where
 ex:∃(ys:List Str) (ls:List Addr) (pss:List (List Nat)),DL H' d (ys.map Sum.inr) ls (pss.map aO)/\jN rs ns ys pss i n e zs/\ys.length<=e/\∀l∈ls,H l=none/\l≠l0
 sm:aV H H'
 l0:H' l0=some (.lst (aO ns))
theorem xf.same{H H' H2:Hp}{l0 d:Addr}{rs:List ba}{ns:List Nat}{i n e:Nat}{zs:List Str}(h:xf H l0 d rs ns H' i n e zs)(s:aV H' H2):xf H l0 d rs ns H2 i n e zs:=by
 obtain⟨ys,ls,pss,a,b⟩:=h.ex
 exact⟨⟨ys,ls,pss,a.same s,b⟩,h.sm.trans s,s _ _ h.l0⟩
theorem K6{K:Fg}{vs:List V}{H:Hp}{Q:VK}{E:XK}(h:mJ K vs H Q E):Gd K {nx:=λ_ H'=>Q .non H',rt:=Q} (cY zv vs) H:=by
 obtain⟨rt,rvs,rs,rfl,hrt,hA,g,hr100,q⟩:=h
 refine λd nd=>?_
 have s0:aV H (upd H d (.dK [])):=(aV.refl H).new nd
 have hd0:upd H d (.dK []) d=some (.dK []):=ag
 show y3 K _ [some (.ref rt),some (.ref d),none,none] (upd H d (.dK []))
 generalize upd H d (.dK [])=H1 at s0 hd0 ⊢
 refine .inl ⟨_,rfl,rt,rvs,rs,rfl,s0 _ _ hrt,hA.imp λ_ _ z=>z.mono (.of_same s0),g,λl0 ns H2 hn hp hl0 nl0 s1=>⟨l0,rfl,⟨_,ce.of hl0⟩,?_⟩⟩
 have nlen:ns.length<=64:=by
  have:=dH (n:=rs.length) (l:=ns) (hp.imp λz=>aH z) λx hx=>cZ g ((hn x).mp hx)
  have:=g.few
  lia
 refine ib (xs:=aO ns) (λi σ' H'=>∃(o2 o3:Option V),σ'=[some (.ref rt),some (.ref d),o2,o3]/\xf H l0 d rs ns H' i 0 (100*i) []) ⟨_,_,rfl,⟨[],[],[],⟨s1 _ _ hd0,eW,eW,rfl,rfl,λj l v e=>by simp at e⟩,⟨eW,rfl,λy=>by simp,λj y ps e=>by simp at e⟩,bF _,λl m=>by(cases m)⟩,s0.trans s1,hl0⟩ ?_ ?_ ?_
 ·rintro i σ' H' _ ⟨o2,o3,_,R⟩
  exact ce.of R.l0
 ·rintro i x σ' H' hx ⟨o2,o3,rfl,R⟩
  obtain⟨n,hni,rfl⟩:=mw hx
  have ilt:i<ns.length:=(af.mp hni).1
  have nlt:=cZ g ((hn n).mp (aA hni))
  obtain⟨v,r,ev,er,ra⟩:=hA.get nlt
  have r100:=hr100 r (aA er)
  have S':=R.sm
  show y0 K _ [some (.ref rt),some (.ref d),some (.int (n:Nat)),o3] H'
  refine .inr ⟨_,rfl,_,rfl,dM (S' _ _ hrt) (by lia) (show rvs[((n:Nat):Int).toNat]?=some v by simpa using ev) ⟨v,r,rfl,ra.mono (.of_same S'),λp H4 hp4 s4=>⟨p,rfl,⟨_,dZ.of hp4⟩,?_⟩⟩⟩
  have R4:=R.same s4
  refine kR (xs:=(eN r).map V.str) (λe σ' H'=>∃(o3:Option V),σ'=[some (.ref rt),some (.ref d),some (.int (n:Nat)),o3]/\xf H l0 d rs ns H' i n (100*i+e) ((eN r).take e)/\H' p=some (.tup ((eN r).map V.str))) ⟨_,rfl,?_,hp4⟩ ?_ ?_ ?_
  ·obtain⟨ys,ls,pss,a,b,c⟩:=R4.ex
   refine⟨⟨ys,ls,pss,a,⟨b.nd,b.len,b.all,λj y ps e1 e2=>?_⟩,c⟩,R4.sm,R4.l0⟩
   obtain⟨h1,h2⟩:=b.at_ j y ps e1 e2
   refine⟨λx=>?_,h2⟩
   rw[h1 x]
   simp
  ·rintro e σ' H' _ ⟨_,_,_,hp'⟩
   exact dZ.of hp'
  ·rintro e x σ' H5 hx ⟨o5,rfl,R5,hp5⟩
   obtain⟨y,hye,rfl⟩:=wN hx
   have elt:e<(eN r).length:=(af.mp hye).1
   obtain⟨ys,ls,pss,dl,rd,yl,hls⟩:=R5.ex
   have tk:(eN r).take (e+1)=(eN r).take e++[y]:=by rw[cC,hye];rfl
   refine⟨_,rfl,d,rfl,.inl ⟨_,.inl dl.at_⟩,_,rfl,(by show 0<=sizeLine;decide),λl nl=>?_⟩
   have s6:aV H5 (upd H5 l (.lst [])):=(aV.refl H5).new nl
   have hl6:upd H5 l (.lst []) l=some (.lst []):=ag
   have l0l:l≠l0:=λz=>by rw[z,R5.l0] at nl;cases nl
   have Hl:H l=none:=by
    cases ee:H l with
    |none=>rfl
    |some u=>rw[R5.sm _ _ ee] at nl;cases nl
   have nlls:l∉ls:=λm=>by
    obtain⟨j,hj⟩:=cE.mp m
    have jl:j<(pss.map aO).length:=by rw[dl.l2,<-dl.l1];exact(af.mp hj).1
    rw[dl.vs j l _ hj (aa jl)] at nl;cases nl
   generalize upd H5 l (.lst [])=H6 at s6 hl6 ⊢
   have dl6:=dl.same s6
   refine⟨_,Sum.inr y,dl6.at_,rfl,cc (by rw[ff,ab,ab];have:=Nat.min_le_left ys.length ls.length;lia),?_⟩
   by_cases c:y∈ys
   ·obtain⟨j,hj⟩:=cE.mp c
    obtain⟨lj,v6,el,ev6,hlj,hval⟩:=dl6.get (j:=j) (k:=Sum.inr y) (by rw[aC,hj];rfl)
    obtain⟨ps,eps,hps⟩:∃ps,pss[j]?=some ps/\v6=aO ps:=by
     rw[aC] at ev6
     cases ee:pss[j]? with
     |none=>rw[ee] at ev6;cases ev6
     |some ps=>rw[ee] at ev6;exact⟨ps,rfl,(Option.some.inj ev6).symm⟩
    subst hps
    have bound:=(rd.at_ j _ ps hj eps).2
    refine⟨λw hw=>?_,λz=>by rw[hval] at z;cases z⟩
    rw[hval] at hw;cases hw
    refine⟨.inl ⟨rfl,_,ce.of hlj⟩,_,rfl,lj,_,_,rfl,rfl,hlj,cc (by rw[bv];lia),_,rfl,?_,?_⟩
    ·have ljls:=aA el
     refine⟨⟨ys,ls,pss.set j (ps++[n]),?_,by rw[tk];exact rd.old hj eps,by lia,hls⟩,?_,?_⟩
     ·have:=dl6.app el ev6 (.int (n:Nat))
      rw[nV] at this ⊢
      rw[<-pH]
      exact this
     ·exact λb u ee=>by rw[ax (ar ee (hls lj ljls).1)];exact s6 _ _ (R5.sm b u ee)
     ·rw[ax (Ne.symm (hls lj ljls).2)];exact s6 _ _ R5.l0
    ·rw[ax (iH (s6 _ _ hp5) hlj (by intro z;cases z))];exact s6 _ _ hp5
   ·have nk:(Sum.inr y:dY)∉ys.map Sum.inr:=λm=>by
     obtain⟨y',m',e'⟩:=bV.mp m
     injection e' with e'
     exact c (by rw[<-e'];exact m')
    obtain⟨hval,dl7⟩:=dl6.add nk hl6 nlls
    refine⟨λw hw=>by rw[hval] at hw;(cases hw),λ_=>?_⟩
    have el:(ls++[l])[ls.length]?=some l:=by rw[aX (aw _),dB];rfl
    have lv:(pss.map aO).length=ls.length:=by rw[dl.l2,dl.l1]
    have ev:(pss.map aO++[[]])[ls.length]?=some []:=by rw[aX (by lia),lv,dB];rfl
    have dlt:d≠l:=iH dl6.at_ hl6 (by intro z;cases z)
    have hl7:=dl7.vs ls.length l [] el ev
    have s7:∀b u,b≠d->H6 b=some u->upd H6 d (.dK (ix ((ys.map Sum.inr).zip (ls.map V.ref)) (Sum.inr y) (.ref l))) b=some u:=λb u nb ee=>by rw[ax nb];exact ee
    generalize upd H6 d (.dK (ix ((ys.map Sum.inr).zip (ls.map V.ref)) (Sum.inr y) (.ref l)))=H7 at dl7 hl7 s7 ⊢
    refine⟨.inl ⟨rfl,_,ce.of hl7⟩,_,rfl,l,_,_,rfl,rfl,hl7,(by show 0<sizeLine;decide),_,rfl,?_,?_⟩
    ·refine⟨⟨ys++[y],ls++[l],pss++[[n]],?_,by rw[tk];exact rd.new c,by rw[ai,aS];lia,λl' m=>?_⟩,?_,?_⟩
     ·have:=dl7.app el ev (.int (n:Nat))
      rw[aN,aN]
      have es:(pss.map aO++[[]]).set ls.length ([]++[V.int (n:Nat)])=pss.map aO++[[n]].map aO:=by
       rw[List.set_append_right _ _ (by lia),lv,dB];rfl
      rw[es] at this
      exact this
     ·rcases aB.mp m with z|z
      ·exact hls l' z
      ·rw[ae.mp z];exact⟨Hl,l0l⟩
     ·exact λb u ee=>by
       have bd:b≠d:=ar ee nd
       rw[ax (ar ee Hl)]
       exact s7 b u bd (s6 _ _ (R5.sm b u ee))
     ·rw[ax (Ne.symm l0l)]
      exact s7 l0 _ (iH (s6 _ _ R5.l0) dl6.at_ (by intro z;cases z)) (s6 _ _ R5.l0)
    ·have hp6:=s6 _ _ hp5
     have hp7:=s7 p _ (iH hp6 dl6.at_ (by intro z;cases z)) hp6
     rw[ax (iH hp7 hl7 (by intro z;cases z))];exact hp7
  ·rintro σ' H5 ⟨o5,rfl,R5,_⟩
   obtain⟨ys,ls,pss,dl,rd,yl,hls⟩:=R5.ex
   rw[ab,bK] at rd
   rw[ab] at yl
   exact⟨_,_,rfl,⟨ys,ls,pss,dl,rd.next hni er (by lia) 0,by lia,hls⟩,R5.sm,R5.l0⟩
 ·rintro σ' H4 ⟨o2,o3,rfl,R⟩
  obtain⟨ys,ls,pss,dl,rd,yl,hls⟩:=R.ex
  rw[bv] at rd
  exact⟨_,rfl,q d ys ls pss H4 dl (rd.done hn (by lia)) nd (λl m=>(hls l m).1) R.sm⟩
structure Gx(rs:List ba)(y:Str)(P W:List Nat):Prop where
 nd:P.Nodup
 sound:∀x,x∈P\/x∈W->dm rs x/\D0 rs y x
 seeds:∀x,dm rs x->GK rs x y->x∈P\/x∈W
 closed:∀n∈P,∀m r,dm rs m->vB rs m n->rs[m]?=some r->gI r≠.str y->m∈P\/m∈W
theorem Gx.done{rs:List ba}{y:Str}{P:List Nat}(g:cp rs)(h:Gx rs y P []):∀x,x∈P↔dm rs x/\D0 rs y x:=by
 have back:∀x,D0 rs y x->dm rs x->x∈P:=by
  intro x w
  induction w with
  |@here n r hr hy=>
   intro s
   rcases h.seeds n s ⟨r,hr,hy⟩ with z|z
   ·exact z
   ·cases z
  |@on n t r hr hs he _ ih=>
   intro s
   have ht:=ih (mM g s he)
   rcases h.closed t ht n r s he hr hs with z|z
   ·exact z
   ·cases z
 exact λx=>⟨λz=>h.sound x (.inl z),λ⟨s,w⟩=>back x w s⟩
theorem Gx.skip{rs:List ba}{y:Str}{P W:List Nat}{n:Nat}(h:Gx rs y P (W++[n]))(hn:n∈P):Gx rs y P W:=by
 have key:∀x,x∈P\/x∈W++[n]->x∈P\/x∈W:=λx z=>by
  rcases z with z|z
  ·exact .inl z
  ·rcases aB.mp z with z|z
   ·exact .inr z
   ·rw[ae.mp z];exact .inl hn
 exact⟨h.nd,λx z=>h.sound x (z.imp id λz=>bh _ z),λx a b=>key x (h.seeds x a b),λn' a m r b c d e=>key m (h.closed n' a m r b c d e)⟩
theorem Gx.take{rs:List ba}{y:Str}{P W qs:List Nat}{n:Nat}(h:Gx rs y P (W++[n]))(hn:n∉P)(hq:∀m,m∈qs↔dm rs m/\vB rs m n/\∃r,rs[m]?=some r/\gI r≠.str y):Gx rs y (P++[n]) (W++qs):=by
 have sn:=h.sound n (.inr (aQ _ aL))
 have key:∀x,x∈P\/x∈W++[n]->x∈P++[n]\/x∈W++qs:=λx z=>by
  rcases z with z|z
  ·exact .inl (bh _ z)
  ·rcases aB.mp z with z|z
   ·exact .inr (bh _ z)
   ·exact .inl (aQ _ z)
 refine⟨pI h.nd hn,λx z=>?_,λx a b=>key x (h.seeds x a b),λn' a m r b c d e=>?_⟩
 ·rcases z with z|z
  ·rcases aB.mp z with z|z
   ·exact h.sound x (.inl z)
   ·rw[ae.mp z];exact sn
  ·rcases aB.mp z with z|z
   ·exact h.sound x (.inr (bh _ z))
   ·obtain⟨a,b,r,c,d⟩:=(hq x).mp z
    exact⟨a,.on c d b sn.2⟩
 ·rcases aB.mp a with z|z
  ·exact key m (h.closed n' z m r b c d e)
  ·rw[ae.mp z] at c
   exact .inr (aQ _ ((hq m).mpr ⟨b,c,r,d,e⟩))
def mX(rs:List ba)(y:Str)(m:Nat):Bool:=match rs[m]? with
 |some r=>!decide (gI r=.str y)
 |none=>false
theorem DE(r:ba)(y:Str):Lb (gI r) (.str y)=true:=by cases r<;>rfl
theorem CZ(F:List Nat):(dG F).map (λkv=>kV kv.1)=aO F:=by
 unfold dG aO
 rw[cx];rfl
theorem K7{K:Fg}{vs:List V}{H:Hp}{Q:VK}{E:XK}(h:mK K vs H Q E):Gg K {nx:=λ_ H'=>Q .non H',rt:=Q} (cY vL vs) H:=by
 obtain⟨rt,d,rl,y,rvs,rs,ns,ls,pss,ps,rfl,hrt,hA,g,hn,hp,dl,ah,hrl,hps,psl,q⟩:=h
 have nlen:ns.length<=64:=by
  have:=dH (n:=rs.length) (l:=ns) (hp.imp λz=>aH z) λx hx=>cZ g ((hn x).mp hx)
  have:=g.few
  lia
 refine λpd npd=>?_
 have s0:aV H (upd H pd (.dK [])):=(aV.refl H).new npd
 have hpd:upd H pd (.dK []) pd=some (.dK (dG [])):=ag
 show y9 K _ [some (.ref rt),some (.ref d),some (.ref rl),some (.str y),some (.ref pd),none,none] (upd H pd (.dK []))
 generalize upd H pd (.dK [])=H1 at s0 hpd ⊢
 refine⟨_,rfl,rl,_,rfl,.inl (ce.of (s0 _ _ hrl)),λwl nwl=>?_⟩
 have s1:aV H1 (upd H1 wl (.lst (aO ps))):=(aV.refl H1).new nwl
 have hwl:upd H1 wl (.lst (aO ps)) wl=some (.lst (aO ps)):=ag
 have Hwl:H wl=none:=by
  cases ee:H wl with
  |none=>rfl
  |some u=>rw[s0 _ _ ee] at nwl;cases nwl
 have npw:pd≠wl:=ar hpd nwl
 show y8 K _ [some (.ref rt),some (.ref d),some (.ref rl),some (.str y),some (.ref pd),some (.ref wl),none] (upd H1 wl (.lst (aO ps)))
 have hpd2:=s1 _ _ hpd
 have S0:=s0.trans s1
 generalize upd H1 wl (.lst (aO ps))=H2 at s1 hwl hpd2 S0 ⊢
 refine⟨λu σ' H'=>∃(P W:List Nat) (o:Option V),u=(65-P.length)*200+W.length/\σ'=[some (.ref rt),some (.ref d),some (.ref rl),some (.str y),some (.ref pd),some (.ref wl),o]/\Gx rs y P W/\W.length<=6400+128*P.length/\H' pd=some (.dK (dG P))/\H' wl=some (.lst (aO W))/\aV H H',⟨_,[],ps,_,rfl,rfl,⟨eW,λx z=>?_,λx a b=>.inr ((hps x).mpr ⟨a,b⟩),λn z=>by(cases z)⟩,by lia,hpd2,hwl,S0⟩,?_⟩
 ·rcases z with z|z
  ·cases z
  ·obtain⟨a,r,b,c⟩:=(hps x).mp z
   exact⟨a,.here b c⟩
 rintro u σ' H' ⟨P,W,o,rfl,rfl,I,wb,hpd',hwl',S'⟩
 have Pb:∀(P':List Nat),P'.Nodup->(∀x∈P',dm rs x)->P'.length<=64:=λP' a b=>by
  have:=dH (n:=rs.length) a λx hx=>cZ g (b x hx)
  have:=g.few
  lia
 have pl:=Pb P I.nd λx hx=>(I.sound x (.inl hx)).1
 refine⟨_,rfl,_,_,rfl,.inl ⟨_,ce.of hwl',rfl⟩,_,_,rfl,rfl,_,rfl,cI (λhw=>?_) λhw=>?_⟩
 ·rw[bv] at hw
  obtain⟨W',n,rfl⟩:∃W' n,W=W'++[n]:=by
   rcases i7 W with z|⟨a,b,z⟩
   ·rw[z] at hw;simp at hw
   ·exact⟨a,b,by rw[z,i6]⟩
  have wl1:(W'++[n]).length=W'.length+1:=by rw[ai];rfl
  have stn:=I.sound n (.inr (aQ _ aL))
  refine⟨λσ2 H3=>∃(P2 W2:List Nat) (o:Option V),(65-P2.length)*200+W2.length<(65-P.length)*200+(W'++[n]).length/\σ2=[some (.ref rt),some (.ref d),some (.ref rl),some (.str y),some (.ref pd),some (.ref wl),o]/\Gx rs y P2 W2/\W2.length<=6400+128*P2.length/\H3 pd=some (.dK (dG P2))/\H3 wl=some (.lst (aO W2))/\aV H H3,?_,?_⟩
  ·rintro σ2 H3 ⟨P2,W2,o2,lt,e,r⟩
   exact⟨_,lt,P2,W2,o2,rfl,e,r⟩
  ·refine⟨_,rfl,.inl ⟨rfl,_,ce.of hwl'⟩,wl,_,.int (n:Nat),rfl,rfl,hwl',?_,?_⟩
   ·rw[bv,wl1,Nat.add_sub_cancel]
    exact uX (by rw[aX (aw _),dB];rfl)
   have ed:(aO (W'++[n])).dropLast=aO W':=by rw[<-nV,jx]
   rw[ed]
   have h3p:upd H' wl (.lst (aO W')) pd=some (.dK (dG P)):=by rw[ax npw];exact hpd'
   have h3w:upd H' wl (.lst (aO W')) wl=some (.lst (aO W')):=ag
   have S3:aV H (upd H' wl (.lst (aO W'))):=λb u e=>by rw[ax (ar e Hwl)];exact S' b u e
   show y7 K _ [some (.ref rt),some (.ref d),some (.ref rl),some (.str y),some (.ref pd),some (.ref wl),some (.int (n:Nat))] (upd H' wl (.lst (aO W')))
   generalize upd H' wl (.lst (aO W'))=H3 at h3p h3w S3 ⊢
   refine⟨_,rfl,_,rfl,pd,_,rfl,oe.k (k:=Sum.inl (n:Int)) h3p,_,rfl,?_⟩
   show if(!(gz (dG P) (Sum.inl (n:Int))).isSome)=true then _ else _
   rw[Gr]
   refine mt (λhin=>?_) (λhin=>?_)
   ·have pl2:=Pb (P++[n]) (pI I.nd hin) λx hx=>by
     rcases aB.mp hx with z|z
     ·exact(I.sound x (.inl z)).1
     ·rw[ae.mp z];exact stn.1
    have pl3:(P++[n]).length=P.length+1:=by rw[ai];rfl
    refine⟨_,rfl,_,rfl,pd,_,rfl,xb.k (k:=Sum.inl (n:Int)) h3p (cc (by rw[xN];lia)),?_⟩
    rw[Bg.putF hin]
    have h4p:upd H3 pd (.dK (dG (P++[n]))) pd=some (.dK (dG (P++[n]))):=ag
    have h4w:upd H3 pd (.dK (dG (P++[n]))) wl=some (.lst (aO W')):=by rw[ax (Ne.symm npw)];exact h3w
    have S4:aV H (upd H3 pd (.dK (dG (P++[n])))):=λb u e=>by rw[ax (ar e npd)];exact S3 b u e
    generalize upd H3 pd (.dK (dG (P++[n])))=H4 at h4p h4w S4 ⊢
    have dl4:=dl.same S4
    obtain⟨j,hj⟩:=cE.mp ((hn n).mpr stn.1)
    obtain⟨l,v5,el,ev5,hl5,hval⟩:=dl4.get (j:=j) (k:=nk n) (by rw[aC,hj];rfl)
    obtain⟨qs,eqs,hqs⟩:∃qs,pss[j]?=some qs/\v5=aO qs:=by
     rw[aC] at ev5
     cases ee:pss[j]? with
     |none=>rw[ee] at ev5;cases ev5
     |some qs=>rw[ee] at ev5;exact⟨qs,rfl,(Option.some.inj ev5).symm⟩
    subst hqs
    obtain⟨aq,lq⟩:=ah.at_ j n qs hj eqs
    have gg:=oe.k (k:=nk n) dl4.at_
    rw[hval] at gg
    show y4 K _ [some (.ref rt),some (.ref d),some (.ref rl),some (.str y),some (.ref pd),some (.ref wl),some (.int (n:Nat))] H4
    refine⟨_,rfl,.inl ⟨rfl,_,ce.of h4w⟩,.inl ⟨_,rfl,_,rfl,d,.ref l,rfl,gg,l,rfl,⟨_,ce.of hl5⟩,λD nD=>?_⟩⟩
    refine jh (xs:=aO qs) (λi σ' H'=>∃(o7:Option V),σ'=[some (.ref rt),some (.ref d),some (.ref rl),some (.str y),some (.ref pd),some (.ref wl),some (.int (n:Nat)),o7]/\H' D=some (.lst (aO ((qs.take i).filter (mX rs y))))/\aV H4 H') ?_ ?_ ?_ ?_
    ·exact⟨none,rfl,ag,(aV.refl H4).new nD⟩
    ·rintro i σ' H5 _ ⟨o7,_,_,s5⟩
     exact ce.of (s5 _ _ hl5)
    ·rintro i x σ' H5 hx ⟨o7,rfl,hD,s5⟩
     obtain⟨m,hmi,rfl⟩:=mw hx
     have stm:=((aq m).mp (aA hmi)).1
     obtain⟨v,r,ev,er,ra⟩:=hA.get (cZ g stm)
     have S5:=S4.trans s5
     have fl:((qs.take i).filter (mX rs y)).length<=qs.length:=bn (dR _ _) (by rw[be];exact lz _ _)
     refine⟨_,rfl,_,rfl,dM (S5 _ _ hrt) (by lia) (show rvs[((m:Nat):Int).toNat]?=some v by simpa using ev) ⟨v,r,rfl,ra.mono (.of_same S5),λH6 s6=>⟨_,rfl,.inl ⟨DE r y,_,rfl,?_⟩⟩⟩⟩
     have ns':mX rs y m=!decide (gI r=.str y):=by unfold mX;rw[er]
     have tk:(qs.take (i+1)).filter (mX rs y)=(qs.take i).filter (mX rs y)++if mX rs y m=true then[m] else[]:=by
      rw[cC,hmi,List.filter_append]
      congr 1
      show[m].filter _=_
      rw[List.filter_cons]
      split<;>simp_all
     refine mt (λhs=>?_) (λhs=>?_)
     ·rw[decide_eq_false hs] at ns'
      refine⟨_,rfl,_,s6 _ _ hD,cc (by rw[bv];lia),_,rfl,?_,?_⟩
      ·rw[ag,tk,ns',nV];rfl
      ·exact λb u e=>by rw[ax (ar e nD)];exact s6 _ _ (s5 b u e)
     ·rw[decide_eq_true hs] at ns'
      refine⟨_,rfl,?_,s5.trans s6⟩
      rw[tk,ns']
      simpa using s6 _ _ hD
    ·rintro σ' H5 ⟨o7,_,hD,s5⟩
     rw[bv,bK] at hD
     have fl:(qs.filter (mX rs y)).length<=qs.length:=dR _ _
     have nDw:D≠wl:=λz=>by rw[z,h4w] at nD;cases nD
     refine⟨wl,D,_,_,rfl,rfl,s5 _ _ h4w,hD,bW (cc (by rw[bv,bv];lia)),?_⟩
     have ea:aO W'++aO (qs.filter (mX rs y))=aO (W'++qs.filter (mX rs y)):=by unfold aO;rw[aN]
     rw[ea]
     refine⟨P++[n],W'++qs.filter (mX rs y),_,by rw[pl3,wl1,ai];lia,rfl,I.take hin λm=>?_,by rw[pl3,ai];lia,by rw[ax npw];exact s5 _ _ h4p,ag,λb u e=>by rw[ax (ar e Hwl)];exact s5 _ _ (S4 b u e)⟩
     rw[fg,aq m]
     unfold mX
     constructor
     ·rintro⟨⟨a,b⟩,c⟩
      refine⟨a,b,?_⟩
      cases ee:rs[m]? with
      |none=>rw[ee] at c;cases c
      |some r=>rw[ee] at c;exact⟨r,rfl,by simpa using c⟩
     ·rintro⟨a,b,r,c,d⟩
      refine⟨⟨a,b⟩,?_⟩
      rw[c]
      simpa using d
   ·exact⟨P,W',_,by lia,rfl,I.skip hin,by lia,h3p,h3w,S3⟩
 ·have w0:W=[]:=by
   rw[bv] at hw
   exact du.mp (by lia)
  subst w0
  refine⟨_,rfl,pd,_,rfl,.inl hpd',λl nl=>?_⟩
  have Hl:H l=none:=by
   cases ee:H l with
   |none=>rfl
   |some u=>rw[S' _ _ ee] at nl;cases nl
  rw[CZ]
  exact q l P _ (I.done g) I.nd ag Hl (S'.trans ((aV.refl H').new nl))
theorem Cu{js:List Nat}{k:Nat}{d:Addr}{kvs:List (dY×V)}{o:Obj}{g:TG}{tc:TT}{te:TE}{R:Hp->Prop}{σ:St}{H:Hp}{D:Addr}(Pv:Nat->St->Hp->Prop)(h0:Pv 0 (w9 js k σ) (upd H D (.lst [])))(hl:∀i σ H,i<=kvs.length->Pv i σ H->H d=some (.frz o (.dK kvs)))
  (hs:∀i kk v σ H,kvs[i]?=some (kk,v)->Pv i σ H->g (kV kk) σ H λσ2 H2=>pR D tc te {nx:=Pv (i+1),rt:=λ_ _=>False,ct:=Pv (i+1),bk:=λ_ H'=>R H'} σ2 H2) (hd:∀σ H,Pv kvs.length σ H->R H) :
  ∃W:Nat->Nat->St->Hp->Prop,(∃m,W 0 m (w9 js k σ) (upd H D (.lst [])))/\∀i m σ H,W i m σ H->
   ((Lu d kvs o).stop i H/\R H)\/((Lu d kvs o).go i H/\∃N:St->Hp->Prop,(∀σ' H',N σ' H'->∃m',m'<m/\W (i+1) m' σ' H')/\∀x H',(Lu d kvs o).yld i H x H'->g x σ H' λσ2 H2=>pR D tc te {nx:=N,rt:=λ_ _=>False,ct:=N,bk:=λ_ H'=>R H'} σ2 H2):=by
 refine⟨λi m σ H=>m=kvs.length-i/\i<=kvs.length/\Pv i σ H,⟨kvs.length,by simp,bF _,h0⟩,?_⟩
 rintro i m σ H ⟨rfl,hi,p⟩
 have q:=hl i σ H hi p
 by_cases c:i<kvs.length
 ·refine .inr ⟨⟨q,c⟩,Pv (i+1),λσ' H' p'=>⟨kvs.length-(i+1),by omega,rfl,c,p'⟩,?_⟩
  rintro x H' ⟨rfl,kk,v,e,rfl⟩
  exact hs i kk v σ _ e p
 ·have:i=kvs.length:=by omega
  subst this
  exact .inl ⟨⟨q,aw _⟩,hd σ H p⟩
theorem zD{js:List Nat}{k:Nat}{d:Addr}{kvs:List (dY×V)}{o:Obj}{g:TG}{tc:TT}{te:TE}{R:Hp->Prop}{σ:St}{H:Hp}{D:Addr}(Pv:Nat->St->Hp->Prop)(h0:Pv 0 (w9 js k σ) (upd H D (.lst [])))(hl:∀i σ H,i<=kvs.length->Pv i σ H->H d=some (.frz o (.dK kvs)))
  (hs:∀i kk v p σ H,kvs[i]?=some (kk,v)->H p=none->Pv i σ H->g (.ref p) σ (upd H p (.tup [kV kk,v])) λσ2 H2=>pR D tc te {nx:=Pv (i+1),rt:=λ_ _=>False,ct:=Pv (i+1),bk:=λ_ H'=>R H'} σ2 H2) (hd:∀σ H,Pv kvs.length σ H->R H) :
  ∃W:Nat->Nat->St->Hp->Prop,(∃m,W 0 m (w9 js k σ) (upd H D (.lst [])))/\∀i m σ H,W i m σ H->
   ((Ls d kvs o).stop i H/\R H)\/((Ls d kvs o).go i H/\∃N:St->Hp->Prop,(∀σ' H',N σ' H'->∃m',m'<m/\W (i+1) m' σ' H')/\∀x H',(Ls d kvs o).yld i H x H'->g x σ H' λσ2 H2=>pR D tc te {nx:=N,rt:=λ_ _=>False,ct:=N,bk:=λ_ H'=>R H'} σ2 H2):=by
 refine⟨λi m σ H=>m=kvs.length-i/\i<=kvs.length/\Pv i σ H,⟨kvs.length,by simp,bF _,h0⟩,?_⟩
 rintro i m σ H ⟨rfl,hi,p⟩
 have q:=hl i σ H hi p
 by_cases c:i<kvs.length
 ·refine .inr ⟨⟨q,c⟩,Pv (i+1),λσ' H' p'=>⟨kvs.length-(i+1),by omega,rfl,c,p'⟩,?_⟩
  rintro x H' ⟨pp,kk,v,e1,rfl,rfl,e2⟩
  exact hs i kk v pp σ _ e2 e1 p
 ·have:i=kvs.length:=by omega
  subst this
  exact .inl ⟨⟨q,aw _⟩,hd σ H p⟩
theorem A0.thaw{H2 H:Hp}{D d:Addr}{o:Obj}{kvs:List (dY×V)}{ks:List dY}{ts ls:List Addr}(p:A0 (upd H2 d (.frz o (.dK kvs))) H D ks ts ls)(e:H2 d=some (.dK kvs))(nD:D≠d)(hf:H d=some (.frz o (.dK kvs))):A0 H2 (upd H d (.dK kvs)) D ks ts ls:=by
 refine⟨by rw[ax nD];exact p.at_,p.l1,p.l2,p.ln,λj t k l e1 e2 e3=>?_,λl m=>?_,λb u nb eb=>?_⟩
 ·have:=p.pr j t k l e1 e2 e3
  rw[ax (iH this hf (by intro z;cases z))];exact this
 ·obtain⟨a,b,c⟩:=p.em l m
  have ld:l≠d:=iH a hf (by intro z;cases z)
  rw[ax ld] at c ⊢
  exact⟨a,b,c⟩
 ·by_cases c:b=d
  ·subst c
   rw[e] at eb;cases eb
   exact ag
  ·rw[ax c]
   exact p.sm b u nb (by rw[ax c];exact eb)
theorem zj{rs:List ba}(g:cp rs){y:Str}{n:Nat}(w:D0 rs y n):dm rs n->∃x,dm rs x/\GK rs x y:=by
 induction w with
 |@here n r hr h=>exact λs=>⟨n,s,r,hr,h⟩
 |@on n t r hr hs he _ ih=>exact λs=>ih (mM g s he)
theorem Ka{l:List Str}:∀{zs:List Str},l.Nodup->(∀y∈l,y∈zs)->l.length<=zs.length:=by
 induction l with
 |nil=>intro zs _ _;exact bF _
 |cons a r ih=>
  intro zs nd h
  obtain⟨na,nr⟩:=cB.mp nd
  have ha:a∈zs:=h a aL
  have:=ih (zs:=zs.erase a) nr λy hy=>(List.mem_erase_of_ne (λz=>na (by rw[<-z];exact hy))).mpr (h y (bx _ hy))
  rw[hZ ha] at this
  have:0<zs.length:=List.length_pos_of_mem ha
  simp only[bM]
  omega
structure GM(rs:List ba)(ns:List Nat)(ss:List Str)(wss:List (List Str))(i:Nat)(y:Str)(qs:List Nat):Prop where
 len:wss.length=ns.length
 at_:∀(j n:Nat) ws,ns[j]?=some n->wss[j]?=some ws->∃w0,w0.Sublist (ss.take i)/\(∀z,z∈w0↔z∈ss.take i/\D0 rs z n)/\((n∈qs/\ws=w0++[y])\/(n∉qs/\ws=w0))
theorem GM.add{rs:List ba}{ns:List Nat}{ss:List Str}{wss:List (List Str)}{i:Nat}{y:Str}{qs:List Nat}(h:GM rs ns ss wss i y qs)(nd:ns.Nodup){n j:Nat}{ws:List Str}(hj:ns[j]?=some n)(hw:wss[j]?=some ws)(hn:n∉qs):GM rs ns ss (wss.set j (ws++[y])) i y (qs++[n]):=by
 refine⟨by rw[cR];exact h.len,λj' n' ws' e1 e2=>?_⟩
 by_cases c:j'=j
 ·subst c
  rw[hj] at e1;cases e1
  rw[bg (af.mp hw).1] at e2
  cases e2
  obtain⟨w0,a,b,d|d⟩:=h.at_ j' n ws hj hw
  ·exact absurd d.1 hn
  ·exact⟨w0,a,b,.inl ⟨aQ _ aL,by rw[d.2]⟩⟩
 ·rw[bC (Ne.symm c)] at e2
  obtain⟨w0,a,b,d⟩:=h.at_ j' n' ws' e1 e2
  have ne:n'≠n:=λz=>by
   subst z
   obtain⟨a1,a2⟩:=af.mp e1
   obtain⟨b1,b2⟩:=af.mp hj
   exact c ((fQ nd).mp (a2.trans b2.symm))
  refine⟨w0,a,b,d.imp (λz=>⟨bh _ z.1,z.2⟩) λz=>⟨λm=>?_,z.2⟩⟩
  rcases aB.mp m with z'|z'
  ·exact z.1 z'
  ·exact ne (ae.mp z')
theorem GM.next{rs:List ba}{ns:List Nat}{ss:List Str}{wss:List (List Str)}{i:Nat}{y y':Str}{qs:List Nat}(h:GM rs ns ss wss i y qs)(hs:∀n∈ns,dm rs n)(hy:ss[i]?=some y)(hq:∀x,x∈qs↔dm rs x/\D0 rs y x):GM rs ns ss wss (i+1) y' []:=by
 have tk:ss.take (i+1)=ss.take i++[y]:=by rw[cC,hy];rfl
 refine⟨h.len,λj n ws e1 e2=>?_⟩
 have sn:=hs n (aA e1)
 obtain⟨w0,a,b,⟨c,rfl⟩|⟨c,rfl⟩⟩:=h.at_ j n ws e1 e2
 ·refine⟨w0++[y],by rw[tk];exact a.append (List.Sublist.refl _),λz=>?_,.inr ⟨by simp,rfl⟩⟩
  rw[tk,aB,aB,b z,ae]
  constructor
  ·rintro(z1|rfl)
   ·exact⟨.inl z1.1,z1.2⟩
   ·exact⟨.inr rfl,((hq n).mp c).2⟩
  ·rintro⟨z1|z1,z2⟩
   ·exact .inl ⟨z1,z2⟩
   ·exact .inr z1
 ·refine⟨ws,by rw[tk];exact a.trans (List.sublist_append_left _ _),λz=>?_,.inr ⟨by simp,rfl⟩⟩
  rw[tk,aB,b z,ae]
  constructor
  ·exact λz1=>⟨.inl z1.1,z1.2⟩
  ·rintro⟨z1|rfl,z2⟩
   ·exact⟨z1,z2⟩
   ·exact absurd ((hq n).mpr ⟨sn,z2⟩) c
theorem GM.done{rs:List ba}(g:cp rs){ns:List Nat}{ss ys:List Str}{wss:List (List Str)}{pss:List (List Nat)}{y:Str}(hs:∀n∈ns,dm rs n)(h:GM rs ns ss wss ss.length y [])(rd:vO rs ys pss)(pm:ss.Perm ys)(srt:PyProof.Rows.sortedS ss=true):JI rs ns wss ss:=by
 refine⟨srt,pm.symm.nodup rd.nd,h.len,λj n ws e1 e2=>?_⟩
 have sn:=hs n (aA e1)
 obtain⟨w0,a,b,⟨c,_⟩|⟨_,rfl⟩⟩:=h.at_ j n ws e1 e2
 ·cases c
 ·rw[bK] at a b
  refine⟨a,λz=>?_⟩
  rw[b z]
  exact⟨λq=>q.2,λq=>⟨pm.mem_iff.mpr ((rd.all z).mpr (zj g q sn)),q⟩⟩
def jb(ws:List Str):List V:=ws.map V.str
theorem DF(ws:List Str)(y:Str):jb ws++[.str y]=jb (ws++[y]):=by unfold jb;rw[aN];rfl
structure D3(Hb:Hp)(fd sl:Addr)(fls:List Addr)(rs:List ba)(ns:List Nat)(ss:List Str)(H':Hp)(i:Nat)(y:Str)(qs:List Nat):Prop where
 ex:∃wss:List (List Str),DL H' fd (ns.map nk) fls (wss.map jb)/\GM rs ns ss wss i y qs
 sm:aV Hb H'
 sl:H' sl=some (.lst (ss.map V.str))
theorem Ay{K:Fg}{vs:List V}{H:Hp}{Q:VK}{E:XK}(h:eS K vs H Q E):ug K {nx:=λ_ H'=>Q .non H',rt:=Q} (cY kx vs) H:=by
 obtain⟨rt,rvs,rs,zs,rfl,hrt,hA,g,hr100,hz64,hzs,q⟩:=h
 refine⟨_,rfl,rt,rvs,rs,rfl,hrt,hA,g,λd ns ls pss H1 hn hp dl ah nd nls s1=>?_⟩
 refine⟨_,rfl,rt,rvs,rs,rfl,s1 _ _ hrt,hA.imp λ_ _ z=>z.mono (.of_same s1),g,hr100,λd2 ys Mm pss2 H2 dl2 rd nd2 nls2 s2=>?_⟩
 have S2:=s1.trans s2
 have dl':=dl.same s2
 have nnd:ns.Nodup:=hp.imp λz=>aH z
 have hst:∀n∈ns,dm rs n:=λn m=>(hn n).mp m
 have nlen:ns.length<=64:=by
  have:=dH (n:=rs.length) (l:=ns) nnd λx hx=>cZ g (hst x hx)
  have:=g.few
  lia
 have y64:ys.length<64:=by
  have:=Ka (zs:=zs) rd.nd λy hy=>by
   obtain⟨x,sx,r,er,yr⟩:=(rd.all y).mp hy
   exact hzs r (aA er) y yr
  lia
 show qj K _ [some (.ref rt),some (.ref d),some (.ref d2),none,none,none] H2
 refine⟨_,rfl,d,_,rfl,dl'.at_,λo D nD=>?_⟩
 have zl:((ns.map nk).zip (ls.map V.ref)).length=ns.length:=by rw[ff,ab,ab,dl'.l1,ab,iN]
 have hf:upd H2 d (.frz o (.dK ((ns.map nk).zip (ls.map V.ref)))) d=some (.frz o (.dK ((ns.map nk).zip (ls.map V.ref)))):=ag
 have Dd:D≠d:=λz=>by rw[z,hf] at nD;cases nD
 refine Cu (λi σ' H'=>∃(ts ls':List Addr) (o5:Option V),σ'=[some (.ref rt),some (.ref d),some (.ref d2),none,none,o5]/\A0 (upd H2 d (.frz o (.dK ((ns.map nk).zip (ls.map V.ref))))) H' D ((ns.take i).map nk) ts ls') ?_ ?_ ?_ ?_
 ·exact⟨[],[],none,rfl,A0.nil nD⟩
 ·rintro i σ' H' _ ⟨ts,ls',o5,_,p⟩
  exact p.sm d _ (Ne.symm Dd) hf
 ·rintro i kk v σ' H' e ⟨ts,ls',o5,rfl,p⟩
  have il:i<ns.length:=by have:=(af.mp e).1;lia
  have ek:kk=nk ns[i]:=by
   rw[aa (by rw[zl];exact il),gO,fR] at e
   exact(congrArg Prod.fst (Option.some.inj e)).symm
  subst ek
  refine j4 ⟨_,rfl,(by show 0<=sizeLine;decide),λl nl=>⟨(by show 2<=sizeLine;decide),λt nt=>?_⟩⟩
  have st:=p.step nD (k:=nk ns[i]) nl nt
  have lD:l≠D:=λz=>by rw[z,p.at_] at nl;cases nl
  have tl:t≠l:=λz=>by rw[z,ag] at nt;cases nt
  have tD:t≠D:=λz=>by rw[z,ax (Ne.symm lD),p.at_] at nt;cases nt
  refine⟨ts.map V.ref,by rw[ax (Ne.symm tD),ax (Ne.symm lD)];exact p.at_,cc (by rw[ab,p.l1,ab,be];lia),ts++[t],ls'++[l],_,rfl,?_⟩
  rw[cC,aa il,aN]
  exact st
 ·rintro σ' H3 ⟨ts,ls',o5,_,p⟩
  rw[zl,bK] at p
  have hf3:=p.sm d _ (Ne.symm Dd) hf
  refine .inr ⟨d,_,_,o,dl'.at_,hf3,?_⟩
  have p2:=p.thaw dl'.at_ Dd hf3
  have nD2:H2 D=none:=by rw[ax Dd] at nD;exact nD
  show aP _ _ _
  unfold aP
  dsimp only
  refine p2.dict nD2 (tj hp) (by rw[ab];lia) λfd H4 nfd nfls fl s4=>?_
  rw[ab] at fl
  have S4:=S2.trans s4
  show qi K _ [some (.ref rt),some (.ref d),some (.ref d2),some (.ref fd),none,none] H4
  have dl4:=dl'.same s4
  have d24:=dl2.same s4
  have km:(((ys.map Sum.inr).zip (Mm.map V.ref)).map (·.1):List dY)=ys.map Sum.inr:=by
   rw[ly]
   have:=d24.l1
   rw[ab] at this ⊢
   rw[ab]
   lia
  refine .inl ⟨_,rfl,d2,_,ys,rfl,.inl d24.at_,km,y64,λsl ss nsl pm srt=>⟨sl,rfl,⟨_,ce.of ag⟩,?_⟩⟩
  have s5:aV H4 (upd H4 sl (.lst (ss.map V.str))):=(aV.refl H4).new nsl
  have hsl:upd H4 sl (.lst (ss.map V.str)) sl=some (.lst (ss.map V.str)):=ag
  have fslne:∀l∈ls',l≠sl:=λl m z=>by
   obtain⟨j,hj⟩:=cE.mp m
   have jl:j<(az ns.length ([]:List V)).length:=by rw[fl.l2,<-fl.l1];exact(af.mp hj).1
   have:=fl.vs j l _ hj (aa jl)
   rw[z,nsl] at this;cases this
  have sslen:ss.length<64:=by rw[pm.length_eq];exact y64
  refine ib (xs:=ss.map V.str) (λi σ' H'=>∃(o4 o5:Option V),σ'=[some (.ref rt),some (.ref d),some (.ref d2),some (.ref fd),o4,o5]/\D3 H2 fd sl ls' rs ns ss H' i "" []) ⟨_,_,rfl,⟨az ns.length [],?_,⟨bf,λj n ws e1 e2=>?_⟩⟩,s4.trans s5,hsl⟩ ?_ ?_ ?_
  ·rw[ko]
   exact fl.same s5
  ·have hv:ws=[]:=(dW.mp (aA e2)).2
   subst hv
   exact⟨[],List.nil_sublist _,λz=>by simp,.inr ⟨by simp,rfl⟩⟩
  ·rintro i σ' H' _ ⟨o4,o5,_,F⟩
   exact ce.of F.sl
  ·rintro i x σ' H' hx ⟨o4,o5,rfl,F⟩
   obtain⟨y,hyi,rfl⟩:=wN hx
   have yin:y∈ys:=pm.mem_iff.mp (aA hyi)
   obtain⟨jy,hjy⟩:=cE.mp yin
   have SF:=S2.trans F.sm
   have dF:=dl'.same F.sm
   have d2F:=dl2.same F.sm
   obtain⟨l,v5,el,ev5,hl5,hval⟩:=d2F.get (j:=jy) (k:=Sum.inr y) (by rw[aC,hjy];rfl)
   obtain⟨ps,eps,hps⟩:∃ps,pss2[jy]?=some ps/\v5=aO ps:=by
    rw[aC] at ev5
    cases ee:pss2[jy]? with
    |none=>rw[ee] at ev5;cases ev5
    |some ps=>rw[ee] at ev5;exact⟨ps,rfl,(Option.some.inj ev5).symm⟩
   subst hps
   obtain⟨hpr,pb⟩:=rd.at_ jy y ps hjy eps
   have gg:=oe.k (k:=Sum.inr y) d2F.at_
   rw[hval] at gg
   show qh K _ [some (.ref rt),some (.ref d),some (.ref d2),some (.ref fd),some (.str y),o5] H'
   refine .inl ⟨_,rfl,_,rfl,_,rfl,_,rfl,d2,.ref l,rfl,gg,_,rfl,rt,d,l,y,rvs,rs,ns,ls,pss,ps,rfl,SF _ _ hrt,hA.imp λ_ _ z=>z.mono (.of_same SF),g,hn,hp,dF,ah,hl5,hpr,pb,λwl ws H5 hws wnd hwl nwl s5'=>⟨wl,rfl,⟨_,ce.of hwl⟩,?_⟩⟩
   have F5:D3 H2 fd sl ls' rs ns ss H5 i y []:=by
    obtain⟨wss,a,b⟩:=F.ex
    refine⟨⟨wss,a.same s5',⟨b.len,λj n ws' e1 e2=>?_⟩⟩,F.sm.trans s5',s5' _ _ F.sl⟩
    obtain⟨w0,c1,c2,⟨c3,_⟩|c3⟩:=b.at_ j n ws' e1 e2
    ·cases c3
    ·exact⟨w0,c1,c2,.inr c3⟩
   refine ib (xs:=aO ws) (λe σ' H'=>∃(o5:Option V),σ'=[some (.ref rt),some (.ref d),some (.ref d2),some (.ref fd),some (.str y),o5]/\D3 H2 fd sl ls' rs ns ss H' i y (ws.take e)/\H' wl=some (.lst (aO ws))) ⟨_,rfl,F5,hwl⟩ ?_ ?_ ?_
   ·rintro e σ' H' _ ⟨_,_,_,hw'⟩
    exact ce.of hw'
   ·rintro e x σ' H6 hx ⟨o6,rfl,F6,hwl6⟩
    obtain⟨n,hne,rfl⟩:=mw hx
    obtain⟨sn,wn⟩:=(hws n).mp (aA hne)
    obtain⟨j,hj⟩:=cE.mp ((hn n).mpr sn)
    obtain⟨wss,a,b⟩:=F6.ex
    obtain⟨lj,v6,elj,ev6,hlj,hvj⟩:=a.get (j:=j) (k:=nk n) (by rw[aC,hj];rfl)
    obtain⟨w,ew,hw⟩:∃w,wss[j]?=some w/\v6=jb w:=by
     rw[aC] at ev6
     cases ee:wss[j]? with
     |none=>rw[ee] at ev6;cases ev6
     |some w=>rw[ee] at ev6;exact⟨w,rfl,(Option.some.inj ev6).symm⟩
    subst hw
    have ljm:=aA elj
    have Hlj:H2 lj=none:=nfls lj ljm
    have nin:n∉ws.take e:=λm=>by
     obtain⟨e',he'⟩:=cE.mp m
     have lt:e'<e:=by
      have:=(af.mp he').1
      rw[be] at this
      lia
     rw[hW lt] at he'
     obtain⟨a1,a2⟩:=af.mp he'
     obtain⟨b1,b2⟩:=af.mp hne
     have:=(fQ wnd).mp (a2.trans b2.symm)
     lia
    have wlen:w.length<=64:=by
     obtain⟨w0,c1,_,c3⟩:=b.at_ j n w hj ew
     have l0:w0.length<=ss.length:=bn c1.length_le (by rw[be];exact lz _ _)
     rcases c3 with⟨c,_⟩|⟨_,rfl⟩
     ·exact absurd c nin
     ·lia
    have gj:=oe.k (k:=nk n) a.at_
    rw[hvj] at gj
    have wlj:wl≠lj:=λz=>by
     have:H' lj=some (.lst (jb w))\/True:=.inr trivial
     have e1:H' wl=none:=nwl
     have:DL H' fd (ns.map nk) ls' (F.ex.choose.map jb):=F.ex.choose_spec.1
     have jl:j<(F.ex.choose.map jb).length:=by rw[this.l2,<-this.l1];exact(af.mp elj).1
     have:=this.vs j lj _ elj (aa jl)
     rw[<-z,e1] at this;cases this
    refine⟨_,rfl,_,rfl,fd,.ref lj,rfl,gj,.inl ⟨rfl,_,ce.of hlj⟩,_,rfl,lj,_,_,rfl,rfl,hlj,cc (by unfold jb;rw[ab];lia),_,rfl,?_,by rw[ax wlj];exact hwl6⟩
    refine⟨⟨wss.set j (w++[y]),?_,?_⟩,λb' u ee=>by rw[ax (ar ee Hlj)];exact F6.sm b' u ee,by rw[ax (Ne.symm (fslne lj ljm))];exact F6.sl⟩
    ·have:=a.app elj ev6 (.str y)
     rw[DF] at this ⊢
     rw[List.map_set]
     exact this
    ·rw[cC,hne]
     exact b.add nnd hj ew nin
   ·rintro σ' H6 ⟨o6,rfl,F6,_⟩
    obtain⟨wss,a,b⟩:=F6.ex
    rw[bv,bK] at b
    exact⟨_,_,rfl,⟨wss,a,b.next hst hyi hws⟩,F6.sm,F6.sl⟩
  ·rintro σ' H5 ⟨o4,o5,rfl,F⟩
   obtain⟨wss,a,b⟩:=F.ex
   rw[ab] at b
   have wn:=b.done g hst rd pm srt
   show qg K _ _ H5
   have zl2:((ns.map nk).zip (ls'.map V.ref)).length=ns.length:=by rw[ff,ab,ab,a.l1,ab,iN]
   refine⟨_,rfl,fd,_,rfl,a.at_,λo D nD=>?_⟩
   have hf5:upd H5 fd (.frz o (.dK ((ns.map nk).zip (ls'.map V.ref)))) fd=some (.frz o (.dK ((ns.map nk).zip (ls'.map V.ref)))):=ag
   have Df:D≠fd:=λz=>by rw[z,hf5] at nD;cases nD
   have nD5:H5 D=none:=by rw[ax Df] at nD;exact nD
   have ls'5:∀(j:Nat) l w,ls'[j]?=some l->wss[j]?=some w->upd H5 fd (.frz o (.dK ((ns.map nk).zip (ls'.map V.ref)))) l=some (.lst (jb w)):=λj l w e1 e2=>by
    have:=a.vs j l (jb w) e1 (by rw[aC,e2];rfl)
    rw[ax (iH this a.at_ (by intro z;cases z))];exact this
   have S5:∀b u,b≠fd->H5 b=some u->upd H5 fd (.frz o (.dK ((ns.map nk).zip (ls'.map V.ref)))) b=some u:=λb u n e=>by rw[ax n];exact e
   generalize hH6:upd H5 fd (.frz o (.dK ((ns.map nk).zip (ls'.map V.ref))))=H6 at hf5 nD ls'5 S5 ⊢
   refine zD (λi σ' H'=>∃(ts us:List Addr) (o5 o6:Option V),σ'=[some (.ref rt),some (.ref d),some (.ref d2),some (.ref fd),o4,o5,o6]/\H' D=some (.lst (ts.map V.ref))/\ts.length=i/\us.length=i/\(∀(j:Nat) t u n,ts[j]?=some t->us[j]?=some u->ns[j]?=some n->H' t=some (.tup [kV (nk n),.ref u]))/\(∀(j:Nat) u w,us[j]?=some u->wss[j]?=some w->H' u=some (.tup (jb w)))/\fh D H6 H') ?_ ?_ ?_ ?_
   ·exact⟨[],[],_,_,rfl,ag,rfl,rfl,λj t u n e=>by simp at e,λj u w e=>by simp at e,λb u n e=>by rw[ax n];exact e⟩
   ·rintro i σ' H' _ ⟨ts,us,o5,o6,_,_,_,_,_,_,s'⟩
    exact s' fd _ (Ne.symm Df) hf5
   ·rintro i kk v p σ' H' e np ⟨ts,us,o5,o6,rfl,hD,tl,ul,h1,h2,s'⟩
    have il:i<ns.length:=by have:=(af.mp e).1;lia
    have il':i<ls'.length:=by rw[a.l1,ab];exact il
    have iw:i<wss.length:=by rw[wn.len];exact il
    rw[aa (by rw[zl2];exact il),gO,fR,fR] at e
    have e':=Option.some.inj e
    have ek:nk ns[i]=kk:=congrArg Prod.fst e'
    have ev:V.ref ls'[i]=v:=congrArg Prod.snd e'
    subst ek ev
    have pD:D≠p:=λz=>by rw[<-z,hD] at np;cases np
    have hli:=s' ls'[i] _ (λz=>by
     have:=ls'5 i ls'[i] wss[i] (aa il') (aa iw)
     rw[z,nD] at this;cases this) (ls'5 i ls'[i] wss[i] (aa il') (aa iw))
    have s7:aV H' (upd H' p (.tup [kV (nk ns[i]),.ref ls'[i]])):=(aV.refl H').new np
    have hp7:upd H' p (.tup [kV (nk ns[i]),.ref ls'[i]]) p=some (.tup [kV (nk ns[i]),.ref ls'[i]]):=ag
    generalize upd H' p (.tup [kV (nk ns[i]),.ref ls'[i]])=H7 at s7 hp7 ⊢
    refine⟨p,_,rfl,dZ.of hp7,rfl,_,_,rfl,_,_,rfl,rfl,?_⟩
    refine j4 ⟨_,rfl,_,rfl,ls'[i],_,rfl,.inl ⟨ce.of (s7 _ _ hli),λu nu=>⟨(by show 2<=sizeLine;decide),λt nt=>?_⟩⟩⟩
    have s8:aV H7 (upd (upd H7 u (.tup (jb wss[i]))) t (.tup [kV (nk ns[i]),.ref u])):=((aV.refl H7).new nu).trans ((aV.refl _).new nt)
    have tu:t≠u:=λz=>by rw[z,ag] at nt;cases nt
    have hu8:upd (upd H7 u (.tup (jb wss[i]))) t (.tup [kV (nk ns[i]),.ref u]) u=some (.tup (jb wss[i])):=by rw[ax (Ne.symm tu)];exact ag
    have ht8:upd (upd H7 u (.tup (jb wss[i]))) t (.tup [kV (nk ns[i]),.ref u]) t=some (.tup [kV (nk ns[i]),.ref u]):=ag
    show ∃ys,(upd (upd H7 u (.tup (jb wss[i]))) t (.tup [kV (nk ns[i]),.ref u])) D=some (.lst ys)/\_
    generalize upd (upd H7 u (.tup (jb wss[i]))) t (.tup [kV (nk ns[i]),.ref u])=H8 at s8 hu8 ht8 ⊢
    have S8:=s7.trans s8
    have hD8:=S8 _ _ hD
    have kp:∀b x,b≠D->H8 b=some x->upd H8 D (.lst (ts.map V.ref++[.ref t])) b=some x:=λb x n e=>by rw[ax n];exact e
    refine⟨_,hD8,cc (by rw[ab];lia),ts++[t],us++[u],_,_,rfl,by rw[ag,aN];rfl,by rw[ai,tl];rfl,by rw[ai,ul];rfl,λj t' u' n' e1 e2 e3=>?_,λj u' w' e1 e2=>?_,λb x n ee=>kp b x n (S8 _ _ (s' b x n ee))⟩
    ·rcases oy e1 with⟨c1,f1⟩|⟨c1,f1⟩<;>rcases oy e2 with⟨c2,f2⟩|⟨c2,f2⟩
     ·have:=h1 j t' u' n' f1 f2 e3
      exact kp t' _ (iH this hD (by intro z;cases z)) (S8 _ _ this)
     ·exfalso;lia
     ·exfalso;lia
     ·subst f1 f2
      have ej:j=i:=by lia
      subst ej
      rw[aa il] at e3
      rw[<-Option.some.inj e3]
      exact kp t' _ (iH ht8 hD8 (by intro z;cases z)) ht8
    ·rcases oy e1 with⟨c1,f1⟩|⟨c1,f1⟩
     ·have:=h2 j u' w' f1 e2
      exact kp u' _ (iH this hD (by intro z;cases z)) (S8 _ _ this)
     ·subst f1
      have ej:j=i:=by lia
      subst ej
      rw[aa iw] at e2
      rw[<-Option.some.inj e2]
      exact kp u' _ (iH hu8 hD8 (by intro z;cases z)) hu8
   ·rintro σ' H7 ⟨ts,us,o5,o6,_,hD,tl,ul,h1,h2,s'⟩
    rw[zl2] at tl ul
    have hz:((ns.map nk).zip (us.map V.ref)).length=ns.length:=by rw[ff,ab,ab,ul,iN]
    have hm:(((ns.map nk).zip (us.map V.ref)).map (·.1):List dY)=ns.map nk:=by
     rw[ly]
     rw[ab,ab];lia
    refine .inl ⟨D,ts.map V.ref,(ns.map nk).zip (us.map V.ref),rfl,hD,by rw[ab,hz,tl],by lia,λj x k v e1 e2=>?_,λrd' nrd=>?_⟩
    ·rw[aC] at e1
     cases et:ts[j]? with
     |none=>rw[et] at e1;cases e1
     |some t=>
      rw[et] at e1
      have e1':V.ref t=x:=Option.some.inj e1
      subst e1'
      have jn:j<ns.length:=by have:=(af.mp et).1;lia
      have ju:j<us.length:=by lia
      rw[aa (by rw[hz];exact jn),gO,fR,fR] at e2
      have e2':=Option.some.inj e2
      have k1:nk ns[j]=k:=congrArg Prod.fst e2'
      have v1:V.ref us[j]=v:=congrArg Prod.snd e2'
      refine⟨t,rfl,?_⟩
      rw[<-k1,<-v1]
      exact h1 j t us[j] ns[j] et (aa ju) (aa jn)
    ·have e0:gc [] ((ns.map nk).zip (us.map V.ref))=(ns.map nk).zip (us.map V.ref):=oQ _ [] (by rw[jJ,hm];exact tj hp)
     rw[e0]
     have HD:H D=none:=by
      cases ee:H D with
      |none=>rfl
      |some u=>rw[F.sm _ _ (S2 _ _ ee)] at nD5;cases nD5
     have Hfd:H fd=none:=by
      cases ee:H fd with
      |none=>rfl
      |some u=>rw[S2 _ _ ee] at nfd;cases nfd
     have keep:∀b u,H b=some u->H7 b=some u:=λb u ee=>s' b u (ar ee HD) (S5 b u (ar ee Hfd) (F.sm _ _ (S2 _ _ ee)))
     have Hrd:H rd'=none:=by
      cases ee:H rd' with
      |none=>rfl
      |some u=>rw[keep _ _ ee] at nrd;cases nrd
     refine q rd' ns us wss ss _ hn hp ag ul (λj t ws e1 e2=>?_) wn Hrd λb u ee=>by rw[ax (ar ee Hrd)];exact keep b u ee
     have:=h2 j t ws e1 e2
     rw[ax (ar this nrd)];exact this
theorem IC{K:Fg}{vs:List V}{H:Hp}{Q:VK}{E:XK}(h:FL K vs H Q E):IZ K {nx:=λ_ H'=>Q .non H',rt:=Q} (cY GF vs) H:=by
 obtain⟨rt,n,rvs,rs,rfl,hrt,hA,g,hn,q⟩:=h
 refine⟨λm σ' H'=>∃k,k<=rs.length/\m=rs.length-k/\σ'=[some (.ref rt),some (.int (runJ rs k n:Nat))]/\H'=H,⟨_,0,bF _,rfl,rfl,rfl⟩,?_⟩
 rintro m σ' H' ⟨k,hk,rfl,rfl,rfl⟩
 have lt:=mE g k hn
 obtain⟨v,r,e1,e2,hra⟩:=hA.get lt
 obtain⟨p,xs,rfl,hp⟩:=hra.ref
 have e1':rvs[((runJ rs k n:Nat):Int).toNat]?=some (.ref p):=by simpa using e1
 refine⟨_,rfl,_,rfl,dM hrt (by lia) e1' (dM hp (by decide) rfl (.inl ⟨rfl,_,rfl,cI (λhw=>?_) (λhw=>?_)⟩))⟩
 ·obtain⟨t',rfl⟩:=kj (iZ hw)
  have kl:k<rs.length:=by
   by_cases c:k<rs.length
   ·exact c
   ·have:k=rs.length:=by lia
    subst this
    have:=g.ring n hn _ e2
    cases this
  refine⟨λσ' H''=>σ'=[some (.ref rt),some (.int (runJ rs (k+1) n:Nat))]/\H''=H',?_,?_⟩
  ·rintro σ4 H4 ⟨rfl,rfl⟩
   exact⟨rs.length-(k+1),by lia,k+1,kl,rfl,rfl,rfl⟩
  ·obtain⟨p',ep,hp'⟩:=hra
   cases ep
   refine⟨_,rfl,_,rfl,dM hrt (by lia) e1' (dM hp' (by decide) rfl ?_)⟩
   have e:runJ rs (k+1) n=t':=by rw[lK];unfold stp;rw[e2]
   rw[e]
   exact⟨rfl,rfl⟩
 ·have e:=pO (rs:=rs) (k:=k) (n:=n) hk λr' hr'=>by
   rw[e2] at hr';cases hr'
   exact pJ λz=>hw (by rw[z])
  unfold Sd at q
  rw[e] at q
  exact⟨_,rfl,q⟩
theorem BO{rs:List ba}{n:Nat}(h:∀r,rs[n]?=some r->fL r=false):Sd rs n=n:=pO (k:=0) (bF _) h
theorem II{rs:List ba}(g:cp rs){n to:Nat}(hn:n<rs.length)(h:rs[n]?=some (.jump to)):Sd rs n=Sd rs to:=by
 have e1:stp rs n=to:=by unfold stp;rw[h]
 obtain⟨k,hk⟩:∃k,rs.length=k+1:=⟨rs.length-1,by lia⟩
 have e2:Sd rs n=runJ rs k to:=by unfold Sd;rw[hk];show runJ rs k (stp rs n)=_;rw[e1]
 have e3:runJ rs rs.length to=runJ rs k to:=pO (by lia) λr hr=>g.ring n hn r (by rw[<-e2] at hr;exact hr)
 rw[e2];exact e3.symm
def xc(r:ba):Bool:=!jW r
theorem mr{n:Nat}{r:ba}(h:xc r=true):n+1∈bS n r:=by cases r<;>simp_all [xc,jW,bS]
def zr(rs:List ba)(n t:Nat):Prop:=∃a to,rs[n]?=some (.test a to)/\t=Sd rs to
def w4(rs:List ba)(n t:Nat):Prop:=∃r,rs[n]?=some r/\xc r=true/\((∃to,rs[n+1]?=some (.jump to))\/n+1=Sd rs 0)/\t=Sd rs (n+1)
def Ld(rs:List ba)(t:Nat):Prop:=∃n,dm rs n/\(zr rs n t\/w4 rs n t)
def Ln(rs:List ba)(t:Nat):Prop:=t=Sd rs 0\/Ld rs t
theorem tO{rs:List ba}(g:cp rs){m:Nat}(h:w5 rs none m):dm rs (Sd rs m):=⟨uj g _ h,λr hr=>g.ring m (h.lt g) r hr⟩
theorem ic{rs:List ba}(g:cp rs){t:Nat}(h:Ld rs t):dm rs t:=by
 obtain⟨n,hn,⟨a,to,hr,rfl⟩|⟨r,hr,hf,_,rfl⟩⟩:=h
 ·exact tO g (.step hn.1 hr (λy z=>by cases z) (by simp[bS]))
 ·exact tO g (.step hn.1 hr (λy z=>by cases z) (mr hf))
theorem lU{rs:List ba}(g:cp rs){t:Nat}(h:Ln rs t):dm rs t:=by
 rcases h with rfl|h
 ·exact tO g .zero
 ·exact ic g h
theorem sZ:∀{l m:List Nat},l.Pairwise (·<·)->m.Pairwise (·<·)->(∀x,x∈l↔x∈m)->l=m
 |[],[],_,_,_=>rfl
 |[],y::m,_,_,h=>absurd ((h y).mpr aL) (by simp)
 |x::l,[],_,_,h=>absurd ((h x).mp aL) (by simp)
 |x::l,y::m,hl,hm,h=>by
  have hl':=dq.mp hl
  have hm':=dq.mp hm
  have e:x=y:=by
   rcases aJ.mp ((h x).mp aL) with e|hx
   ·exact e
   ·rcases aJ.mp ((h y).mpr aL) with e|hy
    ·exact e.symm
    ·have:=hl'.1 y hy;have:=hm'.1 x hx;lia
  subst e
  have:l=m:=sZ hl'.2 hm'.2 λz=>by
   constructor
   ·intro hz
    rcases aJ.mp ((h z).mp (bx _ hz)) with e|q
    ·have:=hl'.1 z hz;lia
    ·exact q
   ·intro hz
    rcases aJ.mp ((h z).mpr (bx _ hz)) with e|q
    ·have:=hm'.1 z hz;lia
    ·exact q
  rw[this]
end Bg
end
section
namespace BgSet
open PySem
def zn(ps:Array Nat):Prop:=ps.toList.Pairwise (·<·)
theorem zn.at{ps:Array Nat}(hr:zn ps){i j a b:Nat}(hij:i<j)(ha:ps[i]?=some a)(hb:ps[j]?=some b):a<b:=by
 rw[<-bQ] at ha hb
 obtain⟨hi,rfl⟩:=af.mp ha
 obtain⟨hj,rfl⟩:=af.mp hb
 exact List.pairwise_iff_getElem.mp hr i j hi hj hij
theorem Ee{ps:Array Nat}{j:Nat}(hr:zn ps):∀fl lo hi,hi-lo<=fl->hi<=ps.size->lo<=hi->
  (∀i a,i<lo->ps[i]?=some a->a<j)->(∀i a,hi<=i->ps[i]?=some a->j<=a)->
  SetTable.below.go ps j fl lo hi<=ps.size/\(∀i a,i<SetTable.below.go ps j fl lo hi->ps[i]?=some a->a<j)
   /\(∀i a,SetTable.below.go ps j fl lo hi<=i->ps[i]?=some a->j<=a):=by
 intro fl
 induction fl with
 |zero=>
  intro lo hi hf hs hl h1 h2
  have:lo=hi:=by lia
  subst this
  exact⟨hs,h1,h2⟩
 |succ fl ih=>
  intro lo hi hf hs hl h1 h2
  unfold SetTable.below.go
  by_cases hlt:lo<hi
  ·rw[if_pos hlt]
   have hm:(lo+hi) / 2<ps.size:=by lia
   have hg:ps[(lo+hi) / 2]?=some (ps.getD ((lo+hi) / 2) j):=by
    simp[Array.getD,hm]
   dsimp only
   by_cases hc:ps.getD ((lo+hi) / 2) j<j
   ·rw[if_pos hc]
    refine ih _ _ (by lia) hs (by lia) (λi a hi' ha=>?_) h2
    rcases fu i ((lo+hi) / 2) with hq|hq
    ·exact jY (hr.at hq ha hg) hc
    ·have:i=(lo+hi) / 2:=by lia
     subst this;rw[hg] at ha;cases ha;exact hc
   ·rw[if_neg hc]
    refine ih _ _ (by lia) (by lia) (by lia) h1 (λi a hi' ha=>?_)
    rcases fu ((lo+hi) / 2) i with hq|hq
    ·exact bW (fX (lW.mp hc) (hr.at hq hg ha))
    ·have:i=(lo+hi) / 2:=by lia
     subst this;rw[hg] at ha;cases ha;exact lW.mp hc
  ·rw[if_neg hlt]
   have:lo=hi:=by lia
   subst this
   exact⟨hs,h1,h2⟩
theorem pC{ps:Array Nat}(hr:zn ps)(j:Nat):SetTable.below ps j<=ps.size/\(∀i a,i<SetTable.below ps j->ps[i]?=some a->a<j)
  /\(∀i a,SetTable.below ps j<=i->ps[i]?=some a->j<=a):=by
 refine Ee hr ps.size 0 ps.size (aw _) (aw _) (bF _) (λi a h=>absurd h (dO _)) (λi a h ha=>?_)
 rw[iJ h] at ha;cases ha
theorem zB{ps:Array Nat}(hr:zn ps):SetTable.below ps 0=0:=by
 obtain⟨h1,h2,-⟩:=pC hr 0
 rcases Nat.eq_zero_or_pos (SetTable.below ps 0) with h|h
 ·exact h
 ·have hlt:0<ps.size:=by lia
  exact absurd (h2 0 ps[0] h (bP hlt)) (dO _)
theorem zA{ps:Array Nat}(hr:zn ps){i p:Nat}(hp:ps[i]?=some p):SetTable.below ps (p+1)=i+1:=by
 obtain⟨h1,h2,h3⟩:=pC hr (p+1)
 have hlo:i<SetTable.below ps (p+1):=by
  rcases fu i (SetTable.below ps (p+1)) with h|h
  ·exact h
  ·exact absurd (h3 i p h hp) (by lia)
 rcases fu (i+1) (SetTable.below ps (p+1)) with h|h
 ·have hlt:i+1<ps.size:=by lia
  have hq:=bP hlt
  have a1:=h2 _ _ h hq
  have a2:=hr.at (dX i) hp hq
  lia
 ·lia
theorem Az{ps:Array Nat}(hr:zn ps){j:Nat}(hn:∀i:Nat,ps[i]?≠some j):zn (SetTable.insertAt ps (SetTable.below ps j) j):=by
 obtain⟨h1,h2,h3⟩:=pC hr j
 unfold zn
 rw[SetTable.toList_insertAt]
 have hlow:∀a∈ps.toList.take (SetTable.below ps j),a<j:=λa ha=>by
  obtain⟨i,hi⟩:=gA ha
  rw[List.getElem?_take] at hi
  split at hi
  ·rename_i hlt;exact h2 i a hlt (by rw[<-bQ];exact hi)
  ·cases hi
 have hhigh:∀a∈ps.toList.drop (SetTable.below ps j),j<a:=λa ha=>by
  obtain⟨i,hi⟩:=gA ha
  rw[List.getElem?_drop,bQ] at hi
  have:=h3 _ a (Nat.le_add_right _ _) hi
  rcases Nat.lt_or_eq_of_le this with h|h
  ·exact h
  ·subst h;exact absurd hi (hn _)
 refine List.pairwise_append.mpr ⟨hr.sublist (gx _ _),dq.mpr ⟨hhigh,hr.sublist (List.drop_sublist _ _)⟩,λa ha b hb=>?_⟩
 rcases aJ.mp hb with rfl|hb
 ·exact hlow a ha
 ·exact jY (hlow a ha) (hhigh b hb)
structure oY(led:Bool)(t:SetTable):Prop where
 led:t.led=led
 dum:t.dummies=#[]
 ris:t.plain=true->zn t.place
theorem oY.fresh(a b:Nat)(led:Bool):oY led (SetTable.fresh a b led):=⟨rfl,rfl,λ_=>List.Pairwise.nil⟩
theorem oY.standIn{led:Bool}{t:SetTable}(h:oY led t)(n:Nat):oY led (t.standIn n):=
 ⟨h.led,rfl,λhp=>by simp[SetTable.standIn] at hp⟩
theorem oY.orStandIn{led:Bool}{t:SetTable}(h:oY led t)(n:Nat):oY led (t.orStandIn n):=by
 unfold SetTable.orStandIn
 split
 ·exact h
 ·exact h.standIn n
theorem xD(j:Nat):SetTable.has #[] j=false:=by
 unfold SetTable.has;simp
theorem AC{t:SetTable}(hd:t.dummies=#[]){j:Nat}:t.slot j≠.dummy:=by
 unfold SetTable.slot
 rw[hd,xD]
 dsimp only
 split<;>simp
theorem Ao{t:SetTable}(hd:t.dummies=#[]){f:Nat->Int}{h:Int}:∀fl (p:SetTable.Probe) (j:Nat) (d:Option Nat),p.dummy=none->
  SetTable.probe.go t f h fl p=some (.empty j d)->d=none/\t.slot j=.empty:=by
 intro fl
 induction fl with
 |zero=>intro p j d hp hq;unfold SetTable.probe.go at hq;cases hq
 |succ fl ih=>
  intro p j d hp hq
  unfold SetTable.probe.go at hq
  have hadv:(t.advance p).dummy=none:=by
   unfold SetTable.advance;split<;>exact hp
  cases hs:t.slot p.j with
  |empty=>rw[hs] at hq;simp only[Option.some.injEq,SetTable.Met.empty.injEq] at hq;obtain⟨rfl,rfl⟩:=hq;exact⟨hp,hs⟩
  |dummy=>exact absurd hs (AC hd)
  |live i=>
   rw[hs] at hq
   simp only at hq
   split at hq
   ·cases hq
   ·exact ih _ j d hadv hq
theorem CJ{t:SetTable}(hd:t.dummies=#[]){h:Int}{sl:Nat}{wd:Bool}(hq:t.freeSlot h=some (sl,wd)):t.slot sl=.empty:=by
 unfold SetTable.freeSlot SetTable.probe at hq
 split at hq
 ·rename_i j d he
  obtain⟨rfl,hs⟩:=Ao hd _ _ j d rfl he
  simp only[lA,Option.some.injEq,Prod.mk.injEq] at hq
  rw[<-hq.1];exact hs
 ·cases hq
theorem FK{t:SetTable}(hr:zn t.place){j:Nat}(hs:t.slot j=.empty):∀i:Nat,t.place[i]?≠some j:=by
 intro i hi
 obtain⟨h1,h2,h3⟩:=pC hr j
 have hb:SetTable.below t.place j=i:=by
  rcases Nat.lt_trichotomy (SetTable.below t.place j) i with h|h|h
  ·have hlt:SetTable.below t.place j<t.place.size:=by
    have:=(eV.mp hi).1;lia
   have hq:=bP hlt
   have a1:=h3 _ _ (aw _) hq
   have a2:=hr.at h hq hi
   lia
  ·exact h
  ·exact absurd (h2 i j h hi) (d5 _)
 unfold SetTable.slot at hs
 rw[hb] at hs
 dsimp only at hs
 rw[hi] at hs
 simp at hs
theorem oY.put{led:Bool}{t:SetTable}(h:oY led t){sl:Nat}(hs:t.slot sl=.empty):oY led (t.put sl).1:=by
 refine⟨h.led,?_,λhp=>?_⟩
 ·show(if SetTable.has t.dummies sl=true then _ else t.dummies)=#[]
  rw[h.dum,xD];rfl
 ·exact Az (h.ris hp) (FK (h.ris hp) hs)
theorem oY.layNew{led:Bool}{t:SetTable}(h:oY led t)(es:Array (Int×Value))(hs:Int)(x:Value):oY led (layNew t es hs x).2.1:=by
 unfold PySem.layNew
 split
 ·rename_i sl wd hq
  exact(h.put (CJ h.dum hq)).orStandIn _
 ·exact h.standIn _
theorem oY.off{led:Bool}{t:SetTable}(h:oY led t):oY led {t with plain:=false}:=⟨h.led,h.dum,λhp=>by simp at hp⟩
theorem sY(g:Nat->Option Nat):∀l:List Nat,((l.filterMap λj=>(g j).map (j,·)).map (·.1)).Sublist l
 |[]=>List.Sublist.refl _
 |j::l=>by
  rw[hU]
  cases hg:g j with
  |none=>simpa using(sY g l).cons j
  |some b=>simpa using(sY g l).cons_cons j
theorem oY.relaid{led:Bool}{t t':SetTable}{hs:Array Int}{n:Nat}{o:Array Nat}(h:oY led t)(hq:t.relaid hs n=some (t',o)):oY led t':=by
 unfold SetTable.relaid SetTable.laid at hq
 cases ho:SetTable.layClean (SetTable.sizeAbove n-1) hs with
 |none=>rw[ho] at hq;simp at hq
 |some ow=>
  rw[ho] at hq
  simp only[Option.bind_eq_bind,Option.bind_some,Option.pure_def,Option.some.injEq,Prod.mk.injEq] at hq
  rw[<-hq.1]
  refine⟨h.led,rfl,λ_=>?_⟩
  unfold zn
  rw[List.toList_toArray]
  exact(List.pairwise_lt_range).sublist (sY (λj=>ow.getD j none) _)
theorem oY.relay{led:Bool}{t:SetTable}(h:oY led t)(es:Array (Int×Value))(n:Nat):oY led (relayAll t es n).2.1:=by
 unfold relayAll
 split
 ·rename_i t' o hq
  dsimp only
  split
  ·exact h.relaid hq
  ·exact h.standIn _
 ·exact h.standIn _
theorem yf{t:SetTable}(h:t.plain=false)(es:Array (Int×Value))(n:Nat):(relayAll t es n).2.1.plain=false:=by
 unfold relayAll
 split
 ·rename_i t' o hq
  dsimp only
  split
  ·unfold SetTable.relaid SetTable.laid at hq
   cases ho:SetTable.layClean (SetTable.sizeAbove n-1) (es.map (·.1)) with
   |none=>rw[ho] at hq;simp at hq
   |some ow=>
    rw[ho] at hq
    simp only[Option.bind_eq_bind,Option.bind_some,Option.pure_def,Option.some.injEq,Prod.mk.injEq] at hq
    rw[<-hq.1];exact h
  ·rfl
 ·rfl
section
variable{prog:Program}{w:World}{K:Type}[DecidableEq K]
def sg(kd:KeyKind prog w K)(l:List (Int×Value)):Prop:=
 l.Pairwise λe e'=>∀k,kd.is k e.2=true->kd.is k e'.2=false
theorem sg.perm{kd:KeyKind prog w K}{l l':List (Int×Value)}(h:sg kd l)(p:l'.Perm l):sg kd l':=by
 refine(p.pairwise_iff (λ{x y} hxy k hk=>?_)).mpr h
 cases hx:kd.is k x.2 with
 |false=>rfl
 |true=>have:=hxy k hx;rw[hk] at this;cases this
def SetTb(kd:KeyKind prog w K)(h:Heap)(a:Addr)(S:K->Bool)(n:Nat)(led np:Bool):Prop:=
 ∃o es ep t,h.get? a=some o/\o.ExactSet/\o.data=.set es ep t/\ElemsOf kd es.toList/\(∀k,S k=true↔∃e∈es.toList,kd.is k e.2=true)
  /\es.size<scanBound/\t.fits es.size=true/\es.size=n/\oY led t/\(np=true->n≠0->t.plain=false)/\sg kd es.toList
variable{kd:KeyKind prog w K}{A:Around}{E:Value->Shared->Prop}{s:Shared}
theorem SetTb.congr{h:Heap}{a:Addr}{S S':K->Bool}{n n':Nat}{led np:Bool}(hS:SetTb kd h a S n led np)(e:∀k,S k=S' k)(en:n=n'):SetTb kd h a S' n' led np:=by
 cases(funext e:S=S');cases en;exact hS
theorem SetTb.keep{h h':Heap}{a:Addr}{S:K->Bool}{n:Nat}{led np:Bool}(hS:SetTb kd h a S n led np)(e:∀o,h.get? a=some o->h'.get? a=some o):SetTb kd h' a S n led np:=by
 obtain⟨o,es,ep,t,ho,r⟩:=hS
 exact⟨o,es,ep,t,e o ho,r⟩
theorem SetTb.fresh{h:Heap}{a:Addr}{led np:Bool}{x y:Nat}(hg:h.get? a=some {cls:=.type "set",dict:=none,data:=.set #[] 0 (.fresh x y led)}) :
  SetTb kd h a (λ_=>false) 0 led np:=
 ⟨_,#[],0,_,hg,⟨rfl,rfl,rfl⟩,rfl,λe he=>by simp at he,λk=>by simp,by decide,rfl,rfl,oY.fresh x y led,λ_ hn=>absurd rfl hn,List.Pairwise.nil⟩
structure zq(kd:KeyKind prog w K)(S:K->Bool)(n:Nat)(led np:Bool)(es:Array (Int×Value))(t:SetTable):Prop where
 el:ElemsOf kd es.toList
 mem:∀k,S k=true↔∃e∈es.toList,kd.is k e.2=true
 few:es.size<scanBound
 fit:t.fits es.size=true
 many:es.size=n
 tab:oY led t
 off:np=true->t.plain=false
 apart:sg kd es.toList
theorem zq.relay{S:K->Bool}{n:Nat}{led np:Bool}{es:Array (Int×Value)}{t:SetTable}(h:zq kd S n led np es t)(wn:Nat) :
  zq kd S n led np (relayAll t es wn).1 (relayAll t es wn).2.1:=by
 have hp:=relayAll_perm t es wn
 have hz:(relayAll t es wn).1.size=es.size:=by rw[<-bI,hp.length_eq,bI]
 exact⟨h.el.perm hp,λk=>(h.mem k).trans ⟨λ⟨e,he,q⟩=>⟨e,hp.mem_iff.mpr he,q⟩,λ⟨e,he,q⟩=>⟨e,hp.mem_iff.mp he,q⟩⟩,
  by rw[hz];exact h.few,relayAll_fits t es wn,by rw[hz];exact h.many,h.tab.relay es wn,λe=>yf (h.off e) es wn,h.apart.perm hp⟩
theorem zq.stored{S:K->Bool}{n:Nat}{led np:Bool}{es':Array (Int×Value)}{t':SetTable}(L:zq kd S n led np es' t')
  {h:Heap} {a:Addr} {o:Obj} {es:Array (Int×Value)} {ep:Nat} {t:SetTable} (ho:h.get? a=some o) (hex:o.ExactSet) (hd:o.data=.set es ep t) :
  (h.update a (Obj.putSet es' t')).get? a=some {o with data:=.set es' (ep+1) t'}/\SetTb kd (h.update a (Obj.putSet es' t')) a S n led np:=by
 have hg:=(SetOf_store (knd:=kd) ho hex hd L.el L.mem L.few L.fit).1
 exact⟨hg,_,es',ep+1,t',hg,hex,rfl,L.el,L.mem,L.few,L.fit,L.many,L.tab,λe _=>L.off e,L.apart⟩
theorem xh{g:Bool->Sem Unit}(hg:∀(b:Bool) (s₁:Shared) (Q':Unit->Shared->Prop),Q' () s₁->wpAny (model prog w) A (g b) Q' E s₁)
  {a:Addr} {o:Obj} {es:Array (Int×Value)} {ep:Nat} {t:SetTable} (ho:s.heap.get? a=some o) (hex:o.ExactSet) (hd:o.data=.set es ep t)
  {es1:Array (Int×Value)} {t2:SetTable} {S:K->Bool} {n:Nat} {led np:Bool} (L:zq kd S n led np es1 t2) {wd:Bool} {R:Option Bool->Shared->Prop}
  (hR:∀h',Heap.SameBut a s.heap h'->SetTb kd h' a S n led np->R (some true) {s with heap:=h'}) :
  wpAny (model prog w) A (do
    storeSet a es1 t2
    if(!wd&&t2.tooFull)=true then do
      g (relayAll t2 es1 (SetTable.grown es1.size)).2.2
      storeSet a (relayAll t2 es1 (SetTable.grown es1.size)).1 (relayAll t2 es1 (SetTable.grown es1.size)).2.1
      pure (some true)
     else pure (some true)) R E s:=by
 refine wpAny_bind (wpAny_storeSet_of ho hd ?_ (fits_of_scanBound L.few))
 obtain⟨g1,T1⟩:=L.stored ho hex hd
 have sb:=Heap.SameBut.update s.heap a (Obj.putSet es1 t2)
 split
 ·have L2:=L.relay (SetTable.grown es1.size)
  refine wpAny_bind (hg _ _ _ ?_)
  refine wpAny_bind (wpAny_storeSet_of g1 rfl ?_ (fits_of_scanBound L2.few))
  obtain⟨-,T2⟩:=L2.stored g1 hex rfl
  exact wpAny_pure (hR _ (sb.trans (Heap.SameBut.update _ a _)) T2)
 ·exact wpAny_pure (hR _ sb T1)
theorem IJ{a:Addr}{S:K->Bool}{n:Nat}{led np:Bool}{k:K}{x:Value}{Q:Bool->Shared->Prop}(hkey:kd.is k x=true)(hsc:x.scannable=true)
  (hnp:np=true->plainKind x=false) (hS:SetTb kd s.heap a S n led np) (hroom:n+1<scanBound)
  (hQ:∀h',Heap.SameBut a s.heap h'->SetTb kd h' a (λk'=>S k' || decide (k'=k)) (if S k then n else n+1) led np->Q (!S k) {s with heap:=h'}) :
  wpAny (model prog w) A (setAddHashed a x (kd.hash k)) Q E s:=by
 obtain⟨o,es,ep,t,ho,hex,hd,hel,hmem,hb,hf,hn,htab,hoff,hap⟩:=hS
 have hb1:es.size+1<scanBound:=by rw[hn];exact hroom
 unfold setAddHashed setAddHashedIn
 refine wpAny_holding (wpAny_bind (wpAny_setState_of ho hd hf ?_))
 dsimp only
 rw[byScan_of hsc hb hel]
 simp only[↓reduceIte]
 unfold setAddByScan
 refine wpAny_bind ?_
 refine wpAny_bind (wpAny_rule ?_)
 refine wpAny_bind (wpAny_setScan_of hkey ho hd hf hel ?_)
 cases hr:List.findIdx? (λe=>kd.is k e.2) es.toList with
 |some j=>
  dsimp only
  obtain⟨hj,hpj,-⟩:=List.findIdx?_eq_some_iff_getElem.mp hr
  have hk:S k=true:=(hmem k).mpr ⟨_,dS hj,hpj⟩
  refine wpAny_pure (wpAny_pure ?_)
  have es0:s={s with heap:=s.heap}:=by cases s;rfl
  have done:=hQ s.heap (Heap.SameBut.refl a s.heap) (SetTb.congr (S:=S) (n:=n) ⟨o,es,ep,t,ho,hex,hd,hel,hmem,hb,hf,hn,htab,hoff,hap⟩
   (λk'=>by by_cases e:k'=k<;>simp[e,hk]) (by rw[hk];rfl))
  rw[hk] at done;rw[es0];exact done
 |none=>
  dsimp only
  have hall:=List.findIdx?_eq_none_iff.mp hr
  have hk:S k=false:=by
   cases hk:S k with
   |false=>rfl
   |true=>obtain⟨e,he,hp⟩:=(hmem k).mp hk;rw[hall e he] at hp;cases hp
  have hper:=layNew_perm t es (kd.hash k) x
  have hfit:=layNew_fits t es (kd.hash k) x
  have htb:=htab.layNew es (kd.hash k) x
  generalize layNew t es (kd.hash k) x=L at hper hfit htb ⊢
  obtain⟨es1,t1,wd,gv⟩:=L
  dsimp only at hper hfit htb ⊢
  rw[Array.toList_push] at hper
  have hz:es1.size=n+1:=by rw[<-bI,hper.length_eq,ai,bI,hn];rfl
  have hap1:sg kd es1.toList:=by
   refine sg.perm (List.pairwise_append.mpr ⟨hap,iD _ _,λe he e' he' k' hk'=>?_⟩) hper
   rw[ae] at he';subst he'
   cases hq:kd.is k' x with
   |false=>rfl
   |true=>cases kd.inj x k' k hq hkey;rw[hall e he] at hk';cases hk'
  have hL:∀t2:SetTable,t2.fits es1.size=true->oY led t2->(np=true->t2.plain=false)->zq kd (λk'=>S k' || decide (k'=k)) (n+1) led np es1 t2:=
   λt2 f2 tb2 o2=>⟨(hel.push hkey hsc).perm hper,mem_push_iff hkey hmem hper,by rw[hz];exact hroom,f2,hz,tb2,o2,hap1⟩
  have hend:∀h',Heap.SameBut a s.heap h'->SetTb kd h' a (λk'=>S k' || decide (k'=k)) (n+1) led np->Q true {s with heap:=h'}:=by
   intro h' sb T;have q:=hQ h' sb;rw[hk] at q;exact q T
  have gw:∀(c:Bool) {s₁:Shared} {Q₁:Unit->Shared->Prop},Q₁ () s₁->
    wpAny (model prog w) A (match c with|true=>rule "set.scan.the-table-gave-way"|false=>pure ()) Q₁ E s₁:=λc s₁ Q₁ hq=>by
   cases c<;>first|exact wpAny_pure hq|exact wpAny_rule hq
  refine wpAny_bind (gw _ ?_)
  split
  ·refine wpAny_bind ?_
   rw[hashByValue_scannable 8 hsc]
   refine wpAny_pure ?_
   refine xh (n:=n+1) (led:=led) (np:=np) ?_ ho hex hd (hL _ ?_ ?_ ?_) ?_
   ·exact λb s₁ Q' hq=>gw b hq
   ·split
    ·exact hfit
    ·exact SetTable.fits_plain_off hfit
   ·split
    ·exact htb
    ·exact htb.off
   ·intro e;rw[hnp e];rfl
   ·intro h' sb T;dsimp only;exact wpAny_pure (hend h' sb T)
  ·rename_i hpl
   refine wpAny_bind (wpAny_pure ?_)
   simp only[↓reduceIte]
   refine xh (n:=n+1) (led:=led) (np:=np) ?_ ho hex hd (hL _ hfit htb (λ_=>by simpa using hpl)) ?_
   ·exact λb s₁ Q' hq=>gw b hq
   ·intro h' sb T;dsimp only;exact wpAny_pure (hend h' sb T)
end
theorem xH:Manifest.owners.lookup (String.ofList ['r','o','t','a','r','e','t','i','_','t','e','s'].reverse)=some Manifest.sig_set_iterator:=by kernel_rfl
theorem iR:Slot "set_iterator" "__next__" "set_iterator.__next__":=
 .of (owner:="set_iterator") (n:="__next__") (by rw[typeLookup_type,builtinLookup_eq_fast];kernel_rfl) (by decide +kernel) (by decide +kernel)
  (by decide +kernel) (by first|exact .inl (by decide +kernel)|exact .inr (by decide +kernel))
  (by rw[isSubtype_type];kernel_rfl)
theorem jv:entryFor table "set_iterator.__next__"=some Builtin.«set_iterator.__next__»:=entryFor_of_tree (by kernel_rfl)
theorem j5(v:Value):argsOk "set_iterator.__next__" ⟨[v],[]⟩:=by
 unfold argsOk
 rw[signature?_of (id:="set_iterator.__next__") (n:=['_','_','t','x','e','n','_','_']) (o:=['r','o','t','a','r','e','t','i','_','t','e','s']) (by kernel_rfl) xH]
 kernel_rfl
theorem Bp:Slot "set_iterator" "__iter__" "set_iterator.__iter__":=
 .of (owner:="set_iterator") (n:="__iter__") (by rw[typeLookup_type,builtinLookup_eq_fast];kernel_rfl) (by decide +kernel) (by decide +kernel)
  (by decide +kernel) (by first|exact .inl (by decide +kernel)|exact .inr (by decide +kernel))
  (by rw[isSubtype_type];kernel_rfl)
theorem ur:entryFor table "set_iterator.__iter__"=some Builtin.«dict_keyiterator.__iter__»:=
 entryFor_alias (id':="dict_keyiterator.__iter__") (by kernel_rfl) rfl (by decide +kernel) (by kernel_rfl)
theorem v9(v:Value):argsOk "set_iterator.__iter__" ⟨[v],[]⟩:=by
 unfold argsOk
 rw[signature?_of (id:="set_iterator.__iter__") (n:=['_','_','r','e','t','i','_','_']) (o:=['r','o','t','a','r','e','t','i','_','t','e','s']) (by kernel_rfl) xH]
 kernel_rfl
theorem tP:entryFor table "set.__iter__"=some Builtin.«frozenset.__iter__»:=
 entryFor_alias (id':="frozenset.__iter__") (by kernel_rfl) rfl (by decide +kernel) (by kernel_rfl)
def byText(w:World):Bool:=w.params.followText "set-order"
theorem oP{α:Type}:∀{l:List α} {i:Nat} (hi:i<l.length),(l[i]::l.eraseIdx i).Perm l
 |x::l,0,_=>List.Perm.refl _
 |x::l,i+1,hi=>by
  have hi':i<l.length:=by simpa using hi
  have h:=oP hi'
  simp only[List.getElem_cons_succ,List.eraseIdx_cons_succ]
  exact(List.Perm.swap _ _ _).trans (h.cons x)
theorem HS{α:Type}(nx:Nat->Nat):∀(fl k:Nat) (left:List α) (out:Array α),left.length<=fl->(pickOrder.go nx fl k left out).toList.Perm (out.toList++left):=by
 intro fl
 induction fl with
 |zero=>intro k left out h;cases left with
  |nil=>simp[pickOrder.go]
  |cons x l=>simp at h
 |succ fl ih=>
  intro k left out h
  unfold pickOrder.go
  cases hl:left[nx k % left.length]? with
  |none=>
   have:left=[]:=by
    cases left with
    |nil=>rfl
    |cons x l=>rw[aa (Nat.mod_lt _ (by simp))] at hl;cases hl
   subst this;simp
  |some x=>
   obtain⟨hi,hx⟩:=af.mp hl
   have hp:=oP hi
   rw[hx] at hp
   refine(ih (k+1) _ _ (by rw[List.length_eraseIdx];split<;>lia)).trans ?_
   rw[Array.toList_push,eh]
   exact hp.append_left out.toList
theorem qJ{α:Type}(nx:Nat->Nat)(xs:Array α):(pickOrder nx xs).toList.Perm xs.toList:=by
 have:=HS nx xs.size 0 xs.toList #[] (by simp)
 simpa[pickOrder] using this
section
variable{prog:Program}{w:World}{A:Around}{E:Value->Shared->Prop}{s:Shared}
theorem Jc{src:Source}{n:Nat}{Q:Nat->Shared->Prop}(hn:n≠0)(h:∀i d,i<n->Q i {s with drawn:=d}):wpAny (model prog w) A (choose src n) Q E s:=λΓ p hΓ=>by
 show Sem.wp _ _ (Sem.choose src n Sem.pure) _ _ _ _
 rw[Sem.wp_choose]
 refine⟨hn,?_⟩
 rw[Sem.wp_pure]
 exact h _ _ (Nat.mod_lt _ (Nat.pos_of_ne_zero hn))
theorem Gv{α:Type}:∀(n:Nat) (xs:List α) {s:Shared} {Q:List α->Shared->Prop},xs.length=n->(∀ys d,ys.Perm xs->Q ys {s with drawn:=d})->wpAny (model prog w) A (drawOrder n xs) Q E s:=by
 intro n
 induction n with
 |zero=>
  intro xs s Q hl h
  have:xs=[]:=by simpa using hl
  subst this
  unfold drawOrder
  exact wpAny_pure (h [] s.drawn (List.Perm.refl _))
 |succ n ih=>
  intro xs s Q hl h
  cases xs with
  |nil=>simp at hl
  |cons x l=>
   unfold drawOrder
   refine wpAny_bind (Jc (by simp) λi d hi=>?_)
   rw[aa hi]
   dsimp only
   refine wpAny_bind (ih _ (by rw[List.length_eraseIdx,if_pos hi];lia) λys d' hp=>?_)
   exact wpAny_pure (h _ d' ((hp.cons _).trans (oP hi)))
end
def oG(h:Heap)(I:Addr)(f:Value)(i:Nat)(a:Addr)(n ep:Nat):Prop:=
 h.get? I=some {cls:=.type "set_iterator",dict:=none,data:=.fields #[f,.int (i:Int) 0,.ref a,.int (n:Int) 0,.int (ep:Int) 0],slots:=#[]}
theorem oG.type{s:Shared}{I a:Addr}{f:Value}{i n ep:Nat}(h:oG s.heap I f i a n ep):s.TypeIs (.ref I) "set_iterator":=⟨_,h,rfl⟩
structure g8(h:Heap)(a:Addr)(es:Array (Int×Value))(ep:Nat)(t:SetTable):Prop where
 at_:∃o,h.get? a=some o/\o.cls=.type "set"/\o.data=.set es ep t
 fit:t.fits es.size=true
theorem g8.keep{h h':Heap}{a:Addr}{es:Array (Int×Value)}{ep:Nat}{t:SetTable}(x:g8 h a es ep t)(k:∀o,h.get? a=some o->h'.get? a=some o):g8 h' a es ep t:=by
 obtain⟨⟨o,ho,r⟩,f⟩:=x
 exact⟨⟨o,k o ho,r⟩,f⟩
section
variable{prog:Program}{w:World}{A:Around}{E:Value->Shared->Prop}{s:Shared}{I a:Addr}{i n ep:Nat}{es:Array (Int×Value)}{t:SetTable}
theorem g8.state{Q:(Array (Int×Value)×Nat×SetTable)->Shared->Prop}(x:g8 s.heap a es ep t)(h:Q (es,ep,t) s):wpAny (model prog w) A (setState a) Q E s:=by
 obtain⟨⟨o,ho,-,hd⟩,f⟩:=x
 exact wpAny_setState_of ho hd f h
theorem g8.entries{Q:Array (Int×Value)->Shared->Prop}(x:g8 s.heap a es ep t)(h:Q es s):wpAny (model prog w) A (setEntries a) Q E s:=by
 unfold setEntries
 exact wpAny_bind (x.state (wpAny_pure h))
theorem g8.epoch{Q:Nat->Shared->Prop}(x:g8 s.heap a es ep t)(h:Q ep s):wpAny (model prog w) A (setEpoch a) Q E s:=by
 unfold setEpoch
 exact wpAny_bind (x.state (wpAny_pure h))
theorem rW{Q:Bool->Shared->Prop}(h:Q (byText w) s):wpAny (model prog w) A setsByText Q E s:=by
 unfold setsByText
 exact wpAny_bind (wpAny_askSetting (wpAny_pure h))
theorem u0{sl:Nat}{Q:Option (Value×Nat)->Shared->Prop}(hb:byText w=true)(x:g8 s.heap a es ep t)
  (h:Q (((pickOrder (w.params.setOrder a ep) es)[i]?).map λe=>(e.2,sl)) s):wpAny (model prog w) A (setNext a sl i ep) Q E s:=by
 unfold setNext
 refine wpAny_bind (x.state ?_)
 dsimp only
 refine wpAny_bind (rW ?_)
 rw[hb]
 simp only[bne_self_eq_false,Bool.false_eq_true,↓reduceIte]
 refine wpAny_bind ?_
 unfold setWalk
 refine wpAny_bind (x.state ?_)
 dsimp only
 refine wpAny_bind (rW ?_)
 rw[hb]
 simp only[↓reduceIte]
 exact wpAny_bind (wpAny_askSetting (wpAny_pure (wpAny_pure h)))
theorem tf{sl:Nat}{Q:Option (Value×Nat)->Shared->Prop}(hb:byText w=false)(x:g8 s.heap a es ep t)(hl:t.led=true)(hp:t.plain=true\/es.size<=1)
  (h:Q (match es[SetTable.below t.place sl]?,t.place[SetTable.below t.place sl]? with|some (_,x),some j=>some (x,j+1)|_,_=>none) s) :
  wpAny (model prog w) A (setNext a sl i ep) Q E s:=by
 unfold setNext
 refine wpAny_bind (x.state ?_)
 dsimp only
 refine wpAny_bind (rW ?_)
 rw[hb]
 simp only[Bool.false_eq_true,↓reduceIte]
 refine wpAny_ite_split (λhd=>?_) (λ_=>?_)
 ·change (!t.plain&&decide (es.size>1))=true at hd
  rcases hp with hp|hp
  ·rw[hp] at hd;cases hd
  ·rw[Bool.and_eq_true,decide_eq_true_eq] at hd;omega
 ·refine wpAny_bind ?_
  show wpAny _ _ (if(!t.led && !es.isEmpty)=true then _ else _) _ _ _
  rw[hl]
  simp only[Bool.not_true,Bool.false_and,Bool.false_eq_true,↓reduceIte]
  exact wpAny_pure (wpAny_pure h)
theorem xG{sl nx:Nat}{x:Value}{Q:Option Value->Shared->Prop}(hI:oG s.heap I (.int (sl:Int) 0) i a n ep)(S:g8 s.heap a es ep t)(hn:es.size=n)
  (hx:∀{E':Value->Shared->Prop} {Q':Option (Value×Nat)->Shared->Prop},Q' (some (x,nx)) s->wpAny (model prog w) A.in1 (setNext a sl i ep) Q' E' s)
  (hQ:∀h',oG h' I (.int (nx:Int) 0) (i+1) a n ep->Heap.SameBut I s.heap h'->Q (some x) {s with heap:=h'}) :
  wpAny (model prog w) A (pyNext (.ref I)) Q E s:=by
 unfold pyNext
 refine wpAny_bind (wpAny_attempt (wpAny_callSpecial?_slot (name:=Str.ofString "__next__") hI.type iR (wpAny_call_entry iR hI.type jv ?_ (j5 _))))
 unfold Builtin.«set_iterator.__next__»
 refine wpAny_bind (m:=slotArgs _ _ _) (wpAny_pure ?_)
 refine wpAny_bind (wpAny_fieldsOf hI rfl ?_)
 dsimp only
 refine wpAny_bind (S.entries ?_)
 rw[hn]
 simp only[bne_self_eq_false,Bool.false_eq_true,↓reduceIte,de]
 refine wpAny_bind (hx ?_)
 dsimp only
 refine wpAny_bind (di hI (by simp) λh1 g1 sb1=>?_)
 refine wpAny_bind (di g1 (by simp) λh2 g2 sb2=>?_)
 refine wpAny_pure ⟨_,rfl,wpAny_pure (hQ h2 ?_ (sb1.trans sb2))⟩
 unfold oG
 rw[g2]
 simp[rawInt]
theorem Bq{Q:Option Value->Shared->Prop}{h1:Heap}(hh:A.handled=none)(sb:Heap.SameBut I s.heap h1)
  (hQ:∀h',Heap.ExtBut I s.heap h'->Q none {s with heap:=h'}) :
  wpAny (model prog w) A.in1 (newExc (.type "StopIteration") [] >>= λe=>(raiseNew e:Sem Fin)) (λfin s'=>∃v,fin=.done (.ret v)/\wpAny (model prog w) A (pure (some v)) Q E s')
   (λe s'=>wpAny (model prog w) A (do if <-isInstance e (.type "StopIteration") then pure none else throw e) Q E s') {s with heap:=h1}:=by
 refine wpAny_bind ?_
 simp only[newExc,newTuple]
 refine wpAny_bind (wpAny_newObj_type ?_ (by size_fits))
 refine wpAny_bind (m:=firstArgMember _ _) (wpAny_of_eq (a:=Value.none) (by first|rfl|(simp only[firstArgMember];rfl)) ?_)
 refine wpAny_newObj_type ?_ (by size_fits)
 simp only[raiseNew]
 refine wpAny_bind (wpAny_handled ?_)
 rw[show A.in1.handled=none from hh]
 refine wpAny_bind (wpAny_pure (wpAny_throw ?_))
 refine wpAny_bind (wpAny_isInstance (T:="StopIteration") (b:=true) ⟨_,aD _ rfl,rfl⟩ isSubtype_stop ?_)
 exact wpAny_pure (hQ _ ((sb.extBut.push _).push _))
theorem xF{sl:Nat}{Q:Option Value->Shared->Prop}(hh:A.handled=none)(hI:oG s.heap I (.int (sl:Int) 0) i a n ep)(S:g8 s.heap a es ep t)(hn:es.size=n)
  (hx:∀{E':Value->Shared->Prop} {Q':Option (Value×Nat)->Shared->Prop},Q' none s->wpAny (model prog w) A.in1 (setNext a sl i ep) Q' E' s)
  (hQ:∀h',Heap.ExtBut I s.heap h'->Q none {s with heap:=h'}) :
  wpAny (model prog w) A (pyNext (.ref I)) Q E s:=by
 unfold pyNext
 refine wpAny_bind (wpAny_attempt (wpAny_callSpecial?_slot (name:=Str.ofString "__next__") hI.type iR (wpAny_call_entry iR hI.type jv ?_ (j5 _))))
 unfold Builtin.«set_iterator.__next__»
 refine wpAny_bind (m:=slotArgs _ _ _) (wpAny_pure ?_)
 refine wpAny_bind (wpAny_fieldsOf hI rfl ?_)
 dsimp only
 refine wpAny_bind (S.entries ?_)
 rw[hn]
 simp only[bne_self_eq_false,Bool.false_eq_true,↓reduceIte,de]
 refine wpAny_bind (hx ?_)
 dsimp only
 refine wpAny_bind (di hI (by simp) λh1 g1 sb1=>?_)
 exact Bq hh sb1 hQ
theorem EF{T:Addr}{ord:List Nat}{q:Nat}{e:Int×Value}{Q:Option Value->Shared->Prop}(hI:oG s.heap I (.ref T) i a n ep)(S:g8 s.heap a es ep t)(hn:es.size=n)
  (hT:∃o c,s.heap.get? T=some o/\o.data=.seq (ord.map λ(i:Nat)=>rawInt i).toArray c) (hq:ord[i]?=some q) (he:es[q]?=some e)
  (hQ:∀h',oG h' I (.ref T) (i+1) a n ep->Heap.SameBut I s.heap h'->Q (some e.2) {s with heap:=h'}) :
  wpAny (model prog w) A (pyNext (.ref I)) Q E s:=by
 obtain⟨oT,c,hoT,hdT⟩:=hT
 unfold pyNext
 refine wpAny_bind (wpAny_attempt (wpAny_callSpecial?_slot (name:=Str.ofString "__next__") hI.type iR (wpAny_call_entry iR hI.type jv ?_ (j5 _))))
 unfold Builtin.«set_iterator.__next__»
 refine wpAny_bind (m:=slotArgs _ _ _) (wpAny_pure ?_)
 refine wpAny_bind (wpAny_fieldsOf hI rfl ?_)
 dsimp only
 refine wpAny_bind (S.entries ?_)
 rw[hn]
 simp only[bne_self_eq_false,Bool.false_eq_true,↓reduceIte,de]
 refine wpAny_bind (wpAny_seqItems hoT hdT ?_)
 have hg:(ord.map λ(i:Nat)=>rawInt i).toArray[i]?=some (.int (q:Int) 0):=by
  rw[gt,aC,hq];rfl
 dsimp only
 rw[hg]
 dsimp only
 simp only[de]
 refine wpAny_bind ?_
 unfold setNextDrawn
 refine wpAny_bind (S.state ?_)
 dsimp only
 simp only[bne_self_eq_false,Bool.false_eq_true,↓reduceIte]
 rw[he]
 dsimp only
 refine wpAny_pure ?_
 refine wpAny_bind (di hI (by simp) λh1 g1 sb1=>?_)
 refine wpAny_pure ⟨_,rfl,wpAny_pure (hQ h1 ?_ sb1)⟩
 unfold oG
 rw[g1]
 simp[rawInt]
theorem EE{T:Addr}{ord:List Nat}{Q:Option Value->Shared->Prop}(hh:A.handled=none)(hI:oG s.heap I (.ref T) i a n ep)(S:g8 s.heap a es ep t)(hn:es.size=n)
  (hT:∃o c,s.heap.get? T=some o/\o.data=.seq (ord.map λ(i:Nat)=>rawInt i).toArray c) (hq:ord[i]?=none)
  (hQ:∀h',Heap.ExtBut I s.heap h'->Q none {s with heap:=h'}) :
  wpAny (model prog w) A (pyNext (.ref I)) Q E s:=by
 obtain⟨oT,c,hoT,hdT⟩:=hT
 unfold pyNext
 refine wpAny_bind (wpAny_attempt (wpAny_callSpecial?_slot (name:=Str.ofString "__next__") hI.type iR (wpAny_call_entry iR hI.type jv ?_ (j5 _))))
 unfold Builtin.«set_iterator.__next__»
 refine wpAny_bind (m:=slotArgs _ _ _) (wpAny_pure ?_)
 refine wpAny_bind (wpAny_fieldsOf hI rfl ?_)
 dsimp only
 refine wpAny_bind (S.entries ?_)
 rw[hn]
 simp only[bne_self_eq_false,Bool.false_eq_true,↓reduceIte,de]
 refine wpAny_bind (wpAny_seqItems hoT hdT ?_)
 have hg:(ord.map λ(i:Nat)=>rawInt i).toArray[i]?=none:=by
  rw[gt,aC,hq];rfl
 dsimp only
 rw[hg]
 dsimp only
 refine wpAny_bind (di hI (by simp) λh1 g1 sb1=>?_)
 refine wpAny_bind (di g1 (by simp) λh2 g2 sb2=>?_)
 exact Bq (s:=s) hh (sb1.trans sb2) hQ
theorem wa{f:Value}{Q:Value->Shared->Prop}(hI:oG s.heap I f i a n ep)(h:Q (.ref I) s):wpAny (model prog w) A (pyIter (.ref I)) Q E s:=by
 refine wpAny_pyIter_slot hI.type Bp (wpAny_call_entry Bp hI.type ur ?_ (v9 _))
 show wpAny _ _ (ret (.ref I)) _ _ s
 exact wpAny_pure ⟨_,rfl,"set_iterator",_,hI.type,iR.lookup,h⟩
theorem DY(hh:A.handled=none)(hb:byText w=true)(hne:a≠I) :
  Walks prog w A I [I,a] [I] es.size (λi v=>∃e,(pickOrder (w.params.setOrder a ep) es).toList[i]?=some e/\v=e.2) (λi h=>oG h I (.int ((0:Nat):Int) 0) i a es.size ep/\g8 h a es ep t) where
 sub:=λb hb=>by simp at hb;simp[hb]
 frame:=λi h h' st hk=>⟨hk I (by simp) _ st.1,st.2.keep λo e=>hk a (by simp) o e⟩
 item:=λi s Q E hi st hQ=>by
  have hz:=(qJ (w.params.setOrder a ep) es).length_eq
  have hg:(pickOrder (w.params.setOrder a ep) es).toList[i]?=some ((pickOrder (w.params.setOrder a ep) es).toList[i]'(by rw[hz,bI];exact hi)):=aa _
  refine xG (x:=((pickOrder (w.params.setOrder a ep) es).toList[i]'(by rw[hz,bI];exact hi)).2) (nx:=0) st.1 st.2 rfl (λhq=>u0 hb st.2 ?_) λh' hI' sb=>?_
  ·rw[<-bQ,hg];exact hq
  ·exact hQ _ h' s.toks ⟨_,hg,rfl⟩ ⟨hI',st.2.keep λo e=>by rw[sb.2 a hne];exact e⟩ λb o hb e=>by rw[sb.2 b (by simpa using hb)];exact e
 done:=λs Q E st hQ=>by
  have hz:=(qJ (w.params.setOrder a ep) es).length_eq
  refine xF hh st.1 st.2 rfl (λhq=>u0 hb st.2 ?_) λh' hx=>?_
  ·rw[<-bQ,bR (by rw[hz,bI];exact aw _)];exact hq
  ·exact hQ h' s.toks λb o hb e=>hx b o (by simpa using hb) e
 self:=λi s Q E st hQ=>wa st.1 hQ
theorem AV(hh:A.handled=none)(hb:byText w=false)(hne:a≠I)(hl:t.led=true)(hp:t.plain=true\/es.size<=1)(hr:zn t.place)(hz:t.place.size=es.size) :
  Walks prog w A I [I,a] [I] es.size (λi v=>∃e,es.toList[i]?=some e/\v=e.2) (λi h=>∃sl:Nat,oG h I (.int (sl:Int) 0) i a es.size ep/\g8 h a es ep t/\SetTable.below t.place sl=i) where
 sub:=λb hb=>by simp at hb;simp[hb]
 frame:=λi h h' ⟨sl,x1,x2,x3⟩ hk=>⟨sl,hk I (by simp) _ x1,x2.keep λo e=>hk a (by simp) o e,x3⟩
 item:=λi s Q E hi ⟨sl,x1,x2,x3⟩ hQ=>by
  have g1:es[i]?=some es[i]:=bP hi
  have hi':i<t.place.size:=by rw[hz];exact hi
  have g2:t.place[i]?=some t.place[i]:=bP hi'
  refine xG (x:=es[i].2) (nx:=t.place[i]+1) x1 x2 rfl (λhq=>tf hb x2 hl hp ?_) λh' hI' sb=>?_
  ·rw[x3,g1,g2];exact hq
  ·exact hQ _ h' s.toks ⟨_,by rw[bQ];exact g1,rfl⟩ ⟨_,hI',x2.keep λo e=>by rw[sb.2 a hne];exact e,zA hr g2⟩ λb o hb e=>by rw[sb.2 b (by simpa using hb)];exact e
 done:=λs Q E ⟨sl,x1,x2,x3⟩ hQ=>by
  refine xF hh x1 x2 rfl (λhq=>tf hb x2 hl hp ?_) λh' hx=>?_
  ·rw[x3,iJ (aw _)];exact hq
  ·exact hQ h' s.toks λb o hb e=>hx b o (by simpa using hb) e
 self:=λi s Q E ⟨sl,x1,x2,x3⟩ hQ=>wa x1 hQ
def xi(es:Array (Int×Value))(ord:List Nat):List (Int×Value):=ord.map λq=>(es[q]?).getD (0,.none)
theorem zy{ord:List Nat}(hp:ord.Perm (dz es.size)):(xi es ord).Perm es.toList:=by
 refine(hp.map _).trans (List.Perm.of_eq ?_)
 refine iK λi=>?_
 rw[aC]
 rcases fu i es.size with h|h
 ·rw[jS h,bQ,bP h]
  simp[h]
 ·rw[bR (by simpa using h),bR (by simpa using h)];rfl
theorem AU{T:Addr}{ord:List Nat}(hh:A.handled=none)(hne:a≠I)(hTI:T≠I)(hp:ord.Perm (dz es.size)) :
  Walks prog w A I [I,a,T] [I] es.size (λi v=>∃e,(xi es ord)[i]?=some e/\v=e.2)
   (λi h=>oG h I (.ref T) i a es.size ep/\g8 h a es ep t/\∃o c,h.get? T=some o/\o.data=.seq (ord.map λ(i:Nat)=>rawInt i).toArray c) where
 sub:=λb hb=>by simp at hb;simp[hb]
 frame:=λi h h' ⟨x1,x2,o,c,x3,x4⟩ hk=>⟨hk I (by simp) _ x1,x2.keep λo e=>hk a (by simp) o e,o,c,hk T (by simp) _ x3,x4⟩
 item:=λi s Q E hi ⟨x1,x2,x3⟩ hQ=>by
  have hlen:ord.length=es.size:=by rw[hp.length_eq,eB]
  have hi':i<ord.length:=by rw[hlen];exact hi
  have hq:ord[i]?=some ord[i]:=aa hi'
  have hlt:ord[i]<es.size:=by simpa using hp.mem_iff.mp (dS hi')
  have he:es[ord[i]]?=some es[ord[i]]:=bP hlt
  have hg:(xi es ord)[i]?=some es[ord[i]]:=by unfold xi;rw[aC,hq];simp[he]
  refine EF x1 x2 rfl x3 hq he λh' hI' sb=>?_
  obtain⟨o,c,y1,y2⟩:=x3
  exact hQ _ h' s.toks ⟨_,hg,rfl⟩ ⟨hI',x2.keep λo e=>by rw[sb.2 a hne];exact e,o,c,by rw[sb.2 T hTI];exact y1,y2⟩ λb o hb e=>by rw[sb.2 b (by simpa using hb)];exact e
 done:=λs Q E ⟨x1,x2,x3⟩ hQ=>by
  have hlen:ord.length=es.size:=by rw[hp.length_eq,eB]
  refine EE hh x1 x2 rfl x3 (bR (by omega)) λh' hx=>?_
  exact hQ h' s.toks λb o hb e=>hx b o (by simpa using hb) e
 self:=λi s Q E ⟨x1,x2,x3⟩ hQ=>wa x1 hQ
theorem IG{ps:Array Nat}(h:ps.size<=1):zn ps:=by
 unfold zn
 obtain⟨l⟩:=ps
 match l,h with
 |[],_=>exact List.Pairwise.nil
 |[x],_=>exact iD _ _
theorem FI{Q:Value->Shared->Prop}(hh:A.handled=none)(S:g8 s.heap a es ep t)(hT:oY (!byText w) t)(hz:es.size<=sizeLine)
  (hQ:∀(I:Addr) (h':Heap) d (fp:List Addr) (L:List (Int×Value)) (St:Nat->Heap->Prop),L.Perm es.toList->(∀b o,s.heap.get? b=some o->h'.get? b=some o)->
   (∀b∈fp,b=a\/s.heap.objs.size<=b)->s.heap.objs.size<=I->Walks prog w A I fp [I] es.size (λi v=>∃e,L[i]?=some e/\v=e.2) St->St 0 h'->Q (.ref I) {s with heap:=h',drawn:=d}) :
  wpAny (model prog w) A (pyIter (.ref a)) Q E s:=by
 obtain⟨⟨o,ho,hc,hd⟩,hf⟩:=id S
 have lt:=aF ho
 have hps:t.place.size=es.size:=by
  simp only[SetTable.fits,Bool.and_eq_true,beq_iff_eq] at hf;exact hf.1
 have hty:s.TypeIs (.ref a) "set":=⟨o,ho,hc⟩
 refine wpAny_pyIter_slot hty F.slot_set_iter (wpAny_call_entry F.slot_set_iter hty tP ?_ (F.args_set_iter_1 _))
 unfold Builtin.«frozenset.__iter__»
 refine wpAny_bind (m:=Builtin.Frozenset.slot0 _ _) (wpAny_pure ?_)
 refine wpAny_bind ?_
 unfold Builtin.Frozenset.sizeOf
 refine wpAny_bind (S.entries (wpAny_pure ?_))
 refine wpAny_bind ?_
 unfold setDrawn
 refine wpAny_bind (S.state ?_)
 dsimp only
 refine wpAny_bind (rW (wpAny_pure ?_))
 refine wpAny_ite_split (λhdr=>?_) (λhdr=>?_)
 ·change (!byText w&&(!t.plain&&decide (es.size>1)))=true at hdr
  refine wpAny_bind (Gv _ _ (eB) λys d hp=>?_)
  have hyl:ys.length=es.size:=by rw[hp.length_eq,eB]
  refine wpAny_bind (wpAny_newTuple ?_ (by rw[ab,hyl];exact hz))
  refine wpAny_bind (g8.epoch (es:=es) (t:=t) (ep:=ep) (S.keep λo e=>aj _ e) ?_)
  refine wpAny_bind (wpAny_newObj_type (wpAny_pure ⟨_,rfl,"set_iterator",_,⟨_,aD _ rfl,rfl⟩,iR.lookup,?_⟩))
  refine hQ _ _ d [_,a,s.heap.objs.size] (xi es ys) _ (zy hp) (λb o e=>aj _ (aj _ e)) (λb hb=>?_) ?_
   (AU (T:=s.heap.objs.size) (ep:=ep) (t:=t) (by exact hh) ?_ ?_ hp) ⟨aD _ rfl,S.keep λo e=>aj _ (aj _ e),_,_,aj _ (aD _ rfl),rfl⟩
  ·rw[cA] at hb
   simp only[aJ,cq,or_false] at hb
   rcases hb with rfl|rfl|rfl
   ·exact .inr (by omega)
   ·exact .inl rfl
   ·exact .inr (aw _)
  ·rw[cA];exact jB _
  ·rw[cA];exact aH (cG lt)
  ·rw[cA];exact aH (dX _)
 ·change ¬((!byText w&&(!t.plain&&decide (es.size>1)))=true) at hdr
  refine wpAny_bind (wpAny_pure ?_)
  refine wpAny_bind (S.epoch ?_)
  refine wpAny_bind (wpAny_newObj_type (wpAny_pure ⟨_,rfl,"set_iterator",_,⟨_,aD _ rfl,rfl⟩,iR.lookup,?_⟩))
  have hfp:∀b∈[s.heap.objs.size,a],b=a\/s.heap.objs.size<=b:=λb hb=>by
   simp only[aJ,cq,or_false] at hb
   rcases hb with rfl|rfl
   ·exact .inr (aw _)
   ·exact .inl rfl
  cases hbt:byText w with
  |true=>
   refine hQ _ _ s.drawn [_,a] _ _ (qJ (w.params.setOrder a ep) es) (λb o e=>aj _ e) hfp (aw _)
    (DY (t:=t) hh hbt (aH lt)) ⟨aD _ rfl,S.keep λo e=>aj _ e⟩
  |false=>
   rw[hbt] at hdr
   have hl:t.led=true:=by rw[hT.led,hbt];rfl
   have hpl:t.plain=true\/es.size<=1:=by
    cases hq:t.plain with
    |true=>exact .inl rfl
    |false=>rw[hq] at hdr;simp at hdr;exact .inr (by omega)
   have hr:zn t.place:=by
    rcases hpl with h|h
    ·exact hT.ris h
    ·exact IG (by rw[hps];exact h)
   refine hQ _ _ s.drawn [_,a] _ _ (List.Perm.refl _) (λb o e=>aj _ e) hfp (aw _)
    (AV (t:=t) (ep:=ep) hh hbt (aH lt) hl hpl hr hps) ⟨0,aD _ rfl,S.keep λo e=>aj _ e,zB hr⟩
end
end BgSet
end
section
namespace BgSet
open PySem PyProof.Rows
section
variable{prog:Program}{w:World}{A:Around}{R:Result->Shared->Prop}{I:Addr}{fp wr:List Addr}{G:Array GenState->Array GenState->Prop}{n:Nat}{P:Nat->Value->Prop}{St:Nat->Shared->Prop}
variable{K:Type}[DecidableEq K]{kd:KeyKind prog w K}
def met(val:Nat->K)(i:Nat)(k:K):Bool:=decide (k∈(dz i).map val)
theorem EZ(val:Nat->K)(i:Nat)(k:K):(met val i k || decide (k=val i))=met val (i+1) k:=by
 unfold met
 rw[Bool.eq_iff_iff,Bool.or_eq_true,decide_eq_true_eq,decide_eq_true_eq,decide_eq_true_eq,List.range_succ,aN,aB]
 simp
theorem yy(W:WalksS prog w A.in1 I fp wr G n P St)(S:Addr)(hSf:S∉fp)(val:Nat->K)(led np:Bool)
  (hval:∀i v,P i v->kd.is (val i) v=true/\v.scannable=true/\(np=true->plainKind v=false)) (hb:n+1<scanBound) :
  ∀(k i m:Nat) (s:Shared),n-i=k->i<=n->m<=i->St i s->SetTb kd s.heap S (met val i) m led np->
   (∀s' m',Moved (S::wr) G s s'->m'<=n->SetTb kd s'.heap S (met val n) m' led np->R (.ok (.ret .none)) s')->
   codeAny (model prog w) A (.builtin "set.update.loop" ⟨[.ref S,.ref I],[]⟩) R s:=by
 have hSw:S∉wr:=λh=>hSf (W.sub _ h)
 have more:∀b∈wr,b∈S::wr:=λb hb=>bx _ hb
 intro k
 induction k with
 |zero=>
  intro i m s hk hi hm st T hR
  cases(by lia:i=n)
  refine codeAny_builtin PyProof.Rows.F.entry_set_update_loop ?_
  rw[Around.under_plainId PyProof.Rows.F.plain_set_update_loop _]
  show wpAny _ A.in1 (pyNext (.ref I) >>= _) _ _ s
  refine wpAny_bind (W.done s _ _ st λs' mv=>?_)
  show wpAny _ A.in1 (ret Value.none) _ _ s'
  exact wpAny_pure (hR s' m (mv.mono more) hm (T.keep λo e=>mv.heap S _ hSw e))
 |succ k ih=>
  intro i m s hk hi hm st T hR
  have lt:i<n:=by lia
  refine codeAny_builtin PyProof.Rows.F.entry_set_update_loop ?_
  rw[Around.under_plainId PyProof.Rows.F.plain_set_update_loop _]
  show wpAny _ A.in1 (pyNext (.ref I) >>= _) _ _ s
  refine wpAny_bind (W.item i s _ _ lt st λv s' hP st' mv=>?_)
  obtain⟨h1,h2,h3⟩:=hval i v hP
  have T':=T.keep (h':=s'.heap) λo e=>mv.heap S _ hSw e
  show wpAny _ A.in1 (holding [v] (setAdd S v) >>= _) _ _ s'
  refine wpAny_bind (wpAny_holding ?_)
  unfold setAdd
  refine wpAny_holding ?_
  refine wpAny_bind (kd.pyHash (k:=val i) h1 ?_)
  refine IJ (s:={s' with toks:=s'.toks+1}) h1 h2 h3 T' (by lia) λh' sb T2=>?_
  have hm2:(if met val i (val i)=true then m else m+1)<=i+1:=by split<;>lia
  refine wpAny_pure ⟨plainId_quiet PyProof.Rows.F.plain_set_update_loop _,ih (i+1) _ _ (by lia) lt hm2 (W.frame _ s' _ _ st' (jB _) λb hb o e=>?_)
   (T2.congr (λk'=>EZ val i k') rfl) λs'' m' mv2 hm' T3=>?_⟩
  ·rw[sb.2 b (λh:b=S=>hSf (by rw[<-h];exact hb))];exact e
  ·refine hR s'' m' (Moved.trans W.gtrans ((mv.mono more).then_heap (jB _) λb o hb e=>?_) mv2) hm' T3
   rw[sb.2 b (λh:b=S=>hb (by rw[h];exact aL))];exact e
end
section
variable{prog:Program}{w:World}{A:Around}{E:Value->Shared->Prop}{s:Shared}{K:Type}[DecidableEq K]{kd:KeyKind prog w K}
def dE(w:World):Obj:={cls:=.type "set",dict:=none,data:=.set #[] 0 (.fresh 0 0 (!byText w))}
theorem BQ(v:Value){Q:Value->Shared->Prop}(h:Q (.ref s.heap.objs.size) {s with heap:=s.heap.push (dE w)}) :
  codeAny (model prog w) A (.call (.builtin "set.__new__") ⟨[.type "set",v],[]⟩) (wants Q E) s:=by
 refine codeAny_of_tree ?_
 show wpAny _ A.in1 (checkBuiltinCall "set.__new__" ⟨[.type "set",v],[]⟩ >>= λ_=>again (.builtin "set.__new__" ⟨[.type "set",v],[]⟩)) _ _ s
 refine wpAny_bind (wpAny_of_eq (PySem.F.newCall_set_1 v) (wpAny_pure ⟨plainId_quiet PySem.F.plain_set_new _,codeAny_builtin PySem.F.entry_set_new ?_⟩))
 rw[Around.under_plainId PySem.F.plain_set_new _]
 unfold Builtin.«set.__new__» Builtin.Frozenset.newClass
 have hsub:=sub_set_self
 obtain⟨hp,g,d,tk,os⟩:=s
 dsimp only
 wp_walk
 refine wpAny_askSetting (wpAny_pure ?_)
 dsimp only
 simp only[newObj]
 refine wpAny_bind (wpAny_alloc (wpAny_pure ?_))
 exact wpAny_pure h
end
section
variable{prog:Program}{w:World}{A:Around}{E:Value->Shared->Prop}{s:Shared}{K:Type}[DecidableEq K][Inhabited K]{kd:KeyKind prog w K}
theorem set_of_list{l:Addr}{its:Array Value}(ks:List K)(np:Bool){Q:Value->Shared->Prop}(hh:A.handled=none)(hl:s.heap.IsList l its)(hk:ks.length=its.size)
  (hv:∀(i:Nat) k v,ks[i]?=some k->its[i]?=some v->kd.is k v=true/\v.scannable=true/\(np=true->plainKind v=false)) (hb:its.size+1<scanBound)
  (hQ:∀(h':Heap) (tk m:Nat),m<=its.size->SetTb kd h' s.heap.objs.size (λk=>decide (k∈ks)) m (!byText w) np->
   (∀b o,b<s.heap.objs.size->s.heap.get? b=some o->h'.get? b=some o)->Q (.ref s.heap.objs.size) {s with heap:=h',toks:=tk}) :
  wpAny (model prog w) A (call (.type "set") [.ref l]) Q E s:=by
 obtain⟨c,tl,mro⟩:=PySem.F.called_set.mro
 have made:=PySem.F.called_set.made
 have sub0:=PySem.F.called_set.sub
 refine wpAny_call (codeAny_of_tree ?_)
 show wpAny _ _ (callAny (.type "set") _) _ _ _
 refine wpAny_pure ⟨Code.quiet_builtin _ (by decide +kernel),codeAny_builtin PySem.F.entry_type_call ?_⟩
 rw[Around.under_plain (weight_type_call_type "set" [.ref l] []) rfl]
 have f1:=PySem.F.called_set.notType
 have f2:=PySem.F.called_set.canCreate
 have f3:=PySem.F.typeCall_set_1 (.ref l)
 repeat (any_goals (first|assumption|wp_step))
 refine codeAny_mono (BQ (.ref l) (E:=E) (Q:=λv s1=>v=.ref s.heap.objs.size/\s1={s with heap:=s.heap.push (dE w)}) ⟨rfl,rfl⟩) λr s1 hr=>?_
 cases r with
 |error e=>exact hr
 |ok fl=>
  cases fl with
  |ret v=>
   obtain⟨rfl,rfl⟩:=hr
   have gS:(s.heap.push (dE w)).get? s.heap.objs.size=some (dE w):=aD _ rfl
   have tS:Shared.TypeIs {s with heap:=s.heap.push (dE w)} (.ref s.heap.objs.size) "set":=⟨_,gS,rfl⟩
   have li:=PySem.F.called_set.init.lookup
   have bi:=PySem.F.called_set.init.bind (.ref s.heap.objs.size)
   repeat (any_goals (first|assumption|wp_step))
   refine codeAny_mono (codeAny_call_builtin (R:=wants (λr s2=>r=.none/\∃h' tk m,s2={s with heap:=h',toks:=tk}/\m<=its.size/\
     SetTb kd h' s.heap.objs.size (λk=>decide (k∈ks)) m (!byText w) np/\(∀b o,b<s.heap.objs.size->s.heap.get? b=some o->h'.get? b=some o)) E)
     PySem.F.called_set.init.plain PySem.F.entry_set_init (check_set_init_1 tS ?_)) λr2 s2 hr2=>?_
   ·obtain⟨ol,gl,hcl,nl,hdl⟩:=hl
    obtain⟨ocls,odict,odata,oslots⟩:=ol
    simp only at hcl hdl
    subst hcl;subst hdl
    have gl2:(s.heap.push (dE w)).get? l=some {cls:=.type "list",dict:=odict,data:=.seq its nl,slots:=oslots}:=aj _ gl
    have u1:=PySem.F.sub_list_set
    have u2:=PySem.F.sub_list_frozenset
    have u3:(Value.type "list"==Value.type "dict")=false:=by decide
    have hl1:(s.heap.push (dE w)).IsList l its:=⟨_,gl2,rfl,nl,rfl⟩
    unfold Builtin.«set.__init__» noKeywords Builtin.Frozenset.updateFrom
    generalize hPI:pyIter=PI
    wp_walk
    subst hPI
    refine wpAny_pyIter_list hl1 ?_
    refine wpAny_bind (wpAny_runValue ?_)
    have lt:l<s.heap.objs.size:=aF gl
    have hh3:A.in1.in1.in1.handled=none:=by simp[hh]
    have ne:l≠(s.heap.push (dE w)).objs.size:=by
     rw[cA];exact aH (cG lt)
    have nf:s.heap.objs.size∉[(s.heap.push (dE w)).objs.size,l]:=by
     rw[cA]
     simp only[aJ,cq,or_false,not_or]
     exact⟨aH (dX _),fz lt⟩
    have hval:∀(i:Nat) (v:Value),its[i]?=some v->kd.is (ks.getD i default) v=true/\v.scannable=true/\(np=true->plainKind v=false):=λi v hi=>by
     have hlt:i<ks.length:=by rw[hk];exact(eV.mp hi).1
     refine hv i _ v ?_ hi
     rw[dy,aa hlt];rfl
    refine yy ((Walks.list hh3 _ l ne its).toS) s.heap.objs.size nf (λi=>ks.getD i default) (!byText w) np hval hb (its.size-0) 0 0 _ (by lia) (bF _) (aw _)
     ⟨⟨_,aD _ rfl,rfl,rfl⟩,(hl1.push _)⟩ (SetTb.congr (SetTb.fresh (x:=0) (y:=0) (aj _ gS)) (λk=>rfl) rfl) λs' m mv hm T=>?_
    obtain⟨h',g',d',tk',os'⟩:=s'
    have eg:g'=s.gens:=mv.gens
    have ed:d'=s.drawn:=mv.drawn
    have eo:os'=s.os:=mv.os
    subst eg;subst ed;subst eo
    show wpAny _ _ _ _ _ _
    refine wpAny_pure ?_
    show wpAny _ _ (ret Value.none) _ _ _
    refine wpAny_pure ⟨rfl,h',tk',m,rfl,hm,T.congr (λk=>?_) rfl,λb o hb e=>?_⟩
    ·unfold met
     rw[Bool.eq_iff_iff,decide_eq_true_eq,decide_eq_true_eq]
     have:(dz its.size).map (λi=>ks.getD i default)=ks:=by
      refine iK λi=>?_
      rw[aC]
      rcases fu i its.size with h|h
      ·rw[jS h,aa (by rw[hk];exact h)]
       simp[dy,hk,h]
      ·rw[bR (by simpa using h),bR (by rw[hk];exact h)];rfl
     rw[this]
    ·have n1:b≠s.heap.objs.size:=aH hb
     have n2:b≠(s.heap.push (dE w)).objs.size:=by
      rw[cA];exact aH (cG hb)
     refine mv.heap b o ?_ (aj _ (aj _ e))
     simp only[aJ,cq,or_false,not_or]
     exact⟨n1,n2⟩
   ·cases r2 with
    |error e=>exact hr2
    |ok fl2=>
     cases fl2 with
     |ret r=>
      obtain⟨rfl,h',tk,m,rfl,hm,T,kp⟩:=hr2
      repeat (any_goals (first|assumption|wp_step))
      exact hQ _ _ m hm T kp
     |_=>exact hr2.elim
  |_=>exact hr.elim
theorem set_of_tuple{l:Addr}{its:Array Value}(ks:List K)(np:Bool){Q:Value->Shared->Prop}(hh:A.handled=none)(hl:s.heap.IsTuple l its)(hk:ks.length=its.size)
  (hv:∀(i:Nat) k v,ks[i]?=some k->its[i]?=some v->kd.is k v=true/\v.scannable=true/\(np=true->plainKind v=false)) (hb:its.size+1<scanBound)
  (hQ:∀(h':Heap) (tk m:Nat),m<=its.size->SetTb kd h' s.heap.objs.size (λk=>decide (k∈ks)) m (!byText w) np->
   (∀b o,b<s.heap.objs.size->s.heap.get? b=some o->h'.get? b=some o)->Q (.ref s.heap.objs.size) {s with heap:=h',toks:=tk}) :
  wpAny (model prog w) A (call (.type "set") [.ref l]) Q E s:=by
 obtain⟨c,tl,mro⟩:=PySem.F.called_set.mro
 have made:=PySem.F.called_set.made
 have sub0:=PySem.F.called_set.sub
 refine wpAny_call (codeAny_of_tree ?_)
 show wpAny _ _ (callAny (.type "set") _) _ _ _
 refine wpAny_pure ⟨Code.quiet_builtin _ (by decide +kernel),codeAny_builtin PySem.F.entry_type_call ?_⟩
 rw[Around.under_plain (weight_type_call_type "set" [.ref l] []) rfl]
 have f1:=PySem.F.called_set.notType
 have f2:=PySem.F.called_set.canCreate
 have f3:=PySem.F.typeCall_set_1 (.ref l)
 repeat (any_goals (first|assumption|wp_step))
 refine codeAny_mono (BQ (.ref l) (E:=E) (Q:=λv s1=>v=.ref s.heap.objs.size/\s1={s with heap:=s.heap.push (dE w)}) ⟨rfl,rfl⟩) λr s1 hr=>?_
 cases r with
 |error e=>exact hr
 |ok fl=>
  cases fl with
  |ret v=>
   obtain⟨rfl,rfl⟩:=hr
   have gS:(s.heap.push (dE w)).get? s.heap.objs.size=some (dE w):=aD _ rfl
   have tS:Shared.TypeIs {s with heap:=s.heap.push (dE w)} (.ref s.heap.objs.size) "set":=⟨_,gS,rfl⟩
   have li:=PySem.F.called_set.init.lookup
   have bi:=PySem.F.called_set.init.bind (.ref s.heap.objs.size)
   repeat (any_goals (first|assumption|wp_step))
   refine codeAny_mono (codeAny_call_builtin (R:=wants (λr s2=>r=.none/\∃h' tk m,s2={s with heap:=h',toks:=tk}/\m<=its.size/\
     SetTb kd h' s.heap.objs.size (λk=>decide (k∈ks)) m (!byText w) np/\(∀b o,b<s.heap.objs.size->s.heap.get? b=some o->h'.get? b=some o)) E)
     PySem.F.called_set.init.plain PySem.F.entry_set_init (check_set_init_1 tS ?_)) λr2 s2 hr2=>?_
   ·obtain⟨ol,gl,hcl,nl,hdl⟩:=hl
    obtain⟨ocls,odict,odata,oslots⟩:=ol
    simp only at hcl hdl
    subst hcl;subst hdl
    have gl2:(s.heap.push (dE w)).get? l=some {cls:=.type "tuple",dict:=odict,data:=.seq its nl,slots:=oslots}:=aj _ gl
    have u1:=PySem.F.sub_tuple_set
    have u2:=PySem.F.sub_tuple_frozenset
    have u3:(Value.type "tuple"==Value.type "dict")=false:=by decide
    have hl1:(s.heap.push (dE w)).IsTuple l its:=⟨_,gl2,rfl,nl,rfl⟩
    unfold Builtin.«set.__init__» noKeywords Builtin.Frozenset.updateFrom
    generalize hPI:pyIter=PI
    wp_walk
    subst hPI
    refine wpAny_pyIter_tuple hl1 ?_
    refine wpAny_bind (wpAny_runValue ?_)
    have lt:l<s.heap.objs.size:=aF gl
    have hh3:A.in1.in1.in1.handled=none:=by simp[hh]
    have ne:l≠(s.heap.push (dE w)).objs.size:=by
     rw[cA];exact aH (cG lt)
    have nf:s.heap.objs.size∉[(s.heap.push (dE w)).objs.size,l]:=by
     rw[cA]
     simp only[aJ,cq,or_false,not_or]
     exact⟨aH (dX _),fz lt⟩
    have hval:∀(i:Nat) (v:Value),its[i]?=some v->kd.is (ks.getD i default) v=true/\v.scannable=true/\(np=true->plainKind v=false):=λi v hi=>by
     have hlt:i<ks.length:=by rw[hk];exact(eV.mp hi).1
     refine hv i _ v ?_ hi
     rw[dy,aa hlt];rfl
    refine yy ((Walks.tuple hh3 _ l ne its).toS) s.heap.objs.size nf (λi=>ks.getD i default) (!byText w) np hval hb (its.size-0) 0 0 _ (by lia) (bF _) (aw _)
     ⟨⟨_,aD _ rfl,rfl,rfl⟩,(hl1.push _)⟩ (SetTb.congr (SetTb.fresh (x:=0) (y:=0) (aj _ gS)) (λk=>rfl) rfl) λs' m mv hm T=>?_
    obtain⟨h',g',d',tk',os'⟩:=s'
    have eg:g'=s.gens:=mv.gens
    have ed:d'=s.drawn:=mv.drawn
    have eo:os'=s.os:=mv.os
    subst eg;subst ed;subst eo
    show wpAny _ _ _ _ _ _
    refine wpAny_pure ?_
    show wpAny _ _ (ret Value.none) _ _ _
    refine wpAny_pure ⟨rfl,h',tk',m,rfl,hm,T.congr (λk=>?_) rfl,λb o hb e=>?_⟩
    ·unfold met
     rw[Bool.eq_iff_iff,decide_eq_true_eq,decide_eq_true_eq]
     have:(dz its.size).map (λi=>ks.getD i default)=ks:=by
      refine iK λi=>?_
      rw[aC]
      rcases fu i its.size with h|h
      ·rw[jS h,aa (by rw[hk];exact h)]
       simp[dy,hk,h]
      ·rw[bR (by simpa using h),bR (by rw[hk];exact h)];rfl
     rw[this]
    ·have n1:b≠s.heap.objs.size:=aH hb
     have n2:b≠(s.heap.push (dE w)).objs.size:=by
      rw[cA];exact aH (cG hb)
     refine mv.heap b o ?_ (aj _ (aj _ e))
     simp only[aJ,cq,or_false,not_or]
     exact⟨n1,n2⟩
   ·cases r2 with
    |error e=>exact hr2
    |ok fl2=>
     cases fl2 with
     |ret r=>
      obtain⟨rfl,h',tk,m,rfl,hm,T,kp⟩:=hr2
      repeat (any_goals (first|assumption|wp_step))
      exact hQ _ _ m hm T kp
     |_=>exact hr2.elim
  |_=>exact hr.elim
end
section
variable{prog:Program}{w:World}{A:Around}{E:Value->Shared->Prop}{s:Shared}{a:Addr}{es:Array (Int×Value)}{ep:Nat}{t:SetTable}
theorem FH{Q:Bool->Shared->Prop}(ht:s.TypeIs (.ref a) "set")(h:Q false s):wpAny (model prog w) A (Builtin.List.listLengthHint (.ref a)) Q E s:=by
 unfold Builtin.List.listLengthHint
 refine wpAny_bind (wpAny_specialOf ht PySem.F.slot_set_len.lookup ?_)
 generalize hid:("set.__len__":String)=nm
 wp_delta
 rw[show splitId nm=some ("set","__len__") from by subst hid;decide +kernel]
 subst hid
 refine wpAny_bind (wpAny_isInstance (T:="set") (b:=true) ht (by rw[isSubtype_type];kernel_rfl) ?_)
 refine wpAny_ite_split (λc=>absurd c (by decide)) (λ_=>?_)
 refine wpAny_ite_split (λ_=>?_) (λc=>absurd (by decide +kernel) c)
 exact wpAny_bind (wpAny_typeOf ht (wpAny_pure h))
def Mr(s:Shared)(S:Addr)(es:Array (Int×Value))(s':Shared):Prop:=
 ∃(h':Heap) (d:Drawn) (tk:Nat) (L:List (Int×Value)) (c:Nat),s'={s with heap:=h',drawn:=d,toks:=tk}/\L.Perm es.toList/\(∀b o,b≠S->s.heap.get? b=some o->h'.get? b=some o)/\
  h'.get? S=some {cls:=.type "list",dict:=none,data:=.seq (L.map (·.2)).toArray c,slots:=#[]}
theorem xI{L:List (Int×Value)}{acc:Array Value}(h:ItemsOf (λi v=>∃e,L[i]?=some e/\v=e.2) acc L.length):acc=(L.map (·.2)).toArray:=by
 apply Array.toList_inj.mp
 rw[List.toList_toArray]
 refine iK λi=>?_
 rw[bQ,aC]
 rcases fu i acc.size with hi|hi
 ·obtain⟨e,he,hv⟩:=h.2 i _ (bP hi)
  rw[bP hi,he,hv];rfl
 ·rw[iJ hi,bR (by rw[<-h.1];exact hi)];rfl
theorem AA(hh:A.handled=none)(X:g8 s.heap a es ep t)(hT:oY (!byText w) t)(hz:es.size<=sizeLine)(S:Addr)(hne:S≠a)(res:Value)(c0:Nat)
  (gS:s.heap.get? S=some {cls:=.type "list",data:=.seq #[] c0}) {R:Result->Shared->Prop} (hR:∀s',Mr s S es s'->R (.ok (.ret res)) s') :
  wpAny (model prog w) A.in1 (Builtin.List.listExtendWith (.ref S) (.ref a) res)
   (λfin s'=>match fin with|.done f=>R (.ok f) s'|.again c'=>c'.quiet=true/\codeAny (model prog w) A c' R s') (λe s'=>R (.error e) s') s:=by
 have ltS:=aF gS
 obtain⟨o,ho,hc,hd⟩:=X.at_
 have lta:=aF ho
 unfold Builtin.List.listExtendWith
 refine wpAny_bind (wpAny_typeOf (T:="set") ⟨o,ho,hc⟩ ?_)
 have h1:Builtin.List.listSameRef (.ref S) (.ref a)=false:=by simp[Builtin.List.listSameRef,hne]
 have h2:(Value.type "set"==Value.type "list")=false:=by decide
 have h3:(Value.type "set"==Value.type "tuple")=false:=by decide
 simp only[h1,h2,h3,Bool.or_false,Bool.false_eq_true,if_false]
 refine wpAny_bind (FI (A:=A.in1) hh X hT hz λI h' d fp L St hp kp hfp hI W st=>?_)
 have hSf:S∉fp:=λhm=>(hfp S hm).elim hne λe=>absurd ltS (lW.mpr e)
 have hlen:L.length=es.size:=by rw[hp.length_eq,bI]
 have key:∀(h:Heap) (c1:Nat),St 0 h->(∀b o,b≠S->s.heap.get? b=some o->h.get? b=some o)->
   h.get? S=some {cls:=.type "list",data:=.seq #[] c1}->codeAny (model prog w) A (.builtin "list.extend.loop" ⟨[.ref S,.ref I,res],[]⟩) R {s with heap:=h,drawn:=d}:=by
  intro h c1 st1 k1 g1
  refine codeAny_extend_loopS W.toS hz S hSf res es.size 0 _ #[] c1 rfl (bF _) st1 g1 (ItemsOf.nil _) λs' acc' c' mv g' hacc=>?_
  refine hR s' ⟨s'.heap,d,s'.toks,L,c',by rw[Moved.eq_with mv],hp,λb o hb e=>mv.heap b o (λhm=>?_) (k1 b o hb e),?_⟩
  ·rcases aJ.mp hm with e'|hm
   ·exact hb e'
   ·have:=aF e;rw[ae.mp hm] at this;exact absurd this (lW.mpr hI)
  ·rw[<-xI (by rw[hlen];exact hacc)];exact g'
 have gS':=kp S _ gS
 refine wpAny_bind (wpAny_holding (FH ⟨o,kp a o ho,hc⟩ ?_))
 refine wpAny_ite_split (λ_=>?_) (λ_=>wpAny_pure ⟨plainId_quiet PySem.F.plain_extend_loop _,key _ c0 st (λb o _ e=>kp b o e) gS'⟩)
 refine wpAny_bind (wpAny_rule ?_)
 refine wpAny_bind ?_
 show wpAny _ _ (updateSeq S (·.push .none) >>= λ_=>updateSeq S (·.pop)) _ _ _
 refine wpAny_bind (wpAny_updateSeq gS' rfl ?_)
 have g2:=i5 (Obj.mapSeq (·.push Value.none)) gS' rfl
 refine wpAny_updateSeq (hz:=by seq_fits) g2 rfl ?_
 have g3:=i5 (Obj.mapSeq (·.pop)) g2 rfl
 refine wpAny_pure ⟨plainId_quiet PySem.F.plain_extend_loop _,key _ _ (W.frame 0 _ _ st λb hb o e=>?_) (λb o hb e=>?_) g3⟩
 ·have n:b≠S:=λh=>hSf (h ▸ hb)
  exact(cV _ _ (Ne.symm n)).trans ((cV _ _ (Ne.symm n)).trans e)
 ·exact(cV _ _ (Ne.symm hb)).trans ((cV _ _ (Ne.symm hb)).trans (kp b o e))
theorem set_collect(hh:A.handled=none)(X:g8 s.heap a es ep t)(hT:oY (!byText w) t)(hz:es.size<=sizeLine){R:List Value->Shared->Prop}
  (hR:∀(h':Heap) (d:Drawn) (tk:Nat) (L:List (Int×Value)),L.Perm es.toList->(∀b o,s.heap.get? b=some o->h'.get? b=some o)->R (L.map (·.2)) {s with heap:=h',drawn:=d,toks:=tk}) :
  wpAny (model prog w) A (collect (.ref a)) R E s:=by
 obtain⟨o,ho,hc,hd⟩:=X.at_
 have lta:=aF ho
 unfold collect
 refine wpAny_bind (wpAny_runValue (codeAny_builtin entry_proto_collect' ?_))
 rw[Around.under_plainId PySem.F.plain_proto_collect _]
 show wpAny _ A.in1 (newList [] >>= λl=>again (.builtin "list.__iadd__" ⟨[l,.ref a],[]⟩)) _ _ s
 refine wpAny_bind (wpAny_newObj_type ?_)
 refine wpAny_pure ⟨plainId_quiet iF _,codeAny_builtin entry_list_iadd' ?_⟩
 rw[Around.under_plainId iF _]
 show wpAny _ A.in1 (Builtin.List.listExtendWith (.ref s.heap.objs.size) (.ref a) (.ref s.heap.objs.size)) _ _ _
 have g1:(s.heap.push {cls:=.type "list",data:=.seq ([]:List Value).toArray}).get? s.heap.objs.size=some {cls:=.type "list",data:=.seq #[]}:=aD _ rfl
 have go:=AA (prog:=prog) (w:=w) (A:=A) (s:={s with heap:=s.heap.push {cls:=.type "list",data:=.seq ([]:List Value).toArray}}) hh (X.keep λo e=>aj _ e) hT hz s.heap.objs.size
  (fz lta) (.ref s.heap.objs.size) 0 g1 (R:=λq s'=>q=.ok (.ret (.ref s.heap.objs.size))/\∃(h':Heap) (d:Drawn) (tk:Nat) (L:List (Int×Value)) (c:Nat),
   s'={s with heap:=h',drawn:=d,toks:=tk}/\L.Perm es.toList/\(∀b o,s.heap.get? b=some o->h'.get? b=some o)/\
   h'.get? s.heap.objs.size=some {cls:=.type "list",dict:=none,data:=.seq (L.map (·.2)).toArray c,slots:=#[]}) (λs' ⟨h',d,tk,L,c,e,hp,kp,g⟩=>
    ⟨rfl,h',d,tk,L,c,e,hp,λb o e=>kp b o (aH (aF e)) (aj _ e),g⟩)
 refine wpAny_mono go (λfin s' x=>?_) λe s' x=>?_
 ·cases fin with
  |done f=>
   obtain⟨e,h',d,tk,L,c,rfl,hp,kp,g⟩:=x
   cases e
   show wpAny _ A (load s.heap.objs.size >>= _) _ _ _
   refine wpAny_bind (wpAny_load g ?_)
   refine wpAny_pure ?_
   have:=hR h' d tk L hp kp
   simpa using this
  |again c1=>
   refine⟨x.1,codeAny_mono x.2 λq s2 y=>?_⟩
   obtain⟨rfl,h',d,tk,L,c,rfl,hp,kp,g⟩:=y
   show wpAny _ A (load s.heap.objs.size >>= _) _ _ _
   refine wpAny_bind (wpAny_load g ?_)
   refine wpAny_pure ?_
   have:=hR h' d tk L hp kp
   simpa using this
 ·cases x.1
end
end BgSet
end
section
namespace L2
open PySem PySem.Spec PyProof.Rows
def MN(K:Fg)(tp:Bool)(H:Hp)(a:Addr)(xs:List V):Prop:=match tp with
 |true=>dZ K H a xs
 |false=>ce K H a xs
theorem bN.seqB{X:Cx}{pins:List (Addr×Obj)}{σ:St}{H:Hp}{s:Shared}{tp:Bool}{a:Addr}{xs:List V}(I:bN X pins σ H s)(h:MN X.K tp H a xs):∃its:List Value,cv xs its/\LB tp s.heap a its.toArray:=by
 cases tp with
 |true=>obtain⟨its,r,p,_⟩:=I.tuple h;exact⟨its,r,p⟩
 |false=>obtain⟨its,r,p,_⟩:=I.list h;exact⟨its,r,p.isList⟩
section
variable{X:Cx}{elts:List Expr}{k:Nat}{tpos:Pos}
end
end L2
end
section
namespace PySem.SeqAt
open AutoSeq1 (wpAny_loadPart')
open MeetsSeq MeetsSeq2 MeetsSeq3 SeqRoads2
end PySem.SeqAt
namespace L2
open PySem PySem.Spec PyProof.Rows
section
variable{X:Cx}{o e:Expr}{es:List Expr}{to ta tb:TE}{t:TA}{apos cpos:Pos}
end
section
variable{X:Cx}{C:Addr}{m x:Str}{ps:List Str}{k:Nat}{sp:Sp}{e:Expr}{es:List Expr}{t:TA}{p pos apos:Pos}
end
theorem ES{α:Type}[DecidableEq α]{l:List α}:∀{zs:List α},l.Nodup->(∀y∈l,y∈zs)->l.length<=zs.length:=by
 induction l with
 |nil=>intro zs _ _;exact bF _
 |cons a r ih=>
  intro zs nd h
  obtain⟨na,nr⟩:=cB.mp nd
  have ha:a∈zs:=h a aL
  have:=ih (zs:=zs.erase a) nr λy hy=>(List.mem_erase_of_ne (λz=>na (by rw[<-z];exact hy))).mpr (h y (bx _ hy))
  rw[hZ ha] at this
  have:0<zs.length:=List.length_pos_of_mem ha
  simp only[bM]
  lia
section
variable{X:Cx}
theorem bN.drawn{pins:List (Addr×Obj)}{σ:St}{H:Hp}{s:Shared}{d:Drawn}(I:bN X pins σ H s):bN X pins σ H {s with drawn:=d}:=
 ⟨I.ok,I.os,I.bare,I.base,I.loc,I.cell,I.free,I.freeC,I.pin,I.hok,I.len⟩
end
def qY:Value->Int
 |.int i _=>i
 |_=>0
theorem xE:∀(vs:List Value),(∀v∈vs,∃x t,v=.int x t)->IntsAre vs (vs.map qY)
 |[],_=>.nil
 |v::r,h=>by
  obtain⟨x,t,rfl⟩:=h v aL
  exact .cons x t (xE r λu m=>h u (bx _ m))
section
variable{X:Cx}
theorem yz{pins:List (Addr×Obj)}{s:Shared}{σ:St}{H:Hp}{a:Addr}{ss dd:List Int}{m:Nat}{Q:VK}(hc:X.calm=true)(I:bN X pins σ H s)
  (T:BgSet.SetTb (jr X.prog X.w) s.heap a (λk=>decide (k∈ss)) m (!BgSet.byText X.w) false) (hd:∀x∈ss,x∈dd) (h64:dd.length<64)
  (q:∀(l:Addr) (ss':List Int),H l=none->ss'.Nodup->(∀x,x∈ss'↔x∈ss)->ss'.Pairwise (·<=·)->Q (.ref l) (upd H l (.lst (ss'.map V.int)))) :
  wpAny (model X.prog X.w) X.A (call (.builtin "sorted") [.ref a]) (EP X pins σ Q) X.xe s:=by
 obtain⟨o,es,ep,t,ho,hex,hdt,hel,hmem,hb,hf,hn,htb,hoff,hap⟩:=T
 have hh:X.A.handled=none:=I.ok.hd hc
 have hz:es.size<=sizeLine:=fits_of_scanBound hb
 refine Calls.call_function_entry kind_sorted plain_sorted entry_sorted (args_sorted1 _) ?_
 unfold Builtin.«sorted»
 refine wpAny_bind (m:=checkCount "sorted" 1 1 _) (wpAny_pure ?_)
 refine wpAny_bind (BgSet.set_collect (A:=X.A.in1) hh ⟨⟨o,ho,hex.1,hdt⟩,hf⟩ htb hz λh' d tk L hp hkp=>?_)
 have hall:∀e∈L,∃x t,e.2=.int x t:=λe he=>by
  obtain⟨⟨k,hk,_⟩,_⟩:=hel e (hp.mem_iff.mp he)
  obtain⟨t,ht⟩:=Value.isInt_shape hk
  exact⟨k,t,ht⟩
 have hS:IntsAre (L.map (·.2)) ((L.map (·.2)).map qY):=xE _ λv hv=>by
  obtain⟨e,he,rfl⟩:=bV.mp hv
  exact hall e he
 generalize hss:(L.map (·.2)).map qY=ss0 at hS
 have hmm:∀x,x∈ss0↔x∈ss:=λx=>by
  rw[<-hss,cx,bV]
  have:=hmem x
  rw[decide_eq_true_eq] at this
  rw[this]
  constructor
  ·rintro⟨e,he,rfl⟩
   obtain⟨y,t,hy⟩:=hall e he
   refine⟨e,hp.mem_iff.mp he,?_⟩
   show Value.isInt (qY e.2) e.2=true
   rw[hy];simp[qY,Value.isInt]
  ·rintro⟨e,he,hk⟩
   obtain⟨t,ht⟩:=Value.isInt_shape hk
   exact⟨e,hp.mem_iff.mpr he,by show qY e.2=x;rw[ht];rfl⟩
 have hnd:ss0.Nodup:=by
  rw[<-hss,cx]
  unfold List.Nodup
  rw[fq]
  refine List.Pairwise.imp_of_mem (λ{e e'} he he' r heq=>?_) (hap.perm hp)
  obtain⟨y,t,hy⟩:=hall e he
  obtain⟨y',t',hy'⟩:=hall e' he'
  have e1:y=y':=by have:qY e.2=qY e'.2:=heq;rw[hy,hy'] at this;exact this
  have h1:Value.isInt y e.2=true:=by rw[hy];simp[Value.isInt]
  have h2:Value.isInt y e'.2=false:=r y h1
  rw[hy',e1] at h2;simp[Value.isInt] at h2
 have hlen0:ss0.length<64:=fX (ES hnd λy hy=>hd y ((hmm y).mp hy)) h64
 have hl:(L.map (·.2)).length=ss0.length:=by rw[<-hss,ab,ab,ab]
 generalize L.map (·.2)=vs at hS hl ⊢
 have I0:bN X pins σ H {s with drawn:=d}:=I.drawn
 have I1:bN X pins σ H {s with heap:=h',drawn:=d,toks:=tk}:=I0.kept (s:={s with drawn:=d}) hkp
 refine wpAny_bind (wpAny_newList ?_ (by rw[hl];exact bn (bW hlen0) (by decide)))
 have hoL:(h'.push (seqObj "list" vs.toArray 0)).get? h'.objs.size=some (seqObj "list" vs.toArray 0):=aD _ rfl
 show wpAny _ _ _ _ _ {s with heap:=h'.push (seqObj "list" vs.toArray 0),drawn:=d,toks:=tk}
 refine wpAny_bind (wpAny_holding (wpAny_call_entry slot_list_sort ⟨_,hoL,rfl⟩ entry_list_sort (list_sort_tree hoL hS (by rw[hl];exact hlen0) λout ns' a1 a2 a3=>⟨_,rfl,?_⟩) (args_list_sort _)))
 refine wpAny_pure ⟨_,rfl,?_⟩
 obtain⟨e,he⟩:=sortedHeap_at (n:=0) (out:=out) hoL
 have hn:=qo a1
 have hlen:ns'.length=ss0.length:=a2.length_eq
 refine⟨.ref h'.objs.size,_,I1.laid (t':=tk) (λb u q1=>?_) (aw _) (show fA X.prog X.w _ _ _ (.lst (ns'.map V.int)) from⟨?_,out.toList,e,hn,?_⟩),rfl,
  q _ _ (I1.hok.fresh (aw _)) (a2.nodup_iff.mpr hnd) (λx=>by rw[a2.mem_iff];exact hmm x) a3⟩
 ·have lt:=aF q1
  rw[sortedHeap_old (aH lt) (by rw[size_push'];exact cG lt)]
  exact aj _ q1
 ·rw[ab,hlen];exact bn (bW hlen0) (by decide)
 ·rw[fj];exact he
def jp(K:Fg)(t:TA):TE:=λσ H Q=>t σ H λvs H1=>∃(p:Addr) (tp:Bool) (ss dd:List Int),vs=[.ref p]/\MN K tp H1 p (ss.map V.int)/\ss.length<=4000/\(∀x∈ss,x∈dd)/\dd.length<64/\
 ∀(l:Addr) (ss':List Int),H1 l=none->ss'.Nodup->(∀x,x∈ss'↔x∈ss)->ss'.Pairwise (·<=·)->Q (.ref l) (upd H1 l (.lst (ss'.map V.int)))
theorem ye{a:Expr}{ta:TA}{p1 p2 pos pos2:Pos}(hg:Gl X "sorted")(hg2:Gl X "set")(hm:X.mg "sorted"=none)(hm2:X.mg "set"=none)(hc:X.calm=true)(ha:PA X [a] ta)
  (hs2:starEach [a] X.env=[(false,eval a X.env)]:=by rfl) (hs:starEach [.Call (.Name "set" p2) [a] [] pos2] X.env=[(false,eval (.Call (.Name "set" p2) [a] [] pos2) X.env)]:=by rfl) :
  PE X (.Call (.Name "sorted" p1) [.Call (.Name "set" p2) [a] [] pos2] [] pos) (jp X.K ta):=by
 intro pins s σ H Q I h
 refine wpAny_Call_Name_kw (mx I hg hm boot_sorted ?_)
 refine PyProof.Rows.callWith_builtin1 ?_ hs rfl
 rw[hs]
 show wpAny _ _ (spliced ((false,eval (.Call (.Name "set" p2) [a] [] pos2) X.env)::backTo pos [])) _ _ s
 refine Calls.spliced_cons ?_
 refine wpAny_Call_Name_kw (mx I hg2 hm2 (show bootBuiltins "set"=some (.type "set") by kernel_rfl) ?_)
 refine cH (fV (ha pos2 pins s σ H _ I h) λus s1 ⟨vs,H1,I1,r1,q1⟩=>?_) hs2 rfl
 obtain⟨l,tp,ss,dd,rfl,hq,hlen,hdd,h64,q⟩:=q1
 obtain⟨u,rfl,rx⟩:=m5 r1
 cases rx
 obtain⟨its,rv,at_⟩:=I1.seqB hq
 have rl:=rv.length
 rw[ab] at rl
 have hS:=zR rv
 have hv:∀(i:Nat) k v,ss[i]?=some k->its.toArray[i]?=some v->(jr X.prog X.w).is k v=true/\v.scannable=true/\(false=true->plainKind v=false):=λi k v h1 h2=>by
  rw[gt] at h2
  obtain⟨t,ht⟩:=IntsAre.int_at hS i v h2
  have e:ss.getD i 0=k:=by rw[dy,h1];rfl
  rw[e] at ht
  subst ht
  exact⟨by show Value.isInt k (.int k t)=true;simp[Value.isInt],rfl,λz=>by cases z⟩
 have hb:its.toArray.size+1<scanBound:=by rw[ak,<-rl];unfold scanBound;lia
 have go:∀(h':Heap) (tk m:Nat),m<=its.toArray.size->BgSet.SetTb (jr X.prog X.w) h' s1.heap.objs.size (λk=>decide (k∈ss)) m (!BgSet.byText X.w) false->
   (∀b o,b<s1.heap.objs.size->s1.heap.get? b=some o->h'.get? b=some o)->
   wpAny (model X.prog X.w) X.A (spliced (backTo pos [])) (λvs s'=>wpAny (model X.prog X.w) X.A (call (.builtin "sorted") (.ref s1.heap.objs.size::vs)) (EP X pins σ Q) X.xe s') X.xe {s1 with heap:=h',toks:=tk}:=λh' tk m hm T kp=>by
  have I2:bN X pins σ H1 {s1 with heap:=h',toks:=tk}:=I1.kept λb u e=>kp b u (aF e) e
  exact Calls.spliced_nil (yz hc I2 T hdd h64 q)
 cases tp with
 |true=>exact BgSet.set_of_tuple (kd:=jr X.prog X.w) ss false (I1.ok.hd hc) at_ (by rw[ak];exact rl) hv hb go
 |false=>exact BgSet.set_of_list (kd:=jr X.prog X.w) ss false (I1.ok.hd hc) at_ (by rw[ak];exact rl) hv hb go
theorem kU{a:Expr}{ta:TA}{p1 p2 pos pos2:Pos}(hg:Gl X "sorted")(hg2:Gl X "set")(hm:X.mg "sorted"=none)(hm2:X.mg "set"=none)(hc:X.calm=true)(ha:QA X [a] ta)
  (hs2:starEach [a] X.env=[(false,eval a X.env)]:=by rfl) (hs:starEach [.Call (.Name "set" p2) [a] [] pos2] X.env=[(false,eval (.Call (.Name "set" p2) [a] [] pos2) X.env)]:=by rfl) :
  QE X (.Call (.Name "sorted" p1) [.Call (.Name "set" p2) [a] [] pos2] [] pos) (jp X.K ta):=⟨ye hg hg2 hm hm2 hc ha.up hs2 hs⟩
end
end L2
end
section
namespace Bg
open PySem L2
def A3(H:Hp)(rt:Addr)(rs:List ba):Prop:=∃rvs,H rt=some (.tup rvs)/\cK (dD H) rvs rs/\cp rs
theorem A3.same{H H':Hp}{rt:Addr}{rs:List ba}(h:A3 H rt rs)(s:aV H H'):A3 H' rt rs:=by
 obtain⟨rvs,a,b,c⟩:=h
 exact⟨rvs,s _ _ a,b.imp λ_ _ z=>dD.mono z (.of_same s),c⟩
def fH(_:Fg):Sp:=λvs H Q _=>∃(l:Addr) (ns:List Nat),vs=[.ref l]/\H l=some (.lst (aO ns))/\ns.length<=100/\
 ∀(d:Addr) (F:List Nat) (H':Hp),H' d=some (.dK (dG F))->F.Nodup->(∀t,t∈F↔t∈ns)->H d=none->aV H H'->Q (.ref d) H'
def dh(_:Fg):Sp:=λvs H Q _=>∃(rt:Addr) (rs:List ba),vs=[.ref rt]/\A3 H rt rs/\
 ∀(l:Addr) (ns:List Nat) (H':Hp),(∀t,t∈ns↔Ld rs t)->ns.Pairwise (·<·)->H' l=some (.lst (aO ns))->H l=none->aV H H'->Q (.ref l) H'
def gJ(_:Fg):Sp:=λvs H Q _=>∃(rt:Addr) (rs:List ba),vs=[.ref rt]/\A3 H rt rs/\
 ∀(l:Addr) (ns:List Nat) (H':Hp),(∀t,t∈ns↔Ln rs t)->ns.Pairwise (·<·)->H' l=some (.lst (aO ns))->H l=none->aV H H'->Q (.ref l) H'
def iY(_:Fg):Sp:=λvs H Q _=>∃(rt:Addr) (n:Nat) (rvs:List V) (rs:List ba),vs=[.ref rt,.int (n:Nat)]/\H rt=some (.tup rvs)/\cK (dD H) rvs rs/\cp rs/\n<rs.length/\Q (.int (Sd rs n:Nat)) H
abbrev xJ:Nat:=0
abbrev kK:Nat:=1
abbrev zT:Nat:=4
abbrev gE:Nat:=5
abbrev CT:Nat:=5
abbrev nK:Nat:=6
abbrev J0:Nat:=0
abbrev vC:Nat:=1
abbrev LI:Nat:=9
abbrev AX:Nat:=10
end Bg
end
section
namespace L2
open PySem PySem.Spec PyProof.Rows
section
variable{prog:Program}{w:World}{A:Around}{E:Value->Shared->Prop}{s:Shared}
theorem zO{t:Addr}{us:List Value}{R:List Value->Shared->Prop}(ht:IsTup s.heap t us.toArray)(hz:us.length<=sizeLine)
  (h:R us {s with heap:=(s.heap.push (seqObj "list" #[] 0)).update s.heap.objs.size (Obj.mapSeq (·++us.toArray))}):wpAny (model prog w) A (collect (.ref t)) R E s:=by
 obtain⟨o,ho,hc,n,hd⟩:=id ht
 unfold collect
 refine wpAny_bind (wpAny_runValue (codeAny_builtin entry_proto_collect' ?_))
 show wpAny _ _ (newList [] >>= λl=>again (.builtin "list.__iadd__" ⟨[l,.ref t],[]⟩)) _ _ s
 refine wpAny_bind (wpAny_newList (wpAny_pure ⟨plainId_quiet iF _,codeAny_builtin entry_list_iadd' ?_⟩))
 show wpAny _ _ (Builtin.List.listExtendWith (.ref s.heap.objs.size) (.ref t) (.ref s.heap.objs.size)) _ _ {s with heap:=s.heap.push (seqObj "list" #[] 0)}
 unfold Builtin.List.listExtendWith
 have g1:(s.heap.push (seqObj "list" #[] 0)).get? t=some o:=aj _ ho
 have g0:(s.heap.push (seqObj "list" #[] 0)).get? s.heap.objs.size=some (seqObj "list" #[] 0):=aD _ rfl
 refine wpAny_bind (wpAny_typeOf (T:="tuple") ⟨o,g1,hc⟩ ?_)
 have tt:(Value.type "tuple"==Value.type "tuple")=true:=by rfl
 rw[if_pos (by rw[tt];simp)]
 refine wpAny_bind (listItems_at g1 hd ?_)
 refine wpAny_bind (listItems_at (xs:=#[]) (n:=0) g0 rfl ?_)
 rw[if_neg (by simp)]
 refine wpAny_bind (listUpdate_at (xs:=#[]) (n:=0) g0 rfl ?_ (bF _) (by show(#[]++us.toArray).size<=sizeLine+1;rw[Array.size_append,ak];show 0+us.length<=sizeLine+1;lia))
 refine wpAny_pure ?_
 show wpAny (model prog w) A (load s.heap.objs.size >>= _) R E _
 refine wpAny_bind (wpAny_load (get?_update_seq g0 _) ?_)
 show wpAny _ _ (pure ((#[]:Array Value)++us.toArray).toList) R E _
 rw[show((#[]:Array Value)++us.toArray).toList=us by simp]
 exact wpAny_pure h
end
section
variable{X:Cx}
def BE(K:Fg):List V->Hp->VK->Prop:=λxs H Q=>∃(p:Addr) (ss:List Str),xs=[.ref p]/\dZ K H p (ss.map V.str)/\ss.length<64/\∀(l:Addr) (ss':List Str),H l=none->ss'.Perm ss->sortedS ss'=true->Q (.ref l) (upd H l (.lst (ss'.map V.str)))
theorem xk:ja X (.builtin "sorted") (BE X.K):=by
 intro pins s σ H xs us Q I r h
 obtain⟨p,ss,rfl,hq,h64,q⟩:=h
 obtain⟨u,rfl,rx⟩:=m5 r
 cases rx
 obtain⟨its,r',pl,hz⟩:=I.tuple hq
 have hl:=r'.length
 rw[ab] at hl
 have hS:=pY r'
 refine Calls.call_function_entry kind_sorted plain_sorted entry_sorted (args_sorted1 _) ?_
 unfold Builtin.«sorted»
 refine wpAny_bind (m:=checkCount "sorted" 1 1 _) (wpAny_pure ?_)
 refine wpAny_bind (zO pl (by rw[<-hl];exact bn (bW h64) (by decide)) ?_)
 have sz:((s.heap.push (seqObj "list" #[] 0)).update s.heap.objs.size (Obj.mapSeq (·++its.toArray))).objs.size=s.heap.objs.size+1:=by rw[Heap.size_update,size_push']
 have keep:∀b o,s.heap.get? b=some o->((s.heap.push (seqObj "list" #[] 0)).update s.heap.objs.size (Obj.mapSeq (·++its.toArray))).get? b=some o:=λb o e=>
  (cV _ _ (Ne.symm (aH (aF e)))).trans (aj _ e)
 generalize (s.heap.push (seqObj "list" #[] 0)).update s.heap.objs.size (Obj.mapSeq (·++its.toArray))=h' at sz keep ⊢
 have I1:bN X pins σ H {s with heap:=h'}:=I.kept (t':=s.toks) keep
 refine wpAny_bind (wpAny_newList ?_ (by rw[<-hl];exact bn (bW h64) (by decide)))
 have hoL:(h'.push (seqObj "list" its.toArray 0)).get? h'.objs.size=some (seqObj "list" its.toArray 0):=aD _ rfl
 show wpAny _ _ _ _ _ {s with heap:=h'.push (seqObj "list" its.toArray 0)}
 refine wpAny_bind (wpAny_holding (wpAny_call_entry slot_list_sort ⟨_,hoL,rfl⟩ entry_list_sort (list_sort_treeK strKind_oneLt hoL hS.keysOf (λv₁ v₂ rest e=>keyKind_strs (by rw[<-e];exact hS)) (by rw[<-hl];exact h64) λst' hp hs=>?_) (args_list_sort _)))
 obtain⟨ss',a1,a2,a3⟩:=sorted_out_str hS hp hs
 refine⟨_,rfl,?_⟩
 refine wpAny_pure ⟨_,rfl,?_⟩
 obtain⟨e,he⟩:=sortedHeap_at (n:=0) (out:=(arrOf st').map (·.2)) hoL
 have hn:=qR a1
 have hlen:ss'.length=ss.length:=a2.length_eq
 refine⟨.ref h'.objs.size,_,I1.laid (t':=s.toks) (λb u q1=>?_) (aw _) (show fA X.prog X.w _ _ _ (.lst (ss'.map V.str)) from⟨?_,((arrOf st').map (·.2)).toList,e,hn,?_⟩),rfl,q _ _ (I1.hok.fresh (aw _)) a2 a3⟩
 ·have lt:=aF q1
  rw[sortedHeap_old (aH lt) (by rw[size_push'];exact cG lt)]
  exact aj _ q1
 ·rw[ab,hlen];exact bn (bW h64) (by decide)
 ·rw[fj];exact he
end
end L2
end
section
namespace L2
open PySem PyProof.Rows
def zk(a b:Str):Prop:=¬(b.cps.toList<a.cps.toList)
theorem zk.trans{a b c:Str}(h:zk a b)(k:zk b c):zk a c:=λz=>by
 have h1:=kG.mp h
 have h2:=kG.mp k
 exact kG.mpr (List.le_trans h1 h2) z
theorem zk.anti{a b:Str}(h:zk a b)(k:zk b a):a=b:=by
 have:=List.le_antisymm (kG.mp h) (kG.mp k)
 cases a;cases b
 simp only[Str.mk.injEq]
 exact Array.toList_inj.mp this
theorem u8:∀(r:List Str) (p:Str),risingS p r=true->(p::r).Pairwise zk
 |[],p,_=>iD _ _
 |x::r,p,h=>by
  have h':(!PySem.Spec.ltCps x.cps.toList p.cps.toList&&risingS x r)=true:=h
  rw[Bool.and_eq_true,ltCps_eq] at h'
  have hx:zk p x:=by simpa[zk] using h'.1
  have ih:=u8 r x h'.2
  refine dq.mpr ⟨λy hy=>?_,ih⟩
  rcases aJ.mp hy with rfl|hy
  ·exact hx
  ·exact hx.trans ((dq.mp ih).1 y hy)
theorem qN:∀{l:List Str},sortedS l=true->l.Pairwise zk
 |[],_=>List.Pairwise.nil
 |x::r,h=>u8 r x h
theorem Ap:∀{l m:List Str},l.Pairwise zk->m.Pairwise zk->l.Nodup->m.Nodup->(∀x,x∈l↔x∈m)->l=m
 |[],[],_,_,_,_,_=>rfl
 |[],y::m,_,_,_,_,h=>absurd ((h y).mpr aL) (by simp)
 |x::l,[],_,_,_,_,h=>absurd ((h x).mp aL) (by simp)
 |x::l,y::m,hl,hm,nl,nm,h=>by
  have hl':=dq.mp hl
  have hm':=dq.mp hm
  have nl':=cB.mp nl
  have nm':=cB.mp nm
  have e:x=y:=by
   rcases aJ.mp ((h x).mp aL) with e|hx
   ·exact e
   ·rcases aJ.mp ((h y).mpr aL) with e|hy
    ·exact e.symm
    ·exact zk.anti (hl'.1 y hy) (hm'.1 x hx)
  subst e
  have:l=m:=Ap hl'.2 hm'.2 nl'.2 nm'.2 λz=>by
   constructor
   ·intro hz
    rcases aJ.mp ((h z).mp (bx _ hz)) with rfl|q
    ·exact absurd hz nl'.1
    ·exact q
   ·intro hz
    rcases aJ.mp ((h z).mpr (bx _ hz)) with rfl|q
    ·exact absurd hz nm'.1
    ·exact q
  rw[this]
end L2
end
section
namespace Bg
open PySem L2
def lH(b:List V)(x:V):List V:=(x::b).take b.length
def vU(n:Nat)(args:List V)(e:V):List V:=args.foldl lH (az n e)
def SeqAt(H:Hp)(a:Addr)(xs:List V):Prop:=H a=some (.lst xs)\/H a=some (.tup xs)
def gK(_:Fg):Sp:=λvs H Q _=>∃(b:Addr) (x:V) (xs:List V),vs=[.ref b,x]/\H b=some (.tup xs)/\xs≠[]/\xs.length<=1000/\
 ∀(p:Addr) (H':Hp),H' p=some (.tup (lH xs x))->aV H H'->Q (.ref p) H'
def iz(_:Fg):Sp:=λvs H Q _=>∃(n:Nat) (a:Addr) (e:V) (xs:List V),vs=[.int (n:Nat),.ref a,e]/\SeqAt H a xs/\1<=n/\n<=1000/\
 ∀(p:Addr) (H':Hp),H' p=some (.tup (vU n xs e))->aV H H'->Q (.ref p) H'
abbrev zU:Nat:=0
abbrev ma:Nat:=1
abbrev CS:Nat:=1
abbrev nJ:Nat:=2
section
variable(f:Nat->Nat)(p:Nat->Bool)
variable{f p}
end
def oV:Option Str->V
 |none=>.non
 |some y=>.str y
def j6(os:List (Option Str)):List V:=os.map oV
theorem wu(o:Option Str):iG (oV o)=true:=by cases o<;>rfl
theorem E2(os:List (Option Str)):(j6 os).all iG=true:=by
 rw[eT]
 intro v hv
 obtain⟨y,_,rfl⟩:=bV.mp hv
 exact wu y
theorem j7(os:List (Option Str)):(j6 os).length=os.length:=ab ..
theorem Kc{os:List (Option Str)}{i:Nat}{v:V}(h:(j6 os)[i]?=some v):∃o,os[i]?=some o/\v=oV o:=by
 unfold j6 at h
 rw[aC] at h
 cases e:os[i]? with
 |none=>rw[e] at h;cases h
 |some o=>rw[e] at h;exact⟨o,rfl,(Option.some.inj h).symm⟩
theorem Jm(a b:Option Str):xa (oV a) (oV b)=decide (a=b):=by
 cases a with
 |none=>cases b with
  |none=>rfl
  |some y=>rfl
 |some x=>cases b with
  |none=>rfl
  |some y=>
   show(x==y)=decide (some x=some y)
   rw[Bool.eq_iff_iff,beq_iff_eq,decide_eq_true_eq]
   exact⟨λh=>by rw[h],λh=>Option.some.inj h⟩
def gq(ns:List Str)(acc:List (Option Str))(o:Option Str):List (Option Str):=acc++[if o∈ns.map some/\o∉acc then o else none]
def BP(os:List (Option Str))(ns:List Str):List (Option Str):=os.foldl (gq ns) []
def jo(_:Fg):Sp:=λvs H Q _=>∃(b n:Addr) (os:List (Option Str)) (ns:List Str),vs=[.ref b,.ref n]/\H b=some (.tup (j6 os))/\H n=some (.tup (ns.map V.str))/\os.length<=1000/\
 ∀(p:Addr) (H':Hp),H' p=some (.tup (j6 (BP os ns)))->aV H H'->Q (.ref p) H'
abbrev EJ:Nat:=0
abbrev pj:Nat:=1
theorem rh(ns:List Str):∀(os acc:List (Option Str)),(os.foldl (gq ns) acc).length=acc.length+os.length
 |[],acc=>by simp
 |o::r,acc=>by
  rw[gk,rh ns r]
  unfold gq
  rw[ai,aS,bM]
  omega
theorem Jp(o:Option Str)(os:List (Option Str)):qX (oV o) (j6 os)=decide (o∈os):=by
 unfold qX j6
 rw[oZ,Bool.eq_iff_iff,gN,decide_eq_true_eq]
 constructor
 ·rintro⟨z,hz,e⟩
  have e':xa (oV z) (oV o)=true:=e
  rw[Jm,decide_eq_true_eq] at e'
  rw[<-e'];exact hz
 ·intro h
  exact⟨o,h,by show xa (oV o) (oV o)=true;rw[Jm];exact decide_eq_true rfl⟩
theorem Li(ns:List Str):ns.map V.str=j6 (ns.map some):=by unfold j6;rw[cx];rfl
end Bg
end
section
namespace BgRev
open PySem
theorem yp:Manifest.owners.lookup (String.ofList ['d','e','s','r','e','v','e','r'].reverse)=some Manifest.sig_reversed:=by kernel_rfl
theorem pP:Slot "reversed" "__next__" "reversed.__next__":=
 .of (owner:="reversed") (n:="__next__") (by rw[typeLookup_type,builtinLookup_eq_fast];kernel_rfl) (by decide +kernel) (by decide +kernel)
  (by decide +kernel) (by first|exact .inl (by decide +kernel)|exact .inr (by decide +kernel))
  (by rw[isSubtype_type];kernel_rfl)
theorem oq:entryFor table "reversed.__next__"=some Builtin.«reversed.__next__»:=entryFor_of_tree (by kernel_rfl)
theorem pQ(v:Value):argsOk "reversed.__next__" ⟨[v],[]⟩:=by
 unfold argsOk
 rw[signature?_of (id:="reversed.__next__") (n:=['_','_','t','x','e','n','_','_']) (o:=['d','e','s','r','e','v','e','r']) (by kernel_rfl) yp]
 kernel_rfl
theorem BG:Slot "reversed" "__iter__" "reversed.__iter__":=
 .of (owner:="reversed") (n:="__iter__") (by rw[typeLookup_type,builtinLookup_eq_fast];kernel_rfl) (by decide +kernel) (by decide +kernel)
  (by decide +kernel) (by first|exact .inl (by decide +kernel)|exact .inr (by decide +kernel))
  (by rw[isSubtype_type];kernel_rfl)
theorem uB:entryFor table "reversed.__iter__"=some Builtin.«dict_keyiterator.__iter__»:=
 entryFor_alias (id':="dict_keyiterator.__iter__") (by kernel_rfl) rfl (by decide +kernel) (by kernel_rfl)
theorem wL(v:Value):argsOk "reversed.__iter__" ⟨[v],[]⟩:=by
 unfold argsOk
 rw[signature?_of (id:="reversed.__iter__") (n:=['_','_','r','e','t','i','_','_']) (o:=['d','e','s','r','e','v','e','r']) (by kernel_rfl) yp]
 kernel_rfl
theorem IH:Slot "reversed" "__init__" "object.__init__":=
 .of (owner:="object") (n:="__init__") (by rw[typeLookup_type,builtinLookup_eq_fast];kernel_rfl) (by decide +kernel) (by decide +kernel)
  (by decide +kernel) (by first|exact .inl (by decide +kernel)|exact .inr (by decide +kernel))
  (by rw[isSubtype_type];kernel_rfl)
theorem qM:TypeCalled "reversed" "reversed.__new__" "object.__init__":=
 ⟨by decide +kernel,by decide +kernel,⟨_,_,F.mro_reversed⟩,F.made_reversed,by decide +kernel,by rw[isSubtype_type];kernel_rfl,IH⟩
theorem Ja:typeLookup (.type "tuple") "__reversed__"=pure none:=by rw[typeLookup_type,builtinLookup_eq_fast];kernel_rfl
end BgRev
end
section
namespace BgRev
open PySem PyProof.Rows
section
variable{prog:Program}{w:World}{A:Around}{E:Value->Shared->Prop}{s:Shared}
def rvObj(l:Addr)(i:Int):Obj:={cls:=.type "reversed",data:=.fields #[.ref l,rawInt i]}
theorem Hi{l:Addr}{its:Array Value}{Q:Value->Shared->Prop}(hl:IsTup s.heap l its)(hz:(its.size:Int)<2 ^ 63)
  (h:Q (.ref s.heap.objs.size) {s with heap:=s.heap.push (rvObj l ((its.size:Int)-1)),toks:=s.toks+1+1}) :
  codeAny (model prog w) A (.call (.builtin "reversed.__new__") ⟨[.type "reversed",.ref l],[]⟩) (wants Q E) s:=by
 refine codeAny_of_tree ?_
 show wpAny _ A.in1 (checkBuiltinCall "reversed.__new__" ⟨[.type "reversed",.ref l],[]⟩ >>= λ_=>again (.builtin "reversed.__new__" ⟨[.type "reversed",.ref l],[]⟩)) _ _ s
 refine wpAny_bind (wpAny_of_eq (F.newCall_reversed_1 _) (wpAny_pure ⟨plainId_quiet F.plain_reversed_new _,codeAny_builtin F.entry_reversed_new ?_⟩))
 rw[Around.under_plainId F.plain_reversed_new _]
 unfold Builtin.«reversed.__new__»
 refine wpAny_bind (wpAny_of_eq (newClass_reversed _) ?_)
 try dsimp only
 refine wpAny_bind (wpAny_of_eq (a:=()) (by first|rfl|kernel_rfl) ?_)
 refine wpAny_bind (wpAny_of_eq (a:=()) (by first|rfl|kernel_rfl) ?_)
 try dsimp only
 have ht:s.TypeIs (.ref l) "tuple":=hl.typeIs
 refine wpAny_bind (wpAny_specialOf ht Ja ?_)
 refine wpAny_bind ?_
 wp_delta
 refine wpAny_bind (wpAny_isInstance (T:="tuple") (b:=false) ht F.sub_tuple_dict ?_)
 simp only[Bool.false_eq_true,if_false]
 refine wpAny_bind (wpAny_specialOf ht F.slot_tuple_getitem.lookup ?_)
 refine wpAny_ite_split (λ_=>?_) (λc=>absurd (by decide +kernel) c)
 refine wpAny_pure ?_
 simp only[Bool.not_true,Bool.false_eq_true,if_false]
 refine wpAny_bind (len_tuple hl hz ?_)
 refine wpAny_bind (wpAny_of_eq (a:=some (its.size:Int)) rfl ?_)
 dsimp only
 refine wpAny_bind ?_
 unfold Builtin.SmallTypes.newRecord
 exact wpAny_newObj_type (wpAny_pure h)
def RvAt(h:Heap)(it l:Addr)(i:Int):Prop:=h.get? it=some {cls:=.type "reversed",dict:=none,data:=.fields #[.ref l,.int i 0],slots:=#[]}
theorem RvAt.type{it l:Addr}{i:Int}(x:RvAt s.heap it l i):s.TypeIs (.ref it) "reversed":=⟨_,x,rfl⟩
theorem call_rev{l:Addr}{its:Array Value}{Q:Value->Shared->Prop}(hl:IsTup s.heap l its)(hz:(its.size:Int)<2 ^ 63)
  (h:∀tk,Q (.ref s.heap.objs.size) {s with heap:=s.heap.push (rvObj l ((its.size:Int)-1)),toks:=tk}):wpAny (model prog w) A (call (.type "reversed") [.ref l]) Q E s:=by
 refine callType_codes (Q₁:=λv s1=>v=.ref s.heap.objs.size/\s1={s with heap:=s.heap.push (rvObj l ((its.size:Int)-1)),toks:=s.toks+1+1}) qM (F.typeCall_reversed_1 _) F.entry_object_init
  (Hi hl hz ⟨rfl,rfl⟩) ?_
 rintro obj s1 ⟨rfl,rfl⟩
 have ht:Shared.TypeIs {s with heap:=s.heap.push (rvObj l ((its.size:Int)-1)),toks:=s.toks+1+1} (.ref s.heap.objs.size) "reversed":=⟨_,aD _ rfl,rfl⟩
 exact⟨ht,F.args_object_init_2 _ _,object_init_meets qM.init.lookup qM.made (by decide) prog w A.in1 _ _ ⟨ht,rfl,h _⟩⟩
theorem next_rev{it l:Addr}{i:Nat}{its:Array Value}{x:Value}{Q:Option Value->Shared->Prop}(hit:RvAt s.heap it l (i:Int))(hl:IsTup s.heap l its)
  (hz:(its.size:Int)<2 ^ 63) (hx:its[i]?=some x) (hQ:∀h' tk,RvAt h' it l ((i:Int)-1)->Heap.SameBut it s.heap h'->Q (some x) {s with heap:=h',toks:=tk}):wpAny (model prog w) A (pyNext (.ref it)) Q E s:=by
 unfold pyNext
 refine wpAny_bind (wpAny_attempt (wpAny_callSpecial?_slot (name:=Str.ofString "__next__") hit.type pP (wpAny_call_entry pP hit.type oq ?_ (pQ _))))
 unfold Builtin.«reversed.__next__»
 refine wpAny_bind (m:=slotArgs _ _ _) (wpAny_pure ?_)
 refine wpAny_bind (wpAny_field hit rfl (x:=.ref l) rfl ?_)
 refine wpAny_bind (wpAny_field hit rfl (x:=.int (i:Int) 0) rfl ?_)
 dsimp only
 rw[if_neg (by omega)]
 have ht:s.TypeIs (.ref l) "tuple":=hl.typeIs
 refine wpAny_bind (wpAny_specialOf ht F.slot_tuple_getitem.lookup ?_)
 simp only[Option.isNone_some,Bool.false_eq_true,if_false]
 have hlt:i<its.size:=(eV.mp hx).1
 refine wpAny_bind (wpAny_mkInt ?_)
 refine wpAny_bind (wpAny_attempt (getItem_tuple (s:={s with toks:=s.toks+1}) (j:=i) hl (by omega) (by omega) (by unfold seqIndex?;rw[if_neg (show ¬((i:Int)<0) by omega)];simp;omega) hx ?_))
 dsimp only
 refine wpAny_bind (wpAny_field hit rfl (x:=.int (i:Int) 0) rfl ?_)
 dsimp only
 refine wpAny_bind (wpAny_setField_rec (s:={s with toks:=s.toks+1}) hit (by simp) λh1 g1 sb1=>?_)
 refine wpAny_pure ⟨_,rfl,wpAny_pure (hQ h1 _ ?_ sb1)⟩
 unfold RvAt
 rw[g1]
 simp[rawInt]
theorem stop_rev{it l:Addr}{Q:Option Value->Shared->Prop}(hh:A.handled=none)(hit:RvAt s.heap it l (-1))(hQ:∀h',Heap.ExtBut it s.heap h'->Q none {s with heap:=h'}):wpAny (model prog w) A (pyNext (.ref it)) Q E s:=by
 unfold pyNext
 refine wpAny_bind (wpAny_attempt (wpAny_callSpecial?_slot (name:=Str.ofString "__next__") hit.type pP (wpAny_call_entry pP hit.type oq ?_ (pQ _))))
 unfold Builtin.«reversed.__next__»
 refine wpAny_bind (m:=slotArgs _ _ _) (wpAny_pure ?_)
 refine wpAny_bind (wpAny_field hit rfl (x:=.ref l) rfl ?_)
 refine wpAny_bind (wpAny_field hit rfl (x:=.int (-1) 0) rfl ?_)
 dsimp only
 rw[if_pos (by decide)]
 refine wpAny_bind (wpAny_rule ?_)
 refine wpAny_bind ?_
 wp_delta
 refine wpAny_bind (wpAny_setField_rec hit (by simp) λh1 g1 sb1=>?_)
 refine wpAny_setField_rec g1 (by simp) λh2 g2 sb2=>?_
 refine wpAny_bind ?_
 unfold Builtin.SmallTypes.stopIteration
 refine wpAny_bind ?_
 simp only[newExc,newTuple]
 refine wpAny_bind (wpAny_newObj_type ?_ (by size_fits))
 refine wpAny_bind (m:=firstArgMember _ _) (wpAny_of_eq (a:=Value.none) (by first|rfl|(simp only[firstArgMember];rfl)) ?_)
 refine wpAny_newObj_type ?_ (by size_fits)
 simp only[raiseNew]
 refine wpAny_bind (wpAny_handled ?_)
 rw[show A.in1.handled=none from hh]
 refine wpAny_bind (wpAny_pure (wpAny_throw ?_))
 refine wpAny_bind (wpAny_isInstance (T:="StopIteration") (b:=true) ⟨_,aD _ rfl,rfl⟩ isSubtype_stop ?_)
 exact wpAny_pure (hQ _ (((sb1.trans sb2).extBut.push _).push _))
theorem self_rev{it l:Addr}{i:Int}{Q:Value->Shared->Prop}(hit:RvAt s.heap it l i)(h:Q (.ref it) s):wpAny (model prog w) A (pyIter (.ref it)) Q E s:=by
 refine wpAny_pyIter_slot hit.type BG (wpAny_call_entry BG hit.type uB ?_ (wL _))
 show wpAny _ _ (ret (.ref it)) _ _ s
 exact wpAny_pure ⟨_,rfl,"reversed",_,hit.type,pP.lookup,h⟩
end
end BgRev
end
section
namespace L2
open PySem PySem.Spec PyProof.Rows
def D5(K:Fg)(a:Addr)(xs:List V):It:=
 ⟨λi H=>dZ K H a xs/\i<xs.length,λi H x H'=>H'=H/\xs.reverse[i]?=some x,λi H=>dZ K H a xs/\xs.length<=i⟩
theorem Gm{P:Program}{w:World}{K:Fg}{tg:Expr}(a it:Addr)(xs:List V)(hz0:xs.length<=sizeLine):uo P w K tg (D5 K a xs) [it] it (λi h=>BgRev.RvAt h it a ((xs.length:Int)-1-(i:Int))/\i<=xs.length) where
 mem:=by simp
 obj:=λi h st b hb=>by
  have e:b=it:=by simpa using hb
  subst e
  exact⟨_,st.1,λv z=>by have z':Data.fields _=Data.cell v:=z;cases z'⟩
 keep:=λi h h' st k=>⟨k it (by simp) _ st.1,st.2⟩
 item:=by
  intro X hP hw hK hc i pins s σ H E I hf st hg
  subst hP hw hK
  obtain⟨hq,hi⟩:=hg
  obtain⟨its,rv,p,hz⟩:=I.tuple hq
  have rl:=rv.length
  obtain⟨x,hx⟩:∃x,xs[xs.length-1-i]?=some x:=⟨_,aa (by lia)⟩
  obtain⟨u,hu,ru⟩:=rv.get hx
  obtain⟨f0,f1,f2,f3,f4,f5⟩:=hf it (by simp)
  have st1:=st.1
  rw[show(xs.length:Int)-1-(i:Int)=((xs.length-1-i:Nat):Int) by lia] at st1
  have hzz:(its.toArray.size:Int)<2 ^ 63:=by
   have:its.toArray.size<=sizeLine:=by rw[ak,<-rl];exact hz
   have h2:sizeLine<2 ^ 63:=by decide
   lia
  refine BgRev.next_rev st1 p hzz (x:=u) (by simpa using hu) λh' tk st' sb=>?_
  have I1:bN X pins σ H {s with heap:=h',toks:=tk}:=I.turned (t':=tk) (λb o hb e=>(sb.2 b hb).trans e) f0 f1 f3 f4 f5
  have hrv:xs.reverse[i]?=some x:=by
   rw[List.getElem?_reverse hi];exact hx
  refine⟨u,rfl,xC (s:={s with heap:=h',toks:=tk}) st' rfl rfl (by decide) ⟨x,H,I1,ru,⟨rfl,hrv⟩,⟨?_,hi⟩,λb hb=>(hf b hb).1⟩⟩
  rw[show(xs.length:Int)-1-((i+1:Nat):Int)=((xs.length-1-i:Nat):Int)-1 by lia]
  exact st'
 done:=by
  intro X hP hw hK hc i pins s σ H E I hf st hg
  subst hP hw hK
  obtain⟨hq,hx⟩:=hg
  obtain⟨f0,f1,f2,f3,f4,f5⟩:=hf it (by simp)
  have st1:=st.1
  have st2:=st.2
  rw[show(xs.length:Int)-1-(i:Int)=-1 by lia] at st1
  exact BgRev.stop_rev (I.ok.hd hc) st1 λh' eb=>⟨rfl,I.turned (t':=s.toks) (λb o hb e=>eb b o hb e) f0 f1 f3 f4 f5⟩
 self:=λ_ _ _ _ _ st h=>BgRev.self_rev st.1 h
section
variable{X:Cx}{tg:Expr}
def EC(K:Fg)(tl:TA):TI:=λσ H R=>tl σ H λvs H1=>∃a xs,vs=[.ref a]/\dZ K H1 a xs/\R (D5 K a xs) H1
theorem HR{a:Expr}{ta:TA}{p pos:Pos}(hg:Gl X "reversed")(hm:X.mg "reversed"=none)(ha:PA X [a] ta)(hs:starEach [a] X.env=[(false,eval a X.env)]:=by rfl) :
  PI X tg (.Call (.Name "reversed" p) [a] [] pos) (EC X.K ta):=by
 intro pins s σ H R I h
 refine Call_ (mx I hg hm boot_reversed (cH (fV (ha pos pins s σ H _ I h) λus s1 ⟨vs,H1,I1,r1,q1⟩=>?_) hs rfl))
 obtain⟨l,xs,e,hq,q⟩:=q1
 subst e
 cases r1 with
 |cons r rr=>
  cases rr
  cases r
  obtain⟨its,rv,p,hz⟩:=I1.tuple hq
  have rl:=rv.length
  have hzz:(its.toArray.size:Int)<2 ^ 63:=by
   have:its.toArray.size<=sizeLine:=by rw[ak,<-rl];exact hz
   have h2:sizeLine<2 ^ 63:=by decide
   lia
  refine BgRev.call_rev p hzz λtk=>?_
  have at_:BgRev.RvAt (s1.heap.push (BgRev.rvObj l ((its.toArray.size:Int)-1))) s1.heap.objs.size l ((xs.length:Int)-1-((0:Nat):Int)):=by
   have:(s1.heap.push (BgRev.rvObj l ((its.toArray.size:Int)-1))).get? s1.heap.objs.size=some (BgRev.rvObj l ((its.toArray.size:Int)-1)):=aD _ rfl
   unfold BgRev.RvAt
   rw[this,ak,<-rl]
   simp[BgRev.rvObj,rawInt]
  refine BgRev.self_rev (s:={s1 with heap:=s1.heap.push (BgRev.rvObj l ((its.toArray.size:Int)-1)),toks:=tk}) at_ ?_
  refine⟨s1.heap.objs.size,[s1.heap.objs.size],_,_,H1,rfl,I1.kept (t':=tk) λb o e=>aj _ e,Gm l _ xs hz,⟨at_,bF _⟩,λb hb=>?_,q⟩
  have e:b=s1.heap.objs.size:=by simpa using hb
  subst e
  exact I1.fpOk (aw _) (I1.hok.fresh (aw _))
theorem Il{a:Expr}{ta:TA}{p pos:Pos}(hg:Gl X "reversed")(hm:X.mg "reversed"=none)(ha:QA X [a] ta)(hs:starEach [a] X.env=[(false,eval a X.env)]:=by rfl) :
  QI X tg (.Call (.Name "reversed" p) [a] [] pos) (EC X.K ta):=⟨HR hg hm ha.up hs⟩
end
theorem GZ{K:Fg}{a:Addr}{xs:List V}{g:TG}{tb:TS}{D:og}{σ:St}{H:Hp}(Pv:Nat->St->Hp->Prop)(h0:Pv 0 σ H)(hl:∀i σ H,i<=xs.length->Pv i σ H->dZ K H a xs)
  (hs:∀i x σ H,xs.reverse[i]?=some x->Pv i σ H->g x σ H λσ2 H2=>tb {D with nx:=Pv (i+1),ct:=Pv (i+1),bk:=D.nx} σ2 H2) (hd:∀σ H,Pv xs.length σ H->D.nx σ H) :
  ∃W:Nat->Nat->St->Hp->Prop,(∃m,W 0 m σ H)/\∀i m σ H,W i m σ H->
   ((D5 K a xs).stop i H/\D.nx σ H)\/((D5 K a xs).go i H/\∃N:St->Hp->Prop,(∀σ' H',N σ' H'->∃m',m'<m/\W (i+1) m' σ' H')/\∀x H',(D5 K a xs).yld i H x H'->g x σ H' λσ2 H2=>tb {D with nx:=N,ct:=N,bk:=D.nx} σ2 H2):=by
 refine⟨λi m σ H=>m=xs.length-i/\i<=xs.length/\Pv i σ H,⟨xs.length,by simp,bF _,h0⟩,?_⟩
 rintro i m σ H ⟨rfl,hi,p⟩
 have q:=hl i σ H hi p
 by_cases lt:i<xs.length
 ·refine .inr ⟨⟨q,lt⟩,Pv (i+1),λσ' H' p'=>⟨xs.length-(i+1),by lia,rfl,lt,p'⟩,λx H' y=>?_⟩
  obtain⟨e,y⟩:=y
  subst e
  exact hs i x σ _ y p
 ·have e:i=xs.length:=by lia
  subst e
  exact .inl ⟨⟨q,aw _⟩,hd σ H p⟩
end L2
end
section
namespace Bg
open PySem L2
structure zw(K:Fg):Prop where
 cl:Jd K (cT K "Outline")
 n1:jL K (cT K "Outline") "params"
 n2:jL K (cT K "Outline") "rows"
 n3:jL K (cT K "Outline") "wants"
 n4:jL K (cT K "Outline") "first"
 n5:jL K (cT K "Outline") "led"
 n6:jL K (cT K "Outline") "heads"
def M7(pa rt wd ld hd:Addr)(fi:Nat):List (Str×V):=[("params",.ref pa),("rows",.ref rt),("wants",.ref wd),("first",.int (fi:Nat)),("led",.ref ld),("heads",.ref hd)]
def DZ(H:Hp)(wd:Addr)(rs:List ba):Prop:=∃(ns:List Nat) (ts:List Addr) (wss:List (List Str)) (ss:List Str),H wd=some (.dK ((ns.map nk).zip (ts.map V.ref)))/\ts.length=ns.length/\(∀m,m∈ns↔dm rs m)/\ns.Pairwise (·<·)/\(∀(j:Nat) t ws,ts[j]?=some t->wss[j]?=some ws->H t=some (.tup (ws.map V.str)))/\JI rs ns wss ss
structure Ws(rs:List ba)(n:Nat)(ws:List Str):Prop where
 srt:ws.Pairwise zk
 nd:ws.Nodup
 mem:∀y,y∈ws↔D0 rs y n
structure Mi(rs:List ba)(zs:List Str):Prop where
 r100:∀r∈rs,(eN r).length<=100
 z64:zs.length<=6
 zin:∀r∈rs,∀y∈eN r,y∈zs
def GI(H:Hp)(pt:Addr)(ps:List Str)(rt:Addr):Prop:=∃(wv:V) (pa:Addr),H pt=some (.tup [wv,.ref pa,.ref rt])/\H pa=some (.tup (ps.map V.str))
def JG(K:Fg)(H:Hp)(o:Addr)(rs:List ba)(ps:List Str):Prop:=∃(dx pa rt wd ld hd:Addr) (F:List Nat),H o=some (.ins (cT K "Outline") dx (M7 pa rt wd ld hd (Sd rs 0)))/\H pa=some (.tup (ps.map V.str))/\A3 H rt rs/\DZ H wd rs/\H ld=some (.dK (dG F))/\(∀t,t∈F↔Ld rs t)
def eI(K:Fg):Sp:=λvs H Q _=>∃(x dx pt rt:Addr) (rs:List ba) (ps zs:List Str),vs=[.ref x,.ref pt]/\H x=some (.ins (cT K "Outline") dx [])/\GI H pt ps rt/\A3 H rt rs/\Mi rs zs/\x≠pt/\
 ∀(H':Hp),JG K H' x rs ps->fh x H H'->Q .non H'
def Dm(ws:List Str)(pl:Nat):List (Option Str):=ws.map some++az (pl-ws.length) none
def yd(ps ws:List Str)(pl:Nat):List (Option Str):=(ps.reverse.map (λy=>if y∈ws then some y else none)++az pl none).take pl
def JH(H:Hp)(v:V)(os:List (Option Str)):Prop:=∃p,v=.ref p/\H p=some (.tup (j6 os))
def e7(K:Fg):Sp:=λvs H Q _=>∃(o:Addr) (pl:Nat) (rs:List ba) (ps ws:List Str),vs=[.ref o,.int (pl:Nat)]/\JG K H o rs ps/\Ws rs (Sd rs 0) ws/\ps.Nodup/\ps.length<=100/\1<=pl/\pl<=100/\
 ∀(v:V) (H':Hp),JH H' v (yd ps ws pl)->aV H H'->Q v H'
def fM(K:Fg):Sp:=λvs H Q _=>∃(o:Addr) (n pl:Nat) (rs:List ba) (ps ws:List Str),vs=[.ref o,.int (n:Nat),.int (pl:Nat)]/\JG K H o rs ps/\Ws rs n ws/\Ln rs n/\ps.Nodup/\ps.length<=100/\ws.length<pl/\pl<=100/\
 ∀(v:V) (H':Hp) (os:List (Option Str)),JH H' v os->(Ld rs n->os=Dm ws pl)->(¬Ld rs n->os=yd ps ws pl)->aV H H'->Q v H'
def iA(K:Fg):Sp:=λvs H Q _=>∃(pt rt:Addr) (n pl:Nat) (rs:List ba) (ps ws zs:List Str),vs=[.ref pt,.int (n:Nat),.int (pl:Nat)]/\GI H pt ps rt/\A3 H rt rs/\Mi rs zs/\Ws rs n ws/\Ln rs n/\ps.Nodup/\ps.length<=100/\ws.length<pl/\pl<=100/\
 ∀(v:V) (H':Hp) (os:List (Option Str)),JH H' v os->(Ld rs n->os=Dm ws pl)->(¬Ld rs n->os=yd ps ws pl)->aV H H'->Q v H'
def oU(_:Fg):Sp:=λvs H Q _=>∃(rt:Addr) (rs:List ba),vs=[.ref rt]/\A3 H rt rs/\
 ∀(p l:Addr) (ns:List Nat) (H':Hp),(∀t,t∈ns↔Ld rs t)->ns.Pairwise (·<·)->H' p=some (.lst [.ref l,.int (Sd rs 0:Nat)])->H' l=some (.lst (aO ns))->aV H H'->Q (.ref p) H'
def kE(_:Fg):Sp:=λvs H Q _=>∃(pt rt l wt:Addr) (n pl:Nat) (ns:List Nat) (ps ws:List Str),vs=[.ref pt,.int (n:Nat),.ref l,.int (pl:Nat),.ref wt]/\GI H pt ps rt/\H l=some (.lst (aO ns))/\H wt=some (.tup (ws.map V.str))/\ws.Pairwise zk/\ws.Nodup/\ws.length<64/\ps.length<=100/\ws.length<pl/\pl<=100/\
 ∀(v:V) (H':Hp),JH H' v (if n∈ns then Dm ws pl else yd ps ws pl)->aV H H'->Q v H'
abbrev sV:Nat:=6
abbrev iQ:Nat:=7
abbrev uu:Nat:=2
abbrev jt:Nat:=3
abbrev wc:Nat:=3
abbrev jZ:Nat:=4
abbrev CV:Nat:=8
abbrev nM:Nat:=9
abbrev LJ:Nat:=1
abbrev AY:Nat:=2
abbrev G9:Nat:=0
abbrev rS:Nat:=1
end Bg
end
section
namespace Bg
open PySem PySem.Spec PyProof.Rows L2
abbrev fY:List Str:=["numbers"]
abbrev kN:List Str:=["numbers"]
def rj(K:Fg):TS:=(dt (iI (nY K) (ao (jX [] 1 (jF K (au 0)) (bb 1) qP (gu (ao (au 1) (ao (tC (.bl true)) aP)))) aP)))
abbrev ip:List Str:=["rows"]
abbrev qr:List Str:=["rows"]
def vq(K:Fg):TS:=(dt (jp K (ao (bA (cN K) (gM (ao (bE (cw K) [] E0 (ao (au 0) (ao (tC (.int 0)) aP))) aP)) (bE (dh K) [] E0 (ao (au 0) aP))) aP)))
abbrev d7:List Str:=["rows"]
abbrev oH:List Str:=["rows","led","n"]
def mP(K:Fg):TS:=(dt (iI At (ao (au 1) aP)))
def p0(K:Fg):TS:=(eP (wO (cb (bA (As K) (bA (dN K) (bA (dN K) (au 0) (au 2)) (tC (.int 0))) (tC (.str "give")))) (JA (cb (bA (iy K) (bA (dN K) (bA (dN K) (au 0) (bA (cN K) (au 2) (tC (.int 1)))) (tC (.int 0))) (tC (.str "jump")))) (cb (bA (iy K) (bA (cN K) (au 2) (tC (.int 1))) (bE (cw K) [] E0 (ao (au 0) (ao (tC (.int 0)) aP))))))) (ci (tC (.bl true)) (oi (au 1) (bE (cw K) [] E0 (ao (au 0) (ao (bA (cN K) (au 2) (tC (.int 1))) aP))) u6)) cO)
def p9(K:Fg):TS:=(bB (eP (cb (bA (iy K) (bA (dN K) (bA (dN K) (au 0) (au 2)) (tC (.int 0))) (tC (.str "test")))) (ci (tC (.bl true)) (oi (au 1) (bE (cw K) [] E0 (ao (au 0) (ao (bE (eD K) [] E0 (ao (bA (dN K) (au 0) (au 2)) aP)) aP))) u6)) cO) (p0 K))
def qa(K:Fg):TS:=(bB (jQ (jF K (bE (cX K) [] E0 (ao (au 0) aP))) (bb 2) (p9 K)) (mP K))
def ub(K:Fg):TS:=(bB (ci tR (bb 1)) (qa K))
abbrev mf:List Str:=["_law_rows","_law_n"]
abbrev zu:List Str:=["_law_rows","_law_n"]
def FX(K:Fg):TS:=(dt (au 1))
def FY(K:Fg):TS:=(ci (bA (dN K) (bA (dN K) (au 0) (au 1)) (tC (.int 1))) (bb 1))
def FW(K:Fg):TS:=(bB (mN (cb (bA (iy K) (bA (dN K) (bA (dN K) (au 0) (au 1)) (tC (.int 0))) (tC (.str "jump")))) (FY K)) (FX K))
abbrev gF:List Str:=["belt","thing"]
abbrev oI:List Str:=["belt","thing"]
def uc(K:Fg):TS:=(dt (BT (Ds K) (bA (cN K) (gu (ao (au 1) aP)) (au 0)) gy (kX (iI (jP K) (ao (au 0) aP)))))
abbrev io:List Str:=["places","args","empty"]
abbrev qp:List Str:=["places","args","empty","belt","arg"]
def rm(K:Fg):TS:=(dt (au 3))
def rn(K:Fg):TS:=(ci (bE (gK K) [] E0 (ao (au 3) (ao (au 4) aP))) (bb 3))
def rp(K:Fg):TS:=(bB (jQ (jF K (au 1)) (bb 4) (rn K)) (rm K))
def vp(K:Fg):TS:=(bB (ci (bA (gH K) (gu (ao (au 2) aP)) (au 0)) (bb 3)) (rp K))
abbrev jg:List Str:=["belt","names"]
abbrev sk:List Str:=["belt","names","told","thing"]
def AN(K:Fg):TS:=(dt (iI (ie K) (ao (au 2) aP)))
def AO(K:Fg):TS:=(i4 (vh K "list" eC (au 2) (ao (MG (wO (cb (bA ((zo K false)) (au 3) (au 1))) (cb (bA ((zo K true)) (au 3) (au 2)))) (au 3) (tC .non)) aP)))
def ud(K:Fg):TS:=(bB (jQ (jF K (au 0)) (bb 3) (AO K)) (AN K))
def za(K:Fg):TS:=(bB (ci (gM aP) (bb 2)) (ud K))
abbrev eF:List Str:=["self","part"]
abbrev ku:List Str:=["self","part","led"]
def lN(K:Fg):TS:=(yq K (au 0) (bE (fH K) [] E0 (ao (bA (cN K) (gM (ao (wP K (au 0) "first") aP)) (au 2)) aP)) "heads")
def lO(K:Fg):TS:=(bB (yq K (au 0) (bE (fH K) [] E0 (ao (au 2) aP)) "led") (lN K))
def lP(K:Fg):TS:=(bB (ci (bE (dh K) [] E0 (ao (bA (dN K) (au 1) (tC (.int 2))) aP)) (bb 2)) (lO K))
def lQ(K:Fg):TS:=(bB (yq K (au 0) (bE (cw K) [] E0 (ao (bA (dN K) (au 1) (tC (.int 2))) (ao (tC (.int 0)) aP))) "first") (lP K))
def lR(K:Fg):TS:=(bB (yq K (au 0) (bE (eS K) [] E0 (ao (bA (dN K) (au 1) (tC (.int 2))) aP)) "wants") (lQ K))
def lS(K:Fg):TS:=(bB (yq K (au 0) (bA (dN K) (au 1) (tC (.int 2))) "rows") (lR K))
def nB(K:Fg):TS:=(bB (yq K (au 0) (bA (dN K) (au 1) (tC (.int 1))) "params") (lS K))
abbrev eX:List Str:=["outline","places"]
abbrev kZ:List Str:=["outline","places"]
def oz(K:Fg):TS:=(dt (bE (jo K) [] E0 (ao (bE (iz K) [] E0 (ao (au 1) (ao (wP K (au 0) "params") (ao (tC .non) aP)))) (ao (nA (wP K (au 0) "wants") (wP K (au 0) "first")) aP))))
def lw(i:Nat):Stmt:=PySem.Challenge.pw_beltgarth_k71_heads_and_orders.main.body.getD i (.Pass ⟨0,0,0,0⟩)
abbrev ge:Stmt:=lw 1
theorem rc:cf oI gF (ap ge):=⟨rfl,rfl,rfl,by decide +kernel,rfl,by decide +kernel,by decide +kernel⟩
abbrev gW:Stmt:=lw 2
theorem tI:cf qp io (ap gW):=⟨rfl,rfl,rfl,by decide +kernel,rfl,by decide +kernel,by decide +kernel⟩
abbrev iW:Stmt:=lw 4
theorem ve:cf sk jg (ap iW):=⟨rfl,rfl,rfl,by decide +kernel,rfl,by decide +kernel,by decide +kernel⟩
abbrev g7:Stmt:=lw 6
theorem tM:cf qw ir (ap g7):=⟨rfl,rfl,rfl,by decide +kernel,rfl,by decide +kernel,by decide +kernel⟩
abbrev iX:Stmt:=lw 7
theorem vf:cf so gQ (ap iX):=⟨rfl,rfl,rfl,by decide +kernel,rfl,by decide +kernel,by decide +kernel⟩
abbrev iV:Stmt:=lw 8
theorem vd:cf sj fS (ap iV):=⟨rfl,rfl,rfl,by decide +kernel,rfl,by decide +kernel,by decide +kernel⟩
abbrev gY:Stmt:=lw 9
theorem tK:cf qt fZ (ap gY):=⟨rfl,rfl,rfl,by decide +kernel,rfl,by decide +kernel,by decide +kernel⟩
abbrev gf:Stmt:=lw 10
theorem re:cf oJ dv (ap gf):=⟨rfl,rfl,rfl,by decide +kernel,rfl,by decide +kernel,by decide +kernel⟩
abbrev eG:Stmt:=lw 11
theorem rf:cf oK gG (ap eG):=⟨rfl,rfl,rfl,by decide +kernel,rfl,by decide +kernel,by decide +kernel⟩
abbrev eR:Stmt:=lw 12
theorem pU:cf kO dC (ap eR):=⟨rfl,rfl,rfl,by decide +kernel,rfl,by decide +kernel,by decide +kernel⟩
abbrev eZ:Stmt:=lw 14
theorem rg:cf kx fB (ap eZ):=⟨rfl,rfl,rfl,by decide +kernel,rfl,by decide +kernel,by decide +kernel⟩
abbrev lm:Stmt:=lw 15
theorem BK:cf vK mh (ap lm):=⟨rfl,rfl,rfl,by decide +kernel,rfl,by decide +kernel,by decide +kernel⟩
abbrev mH:Stmt:=lw 16
theorem BL:cf zv mi (ap mH):=⟨rfl,rfl,rfl,by decide +kernel,rfl,by decide +kernel,by decide +kernel⟩
abbrev lp:Stmt:=lw 17
theorem BM:cf vL mj (ap lp):=⟨rfl,rfl,rfl,by decide +kernel,rfl,by decide +kernel,by decide +kernel⟩
abbrev dJ:Stmt:=LG (lw 19) 0
theorem mZ:cf ku eF (ap dJ):=⟨rfl,rfl,rfl,by decide +kernel,rfl,by decide +kernel,by decide +kernel⟩
abbrev eQ:Stmt:=lw 20
theorem pT:cf kN fY (ap eQ):=⟨rfl,rfl,rfl,by decide +kernel,rfl,by decide +kernel,by decide +kernel⟩
abbrev gX:Stmt:=lw 21
theorem tJ:cf qr ip (ap gX):=⟨rfl,rfl,rfl,by decide +kernel,rfl,by decide +kernel,by decide +kernel⟩
abbrev gd:Stmt:=lw 22
theorem q9:cf oH d7 (ap gd):=⟨rfl,rfl,rfl,by decide +kernel,rfl,by decide +kernel,by decide +kernel⟩
abbrev gZ:Stmt:=lw 23
abbrev iq:List Str:=["part","n","places"]
abbrev qu:List Str:=["part","n","places"]
def vv(K:Fg):TS:=(dt (bE (fM K) [] E0 (ao (FP (cT K "Outline") (eI K) [] E0 (ao (au 0) aP)) (ao (au 1) (ao (au 2) aP)))))
theorem tL:cf qu iq (ap gZ):=⟨rfl,rfl,rfl,by decide +kernel,rfl,by decide +kernel,by decide +kernel⟩
abbrev eO:Stmt:=lw 24
abbrev fK:List Str:=["outline","n","places"]
abbrev me:List Str:=["outline","n","places","names"]
def nC(K:Fg):TS:=(dt (BT (Iy K) (bA (tG K) (au 3) (bA (gH K) (gu (ao (tC .non) aP)) (au 2))) gy (kX (au 2))))
def nE(K:Fg):TS:=(bB (eP (wO (cb (bA (L1 K) (au 1) (wP K (au 0) "first"))) (cb (bA ((Iw true)) (au 1) (wP K (au 0) "led")))) (dt (bE (e7 K) [] E0 (ao (au 0) (ao (au 2) aP)))) cO) (nC K))
def qb(K:Fg):TS:=(bB (ci (nA (wP K (au 0) "wants") (au 1)) (bb 3)) (nE K))
theorem ou:cf me fK (ap eO):=⟨rfl,rfl,rfl,by decide +kernel,rfl,by decide +kernel,by decide +kernel⟩
abbrev d6:Stmt:=lw 25
theorem nz:cf kZ eX (ap d6):=⟨rfl,rfl,rfl,by decide +kernel,rfl,by decide +kernel,by decide +kernel⟩
abbrev mF:Stmt:=lw 27
theorem BI:cf zt eL (ap mF):=⟨rfl,rfl,rfl,by decide +kernel,rfl,by decide +kernel,by decide +kernel⟩
abbrev jw:Stmt:=lw 28
theorem yu:cf rV kz (ap jw):=⟨rfl,rfl,rfl,by decide +kernel,rfl,by decide +kernel,by decide +kernel⟩
abbrev kf:Stmt:=lw 29
theorem yw:cf vN kB (ap kf):=⟨rfl,rfl,rfl,by decide +kernel,rfl,by decide +kernel,by decide +kernel⟩
abbrev fG:Stmt:=lw 30
theorem pV:cf nc ga (ap fG):=⟨rfl,rfl,rfl,by decide +kernel,rfl,by decide +kernel,by decide +kernel⟩
abbrev kc:Stmt:=lw 31
theorem yt:cf vI ky (ap kc):=⟨rfl,rfl,rfl,by decide +kernel,rfl,by decide +kernel,by decide +kernel⟩
abbrev iU:Stmt:=lw 32
theorem vc:cf si jf (ap iU):=⟨rfl,rfl,rfl,by decide +kernel,rfl,by decide +kernel,by decide +kernel⟩
abbrev d9:Stmt:=lw 33
theorem pW:cf jD gb (ap d9):=⟨rfl,rfl,rfl,by decide +kernel,rfl,by decide +kernel,by decide +kernel⟩
abbrev ig:Stmt:=lw 34
theorem u9:cf pw je (ap ig):=⟨rfl,rfl,rfl,by decide +kernel,rfl,by decide +kernel,by decide +kernel⟩
abbrev lr:Stmt:=lw 35
theorem BN:cf vM mn (ap lr):=⟨rfl,rfl,rfl,by decide +kernel,rfl,by decide +kernel,by decide +kernel⟩
abbrev gr:Stmt:=lw 36
theorem tN:cf nQ iu (ap gr):=⟨rfl,rfl,rfl,by decide +kernel,rfl,by decide +kernel,by decide +kernel⟩
abbrev mG:Stmt:=lw 37
theorem BJ:cf zu mf (ap mG):=⟨rfl,rfl,rfl,by decide +kernel,rfl,by decide +kernel,by decide +kernel⟩
abbrev pS:Stmt:=lw 38
abbrev oM:List Str:=["_law_rows"]
abbrev D8:List Str:=["_law_rows","_law_seen_rows","_law_left","_law_led_here","_law_first","_law_n"]
def mO(K:Fg):TS:=(dt (gM (ao (jp K (ao (au 3) aP)) (ao (au 4) aP))))
def se(K:Fg):TS:=(i4 (vh K "list" eC (au 2) (ao (bE (iY K) [] E0 (ao (au 0) (ao (bA (cN K) (au 5) (tC (.int 1))) aP))) aP)))
def Ca(K:Fg):TS:=(eP (cb (bA (yi K) (bA (dN K) (bA (dN K) (au 0) (au 5)) (tC (.int 0))) (tC (.str "give")))) (bB (eP (JA (cb (bA (Iu K) (bA (dN K) (bA (dN K) (au 0) (bA (cN K) (au 5) (tC (.int 1)))) (tC (.int 0))) (tC (.str "jump")))) (cb (bA (Iu K) (bA (cN K) (au 5) (tC (.int 1))) (au 4)))) (i4 (vh K "list" eC (au 3) (ao (bE (iY K) [] E0 (ao (au 0) (ao (bA (cN K) (au 5) (tC (.int 1))) aP))) aP))) cO) (se K)) cO)
def Cb(K:Fg):TS:=(i4 (vh K "list" eC (au 2) (ao (bA (dN K) (au 3) (Mo L8 (tC (.int 1)))) aP)))
def Cc(K:Fg):TS:=(bB (eP (cb (bA (Iu K) (bA (dN K) (bA (dN K) (au 0) (au 5)) (tC (.int 0))) (tC (.str "test")))) (bB (i4 (vh K "list" eC (au 3) (ao (bE (iY K) [] E0 (ao (au 0) (ao (bA (dN K) (bA (dN K) (au 0) (au 5)) (tC (.int 2))) aP))) aP))) (Cb K)) cO) (Ca K))
def Cd(K:Fg):TS:=(bB (i4 (vh K "list" eC (au 1) (ao (au 5) aP))) (Cc K))
def Ce(K:Fg):TS:=(bB (eP (cb (bA ((zo K false)) (au 5) (au 1))) FN cO) (Cd K))
def Cf(K:Fg):TS:=(bB (ci (FM K "list" Ix (au 2)) (bb 5)) (Ce K))
def Cg(K:Fg):TS:=(bB (mN (cb (bA (yi K) (au 2) (gM aP))) (Cf K)) (mO K))
def yK(K:Fg):TS:=(bB (ci (bA (dN K) (au 2) (tC (.int 0))) (bb 4)) (Cg K))
def yL(K:Fg):TS:=(bB (ci (gM aP) (bb 3)) (yK K))
def yM(K:Fg):TS:=(bB (ci (gM (ao (bE (iY K) [] E0 (ao (au 0) (ao (tC (.int 0)) aP))) aP)) (bb 2)) (yL K))
def JC(K:Fg):TS:=(bB (ci (gM aP) (bb 1)) (yM K))
theorem FF:cf D8 oM (ap pS):=⟨rfl,rfl,rfl,by decide +kernel,rfl,by decide +kernel,by decide +kernel⟩
abbrev ke:Stmt:=lw 39
abbrev kA:List Str:=["_law_part_here","_law_n","_law_led_here","_law_places","_law_names_here"]
abbrev vJ:List Str:=["_law_part_here","_law_n","_law_led_here","_law_places","_law_names_here","_law_found","_law_name"]
def DP(K:Fg):TS:=(dt (iI (ie K) (ao (BT (Iy K) (bA (tG K) (au 5) (bA (L9) (gM (ao (tC .non) aP)) (au 3))) gy (kX (au 3))) aP)))
def DQ(K:Fg):TS:=(i4 (vh K "list" eC (au 5) (ao (bA (dN K) (gM (ao (tC .non) (ao (au 6) aP))) (iI (BB) (ao (bA ((zo K false)) (au 6) (au 4)) aP))) aP)))
def vn(K:Fg):TS:=(bB (jQ (EC K (ao (bA (dN K) (au 0) (tC (.int 1))) aP)) (bb 6) (DQ K)) (DP K))
def vo(K:Fg):TS:=(bB (ci (gM aP) (bb 5)) (vn K))
def Ci(K:Fg):TS:=(bB (eP (cb (bA ((zo K false)) (au 1) (au 2))) (dt (bA (tG K) (iI (ie K) (ao (iI (BE K) (ao (au 4) aP)) aP)) (bA (gH K) (gu (ao (tC .non) aP)) (bA (u7) (au 3) (iI (jP K) (ao (au 4) aP)))))) cO) (vo K))
theorem yv:cf vJ kA (ap ke):=⟨rfl,rfl,rfl,by decide +kernel,rfl,by decide +kernel,by decide +kernel⟩
abbrev mY:Stmt:=lw 40
abbrev sv:List Str:=["_law_script"]
abbrev D6:List Str:=["_law_script","_law_state","_law_program_here","_law_part_here","_law_rows","_law_led_here","_law_first","_law_names_here","_law_turn","_law_n","_law_places"]
def IU(K:Fg):TS:=(dt (tC (.bl true)))
def BV(K:Fg):TS:=(eP (cb (bA (yi K) (bE (iA K) [] E0 (ao (au 3) (ao (au 9) (ao (au 10) aP)))) (bE (kE K) [] E0 (ao (au 3) (ao (au 9) (ao (au 5) (ao (au 10) (ao (nA (au 7) (au 9)) aP)))))))) (dt (tC (.bl false))) cO)
def BW(K:Fg):TS:=(bB (ci (bA (cN K) (bA (cN K) (iI (jP K) (ao (nA (au 7) (au 9)) aP)) (tC (.int 1))) (bE (bY K) [] E0 (ao (au 1) (ao (bA (u7) (tC (.int 16)) (iI (jP K) (ao (nA (au 7) (au 9)) aP))) aP)))) (bb 10)) (BV K))
def BX(K:Fg):TS:=(jQ (jF K (jp K (ao (bA (cN K) (au 5) (gM (ao (au 6) aP))) aP))) (bb 9) (BW K))
def IV(K:Fg):TS:=(eP (JA (IT (tB (iI (KU K) (ao (bE (dh K) [] E0 (ao (au 4) aP)) (ao (tC (.ty "list")) aP))))) (IT (tB (iI (KU K) (ao (bE (gJ K) [] E0 (ao (au 4) aP)) (ao (tC (.ty "list")) aP)))))) (dt (tC (.bl false))) cO)
def IW(K:Fg):TS:=(bB (eP (JA (cb (bA (yi K) (bE (dh K) [] E0 (ao (au 4) aP)) (au 5))) (cb (bA (yi K) (bE (gJ K) [] E0 (ao (au 4) aP)) (jp K (ao (bA (cN K) (au 5) (gM (ao (au 6) aP))) aP))))) (dt (tC (.bl false))) cO) (IV K))
def BY(K:Fg):TS:=(bB (jQ (qW (ao (tC (.int 2)) aP)) (bb 8) (IW K)) (BX K))
def BZ(K:Fg):TS:=(bB (ci (bE (eS K) [] E0 (ao (au 4) aP)) (bb 7)) (BY K))
def B0(K:Fg):TS:=(bB (ci (bE (oU K) [] E0 (ao (au 4) aP)) (Bm K 2 (kS (bb 5) (kS (bb 6) xB)))) (BZ K))
def yI(K:Fg):TS:=(bB (ci (bA (dN K) (au 3) (tC (.int 2))) (bb 4)) (B0 K))
def FZ(K:Fg):TS:=(bB (jQ (jF K (au 2)) (bb 3) (yI K)) (IU K))
def yJ(K:Fg):TS:=(bB (ci (bE (iC K) [] E0 (ao (au 1) (ao (tC (.int 14)) aP))) (bb 2)) (FZ K))
def JB(K:Fg):TS:=(bB (ci (gM (ao (au 0) (ao (tC (.int 0)) (ao (tC (.int 0)) aP)))) (bb 1)) (yJ K))
theorem FE:cf D6 sv (ap mY):=⟨rfl,rfl,rfl,by decide +kernel,rfl,by decide +kernel,by decide +kernel⟩
section
variable{P:Program}{w:World}{K:Fg}{mg:Str->Option Value}{base:Heap}{f:Addr}{cdv:Value}{A:Around}{outer:List Env}{s:Shared}{H:Hp}{E:XK}
theorem xq(B:gD mg)
  (hr:dc xJ (A.deeper (envOfC "as_keys" (ap eQ) s.heap.objs.size f cdv))):jV (fN fU P w K mg base kN "as_keys" (ap eQ) f cdv A outer s H E).nox (aW eQ) (rj K):=by
 have nd:=pT.nd
 have hu:=hr.units0
 have hu1:=d8 hr
 refine lc.up ?_
 exact(aI (bL (cz (kQ rfl) rfl B.dict_ boot_dict (ad (mC (sc:=ap eQ) (N:=kN) (NY:=["numbers","n"]) (js:=[]) (k:=1) ⟨rfl,by decide +kernel,by decide +kernel,by decide +kernel,rfl,by decide +kernel⟩ rfl rfl rfl rfl (eY (qv 0)) (λ_ _ _ _ _=>(bZ (i:=1) (show List.Nodup (["numbers","n"]:List Str) by decide +kernel) rfl (Or.inl rfl))) (λ_ _ _ _ _=>j9) (λ_ _ _ _ _=>(cM (ad (qv 1) (ad lI av))))) av))))
theorem En(B:gD mg)
  (hr:dc EK (A.deeper (envOfC "sets" (ap iX) s.heap.objs.size f cdv))):jV (fN fU P w K mg base so "sets" (ap iX) f cdv A outer s H E).nox (aW iX) (zb K):=by
 have nd:=vf.nd
 have hu:=hr.units0
 have hu1:=d8 hr
 refine lc.up ?_
 exact(ay (cU (bq gU (bu aU (qv 0) aE (λ_ _=>rfl)) (cM (ad bH (ad bH (ad bH av)))) rfl) (aI (bL (bu aU (qv 0) aE (λ_ _=>rfl)))) bU) (aI (bL mD)))
theorem El(B:gD mg)
  (hr:dc EI (A.deeper (envOfC "goal" (ap iV) s.heap.objs.size f cdv))):jV (fN fU P w K mg base sj "goal" (ap iV) f cdv A outer s H E).nox (aW iV) (yO K):=by
 have nd:=vd.nd
 have hu:=hr.units0
 have hu1:=d8 hr
 refine lc.up ?_
 exact(ay (cU (bq (dI hu) (bu aU (qv 0) aE (λ_ _=>rfl)) bH rfl) (aI (bL (bu aU (qv 0) aE (λ_ _=>rfl)))) bU) (ay (cU (bq (dI hu) (bu aU (qv 0) aE (λ_ _=>rfl)) bH rfl) (aI (bL (bu aU (qv 0) aE (λ_ _=>rfl)))) bU) (aI (bL mD))))
theorem Cz(B:gD mg)(c_p_goal:aK P w K mg base "goal" fS jC (eD K))
  (hr:dc CU (A.deeper (envOfC "leads" (ap gY) s.heap.objs.size f cdv))):jV (fN fU P w K mg base qt "leads" (ap gY) f cdv A outer s H E).nox (aW gY) (vt K):=by
 have nd:=tK.nd
 have hu:=hr.units0
 have hu1:=d8 hr
 refine lc.up ?_
 exact(ay (bz (i:=2) nd rfl (Or.inl rfl) (bu aU (bu aU (qv 0) (qv 1) (λ_ _=>rfl)) aE (λ_ _=>rfl))) (ay (cU (bq (dI hu) (qv 2) bH rfl) (aI (bL (cM av))) bU) (ay (cU (bq (dI hu) (qv 2) bH rfl) (aI (bL (cM (ad (bO c_p_goal (hr.mono (by decide)) rfl (ad (bu aU (qv 0) (qv 1) (λ_ _=>rfl)) av)) av)))) bU) (ay (cU (bq (dI hu) (qv 2) bH rfl) (aI (bL (cM (ad (bG bX (qv 1) aE) (ad (bO c_p_goal (hr.mono (by decide)) rfl (ad (bu aU (qv 0) (qv 1) (λ_ _=>rfl)) av)) av))))) bU) (aI (bL (cM (ad (bG bX (qv 1) aE) av))))))))
theorem zH(B:gD mg)(c_p_sets:aK P w K mg base "sets" gQ lC (gs K))(c_p_leads:aK P w K mg base "leads" fZ kg (e8 K))
  (hr:dc zW (A.deeper (envOfC "walked" (ap eG) s.heap.objs.size f cdv))):jV (fN fU P w K mg base oK "walked" (ap eG) f cdv A outer s H E).nox (aW eG) (uf K):=by
 have nd:=rf.nd
 have hu:=hr.units0
 have hu1:=d8 hr
 refine lc.up ?_
 exact(ay (bz (i:=2) nd rfl (Or.inl rfl) (Ih (Fo aE lI Im) rfl rfl (by simp) (by decide))) (ay (bz (i:=3) nd rfl (Or.inl rfl) (dj (ad aE av))) (ay (lJ PassesOwn.never (bq Bv (ca cL rfl B.len_ boot_len (ad (qv 3) av)) aE rfl) (ay (bz (i:=4) nd rfl (Or.inl rfl) (Aq aY i8 i9 Ae (qv 3))) (aI (cU (QW.pt (u5 (bq Kl (qv 1) mD rfl) (qL (bq (qG hu) (bO c_p_sets (hr.mono (by decide)) rfl (ad (bu aU (qv 0) (qv 4) (λ_ _=>rfl)) av)) (qv 1) rfl)))) (aI (fb PassesOwn.never rfl (eY (bO c_p_leads (hr.mono (by decide)) rfl (ad (qv 0) (ad (qv 4) av)))) (bZ (i:=5) nd rfl (Or.inl rfl)) (aI (cU (bq (qH hu1) (qv 5) (qv 2) rfl) (ay (iT lI (jO (qv 2) (qv 5) (pX hu1))) (aI (fP (jG aY bo bp dL (qv 3) (ad (qv 5) av))))) bU)))) bU)))) (aI (bL (ca (sF rfl) rfl B.sorted_ boot_sorted (ad (qv 2) av)))))))
theorem xr(B:gD mg)(c_p_walked_d1:pc P w K mg base "walked" gG md [.non] (gL K))
  (hr:dc xK (A.deeper (envOfC "come_to" (ap eR) s.heap.objs.size f cdv))):jV (fN fU P w K mg base kO "come_to" (ap eR) f cdv A outer s H E).nox (aW eR) (rq K):=by
 have nd:=pU.nd
 have hu:=hr.units0
 have hu1:=d8 hr
 refine lc.up ?_
 exact(aI (bL (mC (sc:=ap eR) (N:=kO) (NY:=["rows","n"]) (js:=[]) (k:=1) ⟨rfl,by decide +kernel,by decide +kernel,by decide +kernel,rfl,by decide +kernel⟩ rfl rfl rfl rfl (eY (KR c_p_walked_d1 (hr.mono (by decide)) rfl (ad (qv 0) av))) (λ_ _ _ _ _=>(bZ (i:=1) (show List.Nodup (["rows","n"]:List Str) by decide +kernel) rfl (Or.inl rfl))) (λ_ _ _ _ _=>(wG (bq (qG hu) (bu aU (bu aU (qv 0) (qv 1) (λ_ _=>rfl)) aE (λ_ _=>rfl)) bH rfl))) (λ_ _ _ _ _=>(qv 1)))))
theorem zG(B:gD mg)(c_p_goal:aK P w K mg base "goal" fS jC (eD K))
  (hr:dc zV (A.deeper (envOfC "stands" (ap gf) s.heap.objs.size f cdv))):jV (fN fU P w K mg base oJ "stands" (ap gf) f cdv A outer s H E).nox (aW gf) (ue K):=by
 have nd:=re.nd
 have hu:=hr.units0
 have hu1:=d8 hr
 refine lc.up ?_
 exact(ay (bz (i:=2) nd rfl (Or.inl rfl) (qv 1)) (ay (lJ PassesOwn.never (bq (dI hu) (bu aU (bu aU (qv 0) (qv 2) (λ_ _=>rfl)) aE (λ_ _=>rfl)) bH rfl) (aI (bz (i:=2) nd rfl (Or.inl rfl) (bO c_p_goal (hr.mono (by decide)) rfl (ad (bu aU (qv 0) (qv 2) (λ_ _=>rfl)) av))))) (aI (bL (qv 2)))))
theorem zE(B:gD mg)(c_p_come_to:aK P w K mg base "come_to" dC fW (cX K))(c_p_stands:aK P w K mg base "stands" dv fJ (cw K))(c_p_goal:aK P w K mg base "goal" fS jC (eD K))
  (hr:dc zT (A.deeper (envOfC "led_to" (ap gd) s.heap.objs.size f cdv))):jV (fN fU P w K mg base oH "led_to" (ap gd) f cdv A outer s H E).nox (aW gd) (ub K):=by
 have nd:=q9.nd
 have hu:=hr.units0
 have hu1:=d8 hr
 refine lc.up ?_
 exact(ay (bz (i:=1) nd rfl (Or.inl rfl) tE) (ay (fb PassesOwn.never rfl (eY (bO c_p_come_to (hr.mono (by decide)) rfl (ad (qv 0) av))) (bZ (i:=2) nd rfl (Or.inl rfl)) (ay (cU (bq (dI hu) (bu aU (bu aU (qv 0) (qv 2) (λ_ _=>rfl)) aE (λ_ _=>rfl)) bH rfl) (aI (iT lI (jO (qv 1) (bO c_p_stands (hr.mono (by decide)) rfl (ad (qv 0) (ad (bO c_p_goal (hr.mono (by decide)) rfl (ad (bu aU (qv 0) (qv 2) (λ_ _=>rfl)) av)) av))) (pX hu1)))) bU) (aI (cU (QW.pt (oS (bq (qG hu) (bu aU (bu aU (qv 0) (qv 2) (λ_ _=>rfl)) aE (λ_ _=>rfl)) bH rfl) (nX (QW.pt (u5 (bq (dI hu) (bu aU (bu aU (qv 0) (bG bX (qv 2) aE) (λ_ _=>rfl)) aE (λ_ _=>rfl)) bH rfl) (qL (bq (dI hu) (bG bX (qv 2) aE) (bO c_p_stands (hr.mono (by decide)) rfl (ad (qv 0) (ad aE av))) rfl))))))) (aI (iT lI (jO (qv 1) (bO c_p_stands (hr.mono (by decide)) rfl (ad (qv 0) (ad (bG bX (qv 2) aE) av))) (pX hu1)))) bU)))) (aI (bL (ca (sF rfl) rfl B.sorted_ boot_sorted (ad (qv 1) av))))))
theorem JP(B:gD mg)(c_p_sets:aK P w K mg base "sets" gQ lC (gs K))
  (hr:dc J3 (A.deeper (envOfC "rows_wanting" (ap lp) s.heap.objs.size f cdv))):jV (fN fU P w K mg base vL "rows_wanting" (ap lp) f cdv A outer s H E).nox (aW lp) (Gg K):=by
 have nd:=BM.nd
 have hu:=hr.units0
 have hu1:=d8 hr
 refine lc.up ?_
 exact(ay (bz (i:=4) nd rfl (Or.inl rfl) tE) (ay (bz (i:=5) nd rfl (Or.inl rfl) (cz mq rfl B.list_ boot_list (ad (qv 2) av))) (ay (lJ PassesOwn.never (bq Bv (ca cL rfl B.len_ boot_len (ad (qv 5) av)) aE rfl) (ay (bz (i:=6) nd rfl (Or.inl rfl) (Aq aY i8 i9 Ae (qv 5))) (aI (cU (bq (qH hu1) (qv 6) (qv 4) rfl) (ay (iT lI (jO (qv 4) (qv 6) (pX hu1))) (aI (fP (jG aY PySem.F.slot_list_extend PySem.F.type_list_extend De (qv 5) (ad (mC (sc:=ap lp) (N:=vL) (NY:=["rows","ahead","readers","name","passed","waiting","n","m"]) (js:=[]) (k:=1) ⟨rfl,by decide +kernel,by decide +kernel,by decide +kernel,rfl,by decide +kernel⟩ rfl rfl rfl rfl (eY (j8 hu1 (qv 1) (qv 6) (λ_ _=>rfl))) (λ_ _ _ _ _=>(bZ (i:=7) (show List.Nodup (["rows","ahead","readers","name","passed","waiting","n","m"]:List Str) by decide +kernel) rfl (Or.inl rfl))) (λ_ _ _ _ _=>(wG (bq (qG hu) (bO c_p_sets (hr.mono (by decide)) rfl (ad (bu aU (qv 0) (qv 7) (λ_ _=>rfl)) av)) (qv 3) rfl))) (λ_ _ _ _ _=>(qv 7))) av))))) bU)))) (aI (bL (cz (zC rfl) rfl B.list_ boot_list (ad (qv 4) av)))))))
theorem CB(B:gD mg)
  (hr:dc CW (A.deeper (envOfC "reads" (ap g7) s.heap.objs.size f cdv))):jV (fN fU P w K mg base qw "reads" (ap g7) f cdv A outer s H E).nox (aW g7) (vw K):=by
 have nd:=tM.nd
 have hu:=hr.units0
 have hu1:=d8 hr
 refine lc.up ?_
 exact(ay (bz (i:=1) nd rfl (Or.inl rfl) (bu aU (qv 0) aE (λ_ _=>rfl))) (ay (cU (bq (dI hu) (qv 1) bH rfl) (aI (bL (cM (ad (bu aU (qv 0) aE (λ_ _=>rfl)) (ad (bu aU (qv 0) aE (λ_ _=>rfl)) av))))) bU) (ay (cU (bq (dI hu) (qv 1) bH rfl) (aI (bL (cz dw rfl B.tuple_ boot_tuple (ad (bu aU (qv 0) aE (λ_ _=>rfl)) av)))) bU) (ay (cU (bq gU (qv 1) (cM (ad bH (ad bH (ad bH av)))) rfl) (aI (bL (cM (ad (bu aU (qv 0) aE (λ_ _=>rfl)) av)))) bU) (aI (bL (cM av)))))))
theorem JO(B:gD mg)(c_p_come_to:aK P w K mg base "come_to" dC fW (cX K))(c_p_reads:aK P w K mg base "reads" ir nN (iB K))
  (hr:dc J2 (A.deeper (envOfC "rows_that_read" (ap mH) s.heap.objs.size f cdv))):jV (fN fU P w K mg base zv "rows_that_read" (ap mH) f cdv A outer s H E).nox (aW mH) (Gd K):=by
 have nd:=BL.nd
 have hu:=hr.units0
 have hu1:=d8 hr
 refine lc.up ?_
 exact(ay (bz (i:=1) nd rfl (Or.inl rfl) tE) (ay (fb PassesOwn.never rfl (eY (bO c_p_come_to (hr.mono (by decide)) rfl (ad (qv 0) av))) (bZ (i:=2) nd rfl (Or.inl rfl)) (aI (fb PassesOwn.never rfl (eY (bO c_p_reads (hr.mono (by decide)) rfl (ad (bu aU (qv 0) (qv 2) (λ_ _=>rfl)) av))) (bZ (i:=3) nd rfl (Or.inl rfl)) (aI (fP (jG aY bo bp dL (Fl (qv 1) (qv 3) (dj av) ⟨rfl,rfl,rfl,rfl⟩) (ad (qv 2) av))))))) (aI (bL (qv 1)))))
theorem JN(B:gD mg)(c_p_leads:aK P w K mg base "leads" fZ kg (e8 K))(c_p_stands:aK P w K mg base "stands" dv fJ (cw K))(c_p_come_to:aK P w K mg base "come_to" dC fW (cX K))
  (hr:dc J1 (A.deeper (envOfC "rows_ahead" (ap lm) s.heap.objs.size f cdv))):jV (fN fU P w K mg base vK "rows_ahead" (ap lm) f cdv A outer s H E).nox (aW lm) (Ga K):=by
 have nd:=BK.nd
 have hu:=hr.units0
 have hu1:=d8 hr
 refine lc.up ?_
 exact(ay (bz (i:=1) nd rfl (Or.inl rfl) (bO c_p_come_to (hr.mono (by decide)) rfl (ad (qv 0) av))) (ay (bz (i:=2) nd rfl (Or.inl rfl) (cz (kQ rfl) rfl B.dict_ boot_dict (ad (mC (sc:=ap lm) (N:=vK) (NY:=["rows","come","ahead","n","to"]) (js:=[3]) (k:=0) ⟨rfl,by decide +kernel,by decide +kernel,by decide +kernel,rfl,by decide +kernel⟩ rfl rfl rfl rfl (eY (qv 1)) (λ_ _ _ _ _=>(bZ (i:=3) (show List.Nodup (["rows","come","ahead","n","to"]:List Str) by decide +kernel) rfl (Or.inl rfl))) (λ_ _ _ _ _=>j9) (λ_ _ _ _ _=>(cM (ad (qv 3) (ad (dj av) av))))) av))) (ay (fb PassesOwn.never rfl (eY (qv 1)) (bZ (i:=3) nd rfl (Or.inl rfl)) (aI (fb PassesOwn.never rfl (eY (bO c_p_leads (hr.mono (by decide)) rfl (ad (qv 0) (ad (qv 3) av)))) (bZ (i:=4) nd rfl (Or.inl rfl)) (aI (fP (jG aY bo bp dL (j8 hu1 (qv 2) (bO c_p_stands (hr.mono (by decide)) rfl (ad (qv 0) (ad (qv 4) av))) (λ_ _=>rfl)) (ad (qv 3) av))))))) (aI (bL (qv 2))))))
theorem zI(B:gD mg)(c_p_rw:aK P w K mg base "rows_wanting" mj vF (mK K))(c_p_rt:aK P w K mg base "rows_that_read" mi vE (mJ K))(c_p_ra:aK P w K mg base "rows_ahead" mh vD (mI K))
  (hr:dc zX (A.deeper (envOfC "wanted" (ap eZ) s.heap.objs.size f cdv))):jV (fN fU P w K mg base kx "wanted" (ap eZ) f cdv A outer s H E).nox (aW eZ) (ug K):=by
 have nd:=rg.nd
 have hu:=hr.units0
 have hu1:=d8 hr
 refine lc.up ?_
 exact(ay (bz (i:=1) nd rfl (Or.inl rfl) (bO c_p_ra (hr.mono (by decide)) rfl (ad (qv 0) av))) (ay (bz (i:=2) nd rfl (Or.inl rfl) (bO c_p_rt (hr.mono (by decide)) rfl (ad (qv 0) av))) (ay (bz (i:=3) nd rfl (Or.inl rfl) (cz (kQ rfl) rfl B.dict_ boot_dict (ad (Bx (mC (sc:=ap eZ) (N:=kx) (NY:=["rows","ahead","readers","found","name","n"]) (js:=[5]) (k:=0) ⟨rfl,by decide +kernel,by decide +kernel,by decide +kernel,rfl,by decide +kernel⟩ rfl rfl rfl rfl (Ik (qv 1)) (λ_ _ _ _ _=>(bZ (i:=5) (show List.Nodup (["rows","ahead","readers","found","name","n"]:List Str) by decide +kernel) rfl (Or.inl rfl))) (λ_ _ _ _ _=>j9) (λ_ _ _ _ _=>(cM (ad (qv 5) (ad (dj av) av)))))) av))) (ay (fb PassesOwn.never rfl (eY (ca (xj rfl) rfl B.sorted_ boot_sorted (ad (qv 2) av))) (bZ (i:=4) nd rfl (Or.inl rfl)) (aI (fb PassesOwn.never rfl (eY (bO c_p_rw (hr.mono (by decide)) rfl (ad (qv 0) (ad (qv 1) (ad (j8 hu1 (qv 2) (qv 4) (λ_ _=>rfl)) (ad (qv 4) av)))))) (bZ (i:=5) nd rfl (Or.inl rfl)) (aI (fP (jG aY bo bp dL (j8 hu1 (qv 3) (qv 5) (λ_ _=>rfl)) (ad (qv 4) av))))))) (aI (bL (cz (kQ rfl) rfl B.dict_ boot_dict (ad (Bx (mC (sc:=ap eZ) (N:=kx) (NY:=["rows","ahead","readers","found","name","n","names"]) (js:=[5]) (k:=1) ⟨rfl,by decide +kernel,by decide +kernel,by decide +kernel,rfl,by decide +kernel⟩ rfl rfl rfl rfl (Fn (qv 3) ⟨rfl,rfl⟩) (λ_ _ _ _ _=>(wF rfl (gp (bZ (i:=5) (show List.Nodup (["rows","ahead","readers","found","name","n","names"]:List Str) by decide +kernel) rfl (Or.inl rfl)) (gp (bZ (i:=6) (show List.Nodup (["rows","ahead","readers","found","name","n","names"]:List Str) by decide +kernel) rfl (Or.inl rfl)) nW)))) (λ_ _ _ _ _=>j9) (λ_ _ _ _ _=>(cM (ad (qv 5) (ad (cz dw rfl B.tuple_ boot_tuple (ad (qv 6) av)) av)))))) av))))))))
theorem sK(B:gD mg)(c_p_as_keys:aK P w K mg base "as_keys" fY kK (fH K))(c_p_led_to:aK P w K mg base "led_to" d7 gE (dh K))(c_p_stands:aK P w K mg base "stands" dv fJ (cw K))(c_p_wanted:aK P w K mg base "wanted" fB jd (eS K))
  (hr:dc sV (A.deeper (envOfC "Outline.__init__" (ap dJ) s.heap.objs.size f cdv))):jV (fN fU P w K mg base ku "Outline.__init__" (ap dJ) f cdv A outer s H E).nox (aW dJ) (nB K):=by
 have nd:=mZ.nd
 have hu:=hr.units0
 have hu1:=d8 hr
 refine lc.up ?_
 exact(ay (qK (qv 0) (bu aU (qv 1) aE (λ_ _=>rfl)) rfl) (ay (qK (qv 0) (bu aU (qv 1) aE (λ_ _=>rfl)) rfl) (ay (qK (qv 0) (bO c_p_wanted (hr.mono (by decide)) rfl (ad (bu aU (qv 1) aE (λ_ _=>rfl)) av)) rfl) (ay (qK (qv 0) (bO c_p_stands (hr.mono (by decide)) rfl (ad (bu aU (qv 1) aE (λ_ _=>rfl)) (ad aE av))) rfl) (ay (bz (i:=2) nd rfl (Or.inl rfl) (bO c_p_led_to (hr.mono (by decide)) rfl (ad (bu aU (qv 1) aE (λ_ _=>rfl)) av))) (ay (qK (qv 0) (bO c_p_as_keys (hr.mono (by decide)) rfl (ad (qv 2) av)) rfl) (aI (qK (qv 0) (bO c_p_as_keys (hr.mono (by decide)) rfl (ad (bG bX (dj (ad (oR (qv 0) rfl) av)) (qv 2)) av)) rfl))))))))
theorem zF(B:gD mg)
  (hr:dc zU (A.deeper (envOfC "pushed" (ap ge) s.heap.objs.size f cdv))):jV (fN fU P w K mg base oI "pushed" (ap ge) f cdv A outer s H E).nox (aW ge) (uc K):=by
 have nd:=rc.nd
 have hu:=hr.units0
 have hu1:=d8 hr
 refine lc.up ?_
 exact(aI (bL (gm kC (bG bX (cM (ad (qv 1) av)) (qv 0)) ik (im (ca cL rfl B.len_ boot_len (ad (qv 0) av))))))
theorem Cw(B:gD mg)(c_p_pushed:aK P w K mg base "pushed" gF ma (gK K))
  (hr:dc CS (A.deeper (envOfC "begun" (ap gW) s.heap.objs.size f cdv))):jV (fN fU P w K mg base qp "begun" (ap gW) f cdv A outer s H E).nox (aW gW) (vp K):=by
 have nd:=tI.nd
 have hu:=hr.units0
 have hu1:=d8 hr
 refine lc.up ?_
 exact(ay (bz (i:=3) nd rfl (Or.inl rfl) (bG fF (cM (ad (qv 2) av)) (qv 0))) (ay (fb PassesOwn.never rfl (eY (qv 1)) (bZ (i:=4) nd rfl (Or.inl rfl)) (aI (bz (i:=3) nd rfl (Or.inl rfl) (bO c_p_pushed (hr.mono (by decide)) rfl (ad (qv 3) (ad (qv 4) av)))))) (aI (bL (qv 3)))))
theorem Em(B:gD mg)
  (hr:dc EJ (A.deeper (envOfC "seen" (ap iW) s.heap.objs.size f cdv))):jV (fN fU P w K mg base sk "seen" (ap iW) f cdv A outer s H E).nox (aW iW) (za K):=by
 have nd:=ve.nd
 have hu:=hr.units0
 have hu1:=d8 hr
 refine lc.up ?_
 exact(ay (bz (i:=2) nd rfl (Or.inl rfl) (dj av)) (ay (fb PassesOwn.never rfl (eY (qv 0)) (bZ (i:=3) nd rfl (Or.inl rfl)) (aI (fP (jG aY bo bp dL (qv 2) (ad (Fm (QW.pt (oS (bq gU (qv 3) (qv 1) rfl) (nX (bq mB (qv 3) (qv 2) rfl)))) (qv 3) mD) av))))) (aI (bL (cz dw rfl B.tuple_ boot_tuple (ad (qv 2) av))))))
theorem uq(B:gD mg)(c_p_begun:aK P w K mg base "begun" io nJ (iz K))(c_p_seen:aK P w K mg base "seen" jg pj (jo K))
  (hr:dc uu (A.deeper (envOfC "args_belt" (ap d6) s.heap.objs.size f cdv))):jV (fN fU P w K mg base kZ "args_belt" (ap d6) f cdv A outer s H E).nox (aW d6) (oz K):=by
 have nd:=nz.nd
 have hu:=hr.units0
 have hu1:=d8 hr
 refine lc.up ?_
 exact(aI (bL (bO c_p_seen (hr.mono (by decide)) rfl (ad (bO c_p_begun (hr.mono (by decide)) rfl (ad (qv 1) (ad (oR (qv 0) rfl) (ad mD av)))) (ad (j8 hu1 (oR (qv 0) rfl) (oR (qv 0) rfl) (λ_ _=>rfl)) av)))))
theorem vZ(B:gD mg)(c_p_args_belt:aK P w K mg base "args_belt" eX jt (e7 K))
  (hr:dc wc (A.deeper (envOfC "order_of" (ap eO) s.heap.objs.size f cdv))):jV (fN fU P w K mg base me "order_of" (ap eO) f cdv A outer s H E).nox (aW eO) (qb K):=by
 have nd:=ou.nd
 have hu:=hr.units0
 have hu1:=d8 hr
 refine lc.up ?_
 exact(ay (bz (i:=3) nd rfl (Or.inl rfl) (j8 hu1 (oR (qv 0) rfl) (qv 1) (λ_ _=>rfl))) (ay (cU (QW.pt (oS (bq (Kk hu) (qv 1) (oR (qv 0) rfl) rfl) (nX (bq (qH hu1) (qv 1) (oR (qv 0) rfl) rfl)))) (aI (bL (bO c_p_args_belt (hr.mono (by decide)) rfl (ad (qv 0) (ad (qv 2) av))))) bU) (aI (bL (gm BS (bG tw (qv 3) (bG fF (cM (ad mD av)) (qv 2))) ik (im (qv 2)))))))
theorem CA(B:gD mg)(mk_Outline:vH P w K mg base "Outline" (cT K "Outline") eF iQ (eI K))(c_p_order_of:aK P w K mg base "order_of" fK jZ (fM K))
  (hr:dc CV (A.deeper (envOfC "order" (ap gZ) s.heap.objs.size f cdv))):jV (fN fU P w K mg base qu "order" (ap gZ) f cdv A outer s H E).nox (aW gZ) (vv K):=by
 have nd:=tL.nd
 have hu:=hr.units0
 have hu1:=d8 hr
 refine lc.up ?_
 exact(aI (bL (bO c_p_order_of (hr.mono (by decide)) rfl (ad (Ii mk_Outline (hr.mono (by decide)) rfl (ad (qv 0) av)) (ad (qv 1) (ad (qv 2) av))))))
theorem GT(B:gD mg)
  (hr:dc G9 (A.deeper (envOfC "_law_order" (ap ke) s.heap.objs.size f cdv))):jV (fN fU P w K mg base vJ "_law_order" (ap ke) f cdv A outer s H E).nox (aW ke) (Ci K):=by
 have nd:=yv.nd
 have hu:=hr.units0
 have hu1:=d8 hr
 refine lc.up ?_
 exact(ay (cU (bq gU (qv 1) (qv 2) rfl) (aI (bL (bG tw (cz dw rfl B.tuple_ boot_tuple (ad (ca xk rfl B.sorted_ boot_sorted (ad (qv 4) av)) av)) (bG fF (cM (ad mD av)) (bG qI (qv 3) (ca cL rfl B.len_ boot_len (ad (qv 4) av))))))) bU) (ay (bz (i:=5) nd rfl (Or.inl rfl) (dj av)) (ay (fb PassesOwn.never rfl (Il rfl B.reversed_ (ad (bu aU (qv 0) aE (λ_ _=>rfl)) av)) (bZ (i:=6) nd rfl (Or.inl rfl)) (aI (fP (jG aY bo bp dL (qv 5) (ad (bu aU (dj (ad mD (ad (qv 6) av))) (cz nR rfl B.int_ boot_int (ad (pM gU (qv 6) (qv 4) rfl) av)) (λ_ _=>rfl)) av))))) (aI (bL (cz dw rfl B.tuple_ boot_tuple (ad (gm BS (bG tw (qv 5) (bG Kq (dj (ad mD av)) (qv 3))) ik (im (qv 3))) av)))))))
theorem JL(B:gD mg)
  (hr:dc JZ (A.deeper (envOfC "_law_draw" (ap mF) s.heap.objs.size f cdv))):jV (fN fU P w K mg base zt "_law_draw" (ap mF) f cdv A outer s H E).nox (aW mF) (FQ K):=by
 have nd:=BI.nd
 have hu:=hr.units0
 have hu1:=d8 hr
 refine lc.up ?_
 exact(ay (iT (gm kC (qv 0) ik (im aE)) (By rfl (gp (bZ (i:=2) nd rfl (Or.inl rfl)) (gp (bZ (i:=3) nd rfl (Or.inl rfl)) nW)))) (ay (iT (bG bX (qv 3) aE) (jO (qv 0) aE jH)) (ay (cU (QW.pt (oS (bq q4 (bG bX (bG wC (qv 3) aE) aE) (ca cL rfl B.len_ boot_len (ad (qv 2) av)) rfl) (nX (bq (dI hu) (bG ji (bu aU (qv 2) aE (λ_ _=>rfl)) aE) aE rfl)))) (ay (cU (bq (dI hu) (bG ji (qv 3) aE) aE rfl) (aI (iT (bu aU (qv 2) (bG bX (bG wC (qv 3) aE) aE) (λ_ _=>rfl)) (jO (qv 0) aE jH))) bU) (aI (cU (bq mB (bu aU (qv 0) aE (λ_ _=>rfl)) (cM (ad aE (ad (Js Gp aE) av))) rfl) (ay (iT (ca vV rfl B.divmod_ boot_divmod (ad (bu aU (qv 0) aE (λ_ _=>rfl)) (ad (qv 1) av))) (wF rfl (gp (jO (qv 0) aE jH) (gp (bZ (i:=4) nd rfl (Or.inl rfl)) nW)))) (aI (bL (qv 4)))) bU))) (aI (cU (bq q4 (qv 3) (ca cL rfl B.len_ boot_len (ad (qv 2) av)) rfl) (aI (bL (bG ji (bu aU (qv 2) (qv 3) (λ_ _=>rfl)) (qv 1)))) bU))) (ay (bz (i:=5) nd rfl (Or.inl rfl) (bG bX (bG fF (qv 3) aE) aE)) (ay (cU (bq Bv (ca cL rfl B.len_ boot_len (ad (qv 2) av)) aE rfl) (aI (bz (i:=5) nd rfl (Or.inl rfl) (bG bX (qv 5) (bG fF (bu aU (qv 2) (bG ji (bG fF (qv 3) aE) (ca cL rfl B.len_ boot_len (ad (qv 2) av))) (λ_ _=>rfl)) (bG bX aE (qv 3)))))) bU) (ay (bz (i:=5) nd rfl (Or.inl rfl) (bG ji (bG fF (bG ji (qv 5) aE) (bG bX (qv 3) aE)) aE)) (ay (bz (i:=5) nd rfl (Or.inl rfl) (bG ji (bG fF (qv 5) (qv 5)) aE)) (aI (bL (bG ji (bG ji (bG fF (qv 5) (qv 5)) aE) (qv 1)))))))))))
theorem Cy(B:gD mg)(c_p_stands:aK P w K mg base "stands" dv fJ (cw K))(c_p_led_to:aK P w K mg base "led_to" d7 gE (dh K))
  (hr:dc CT (A.deeper (envOfC "heads" (ap gX) s.heap.objs.size f cdv))):jV (fN fU P w K mg base qr "heads" (ap gX) f cdv A outer s H E).nox (aW gX) (vq K):=by
 have nd:=tJ.nd
 have hu:=hr.units0
 have hu1:=d8 hr
 refine lc.up ?_
 exact(aI (bL (kU rfl rfl B.sorted_ B.set_ rfl (ad (bG bX (dj (ad (bO c_p_stands (hr.mono (by decide)) rfl (ad (qv 0) (ad aE av))) av)) (bO c_p_led_to (hr.mono (by decide)) rfl (ad (qv 0) av))) av))))
theorem JM(B:gD mg)
  (hr:dc J0 (A.deeper (envOfC "_law_goal" (ap mG) s.heap.objs.size f cdv))):jV (fN fU P w K mg base zu "_law_goal" (ap mG) f cdv A outer s H E).nox (aW mG) (FW K):=by
 have nd:=BJ.nd
 have hu:=hr.units0
 have hu1:=d8 hr
 refine lc.up ?_
 exact(ay (lJ PassesOwn.never (bq (dI hu) (bu aU (bu aU (qv 0) (qv 1) (λ_ _=>rfl)) aE (λ_ _=>rfl)) bH rfl) (aI (bz (i:=1) nd rfl (Or.inl rfl) (bu aU (bu aU (qv 0) (qv 1) (λ_ _=>rfl)) aE (λ_ _=>rfl))))) (aI (bL (qv 1))))
theorem LD(B:gD mg)(c_goal:aK P w K mg base "_law_goal" mf vC (iY K))
  (hr:dc LJ (A.deeper (envOfC "_law_led" (ap pS) s.heap.objs.size f cdv))):jV (fN fU P w K mg base D8 "_law_led" (ap pS) f cdv A outer s H E).nox (aW pS) (JC K):=by
 have nd:=FF.nd
 have hu:=hr.units0
 have hu1:=d8 hr
 have hu5:=Ez hr
 refine lc.up ?_
 exact(ay (bz (i:=1) nd rfl (Or.inl rfl) (dj av)) (ay (bz (i:=2) nd rfl (Or.inl rfl) (dj (ad (bO c_goal (hr.mono (by decide)) rfl (ad (qv 0) (ad aE av))) av))) (ay (bz (i:=3) nd rfl (Or.inl rfl) (dj av)) (ay (bz (i:=4) nd rfl (Or.inl rfl) (bu aU (qv 2) aE (λ_ _=>rfl))) (ay (lJ PassesOwn.never (bq (tq hu5) (qv 2) (dj av) rfl) (ay (bz (i:=5) nd rfl (Or.inl rfl) (Aq aY i8 i9 Ae (qv 2))) (ay (cU (bq gU (qv 5) (qv 1) rfl) (aI yh) bU) (ay (fP (jG aY bo bp dL (qv 1) (ad (qv 5) av))) (ay (cU (bq (Am hu5) (bu aU (bu aU (qv 0) (qv 5) (λ_ _=>rfl)) aE (λ_ _=>rfl)) bH rfl) (ay (fP (jG aY bo bp dL (qv 3) (ad (bO c_goal (hr.mono (by decide)) rfl (ad (qv 0) (ad (bu aU (bu aU (qv 0) (qv 5) (λ_ _=>rfl)) aE (λ_ _=>rfl)) av))) av))) (aI (fP (jG aY bo bp dL (qv 2) (ad (bu aU (qv 3) (Js Gp aE) (λ_ _=>rfl)) av))))) bU) (aI (cU (bq (tq hu5) (bu aU (bu aU (qv 0) (qv 5) (λ_ _=>rfl)) aE (λ_ _=>rfl)) bH rfl) (ay (cU (QW.pt (u5 (bq (Am hu5) (bu aU (bu aU (qv 0) (bG bX (qv 5) aE) (λ_ _=>rfl)) aE (λ_ _=>rfl)) bH rfl) (qL (bq (Am hu5) (bG bX (qv 5) aE) (qv 4) rfl)))) (aI (fP (jG aY bo bp dL (qv 3) (ad (bO c_goal (hr.mono (by decide)) rfl (ad (qv 0) (ad (bG bX (qv 5) aE) av))) av)))) bU) (aI (fP (jG aY bo bp dL (qv 2) (ad (bO c_goal (hr.mono (by decide)) rfl (ad (qv 0) (ad (bG bX (qv 5) aE) av))) av))))) bU))))))) (aI (bL (dj (ad (kU rfl rfl B.sorted_ B.set_ rfl (ad (qv 3) av)) (ad (qv 4) av))))))))))
theorem Ej(B:gD mg)(c_draw:aK P w K mg base "_law_draw" eL hV (bY K))
  (hr:dc EG (A.deeper (envOfC "_law_filled" (ap ig) s.heap.objs.size f cdv))):jV (fN fU P w K mg base pw "_law_filled" (ap ig) f cdv A outer s H E).nox (aW ig) (yH K):=by
 have nd:=u9.nd
 have hu:=hr.units0
 have hu1:=d8 hr
 refine lc.up ?_
 exact(ay (bz (i:=3) nd rfl (Or.inl rfl) (dj av)) (ay (fb PassesOwn.never rfl (Ij rfl B.enumerate_ (ad (qv 1) av)) (wF rfl (gp (bZ (i:=4) nd rfl (Or.inr rfl)) (gp (bZ (i:=5) nd rfl (Or.inl rfl)) nW))) (ay (bz (i:=6) nd rfl (Or.inl rfl) (dj av)) (ay (fb PassesOwn.never rfl (eY (gm kC (qv 5) (im aE) ik)) (bZ (i:=7) nd rfl (Or.inl rfl)) (ay (cU (bq (dI hu) (qv 7) bH rfl) (aI (bz (i:=7) nd rfl (Or.inl rfl) (bu aU (bu aU (qv 2) (qv 4) (λ_ _=>rfl)) (bO c_draw (hr.mono (by decide)) rfl (ad (qv 0) (ad (ca cL rfl B.len_ boot_len (ad (bu aU (qv 2) (qv 4) (λ_ _=>rfl)) av)) av))) (λ_ _=>rfl)))) (aI (cU (tF (ca sE rfl B.isinstance_ boot_isinstance (ad (qv 7) (ad (wE rfl B.tuple_ boot_tuple (v:=.ty "tuple") rfl) av)))) (aI (bz (i:=7) nd rfl (Or.inl rfl) (cz dw rfl B.tuple_ boot_tuple (ad (mC (sc:=ap ig) (N:=pw) (NY:=["_law_state","_law_rows","_law_known","_law_found","_law_n","_law_row","_law_some","_law_thing","_law_one"]) (js:=[]) (k:=1) ⟨rfl,by decide +kernel,by decide +kernel,by decide +kernel,rfl,by decide +kernel⟩ rfl rfl rfl rfl (eY (qv 7)) (λ_ _ _ _ _=>(bZ (i:=8) (show List.Nodup (["_law_state","_law_rows","_law_known","_law_found","_law_n","_law_row","_law_some","_law_thing","_law_one"]:List Str) by decide +kernel) rfl (Or.inl rfl))) (λ_ _ _ _ _=>j9) (λ_ _ _ _ _=>(bu aU (bu aU (qv 2) (qv 4) (λ_ _=>rfl)) (bO c_draw (hr.mono (by decide)) rfl (ad (qv 0) (ad (ca cL rfl B.len_ boot_len (ad (bu aU (qv 2) (qv 4) (λ_ _=>rfl)) av)) av))) (λ_ _=>rfl)))) av)))) bU))) (aI (fP (jG aY bo bp dL (qv 6) (ad (qv 7) av)))))) (aI (fP (jG aY bo bp dL (qv 3) (ad (bG bX (cM (ad (bu aU (qv 5) aE (λ_ _=>rfl)) av)) (cz dw rfl B.tuple_ boot_tuple (ad (qv 6) av))) av))))))) (aI (bL (cz dw rfl B.tuple_ boot_tuple (ad (qv 3) av))))))
theorem GQ(B:gD mg)
  (hr:dc G7 (A.deeper (envOfC "_law_leads" (ap kc) s.heap.objs.size f cdv))):jV (fN fU P w K mg base vI "_law_leads" (ap kc) f cdv A outer s H E).nox (aW kc) (B9 K):=by
 have nd:=yt.nd
 have hu:=hr.units0
 have hu1:=d8 hr
 refine lc.up ?_
 exact(ay (cU (bq (dI hu) (bu aU (bu aU (qv 0) (qv 1) (λ_ _=>rfl)) aE (λ_ _=>rfl)) bH rfl) (aI (bL (dj (ad (bu aU (bu aU (qv 0) (qv 1) (λ_ _=>rfl)) aE (λ_ _=>rfl)) av)))) bU) (ay (cU (bq (dI hu) (bu aU (bu aU (qv 0) (qv 1) (λ_ _=>rfl)) aE (λ_ _=>rfl)) bH rfl) (aI (bL (dj (ad (bG bX (qv 1) aE) (ad (bu aU (bu aU (qv 0) (qv 1) (λ_ _=>rfl)) aE (λ_ _=>rfl)) av))))) bU) (ay (cU (bq (dI hu) (bu aU (bu aU (qv 0) (qv 1) (λ_ _=>rfl)) aE (λ_ _=>rfl)) bH rfl) (aI (bL (dj av))) bU) (aI (bL (dj (ad (bG bX (qv 1) aE) av)))))))
theorem xu(B:gD mg)(c_leads:aK P w K mg base "_law_leads" ky rQ (kD K))
  (hr:dc xM (A.deeper (envOfC "_law_set_names" (ap d9) s.heap.objs.size f cdv))):jV (fN fU P w K mg base jD "_law_set_names" (ap d9) f cdv A outer s H E).nox (aW d9) (rK K):=by
 have nd:=pW.nd
 have hu:=hr.units0
 have hu1:=d8 hr
 refine lc.up ?_
 exact(ay (pN (i:=3) (sc:=ap d9) (N:=jD) (NY:=["_law_rows","_law_names_here","_law_params","_law_known","_law_more","_law_n","_law_left","_law_m","_law_kept","_law_row"]) (js:=[]) (k:=1) ⟨rfl,by decide +kernel,by decide +kernel,by decide +kernel,rfl,by decide +kernel⟩ rfl rfl rfl rfl (eY (qv 0)) (λ_ _ _ _ _=>(bZ (i:=9) (show List.Nodup (["_law_rows","_law_names_here","_law_params","_law_known","_law_more","_law_n","_law_left","_law_m","_law_kept","_law_row"]:List Str) by decide +kernel) rfl (Or.inl rfl))) (λ_ _ _ _ _=>j9) (λ_ _ _ _ _=>(cz mq rfl B.list_ boot_list (ad (qv 1) av))) nd rfl (Or.inl rfl) rfl) (ay (iT (cz mq rfl B.list_ boot_list (ad (qv 2) av)) (jO (qv 3) aE jH)) (ay (bz (i:=4) nd rfl (Or.inl rfl) lI) (ay (lJ PassesOwn.never (tF (qv 4)) (ay (bz (i:=4) nd rfl (Or.inl rfl) lI) (aI (fb PassesOwn.never rfl (ki rfl B.range_ (ad (ca cL rfl B.len_ boot_len (ad (qv 0) av)) av)) (bZ (i:=5) nd rfl (Or.inl rfl)) (ay (bz (i:=6) nd rfl (Or.inr rfl) (bu aU (qv 3) (qv 5) (λ_ _=>rfl))) (ay (cU (bq gU (bu aU (bu aU (qv 0) (qv 5) (λ_ _=>rfl)) aE (λ_ _=>rfl)) (cM (ad bH (ad bH (ad bH av)))) rfl) (aI (bz (i:=6) nd rfl (Or.inr rfl) (bG bX (qv 6) (dj (ad (bu aU (bu aU (qv 0) (qv 5) (λ_ _=>rfl)) aE (λ_ _=>rfl)) av))))) bU) (aI (fb PassesOwn.never rfl (eY (bO c_leads (hr.mono (by decide)) rfl (ad (qv 0) (ad (qv 5) av)))) (bZ (i:=7) nd rfl (Or.inl rfl)) (ay (pN (i:=8) (sc:=ap d9) (N:=jD) (NY:=["_law_rows","_law_names_here","_law_params","_law_known","_law_more","_law_n","_law_left","_law_m","_law_kept","_law_name"]) (js:=[]) (k:=1) ⟨rfl,by decide +kernel,by decide +kernel,by decide +kernel,rfl,by decide +kernel⟩ rfl rfl rfl rfl (eY (bu aU (qv 3) (qv 7) (λ_ _=>rfl))) (λ_ _ _ _ _=>(bZ (i:=9) (show List.Nodup (["_law_rows","_law_names_here","_law_params","_law_known","_law_more","_law_n","_law_left","_law_m","_law_kept","_law_name"]:List Str) by decide +kernel) rfl (Or.inl rfl))) (λ_ _ _ _ _=>(wG (bq gU (qv 9) (qv 6) rfl))) (λ_ _ _ _ _=>(qv 9)) nd rfl (Or.inl rfl) rfl) (aI (cU (bq q4 (ca cL rfl B.len_ boot_len (ad (qv 8) av)) (ca cL rfl B.len_ boot_len (ad (bu aU (qv 3) (qv 7) (λ_ _=>rfl)) av)) rfl) (ay (iT (qv 8) (jO (qv 3) (qv 7) jH)) (aI (bz (i:=4) nd rfl (Or.inl rfl) lI))) bU))))))))))) (aI (bL (qv 3)))))))
theorem Ek(B:gD mg)
  (hr:dc EH (A.deeper (envOfC "_law_mended" (ap iU) s.heap.objs.size f cdv))):jV (fN fU P w K mg base si "_law_mended" (ap iU) f cdv A outer s H E).nox (aW iU) (yN K):=by
 have nd:=vc.nd
 have hu:=hr.units0
 have hu1:=d8 hr
 refine lc.up ?_
 exact(ay (bz (i:=3) nd rfl (Or.inl rfl) (bG qI (ca cL rfl B.len_ boot_len (ad (qv 0) av)) aE)) (ay (cU (bq mB (bu aU (bu aU (qv 0) (qv 3) (λ_ _=>rfl)) aE (λ_ _=>rfl)) (cM (ad bH (ad bH av))) rfl) (aI (iT (cM (ad bH (ad bH av))) (jO (qv 0) (qv 3) jH))) bU) (ay (cU (QW.pt (oS (tF (qv 2)) (oS (bq (qG hu) (bu aU (bu aU (qv 0) aE (λ_ _=>rfl)) aE (λ_ _=>rfl)) bH rfl) (nX (bq Bv (qv 3) aE rfl))))) (aI (iT (cM (ad bH (ad (bu aU (qv 1) aE (λ_ _=>rfl)) (ad aE av)))) (jO (qv 0) aE jH))) bU) (ay (fb PassesOwn.never rfl (ki rfl B.range_ (ad (ca cL rfl B.len_ boot_len (ad (qv 0) av)) av)) (bZ (i:=4) nd rfl (Or.inl rfl)) (ay (bz (i:=5) nd rfl (Or.inl rfl) (qv 4)) (ay (fb PassesOwn.never rfl (eY (qv 0)) (bZ (i:=6) nd rfl (Or.inl rfl)) (aI (cU (bq (dI hu) (bu aU (bu aU (qv 0) (qv 5) (λ_ _=>rfl)) aE (λ_ _=>rfl)) bH rfl) (aI (bz (i:=5) nd rfl (Or.inl rfl) (bu aU (bu aU (qv 0) (qv 5) (λ_ _=>rfl)) aE (λ_ _=>rfl)))) bU))) (aI (cU (bq (dI hu) (bu aU (bu aU (qv 0) (qv 5) (λ_ _=>rfl)) aE (λ_ _=>rfl)) bH rfl) (aI (iT (bu aU (dj (ad (cM (ad bH (ad bH av))) (ad (cM (ad bH (ad bH av))) av))) (cz nR rfl B.int_ boot_int (ad (pM (dI hu) (qv 4) (qv 3) rfl) av)) (λ_ _=>rfl)) (jO (qv 0) (qv 4) jH))) bU))))) (aI (bL (qv 0)))))))
theorem GU(B:gD mg)(c_draw:aK P w K mg base "_law_draw" eL hV (bY K))
  (hr:dc Ha (A.deeper (envOfC "_law_worth" (ap kf) s.heap.objs.size f cdv))):jV (fN fU P w K mg base vN "_law_worth" (ap kf) f cdv A outer s H E).nox (aW kf) (Cj K):=by
 have nd:=yw.nd
 have hu:=hr.units0
 have hu1:=d8 hr
 refine lc.up ?_
 exact(ay (cU (bq (dI hu) (bO c_draw (hr.mono (by decide)) rfl (ad (qv 0) (ad aE av))) aE rfl) (aI (bL (bG bX (bG fF (bO c_draw (hr.mono (by decide)) rfl (ad (qv 0) (ad (bG wD aE aE) av))) (bG wD aE aE)) (bO c_draw (hr.mono (by decide)) rfl (ad (qv 0) (ad (bG wD aE aE) av)))))) bU) (aI (bL (bu aU (dj (ad aE (ad aE (ad (bG qI (bG qI (bG wD aE aE) aE) (bO c_draw (hr.mono (by decide)) rfl (ad (qv 0) (ad aE av)))) (ad (bO c_draw (hr.mono (by decide)) rfl (ad (qv 0) (ad aE av))) av))))) (bO c_draw (hr.mono (by decide)) rfl (ad (qv 0) (ad aE av))) (λ_ _=>rfl)))))
theorem xt(B:gD mg)(c_draw:aK P w K mg base "_law_draw" eL hV (bY K))(c_worth:aK P w K mg base "_law_worth" kB rT (kF K))
  (hr:dc xL (A.deeper (envOfC "_law_rough_row" (ap fG) s.heap.objs.size f cdv))):jV (fN fU P w K mg base nc "_law_rough_row" (ap fG) f cdv A outer s H E).nox (aW fG) (rJ K):=by
 have nd:=pV.nd
 have hu:=hr.units0
 have hu1:=d8 hr
 refine lc.up ?_
 exact(ay (bz (i:=4) nd rfl (Or.inl rfl) (bu aU (qv 1) (bO c_draw (hr.mono (by decide)) rfl (ad (qv 0) (ad (ca cL rfl B.len_ boot_len (ad (qv 1) av)) av))) (λ_ _=>rfl))) (ay (bz (i:=5) nd rfl (Or.inl rfl) (bO c_draw (hr.mono (by decide)) rfl (ad (qv 0) (ad aE av)))) (ay (cU (bq q4 (qv 5) aE rfl) (aI (bL (cM (ad bH (ad (qv 4) (ad (bO c_worth (hr.mono (by decide)) rfl (ad (qv 0) av)) av)))))) bU) (ay (cU (bq q4 (qv 5) aE rfl) (aI (bL (cM (ad bH (ad (qv 4) (ad (bu aU bH (bO c_draw (hr.mono (by decide)) rfl (ad (qv 0) (ad aE av))) (λ_ _=>rfl)) (ad bH (ad bH av)))))))) bU) (ay (cU (bq (dI hu) (qv 5) aE rfl) (ay (bz (i:=6) nd rfl (Or.inl rfl) (bO c_draw (hr.mono (by decide)) rfl (ad (qv 0) (ad (ca cL rfl B.len_ boot_len (ad (qv 3) av)) av)))) (aI (bL (cM (ad bH (ad (qv 4) (ad (qv 6) (ad (bG fF (cM (ad bH av)) (bu aU (qv 3) (qv 6) (λ_ _=>rfl))) av)))))))) bU) (ay (cU (bq q4 (qv 5) aE rfl) (aI (bL (cM (ad bH (ad bH av))))) bU) (ay (cU (bq q4 (qv 5) aE rfl) (aI (bL (cM (ad bH (ad bH (ad (bO c_draw (hr.mono (by decide)) rfl (ad (qv 0) (ad (qv 2) av))) av)))))) bU) (aI (bL (bu aU (dj (ad (cM (ad bH (ad (bO c_draw (hr.mono (by decide)) rfl (ad (qv 0) (ad (qv 2) av))) av))) (ad (cM (ad bH (ad bH av))) av))) (bG qI (qv 5) aE) (λ_ _=>rfl)))))))))))
theorem JQ(B:gD mg)(c_filled:aK P w K mg base "_law_filled" je pf (jj K))(c_set_names:aK P w K mg base "_law_set_names" gb kM (gi K))(c_mended:aK P w K mg base "_law_mended" jf ph (jm K))(c_rough_row:aK P w K mg base "_law_rough_row" ga kL (gh K))(c_draw:aK P w K mg base "_law_draw" eL hV (bY K))
  (hr:dc J4 (A.deeper (envOfC "_law_part" (ap lr) s.heap.objs.size f cdv))):jV (fN fU P w K mg base vM "_law_part" (ap lr) f cdv A outer s H E).nox (aW lr) (Gj K):=by
 have nd:=BN.nd
 have hu:=hr.units0
 have hu1:=d8 hr
 refine lc.up ?_
 exact(ay (bz (i:=6) nd rfl (Or.inr rfl) (ca (Cs rfl) rfl B.max_ boot_max (ad (bG bX aE (cz nR rfl B.int_ boot_int (ad (pM (dI hu) (ca cL rfl B.len_ boot_len (ad (qv 3) av)) aE rfl) av))) (ad (bG bX aE (bO c_draw (hr.mono (by decide)) rfl (ad (qv 0) (ad (qv 5) av)))) av)))) (ay (pN (i:=7) (sc:=ap lr) (N:=vM) (NY:=["_law_state","_law_word","_law_names_here","_law_params","_law_counts","_law_most","_law_many","_law_rows","_law_known","_law_n"]) (js:=[]) (k:=1) ⟨rfl,by decide +kernel,by decide +kernel,by decide +kernel,rfl,by decide +kernel⟩ rfl rfl rfl rfl (ki rfl B.range_ (ad (qv 6) av)) (λ_ _ _ _ _=>(bZ (i:=9) (show List.Nodup (["_law_state","_law_word","_law_names_here","_law_params","_law_counts","_law_most","_law_many","_law_rows","_law_known","_law_n"]:List Str) by decide +kernel) rfl (Or.inl rfl))) (λ_ _ _ _ _=>j9) (λ_ _ _ _ _=>(bO c_rough_row (hr.mono (by decide)) rfl (ad (qv 0) (ad (qv 2) (ad (qv 6) (ad (qv 4) av)))))) nd rfl (Or.inl rfl) rfl) (ay (bz (i:=7) nd rfl (Or.inl rfl) (bO c_mended (hr.mono (by decide)) rfl (ad (qv 7) (ad (qv 2) (ad (pM (dI hu) (ca cL rfl B.len_ boot_len (ad (qv 3) av)) aE rfl) av))))) (ay (bz (i:=8) nd rfl (Or.inl rfl) (bO c_set_names (hr.mono (by decide)) rfl (ad (qv 7) (ad (qv 2) (ad (qv 3) av))))) (aI (bL (cM (ad (qv 1) (ad (cz dw rfl B.tuple_ boot_tuple (ad (qv 3) av)) (ad (bO c_filled (hr.mono (by decide)) rfl (ad (qv 0) (ad (qv 7) (ad (qv 8) av)))) av))))))))))
theorem GR(B:gD mg)(c_draw:aK P w K mg base "_law_draw" eL hV (bY K))
  (hr:dc G8 (A.deeper (envOfC "_law_names" (ap jw) s.heap.objs.size f cdv))):jV (fN fU P w K mg base rV "_law_names" (ap jw) f cdv A outer s H E).nox (aW jw) (Ch K):=by
 have nd:=yu.nd
 have hu:=hr.units0
 have hu1:=d8 hr
 refine lc.up ?_
 exact(ay (bz (i:=2) nd rfl (Or.inr rfl) bH) (ay (bz (i:=3) nd rfl (Or.inl rfl) (bG bX aE (bO c_draw (hr.mono (by decide)) rfl (ad (qv 0) (ad aE av))))) (ay (bz (i:=4) nd rfl (Or.inl rfl) (bO c_draw (hr.mono (by decide)) rfl (ad (qv 0) (ad (qv 3) av)))) (ay (bz (i:=5) nd rfl (Or.inr rfl) (bO c_draw (hr.mono (by decide)) rfl (ad (qv 0) (ad aE av)))) (ay (pN (i:=6) (sc:=ap jw) (N:=rV) (NY:=["_law_state","_law_many","_law_letters","_law_size","_law_at","_law_first","_law_base","_law_found","_law_k","_law_some","_law_name","_law_j"]) (js:=[]) (k:=1) ⟨rfl,by decide +kernel,by decide +kernel,by decide +kernel,rfl,by decide +kernel⟩ rfl rfl rfl rfl (ki rfl B.range_ (ad (qv 3) av)) (λ_ _ _ _ _=>(bZ (i:=11) (show List.Nodup (["_law_state","_law_many","_law_letters","_law_size","_law_at","_law_first","_law_base","_law_found","_law_k","_law_some","_law_name","_law_j"]:List Str) by decide +kernel) rfl (Or.inl rfl))) (λ_ _ _ _ _=>j9) (λ_ _ _ _ _=>(bu aU (qv 2) (bG ji (bG bX (qv 5) (bG fF (bG fF aE (qv 11)) (bO c_draw (hr.mono (by decide)) rfl (ad (qv 0) (ad aE av))))) aE) (λ_ _=>rfl))) nd rfl (Or.inl rfl) rfl) (ay (bz (i:=7) nd rfl (Or.inl rfl) (dj av)) (ay (fb PassesOwn.never rfl (ki rfl B.range_ (ad (qv 1) av)) (bZ (i:=8) nd rfl (Or.inl rfl)) (ay (bz (i:=9) nd rfl (Or.inl rfl) (bG bX (bG bX (gm kC (qv 6) ik (im (qv 4))) (dj (ad (bu aU (qv 2) (bG ji (bG bX (qv 5) (bG fF aE (qv 8))) aE) (λ_ _=>rfl)) av))) (gm kC (qv 6) (im (bG bX (qv 4) aE)) ik))) (ay (bz (i:=10) nd rfl (Or.inl rfl) (jG PySem.F.plainAttrs_str PySem.F.slot_str_join PySem.F.type_str_join Hg bH (ad (qv 9) av))) (ay (cU (QW.pt (u5 (bq gU (qv 10) (cM (ad bH (ad bH (ad bH (ad bH (ad bH (ad bH av))))))) rfl) (qL (QW.pt (oS (bq q4 (qv 3) aE rfl) (nX (bq (dI hu) (bG ji (bG bX (qv 3) (qv 8)) aE) aE rfl))))))) (aI (bz (i:=10) nd rfl (Or.inl rfl) (bG bX (qv 10) bH))) bU) (aI (fP (jG aY bo bp dL (qv 7) (ad (qv 10) av)))))))) (aI (bL (qv 7))))))))))
theorem CC(B:gD mg)(c_part:aK P w K mg base "_law_part" mn vG (mL K))(c_draw:aK P w K mg base "_law_draw" eL hV (bY K))(c_names:aK P w K mg base "_law_names" kz rR (jI K))
  (hr:dc CY (A.deeper (envOfC "_law_program" (ap gr) s.heap.objs.size f cdv))):jV (fN fU P w K mg base nQ "_law_program" (ap gr) f cdv A outer s H E).nox (aW gr) (vx K):=by
 have nd:=tN.nd
 have hu:=hr.units0
 have hu1:=d8 hr
 refine lc.up ?_
 exact(ay (bz (i:=2) nd rfl (Or.inl rfl) (cz nR rfl B.int_ boot_int (ad (pM (dI hu) (bG ji (bG wC (ca (vW rfl) rfl B.sum_ boot_sum (ad (gm kC (bu aU (qv 0) aE (λ_ _=>rfl)) ik (im aE)) av)) aE) aE) aE rfl) av))) (ay (bz (i:=3) nd rfl (Or.inl rfl) (gm kC (bO c_names (hr.mono (by decide)) rfl (ad (qv 0) (ad aE av))) ik (im (bu aU (dj (ad (bG bX aE (bO c_draw (hr.mono (by decide)) rfl (ad (qv 0) (ad aE av)))) (ad aE av))) (qv 2) (λ_ _=>rfl))))) (ay (bz (i:=4) nd rfl (Or.inr rfl) (bO c_names (hr.mono (by decide)) rfl (ad (qv 0) (ad (bG bX aE (bO c_draw (hr.mono (by decide)) rfl (ad (qv 0) (ad aE av)))) av)))) (ay (pN (i:=5) (sc:=ap gr) (N:=nQ) (NY:=["_law_state","_law_most","_law_five","_law_words","_law_names_here","_law_counts","_law_found","_law_word","_law_many","_law_turn","_law_params"]) (js:=[7]) (k:=0) ⟨rfl,by decide +kernel,by decide +kernel,by decide +kernel,rfl,by decide +kernel⟩ rfl rfl rfl rfl (eY (qv 3)) (λ_ _ _ _ _=>(bZ (i:=7) (show List.Nodup (["_law_state","_law_most","_law_five","_law_words","_law_names_here","_law_counts","_law_found","_law_word","_law_many","_law_turn","_law_params"]:List Str) by decide +kernel) rfl (Or.inl rfl))) (λ_ _ _ _ _=>j9) (λ_ _ _ _ _=>(bO c_draw (hr.mono (by decide)) rfl (ad (qv 0) (ad (bG bX (ca (Ct rfl) rfl B.min_ boot_min (ad aE (ad (ca cL rfl B.len_ boot_len (ad (qv 4) av)) av))) aE) av)))) nd rfl (Or.inl rfl) rfl) (ay (bz (i:=6) nd rfl (Or.inl rfl) (dj av)) (ay (fb PassesOwn.never rfl (KS rfl B.zip_ (ad (qv 3) (ad (qv 5) av))) (wF rfl (gp (bZ (i:=7) nd rfl (Or.inl rfl)) (gp (bZ (i:=8) nd rfl (Or.inl rfl)) nW))) (ay (bz (i:=9) nd rfl (Or.inl rfl) (bO c_draw (hr.mono (by decide)) rfl (ad (qv 0) (ad (ca cL rfl B.len_ boot_len (ad (qv 4) av)) av)))) (ay (bz (i:=10) nd rfl (Or.inl rfl) (gm kC (bG bX (gm kC (qv 4) (im (qv 9)) ik) (gm kC (qv 4) ik (im (qv 9)))) ik (im (qv 8)))) (aI (fP (jG aY bo bp dL (qv 6) (ad (bO c_part (hr.mono (by decide)) rfl (ad (qv 0) (ad (qv 7) (ad (qv 4) (ad (qv 10) (ad (qv 5) (ad (qv 1) av))))))) av))))))) (aI (bL (cz dw rfl B.tuple_ boot_tuple (ad (qv 6) av))))))))))
theorem LC(B:gD mg)(c_p_order:aK P w K mg base "order" iq nM (iA K))(c_order:aK P w K mg base "_law_order" kA rS (kE K))(c_draw:aK P w K mg base "_law_draw" eL hV (bY K))(c_p_heads:aK P w K mg base "heads" ip nK (gJ K))(c_p_led_to:aK P w K mg base "led_to" d7 gE (dh K))(c_p_wanted:aK P w K mg base "wanted" fB jd (eS K))(c_led:aK P w K mg base "_law_led" oM AY (oU K))(c_program:aK P w K mg base "_law_program" iu nO (iC K))
  (hr:dc LI (A.deeper (envOfC "law" (ap mY) s.heap.objs.size f cdv))):jV (fN fU P w K mg base D6 "law" (ap mY) f cdv A outer s H E).nox (aW mY) (JB K):=by
 have nd:=FE.nd
 have hu:=hr.units0
 have hu1:=d8 hr
 have hu5:=Ez hr
 refine lc.up ?_
 exact(ay (bz (i:=1) nd rfl (Or.inl rfl) (dj (ad (qv 0) (ad aE (ad aE av))))) (ay (bz (i:=2) nd rfl (Or.inl rfl) (bO c_program (hr.mono (by decide)) rfl (ad (qv 1) (ad aE av)))) (ay (fb PassesOwn.never rfl (eY (qv 2)) (bZ (i:=3) nd rfl (Or.inl rfl)) (ay (bz (i:=4) nd rfl (Or.inl rfl) (bu aU (qv 3) aE (λ_ _=>rfl))) (ay (iT (bO c_led (hr.mono (by decide)) rfl (ad (qv 4) av)) (By rfl (gp (bZ (i:=5) nd rfl (Or.inl rfl)) (gp (bZ (i:=6) nd rfl (Or.inl rfl)) nW)))) (ay (bz (i:=7) nd rfl (Or.inl rfl) (bO c_p_wanted (hr.mono (by decide)) rfl (ad (qv 4) av))) (ay (fb PassesOwn.never rfl (ki rfl B.range_ (ad aE av)) (bZ (i:=8) nd rfl (Or.inl rfl)) (ay (cU (QW.pt (u5 (bq (tq hu5) (bO c_p_led_to (hr.mono (by decide)) rfl (ad (qv 4) av)) (qv 5) rfl) (qL (bq (tq hu5) (bO c_p_heads (hr.mono (by decide)) rfl (ad (qv 4) av)) (kU rfl rfl B.sorted_ B.set_ rfl (ad (bG bX (qv 5) (dj (ad (qv 6) av))) av)) rfl)))) (aI (bL lI)) bU) (aI (cU (QW.pt (u5 (Fp (tF (ca sE rfl B.isinstance_ boot_isinstance (ad (bO c_p_led_to (hr.mono (by decide)) rfl (ad (qv 4) av)) (ad (wE rfl B.list_ boot_list (v:=.ty "list") rfl) av))))) (qL (Fp (tF (ca sE rfl B.isinstance_ boot_isinstance (ad (bO c_p_heads (hr.mono (by decide)) rfl (ad (qv 4) av)) (ad (wE rfl B.list_ boot_list (v:=.ty "list") rfl) av)))))))) (aI (bL lI)) bU)))) (aI (fb PassesOwn.never rfl (eY (kU rfl rfl B.sorted_ B.set_ rfl (ad (bG bX (qv 5) (dj (ad (qv 6) av))) av))) (bZ (i:=9) nd rfl (Or.inl rfl)) (ay (bz (i:=10) nd rfl (Or.inl rfl) (bG bX (bG bX (ca cL rfl B.len_ boot_len (ad (j8 hu1 (qv 7) (qv 9) (λ_ _=>rfl)) av)) aE) (bO c_draw (hr.mono (by decide)) rfl (ad (qv 1) (ad (bG qI aE (ca cL rfl B.len_ boot_len (ad (j8 hu1 (qv 7) (qv 9) (λ_ _=>rfl)) av))) av))))) (aI (cU (bq (tq hu5) (bO c_p_order (hr.mono (by decide)) rfl (ad (qv 3) (ad (qv 9) (ad (qv 10) av)))) (bO c_order (hr.mono (by decide)) rfl (ad (qv 3) (ad (qv 9) (ad (qv 5) (ad (qv 10) (ad (j8 hu1 (qv 7) (qv 9) (λ_ _=>rfl)) av)))))) rfl) (aI (bL lI)) bU)))))))))) (aI (bL lI)))))
end
end Bg
end
section
namespace Bg
open PySem L2
theorem q5{K:Fg}{st scr:Addr}{m:Int}{k:Nat}{ns:List Int}{c:Int}{H H2:Hp}{Q:VK}{o4 o5:Option V}{nx:St->Hp->Prop}(hk:k<=1000000)(m0:0<m)
  (q:∀(d:Int) (H':Hp),0<=d->d<m->kh K H' st (k+1)->fh st H H'->Q (.int d) H') (hS:H2 st=some (.lst [.ref scr,.int ((k:Int)+1),.int c])) (hscr:kP K H2 scr ns) (hns:ns.length<=63) (hB:fh st H H2) :
  pZ K {nx:=nx,rt:=Q} [some (.ref st),some (.int m),some (.ref scr),some (.int (k:Nat)),o4,o5] H2:=by
 have e1:(((k+1:Nat):Nat):Int)=(k:Int)+1:=by lia
 have S2:kh K H2 st (k+1):=⟨scr,ns,c,by rw[e1];exact hS,hscr,hns⟩
 refine⟨_,rfl,.inl ⟨_,_,rfl,rfl,.inr ⟨by decide,by decide⟩,.inl ⟨_,_,rfl,rfl,?_⟩⟩⟩
 have rest:∀z:Int,yE K {nx:=nx,rt:=Q} [some (.ref st),some (.int m),some (.ref scr),some (.int (k:Nat)),o4,some (.int z)] H2:=λz=>by
  have b1:0<=z % 2147483629:=cP _ (by decide)
  have b2:z % 2147483629<2147483629:=cJ _ (by decide)
  refine⟨_,rfl,_,_,rfl,rfl,(by show(0:Int)<2147483629;decide),_,rfl,.inl ⟨_,_,rfl,rfl,.inl ⟨_,_,rfl,rfl,.inl ⟨by lia,by lia⟩,_,_,rfl,rfl,(by show(0:Int)<2147483629;decide),?_⟩⟩⟩
  generalize hy:z % 2147483629*((k:Int)+3) % 2147483629=y
  have c1:0<=y:=by rw[<-hy];exact cP _ (by decide)
  have c2:y<2147483629:=by rw[<-hy];exact cJ _ (by decide)
  refine⟨_,rfl,_,rfl,.inl ⟨_,_,rfl,rfl,.inl ⟨by lia,by lia⟩,_,_,rfl,rfl,(by show(0:Int)<2147483587;decide),?_⟩⟩
  generalize hx:y*y % 2147483587=x
  have d1:0<=x:=by rw[<-hx];exact cP _ (by decide)
  have d2:x<2147483587:=by rw[<-hx];exact cJ _ (by decide)
  refine⟨_,rfl,_,rfl,.inl ⟨_,_,rfl,rfl,.inl ⟨by lia,by lia⟩,_,_,rfl,rfl,(by show(0:Int)<1999999973;decide),_,rfl,_,_,rfl,rfl,m0,?_⟩⟩
  exact q _ H2 (cP _ (by lia)) (cJ _ m0) S2 hB
 refine⟨_,rfl,_,_,rfl,.inl ⟨_,hscr.sq,rfl⟩,_,_,rfl,rfl,_,rfl,cI (λhl=>?_) (λ_=>rest _)⟩
 rw[ab] at hl
 have hlp:0<ns.length:=by lia
 refine⟨_,rfl,_,rfl,_,rfl,.inl ⟨_,_,rfl,rfl,.inr ⟨by decide,by decide⟩,_,rfl,_,_,rfl,.inl ⟨_,hscr.sq,rfl⟩,_,_,rfl,rfl,(by rw[ab];lia),?_⟩⟩
 have i1:0<=(k:Int)*7 % ((ns.map V.int).length:Nat):=cP _ (by rw[ab];lia)
 have i2:(k:Int)*7 % ((ns.map V.int).length:Nat)<((ns.map V.int).length:Nat):=cJ _ (by rw[ab];lia)
 rw[ab] at i1 i2
 have i3:((k:Int)*7 % (ns.length:Nat)).toNat<ns.length:=by lia
 refine m6 hscr.sq (by rw[ab];exact i1) (v:=.int ns[((k:Int)*7 % (ns.length:Nat)).toNat]) (by simp only[ab];rw[aC,aa i3];rfl) ?_
 exact⟨_,rfl,.inl ⟨_,_,rfl,rfl,.inl ⟨_,_,rfl,rfl,.inr ⟨by lia,by lia⟩,.inl ⟨_,_,rfl,rfl,rest _⟩⟩⟩⟩
theorem KW{K:Fg}{vs:List V}{H:Hp}{Q:VK}{E:XK}(h:bY K vs H Q E):FQ K {nx:=λ_ H'=>Q .non H',rt:=Q} (cY zt vs) H:=by
 obtain⟨st,m,k,rfl,S,hk,m0,m1,q⟩:=h
 obtain⟨scr,ns,c,hst,hscr,hns⟩:=S
 refine⟨_,rfl,_,rfl,.inl ⟨st,_,rfl,ce.of hst,λp hp=>?_⟩⟩
 refine⟨p,_,rfl,ce.of ag,rfl,_,_,rfl,_,_,rfl,rfl,?_⟩
 have np:st≠p:=ar hst hp
 have B1:fh st H (upd H p (.lst (ng [V.ref scr,V.int (k:Nat),V.int c] none (some 2)))):=(fh.refl st H).new hp
 have h1:(upd H p (.lst (ng [V.ref scr,V.int (k:Nat),V.int c] none (some 2)))) st=some (.lst [.ref scr,.int (k:Nat),.int c]):=by rw[ax np];exact hst
 have s1:kP K (upd H p (.lst (ng [V.ref scr,V.int (k:Nat),V.int c] none (some 2)))) scr ns:=hscr.mono (.of_but B1 hst)
 generalize upd H p (.lst (ng [V.ref scr,V.int (k:Nat),V.int c] none (some 2)))=H1 at B1 h1 s1 ⊢
 refine⟨_,rfl,.inl ⟨_,_,rfl,rfl,_,rfl,yx h1 (by decide) (by show 1<3;decide) ?_⟩⟩
 have B2:fh st H (upd H1 st (.lst [.ref scr,.int ((k:Int)+1),.int c])):=B1.trans .upd_at
 have h2:(upd H1 st (.lst [.ref scr,.int ((k:Int)+1),.int c])) st=some (.lst [.ref scr,.int ((k:Int)+1),.int c]):=ag
 have s2:kP K (upd H1 st (.lst [.ref scr,.int ((k:Int)+1),.int c])) scr ns:=s1.mono (.of_but .upd_at h1)
 show yG K _ [some (.ref st),some (.int m),some (.ref scr),some (.int (k:Nat)),none,none] (upd H1 st (.lst [.ref scr,.int ((k:Int)+1),.int c]))
 generalize upd H1 st (.lst [.ref scr,.int ((k:Int)+1),.int c])=H2 at B2 h2 s2 ⊢
 have tail:=@q5 K st scr m k ns c H H2 Q none none (λ_ H'=>Q .non H') hk m0 q h2 s2 hns B2
 have dig:∀(c':Int) (H3:Hp),H3 st=some (.lst [.ref scr,.int ((k:Int)+1),.int c'])->kP K H3 scr ns->fh st H H3->
   yF K {nx:=pZ K {nx:=λ_ H'=>Q .non H',rt:=Q},rt:=Q} [some (.ref st),some (.int m),some (.ref scr),some (.int (k:Nat)),none,none] H3:=λc' H3 h3 s3 B3=>by
  refine⟨_,rfl,m6 (ce.of h3) (by decide) rfl ?_⟩
  refine⟨_,rfl,(by show 2<=sizeLine;decide),λt ht=>⟨t,_,rfl,.inr (dZ.of ag),rfl,rfl,_,rfl,?_⟩⟩
  have n3:st≠t:=ar h3 ht
  have B4:fh st H (upd H3 t (.tup [.int 0,.int (-1)])):=B3.new ht
  have h4:(upd H3 t (.tup [.int 0,.int (-1)])) st=some (.lst [.ref scr,.int ((k:Int)+1),.int c']):=by rw[ax n3];exact h3
  have s4:kP K (upd H3 t (.tup [.int 0,.int (-1)])) scr ns:=s3.mono (.of_same ((aV.refl H3).new ht))
  refine uW (λ_=>?_) (λ_=>?_)
  ·-- _law_state[2],_law_digit=divmod(_law_state[2],_law_many)
   refine⟨_,rfl,.inl ⟨st,_,_,_,rfl,rfl,ce.of h4,vT (by decide) rfl,_,rfl,_,_,rfl,⟨m0,m1⟩,λp2 hp2=>?_⟩⟩
   have n4:st≠p2:=ar h4 hp2
   refine⟨p2,_,rfl,dZ.of ag,rfl,_,_,rfl,_,rfl,yx (by rw[ax n4];exact h4) (by decide) (by show 2<3;decide) ?_⟩
   refine⟨_,_,rfl,rfl,_,rfl,?_⟩
   have B5:=(B4.new (o:=.tup [.int (c' / m),.int (c' % m)]) hp2)
   have s5:kP K (upd (upd H3 t (.tup [.int 0,.int (-1)])) p2 (.tup [.int (c' / m),.int (c' % m)])) scr ns:=s4.mono (.of_same ((aV.refl _).new hp2))
   have h5:(upd (upd H3 t (.tup [.int 0,.int (-1)])) p2 (.tup [.int (c' / m),.int (c' % m)])) st=some (.lst [.ref scr,.int ((k:Int)+1),.int c']):=by rw[ax n4];exact h4
   refine q _ _ (cP _ (by lia)) (cJ _ m0) ⟨scr,ns,c' / m,?_,s5.mono (.of_but .upd_at h5),hns⟩ (B5.trans .upd_at)
   have e1:(((k+1:Nat):Nat):Int)=(k:Int)+1:=by lia
   rw[ag,e1]
   rfl
  ·exact q5 hk m0 q h4 s4 hns B4
 have e1:(((k+1:Nat):Nat):Int)=(k:Int)+1:=by lia
 have elif:eP (cb (bA wI (au 3) (iI (jP K) (ao (au 2) aP)))) (dt (bA kW (bA (dN K) (au 2) (au 3)) (au 1))) cO
   {nx:=pZ K {nx:=λ_ H'=>Q V.non H',rt:=Q},rt:=Q} [some (V.ref st),some (V.int m),some (V.ref scr),some (V.int (k:Nat)),none,none] H2:=by
  refine⟨_,rfl,_,rfl,_,_,rfl,.inl ⟨_,s2.sq,rfl⟩,_,_,rfl,rfl,_,rfl,cI (λhlt=>?_) (λ_=>tail)⟩
  rw[ab] at hlt
  have j2:((k:Nat):Int).toNat<ns.length:=by lia
  refine⟨_,rfl,_,rfl,m6 s2.sq (by lia) (v:=.int ns[((k:Nat):Int).toNat]) (by rw[aC,aa j2];rfl) ?_⟩
  refine⟨_,rfl,_,_,rfl,rfl,m0,?_⟩
  exact q _ H2 (cP _ (by lia)) (cJ _ m0) ⟨scr,ns,c,by rw[e1];exact h2,s2,hns⟩ B2
 refine⟨_,rfl,_,_,rfl,rfl,⟨by decide,by decide⟩,.inl ⟨_,_,rfl,rfl,_,rfl,_,_,rfl,.inl ⟨_,s2.sq,rfl⟩,_,_,rfl,rfl,_,rfl,cI (λhlt=>?_) (λ_=>?_)⟩⟩
 ·rw[ab] at hlt
  have hlp:0<ns.length:=by lia
  have i0:(ns.map V.int)[(0:Int).toNat]?=some (.int ns[0]):=by
   show(ns.map V.int)[0]?=_
   rw[aC,aa hlp];rfl
  refine⟨_,rfl,m6 s2.sq (by decide) i0 ⟨_,_,rfl,rfl,(by show(0:Int)<2;decide),.inl ⟨rfl,_,rfl,cI (λ_=>?_) (λ_=>?_)⟩⟩⟩
  ·-- if _law_k % 12==0
   refine⟨_,rfl,_,_,rfl,rfl,(by show(0:Int)<12;decide),.inl ⟨rfl,_,rfl,cI (λ_=>?_) (λ_=>dig c H2 h2 s2 B2)⟩⟩
   have j2:((k:Int) / 12+1).toNat<ns.length:=by lia
   refine⟨_,rfl,_,rfl,_,_,rfl,rfl,⟨by decide,by decide⟩,.inl ⟨_,_,rfl,rfl,m6 s2.sq (by lia) (v:=.int ns[((k:Int) / 12+1).toNat]) (by rw[aC,aa j2];rfl) ?_⟩⟩
   refine⟨_,rfl,yx h2 (by decide) (by show 2<3;decide) ?_⟩
   exact dig _ _ ag (s2.mono (.of_but .upd_at h2)) (B2.trans .upd_at)
  ·exact elif
 ·exact lg elif
theorem ID{K:Fg}{vs:List V}{H:Hp}{Q:VK}{E:XK}(h:kF K vs H Q E):Cj K {nx:=λ_ H'=>Q .non H',rt:=Q} (cY vN vs) H:=by
 obtain⟨st,k,rfl,S,hk,q⟩:=h
 have e31:(2:Int) ^ ef 31=2147483648:=by decide
 have e33:(2:Int) ^ ef 33=8589934592:=by decide
 have e64:(2:Int) ^ ef 64=18446744073709551616:=by decide
 have f64:(2:Int) ^ 64=18446744073709551616:=by decide
 refine⟨_,rfl,st,2,k,rfl,S,by lia,by decide,by decide,λd H1 d0 d1 S1 B1=>?_⟩
 refine .inl ⟨rfl,_,rfl,cI (λ_=>?_) (λ_=>?_)⟩
 ·refine⟨_,rfl,_,_,rfl,rfl,⟨by decide,by decide,by decide⟩,st,_,k+1,rfl,S1,by lia,by rw[e31];decide,by rw[e31];decide,λd2 H2 a0 a1 S2 B2=>?_⟩
  rw[e31] at a1
  refine⟨_,_,rfl,rfl,⟨by decide,by decide,by decide⟩,.inl ⟨_,_,rfl,rfl,.inl ⟨by lia,by lia⟩,?_⟩⟩
  refine⟨_,rfl,_,_,rfl,rfl,⟨by decide,by decide,by decide⟩,st,_,k+2,rfl,S2,by lia,by rw[e31];decide,by rw[e31];decide,λd3 H3 b0 b1 S3 B3=>?_⟩
  rw[e31] at b1
  refine .inl ⟨_,_,rfl,rfl,q _ _ H3 ?_ ?_ S3 (by lia) ((B1.trans B2).trans B3)⟩
  ·show 0<=d2*(2:Int) ^ ef 33+d3
   rw[e33];lia
  ·show d2*(2:Int) ^ ef 33+d3<2 ^ 64
   rw[e33,f64];lia
 ·refine⟨_,_,rfl,rfl,⟨by decide,by decide,by decide⟩,_,_,rfl,rfl,_,rfl,st,3,k+1,rfl,S1,by lia,by decide,by decide,λd2 H2 a0 a1 S2 B2=>?_⟩
  refine⟨_,_,rfl,rfl,_,rfl,st,12,k+2,rfl,S2,by lia,by decide,by decide,λd3 H3 b0 b1 S3 B3=>?_⟩
  refine⟨(by show 4<=sizeLine;decide),λl hl=>?_⟩
  refine⟨_,rfl,st,4,k+3,rfl,S3.new hl,by lia,by decide,by decide,λd4 H4 c0 c1 S4 B4=>?_⟩
  obtain⟨ys,hys⟩:=S3.lst
  have nl:l≠st:=λz=>by rw[z,hys] at hl;cases hl
  have h4:=B4 l _ nl ag
  have B5:fh st H H4:=(((B1.trans B2).trans B3).new hl).trans B4
  have fin:∀z:Int,0<=z->z<2 ^ 64->Q (.int z) H4:=λz z0 z1=>q z _ H4 z0 z1 S4 (by lia) B5
  rcases(by lia:d4=0\/d4=1\/d4=2\/d4=3) with rfl|rfl|rfl|rfl
  ·exact m6 (ce.of h4) (by decide) rfl (fin _ (by decide) (by decide))
  ·exact m6 (ce.of h4) (by decide) rfl (fin _ (by decide) (by decide))
  ·refine m6 (ce.of h4) (by decide) rfl (fin _ ?_ ?_)
   ·show 0<=(2:Int) ^ ef 64-1-d2
    rw[e64];lia
   ·show(2:Int) ^ ef 64-1-d2<2 ^ 64
    rw[e64,f64];lia
  ·exact m6 (ce.of h4) (by decide) rfl (fin _ (by lia) (by lia))
theorem lF{K:Fg}{p:Addr}{xs:List V}{i:Int}{v:V}{H:Hp}{Q:VK}(h:H p=some (.lst xs)\/H p=some (.tup xs))(h0:0<=i)(e:xs[i.toNat]?=some v)(q:Q v H):dN K (.ref p) (.int i) H Q:=by
 rcases h with h|h
 ·exact m6 (ce.of h) h0 e q
 ·exact dM h h0 e q
theorem Iz{K:Fg}{vs:List V}{H:Hp}{Q:VK}{E:XK}(h:kD K vs H Q E):B9 K {nx:=λ_ H'=>Q .non H',rt:=Q} (cY vI vs) H:=by
 obtain⟨rt,n,rvs,v,r,rfl,hrt,hv,hr,q⟩:=h
 have hn:rvs[((n:Nat):Int).toNat]?=some v:=by simpa using hv
 have n0:(0:Int)<=((n:Nat):Int):=by lia
 have e1:(((n+1:Nat):Nat):Int)=(n:Int)+1:=by lia
 cases r with
 |num x z=>
  obtain⟨p,rfl,h⟩:=hr
  refine⟨_,rfl,_,rfl,lF hrt n0 hn (dM h (by decide) rfl (.inl ⟨rfl,_,rfl,no (by decide +kernel) ?_⟩))⟩
  refine⟨_,rfl,_,rfl,lF hrt n0 hn (dM h (by decide) rfl (.inl ⟨rfl,_,rfl,no (by decide +kernel) ?_⟩))⟩
  refine⟨_,rfl,_,rfl,lF hrt n0 hn (dM h (by decide) rfl (.inl ⟨rfl,_,rfl,no (by decide +kernel) ?_⟩))⟩
  exact⟨_,rfl,.inl ⟨_,_,rfl,rfl,⟨(by show 1<=sizeLine;decide),λt ht=>(by have z:=q t ht;unfold aO bS at z;simp only[bt,cr,e1] at z;exact z)⟩⟩⟩
 |op x s a b=>
  obtain⟨p,rfl,h⟩:=hr
  refine⟨_,rfl,_,rfl,lF hrt n0 hn (dM h (by decide) rfl (.inl ⟨rfl,_,rfl,no (by decide +kernel) ?_⟩))⟩
  refine⟨_,rfl,_,rfl,lF hrt n0 hn (dM h (by decide) rfl (.inl ⟨rfl,_,rfl,no (by decide +kernel) ?_⟩))⟩
  refine⟨_,rfl,_,rfl,lF hrt n0 hn (dM h (by decide) rfl (.inl ⟨rfl,_,rfl,no (by decide +kernel) ?_⟩))⟩
  exact⟨_,rfl,.inl ⟨_,_,rfl,rfl,⟨(by show 1<=sizeLine;decide),λt ht=>(by have z:=q t ht;unfold aO bS at z;simp only[bt,cr,e1] at z;exact z)⟩⟩⟩
 |call x k as=>
  obtain⟨p,q1,rfl,h,h1⟩:=hr
  refine⟨_,rfl,_,rfl,lF hrt n0 hn (dM h (by decide) rfl (.inl ⟨rfl,_,rfl,no (by decide +kernel) ?_⟩))⟩
  refine⟨_,rfl,_,rfl,lF hrt n0 hn (dM h (by decide) rfl (.inl ⟨rfl,_,rfl,no (by decide +kernel) ?_⟩))⟩
  refine⟨_,rfl,_,rfl,lF hrt n0 hn (dM h (by decide) rfl (.inl ⟨rfl,_,rfl,no (by decide +kernel) ?_⟩))⟩
  exact⟨_,rfl,.inl ⟨_,_,rfl,rfl,⟨(by show 1<=sizeLine;decide),λt ht=>(by have z:=q t ht;unfold aO bS at z;simp only[bt,cr,e1] at z;exact z)⟩⟩⟩
 |say a=>
  obtain⟨p,rfl,h⟩:=hr
  refine⟨_,rfl,_,rfl,lF hrt n0 hn (dM h (by decide) rfl (.inl ⟨rfl,_,rfl,no (by decide +kernel) ?_⟩))⟩
  refine⟨_,rfl,_,rfl,lF hrt n0 hn (dM h (by decide) rfl (.inl ⟨rfl,_,rfl,no (by decide +kernel) ?_⟩))⟩
  refine⟨_,rfl,_,rfl,lF hrt n0 hn (dM h (by decide) rfl (.inl ⟨rfl,_,rfl,no (by decide +kernel) ?_⟩))⟩
  exact⟨_,rfl,.inl ⟨_,_,rfl,rfl,⟨(by show 1<=sizeLine;decide),λt ht=>(by have z:=q t ht;unfold aO bS at z;simp only[bt,cr,e1] at z;exact z)⟩⟩⟩
 |jump to=>
  obtain⟨p,rfl,h⟩:=hr
  refine⟨_,rfl,_,rfl,lF hrt n0 hn (dM h (by decide) rfl (.inl ⟨rfl,_,rfl,Gz ?_⟩))⟩
  exact⟨_,rfl,_,rfl,lF hrt n0 hn (dM h (by decide) rfl ⟨(by show 1<=sizeLine;decide),λt ht=>(by have z:=q t ht;unfold aO bS at z;simp only[bt,cr,e1] at z;exact z)⟩)⟩
 |test a to=>
  obtain⟨p,rfl,h⟩:=hr
  refine⟨_,rfl,_,rfl,lF hrt n0 hn (dM h (by decide) rfl (.inl ⟨rfl,_,rfl,no (by decide +kernel) ?_⟩))⟩
  refine⟨_,rfl,_,rfl,lF hrt n0 hn (dM h (by decide) rfl (.inl ⟨rfl,_,rfl,Gz ?_⟩))⟩
  exact⟨_,rfl,.inl ⟨_,_,rfl,rfl,⟨_,rfl,_,rfl,lF hrt n0 hn (dM h (by decide) rfl ⟨(by show 2<=sizeLine;decide),λt ht=>(by have z:=q t ht;unfold aO bS at z;simp only[bt,cr,e1] at z;exact z)⟩)⟩⟩⟩
 |give a=>
  obtain⟨p,rfl,h⟩:=hr
  refine⟨_,rfl,_,rfl,lF hrt n0 hn (dM h (by decide) rfl (.inl ⟨rfl,_,rfl,no (by decide +kernel) ?_⟩))⟩
  refine⟨_,rfl,_,rfl,lF hrt n0 hn (dM h (by decide) rfl (.inl ⟨rfl,_,rfl,no (by decide +kernel) ?_⟩))⟩
  refine⟨_,rfl,_,rfl,lF hrt n0 hn (dM h (by decide) rfl (.inl ⟨rfl,_,rfl,Gz ?_⟩))⟩
  exact⟨(by show 0<=sizeLine;decide),λt ht=>(by have z:=q t ht;unfold aO bS at z;simp only[bt,cr,e1] at z;exact z)⟩
theorem Eu(c:Nat):(az c [V.str ""]).flatten=(az c ("":Str)).map V.str:=by
 induction c with
 |zero=>rfl
 |succ c ih=>rw[ck,eA,ih,ck,bt];rfl
theorem IM:∀i:Nat,i<5->∃c,("+-*<=":Str).cps.toList[i]?=some c/\(⟨#[c]⟩:Str)∈BR
 |0,_=>⟨43,by decide +kernel,by decide +kernel⟩
 |1,_=>⟨45,by decide +kernel,by decide +kernel⟩
 |2,_=>⟨42,by decide +kernel,by decide +kernel⟩
 |3,_=>⟨60,by decide +kernel,by decide +kernel⟩
 |4,_=>⟨61,by decide +kernel,by decide +kernel⟩
 |n+5,h=>by lia
theorem ym{K:Fg}{vs:List V}{H:Hp}{Q:VK}{E:XK}(h:gh K vs H Q E):rJ K {nx:=λ_ H'=>Q .non H',rt:=Q} (cY nc vs) H:=by
 obtain⟨st,nm,cn,n,k,ys,cs,rfl,S,hk,hnm,ysne,ysl,n1,n2,hcn,csne,csl,cs4,nnm,ncn,q⟩:=h
 have yl:0<ys.length:=eJ.mpr ysne
 have cl:0<cs.length:=eJ.mpr csne
 refine⟨_,rfl,_,rfl,_,rfl,_,_,rfl,.inl ⟨_,ce.of hnm,rfl⟩,st,_,k,rfl,S,by lia,by rw[ab];lia,by rw[ab];lia,λd H1 d0 d1 S1 B1=>?_⟩
 rw[ab] at d1
 have dl:d.toNat<ys.length:=by lia
 refine m6 (ce.of (B1 nm _ nnm hnm)) d0 (yC (aa dl)) ?_
 have hx:ys[d.toNat]∈ys:=dS dl
 generalize ys[d.toNat]=x at hx ⊢
 refine⟨_,rfl,st,12,k+1,rfl,S1,by lia,by decide,by decide,λs H2 s0 s1 S2 B2'=>?_⟩
 have B2:fh st H H2:=B1.trans B2'
 have hcn2:=B2 cn _ ncn hcn
 refine⟨_,rfl,_,_,rfl,rfl,_,rfl,cI (λ_=>?_) (λhs2=>?_)⟩
 ·refine⟨_,rfl,_,rfl,st,k+2,rfl,S2,by lia,λz k3 H3 z0 z1 S3 l3 B3=>⟨(by show 3<=sizeLine;decide),λp hp=>?_⟩⟩
  exact q _ (.num x z) _ _ ⟨p,rfl,ag⟩ ⟨hx,z0,z1⟩ (S3.new hp) (by lia) ((B2.trans B3).new hp)
 refine⟨_,rfl,_,_,rfl,rfl,_,rfl,cI (λ_=>?_) (λhs6=>?_)⟩
 ·refine⟨_,rfl,_,rfl,st,5,k+2,rfl,S2,by lia,by decide,by decide,λe H3 e0 e1 S3 B3=>?_⟩
  obtain⟨c,c1,c2⟩:=IM e.toNat (by lia)
  refine MA (by decide +kernel) e0 c1 ⟨(by show 5<=sizeLine;decide),λp hp=>?_⟩
  exact q _ (.op x ⟨#[c]⟩ "" "") _ _ ⟨p,rfl,ag⟩ ⟨hx,c2,rfl,rfl⟩ (S3.new hp) (by lia) ((B2.trans B3).new hp)
 refine⟨_,rfl,.inl ⟨rfl,_,rfl,cI (λ_=>?_) (λ_=>?_)⟩⟩
 ·refine⟨_,rfl,_,rfl,_,_,rfl,.inl ⟨_,ce.of hcn2,rfl⟩,st,_,k+2,rfl,S2,by lia,by rw[bv];lia,by rw[bv];lia,λe H3 e0 e1 S3 B3=>?_⟩
  rw[bv] at e1
  obtain⟨j,rfl⟩:∃j:Nat,e=(j:Int):=⟨e.toNat,by lia⟩
  have jl:j<cs.length:=by lia
  have hcn3:=B3 cn _ ncn hcn2
  have cj:cs[j]?=some cs[j]:=aa jl
  have c4:cs[j]<=4:=cs4 _ (dS jl)
  generalize cs[j]=c at cj c4
  refine⟨_,rfl,_,rfl,(by show 1<=sizeLine;decide),λp1 hp1=>?_⟩
  have nc1:cn≠p1:=ar hcn3 hp1
  refine⟨_,rfl,_,rfl,m6 (ce.of (by rw[ax nc1];exact hcn3)) (by lia) (v:=.int (c:Nat)) (by simpa using uX cj) ?_⟩
  have S4:=S3.new (o:=.tup [V.str ""]) hp1
  have B4:=(B2.trans B3).new (o:=.tup [V.str ""]) hp1
  have c5:1*c<=sizeLine:=bn (by lia) (show 100<=sizeLine by decide)
  refine .inr ⟨p1,c,[V.str ""],rfl,rfl,dZ.of ag,by simp,c5,λh1=>⟨(by show 4<=sizeLine;decide),λp hp=>?_⟩,λhne p2 hp2=>⟨(by show 4<=sizeLine;decide),λp hp=>?_⟩⟩
  ·have n1p:p1≠p:=ar ag hp
   subst h1
   refine q _ (.call x j [""]) _ _ ⟨p,p1,rfl,ag,by rw[ax n1p,ag];rfl⟩ ⟨hx,1,cj,rfl⟩ (S4.new hp) (by lia) (B4.new hp)
  ·have n2p:p2≠p:=ar ag hp
   refine q _ (.call x j (az c "")) _ _ ⟨p,p2,rfl,ag,by rw[ax n2p,ag,Eu]⟩ ⟨hx,c,cj,rfl⟩ ((S4.new hp2).new hp) (by lia) ((B4.new hp2).new hp)
 refine⟨_,rfl,_,_,rfl,rfl,_,rfl,cI (λ_=>?_) (λhs8=>?_)⟩
 ·exact⟨(by show 2<=sizeLine;decide),λp hp=>q _ (.say "") _ _ ⟨p,rfl,ag⟩ rfl (S2.new hp) (by lia) (B2.new hp)⟩
 refine⟨_,rfl,_,_,rfl,rfl,_,rfl,cI (λ_=>?_) (λhs10=>?_)⟩
 ·refine⟨_,rfl,_,rfl,st,_,k+2,rfl,S2,by lia,by lia,by lia,λe H3 e0 e1 S3 B3=>⟨(by show 3<=sizeLine;decide),λp hp=>?_⟩⟩
  obtain⟨j,rfl⟩:∃j:Nat,e=(j:Int):=⟨e.toNat,by lia⟩
  exact q _ (.test "" j) _ _ ⟨p,rfl,ag⟩ ⟨rfl,by lia⟩ (S3.new hp) (by lia) ((B2.trans B3).new hp)
 refine⟨_,rfl,_,rfl,st,_,k+2,rfl,S2,by lia,by lia,by lia,λe H3 e0 e1 S3 B3=>⟨(by show 2<=sizeLine;decide),λp hp=>?_⟩⟩
 obtain⟨j,rfl⟩:∃j:Nat,e=(j:Int):=⟨e.toNat,by lia⟩
 refine⟨(by show 2<=sizeLine;decide),λp2 hp2=>⟨(by show 2<=sizeLine;decide),λl hl=>?_⟩⟩
 have n12:p≠p2:=ar ag hp2
 have n2l:p2≠l:=ar ag hl
 have n1l:p≠l:=ar (by rw[ax n12];exact ag) hl
 have S4:=((S3.new (o:=.tup [V.str "jump",V.int (j:Nat)]) hp).new (o:=.tup [V.str "give",V.str ""]) hp2).new (o:=.lst [V.ref p,V.ref p2]) hl
 have B4:=(((B2.trans B3).new (o:=.tup [V.str "jump",V.int (j:Nat)]) hp).new (o:=.tup [V.str "give",V.str ""]) hp2).new (o:=.lst [V.ref p,V.ref p2]) hl
 refine⟨_,rfl,_,_,rfl,rfl,?_⟩
 rcases(by lia:s=10\/s=11) with rfl|rfl
 ·exact m6 (ce.of ag) (by decide) rfl (q _ (.jump j) _ _ ⟨p,rfl,by rw[ax n1l,ax n12,ag]⟩ (by show j<n;lia) S4 (by lia) B4)
 ·exact m6 (ce.of ag) (by decide) rfl (q _ (.give "") _ _ ⟨p2,rfl,by rw[ax n2l,ag]⟩ rfl S4 (by lia) B4)
def MX(st nm cn fd wl:Addr)(m:Nat)(f:Int)(ws ys:List Str)(cs:List Nat)(H:Hp)(K:Fg)(k i:Nat):St->Hp->Prop:=λσ' H'=>∃(pvs:List V) (bs:List qT) (k':Nat) (o7 o8 o9 o10:Option V),σ'=[some (.ref st),some (.int (m:Nat)),some (.int f),some (.ref wl),some (.ref nm),some (.ref cn),some (.ref fd),o7,o8,o9,o10]/\
 H' fd=some (.lst pvs)/\cK (qx H') pvs bs/\bs.length=i/\(∀b∈bs,qy ys cs b/\b.rows.length<=m+1)/\bs.map (·.name)=ws.take i/\bs.map (·.params.length)=cs.take i/\kh K H' st k'/\k'<=k+1001*i/\uk st fd H H'
theorem Dz{K:Fg}{vs:List V}{H:Hp}{Q:VK}{E:XK}(h:iC K vs H Q E):vx K {nx:=λ_ H'=>Q .non H',rt:=Q} (cY nQ vs) H:=by
 obtain⟨st,m,k,rfl,S,hk,m1,m50,q⟩:=h
 obtain⟨scr,ns,c,hst,hscr,hns⟩:=id S
 refine⟨_,rfl,m6 (ce.of hst) (by decide) rfl ⟨_,rfl,.inl ⟨scr,_,rfl,hscr.sq,λp hp=>?_⟩⟩⟩
 rw[show((1:Int))=((1:Nat):Int) from rfl,jE,<-fI]
 refine⟨p,ns.take 1,rfl,ce.of ag,λz=>⟨_,_,rfl,rfl,⟨by decide,by decide⟩,_,_,rfl,rfl,(by show(0:Int)<16;decide),.inl ⟨rfl,.inr ⟨_,rfl,?_⟩⟩⟩⟩
 have S1:=S.new (o:=.lst ((ns.take 1).map V.int)) hp
 have B1:=(fh.refl st H).new (o:=.lst ((ns.take 1).map V.int)) hp
 generalize upd H p (.lst ((ns.take 1).map V.int))=H1 at S1 B1 ⊢
 obtain⟨f,hf,f01⟩:∃f:Int,(if decide (V.int (z / 4 % 16)=V.int 5)=true then(1:Int) else 0)=f/\(f=0\/f=1):=by
  cases decide (V.int (z / 4 % 16)=V.int 5) with
  |true=>exact⟨1,rfl,.inr rfl⟩
  |false=>exact⟨0,rfl,.inl rfl⟩
 rw[hf]
 show rH K _ [some (.ref st),some (.int (m:Nat)),some (.int f),none,none,none,none,none,none,none,none] H1
 refine⟨_,rfl,st,5,k,rfl,S1,by lia,by decide,λl ws k1 H2 hl wl wnd wok h2 S2 l2 B2=>?_⟩
 have nl:l≠st:=λz=>by obtain⟨_,e⟩:=S1.lst;rw[z,e] at hl;cases hl
 refine⟨_,rfl,st,3,k1,rfl,S2,by lia,by decide,by decide,λd H3 d0 d1 S3 B3=>.inl ⟨_,_,rfl,rfl,(by show 2<=sizeLine;decide),λl4 hl4=>?_⟩⟩
 have h3:=B3 l _ nl h2
 have S4:=S3.new (o:=.lst [V.int (1+d),V.int 5]) hl4
 have B4:=(((B1.trans B2).trans B3).new (o:=.lst [V.int (1+d),V.int 5]) hl4)
 have h4:(upd H3 l4 (.lst [V.int (1+d),V.int 5])) l=some (.lst (ws.map V.str)):=by rw[ax (ar h3 hl4)];exact h3
 have g4:(upd H3 l4 (.lst [V.int (1+d),V.int 5])) l4=some (.lst [V.int (1+d),V.int 5]):=ag
 have words:∀c5:Nat,1<=c5->c5<=5->Ds K (V.ref l) none (some (c5:Int)) (upd H3 l4 (.lst [V.int (1+d),V.int 5])) λx H1=>rG K {nx:=λ_ H'=>Q .non H',rt:=Q} [some (.ref st),some (.int (m:Nat)),some (.int f),some x,none,none,none,none,none,none,none] H1:=λc5 c1 c2=>by
  generalize upd H3 l4 (.lst [V.int (1+d),V.int 5])=H4 at S4 B4 h4
  refine .inl ⟨l,_,rfl,ce.of h4,λwp hwp=>?_⟩
  rw[jE,<-fI]
  have wlen:(ws.take c5).length=c5:=by rw[be];lia
  have S5:=S4.new (o:=.lst ((ws.take c5).map V.str)) hwp
  have B5:=B4.new (o:=.lst ((ws.take c5).map V.str)) hwp
  have h5:(upd H4 wp (.lst ((ws.take c5).map V.str))) wp=some (.lst ((ws.take c5).map V.str)):=ag
  have nwp:wp≠st:=λz=>by obtain⟨_,e⟩:=S4.lst;rw[z,e] at hwp;cases hwp
  have wwnd:(ws.take c5).Nodup:=(gx c5 ws).nodup wnd
  have wwnm:∀y∈ws.take c5,Nm y:=λy hy=>wok y (fo hy)
  generalize ws.take c5=ww at wlen S5 B5 h5 wwnd wwnm ⊢
  generalize upd H4 wp (.lst (ww.map V.str))=H5 at S5 B5 h5 ⊢
  refine⟨_,rfl,_,rfl,st,5,k1+1,rfl,S5,by lia,by decide,by decide,λe H6 e0 e1 S6 B6=>.inl ⟨_,_,rfl,rfl,?_⟩⟩
  obtain⟨n,hn,n2,n6⟩:∃n:Nat,(2:Int)+e=(n:Int)/\2<=n/\n<=6:=⟨(2+e).toNat,by lia,by lia,by lia⟩
  refine⟨st,n,k1+2,by show[V.ref st,V.int (2+e)]=_;rw[hn],S6,by lia,by lia,λnm ys k7 H7 hnm yl ynd yok h7 S7 l7 B7=>?_⟩
  have nnm:nm≠st:=λz=>by obtain⟨_,e⟩:=S6.lst;rw[z,e] at hnm;cases hnm
  have nwn:wp≠nm:=ar (B6 wp _ nwp h5) hnm
  have w7:=B7 wp _ nwp (B6 wp _ nwp h5)
  have BH7:=(B5.trans B6).trans B7
  have yne:∀y∈ys,y≠"":=λy hy=>(yok y hy).ne
  have ysne:ys≠[]:=λz=>by rw[z] at yl;simp at yl;lia
  show rF K _ [some (.ref st),some (.int (m:Nat)),some (.int f),some (.ref wp),some (.ref nm),none,none,none,none,none,none] H7
  refine .inl ⟨_,rfl,wp,rfl,⟨_,ce.of w7⟩,λcn hcn=>?_⟩
  have ncn:cn≠st:=λz=>by obtain⟨_,e⟩:=S7.lst;rw[z,e] at hcn;cases hcn
  have nwc:wp≠cn:=ar w7 hcn
  have nnc:nm≠cn:=ar h7 hcn
  refine jh (xs:=ww.map V.str) (λi σ' H'=>∃(cs:List Nat) (k':Nat) (o:Option V),σ'=[some (.ref st),some (.int (m:Nat)),some (.int f),some (.ref wp),some (.ref nm),none,none,o,none,none,none]/\H' cn=some (.lst (aO cs))/\cs.length=i/\(∀x∈cs,x<=4/\x<=ys.length)/\kh K H' st k'/\k'<=k7+i/\fh st H7 H') ?_ ?_ ?_ ?_
  ·exact⟨[],k7,none,rfl,ag,rfl,by simp,S7.new hcn,by lia,(fh.refl st H7).new hcn⟩
  ·rintro i σ' H' _ ⟨_,_,_,_,_,_,_,_,_,B⟩
   exact ce.of (B wp _ nwp w7)
  ·rintro i x σ' H' hx ⟨cs,k',o,rfl,hc,cl,c4,S',hk',B'⟩
   have il:i<ww.length:=by have:=(af.mp hx).1;rw[ab] at this;exact this
   refine j4 ⟨_,rfl,_,rfl,_,_,rfl,.inl ⟨_,ce.of (B' nm _ nnm h7),rfl⟩,_,_,rfl,.inl ⟨_,_,rfl,rfl,?_⟩⟩
   rw[ab]
   refine⟨st,_,k',rfl,S',by lia,?_,?_,λg H8 g0 g1 S8 B8=>?_⟩
   ·by_cases z:((ys.length:Nat):Int)<4
    ·rw[if_pos z];lia
    ·rw[if_neg z];lia
   ·by_cases z:((ys.length:Nat):Int)<4
    ·rw[if_pos z];lia
    ·rw[if_neg z];lia
   obtain⟨gn,rfl⟩:∃j:Nat,g=(j:Int):=⟨g.toNat,by lia⟩
   have g4:gn<=4/\gn<=ys.length:=by
    by_cases z:((ys.length:Nat):Int)<4
    ·rw[if_pos z] at g1;lia
    ·rw[if_neg z] at g1;lia
   have h8:=B8 cn _ ncn hc
   refine⟨_,h8,cc (by rw[bv];lia),cs++[gn],k'+1,_,rfl,?_,by simp[cl],λx hx=>?_,S8.mono .upd_at h8 (Ne.symm ncn),by lia,?_⟩
   ·rw[ag];unfold aO;rw[aN];rfl
   ·rcases aB.mp hx with z|z
    ·exact c4 x z
    ·rw[ae.mp z];exact g4
   ·exact fh.past (B'.trans B8) hcn .upd_at
  ·rintro σ' H8 ⟨cs,k8,o,_,hc,cl,c4,S8,hk8,B8⟩
   rw[ab] at cl hk8
   have csne:cs≠[]:=λz=>by rw[z] at cl;simp at cl;lia
   have w8:=B8 wp _ nwp w7
   have n8:=B8 nm _ nnm h7
   have BH8:=BH7.trans B8
   show rE K _ [some (.ref st),some (.int (m:Nat)),some (.int f),some (.ref wp),some (.ref nm),some (.ref cn),none,none,none,none,none] H8
   refine⟨(by show 0<=sizeLine;decide),λfd hfd=>?_⟩
   have nfd:fd≠st:=λz=>by obtain⟨_,e⟩:=S8.lst;rw[z,e] at hfd;cases hfd
   have s9:aV H8 (upd H8 fd (.lst [])):=(aV.refl H8).new hfd
   have g9:(upd H8 fd (.lst [])) fd=some (.lst []):=ag
   have HF:H fd=none:=BH8.free nfd hfd
   have nwf:wp≠fd:=ar w8 hfd
   have nnf:nm≠fd:=ar n8 hfd
   have ncf:cn≠fd:=ar hc hfd
   show rD K _ [some (.ref st),some (.int (m:Nat)),some (.int f),some (.ref wp),some (.ref nm),some (.ref cn),some (.ref fd),none,none,none,none] (upd H8 fd (.lst []))
   generalize upd H8 fd (.lst [])=H9 at s9 g9 ⊢
   refine⟨_,rfl,_,rfl,wp,cn,rfl,⟨_,ce.of (s9 _ _ w8)⟩,⟨_,ce.of (s9 _ _ hc)⟩,G0 (xs:=ww.map V.str) (ys:=aO cs) (by rw[ab,bv,cl]) (MX st nm cn fd wp m f ww ys cs H9 K k8) ?_ ?_ ?_ ?_⟩
   ·exact⟨[],[],k8,none,none,none,none,rfl,g9,.nil,rfl,by simp,rfl,rfl,S8.same s9,by lia,.refl _ _ _⟩
   ·rintro i σ' H' _ ⟨_,_,_,_,_,_,_,_,_,_,_,_,_,_,_,_,B⟩
    exact⟨ce.of (B wp _ nwp nwf (s9 _ _ w8)),ce.of (B cn _ ncn ncf (s9 _ _ hc))⟩
   ·rintro i x y σ' H' tp hx hy htp ⟨pvs,bs,k',o7,o8,o9,o10,rfl,hpv,hA,bl,b100,bnm,bct,S',hk',B'⟩
    have il:i<ww.length:=by have:=(af.mp hx).1;rw[ab] at this;exact this
    obtain⟨c,hcc,rfl⟩:=pG hy
    rw[aC,aa il] at hx
    obtain⟨w,hw,rfl⟩:∃w:Str,ww[i]?=some w/\x=.str w:=⟨ww[i],aa il,(Option.some.inj hx).symm⟩
    have s2:aV H' (upd H' tp (.tup [.str w,.int (c:Nat)])):=(aV.refl H').new htp
    have g2:(upd H' tp (.tup [.str w,.int (c:Nat)])) tp=some (.tup [.str w,.int (c:Nat)]):=ag
    generalize upd H' tp (.tup [.str w,.int (c:Nat)])=H10 at s2 g2 ⊢
    refine⟨tp,_,rfl,dZ.of g2,rfl,_,_,rfl,_,_,rfl,rfl,?_⟩
    show rC K _ [some (.ref st),some (.int (m:Nat)),some (.int f),some (.ref wp),some (.ref nm),some (.ref cn),some (.ref fd),some (.str w),some (.int (c:Nat)),o9,o10] H10
    have nm10:=s2 _ _ (B' nm _ nnm nnf (s9 _ _ n8))
    have cn10:=s2 _ _ (B' cn _ ncn ncf (s9 _ _ hc))
    have fd10:=s2 _ _ hpv
    refine⟨_,rfl,_,rfl,_,_,rfl,.inl ⟨_,ce.of nm10,rfl⟩,st,_,k',rfl,S'.same s2,by lia,by rw[ab];lia,by rw[ab];lia,λt H11 t0 t1 S11 B11=>?_⟩
    obtain⟨tn,rfl⟩:∃j:Nat,t=(j:Int):=⟨t.toNat,by lia⟩
    show rB K _ [some (.ref st),some (.int (m:Nat)),some (.int f),some (.ref wp),some (.ref nm),some (.ref cn),some (.ref fd),some (.str w),some (.int (c:Nat)),some (.int (tn:Nat)),o10] H11
    have nm11:=B11 nm _ nnm nm10
    have cn11:=B11 cn _ ncn cn10
    have fd11:=B11 fd _ nfd fd10
    refine⟨_,rfl,_,rfl,_,rfl,.inl ⟨nm,_,rfl,ce.of nm11,λa1 ha1=>?_⟩⟩
    rw[xp,<-om]
    have nm12:(upd H11 a1 (.lst ((ys.drop tn).map V.str))) nm=some (.lst (ys.map V.str)):=by rw[ax (ar nm11 ha1)];exact nm11
    refine⟨_,rfl,_,rfl,_,rfl,.inl ⟨nm,_,rfl,ce.of nm12,λa2 ha2=>?_⟩⟩
    rw[jE,<-fI]
    have n12:a1≠a2:=ar ag ha2
    refine .inr (.inr (.inl ⟨a1,a2,_,_,rfl,rfl,by rw[ax n12,ag],ag,?_,λa3 ha3=>?_⟩))
    ·have:=cc (n:=100) (by decide)
     rw[ab,ab,dU,be];lia
    rw[<-aN]
    refine⟨_,rfl,_,rfl,.inl ⟨a3,_,rfl,ce.of ag,λpr hpr=>?_⟩⟩
    rw[jE,<-fI]
    have pin:∀y∈(ys.drop tn++ys.take tn).take c,y∈ys:=λy hy=>by
     rcases aB.mp (fo hy) with z|z
     ·exact List.mem_of_mem_drop z
     ·exact fo z
    have pnd:((ys.drop tn++ys.take tn).take c).Nodup:=by
     refine(gx c _).nodup ?_
     have z:(ys.take tn++ys.drop tn).Nodup:=by rw[List.take_append_drop];exact ynd
     exact(List.perm_append_comm.nodup_iff).mp z
    have plc:((ys.drop tn++ys.take tn).take c).length=c:=by
     have:=(c4 c (aA hcc)).2
     rw[be,ai,dU,be];lia
    have pl:((ys.drop tn++ys.take tn).take c).length<=100:=by
     rw[be,ai,dU,be];lia
    have s13:aV H11 (upd (upd (upd (upd H11 a1 (.lst ((ys.drop tn).map V.str))) a2 (.lst ((ys.take tn).map V.str))) a3 (.lst ((ys.drop tn++ys.take tn).map V.str))) pr (.lst (((ys.drop tn++ys.take tn).take c).map V.str))):=((((aV.refl H11).new ha1).new ha2).new ha3).new hpr
    have g13:(upd (upd (upd (upd H11 a1 (.lst ((ys.drop tn).map V.str))) a2 (.lst ((ys.take tn).map V.str))) a3 (.lst ((ys.drop tn++ys.take tn).map V.str))) pr (.lst (((ys.drop tn++ys.take tn).take c).map V.str))) pr=some (.lst (((ys.drop tn++ys.take tn).take c).map V.str)):=ag
    show rA K _ [some (.ref st),some (.int (m:Nat)),some (.int f),some (.ref wp),some (.ref nm),some (.ref cn),some (.ref fd),some (.str w),some (.int (c:Nat)),some (.int (tn:Nat)),some (.ref pr)] (upd (upd (upd (upd H11 a1 (.lst ((ys.drop tn).map V.str))) a2 (.lst ((ys.take tn).map V.str))) a3 (.lst ((ys.drop tn++ys.take tn).map V.str))) pr (.lst (((ys.drop tn++ys.take tn).take c).map V.str)))
    generalize upd (upd (upd (upd H11 a1 (.lst ((ys.drop tn).map V.str))) a2 (.lst ((ys.take tn).map V.str))) a3 (.lst ((ys.drop tn++ys.take tn).map V.str))) pr (.lst (((ys.drop tn++ys.take tn).take c).map V.str))=H13 at s13 g13 ⊢
    generalize (ys.drop tn++ys.take tn).take c=ps at pin pl pnd plc g13
    have S13:=S11.same s13
    have npr:pr≠st:=λz=>by
     have:=Cl S13 (v:=.ref pr) ⟨pr,rfl,g13⟩
     exact this (by rw[z])
    have fd13:=s13 _ _ fd11
    refine⟨_,rfl,.inl ⟨rfl,_,ce.of fd13⟩,_,rfl,_,rfl,_,rfl,_,rfl,_,rfl,_,rfl,st,nm,pr,cn,w,m,k'+1,ys,ps,cs,rfl,S13,by lia,s13 _ _ nm11,ysne,by lia,yne,g13,pl,pnd,pin,s13 _ _ cn11,csne,by lia,λx hx=>(c4 x hx).1,m1,m50,nnm,npr,ncn,λv b k14 H14 hv hbn hbp bok br S14 l14 B14=>?_⟩
    have fd14:=B14 fd _ nfd fd13
    obtain⟨_,e11⟩:=(S'.same s2).lst
    obtain⟨_,e13⟩:=S13.lst
    have t14:Tp H' H14:=(((Tp.of_same s2).trans (.of_but B11 e11)).trans (.of_same s13)).trans (.of_but B14 e13)
    have t15:Tp H14 (upd H14 fd (.lst (pvs++[v]))):=(Tp.refl H14).lst fd14
    refine⟨fd,_,_,rfl,rfl,fd14,cc (by rw[hA.len];lia),?_⟩
    refine⟨pvs++[v],bs++[b],k14,_,_,_,_,rfl,ag,(hA.imp λ_ _ z=>(z.mono t14).mono t15).snoc (hv.mono t15),by simp[bl],λb' hb'=>(aB.mp hb').elim (b100 b') (λz=>by rw[ae.mp z];exact⟨bok,br⟩),by rw[aN,bnm,fr,hw,List.map_singleton,hbn];rfl,by rw[aN,bct,fr,hcc,List.map_singleton,hbp,plc];rfl,S14.mono .upd_at fd14 (Ne.symm nfd),by lia,?_⟩
    exact λe u n1 n2 h=>by rw[ax n2];exact B14 e u n1 (s13 _ _ (B11 e u n1 (s2 _ _ (B' e u n1 n2 h))))
   ·rintro σ' H' ⟨pvs,bs,k',o7,o8,o9,o10,rfl,hpv,hA,bl,b100,bnm,bct,S',hk',B'⟩
    rw[ab] at bl hk'
    refine⟨_,rfl,fd,_,rfl,.inl ⟨ce.of hpv,λl hl=>?_⟩⟩
    rw[ab,<-cl] at bct
    rw[ab] at bnm
    rw[bK] at bnm bct
    have ok:D9 ys cs bs:=⟨ynd,yok,by lia,by lia,by lia,by lia,by rw[bnm];exact wwnd,λb hb=>wwnm _ (by rw[<-bnm];exact List.mem_map_of_mem hb),bct,λx hx=>(c4 x hx).1,λb hb=>(b100 b hb).1⟩
    refine q l pvs bs ys cs k' _ ag (hA.imp λ_ _ z=>z.mono ((Tp.refl H').new hl)) ok (λb hb=>(b100 b hb).2) (S'.new hl) (by lia) (fh.new ?_ hl)
    exact λe u n1 h=>B' e u n1 (ar h HF) (s9 _ _ (BH8 e u n1 h))
 rcases f01 with rfl|rfl
 ·refine⟨_,rfl,m6 (ce.of g4) (by decide) rfl ⟨_,rfl,?_⟩⟩
  obtain⟨c5,h5,c1,c2⟩:∃c5:Nat,(1:Int)+d=(c5:Int)/\1<=c5/\c5<=5:=⟨(1+d).toNat,by lia,by lia,by lia⟩
  have z:=words c5 c1 c2
  rw[<-h5] at z
  exact z
 ·refine⟨_,rfl,m6 (ce.of g4) (by decide) rfl ⟨_,rfl,?_⟩⟩
  exact words 5 (by decide) (by decide)
theorem u4(b:List V)(x:V):(lH b x).length=b.length:=by
 unfold lH;rw[be,bM];omega
theorem IF(n:Nat)(x:V):(az n [x]).flatten=az n x:=by
 induction n with
 |zero=>rfl
 |succ n ih=>rw[ck,eA,ih,ck];rfl
theorem Av{K:Fg}{vs:List V}{H:Hp}{Q:VK}{E:XK}(h:gK K vs H Q E):uc K {nx:=λ_ H'=>Q .non H',rt:=Q} (cY oI vs) H:=by
 obtain⟨b,x,xs,rfl,hb,hne,hl,q⟩:=h
 refine⟨_,rfl,(by show 1<=sizeLine;decide),λt ht=>⟨_,rfl,?_⟩⟩
 have hb1:(upd H t (.tup [x])) b=some (.tup xs):=by rw[ax (ar hb ht)];exact hb
 refine .inr (.inr (.inr ⟨t,b,[x],xs,rfl,rfl,dZ.of ag,dZ.of hb1,by simp,?_,λz=>absurd z hne,λ_ p hp=>?_⟩))
 ·exact bW (cc (by rw[aS];omega))
 have hb2:(upd (upd H t (.tup [x])) p (.tup ([x]++xs))) b=some (.tup xs):=by rw[ax (ar hb1 hp)];exact hb1
 refine⟨_,rfl,_,_,rfl,.inr ⟨xs,dZ.of hb2,rfl⟩,_,rfl,.inr ⟨p,_,rfl,dZ.of ag,?_,λp2 hp2=>?_⟩⟩
 ·rintro⟨_,z⟩
  rw[HT.sIx_nat] at z
  simp at z
 ·refine q p2 _ ?_ (((aV.refl H).new ht).new hp |>.new hp2)
  rw[ag,jE]
  rfl
theorem Dt{K:Fg}{vs:List V}{H:Hp}{Q:VK}{E:XK}(h:iz K vs H Q E):vp K {nx:=λ_ H'=>Q .non H',rt:=Q} (cY qp vs) H:=by
 obtain⟨n,a,e,xs,rfl,ha,n1,nl,q⟩:=h
 have rep:(az n [e]).flatten=az n e:=IF n e
 have main:∀(p:Addr) (H1:Hp),H1 p=some (.tup (az n e))->aV H H1->rp K {nx:=λ_ H'=>Q .non H',rt:=Q} [some (.int (n:Nat)),some (.ref a),some e,some (.ref p),none] H1:=λp H1 h1 s1=>by
  have turn:∀(i:Nat) x (σ':St) (H':Hp) (D:og),xs[i]?=some x->(∃pp o,σ'=[some (.int (n:Nat)),some (.ref a),some e,some (.ref pp),o]/\H' pp=some (.tup ((xs.take i).foldl lH (az n e)))/\aV H H')->
    (∀σ2 H2,(∃pp o,σ2=[some (.int (n:Nat)),some (.ref a),some e,some (.ref pp),o]/\H2 pp=some (.tup ((xs.take (i+1)).foldl lH (az n e)))/\aV H H2)->D.nx σ2 H2)->
    bb 4 x σ' H' λσ2 H2=>rn K D σ2 H2:=by
   rintro i x σ' H' D hx ⟨pp,o,rfl,hp,s'⟩ hD
   refine⟨_,rfl,_,rfl,pp,x,_,rfl,hp,?_,?_,λp2 H2 h2 s2=>?_⟩
   ·intro z
    have l0:∀(ys b:List V),(ys.foldl lH b).length=b.length:=λys=>by
     induction ys with
     |nil=>intro b;rfl
     |cons y r ih=>intro b;rw[gk,ih,u4]
    have:=l0 (xs.take i) (az n e)
    rw[z,bf] at this
    simp at this;omega
   ·have l0:∀(ys b:List V),(ys.foldl lH b).length=b.length:=λys=>by
     induction ys with
     |nil=>intro b;rfl
     |cons y r ih=>intro b;rw[gk,ih,u4]
    rw[l0,bf];exact nl
   ·refine hD _ _ ⟨p2,_,rfl,?_,s'.trans s2⟩
    rw[h2]
    have et:xs.take (i+1)=xs.take i++[x]:=by
     rw[fr,hx];rfl
    rw[et,iL]
    rfl
  have fin:∀(σ':St) (H':Hp),(∃pp o,σ'=[some (.int (n:Nat)),some (.ref a),some e,some (.ref pp),o]/\H' pp=some (.tup ((xs.take xs.length).foldl lH (az n e)))/\aV H H')->
    rm K {nx:=λ_ H'=>Q .non H',rt:=Q} σ' H':=by
   rintro σ' H' ⟨pp,o,rfl,hp,s'⟩
   rw[bK] at hp
   exact⟨_,rfl,q pp _ hp s'⟩
  rcases ha with ha|ha
  ·refine .inl ⟨_,rfl,a,rfl,⟨_,ce.of (s1 _ _ ha)⟩,ib (xs:=xs) (λi σ' H'=>∃pp o,σ'=[some (.int (n:Nat)),some (.ref a),some e,some (.ref pp),o]/\H' pp=some (.tup ((xs.take i).foldl lH (az n e)))/\aV H H') ⟨p,_,rfl,h1,s1⟩ ?_ ?_ fin⟩
   ·rintro i σ' H' _ ⟨pp,o,_,_,s'⟩;exact ce.of (s' _ _ ha)
   ·intro i x σ' H' hx hi
    exact turn i x σ' H' _ hx hi λσ2 H2 z=>z
  ·refine .inr ⟨_,rfl,a,rfl,⟨_,dZ.of (s1 _ _ ha)⟩,kR (xs:=xs) (λi σ' H'=>∃pp o,σ'=[some (.int (n:Nat)),some (.ref a),some e,some (.ref pp),o]/\H' pp=some (.tup ((xs.take i).foldl lH (az n e)))/\aV H H') ⟨p,_,rfl,h1,s1⟩ ?_ ?_ fin⟩
   ·rintro i σ' H' _ ⟨pp,o,_,_,s'⟩;exact dZ.of (s' _ _ ha)
   ·intro i x σ' H' hx hi
    exact turn i x σ' H' _ hx hi λσ2 H2 z=>z
 refine⟨_,rfl,(by show 1<=sizeLine;decide),λt ht=>⟨_,rfl,.inr ⟨t,n,[e],rfl,rfl,dZ.of ag,by simp,?_,λz=>?_,λ_ p hp=>?_⟩⟩⟩
 ·exact bW (cc (by rw[aS];omega))
 ·subst z
  exact main t _ ag ((aV.refl H).new ht)
 ·exact main p _ (by rw[ag,rep]) (((aV.refl H).new ht).new hp)
end Bg
end
section
namespace Bg
open PySem PySem.Spec PyProof.Rows L2
end Bg
end
section
namespace Bg
open PySem L2
theorem DU{α:Type}{xs:List α}{i:Nat}{x:α}(h:xs[i]?=some x):xs.take (i+1)=xs.take i++[x]:=by rw[fr,h];rfl
theorem Fv{K:Fg}{vs:List V}{H:Hp}{Q:VK}{E:XK}(h:jo K vs H Q E):za K {nx:=λ_ H'=>Q .non H',rt:=Q} (cY sk vs) H:=by
 obtain⟨b,n,os,ns,rfl,hb,hn,ol,q⟩:=h
 refine⟨(by show 0<=sizeLine;decide),λT nT=>?_⟩
 have hb1:upd H T (.lst []) b=some (.tup (j6 os)):=by rw[ax (ar hb nT)];exact hb
 show ud K _ [some (.ref b),some (.ref n),some (.ref T),none] (upd H T (.lst []))
 refine .inr ⟨_,rfl,b,rfl,⟨_,dZ.of hb1⟩,?_⟩
 refine kR (xs:=j6 os) (λi σ' H'=>∃o,σ'=[some (.ref b),some (.ref n),some (.ref T),o]/\H' T=some (.lst (j6 ((os.take i).foldl (gq ns) [])))/\aV H H') ?_ ?_ ?_ ?_
 ·exact⟨none,rfl,by rw[List.take_zero];exact ag,(aV.refl H).new nT⟩
 ·rintro i σ' H' _ ⟨o,_,_,s'⟩
  exact dZ.of (s' _ _ hb)
 ·rintro i x σ' H' hx ⟨o,rfl,hT,s'⟩
  obtain⟨ox,ex,rfl⟩:=Kc hx
  have hn':=s' _ _ hn
  have li:(j6 ((os.take i).foldl (gq ns) [])).length<=1000:=by rw[j7,rh,be];simp;omega
  have app:∀w:V,w=oV (if ox∈ns.map some/\ox∉(os.take i).foldl (gq ns) [] then ox else none)->eC (.ref T) [w] H' λ_ H1=>∃o,[some (V.ref b),some (V.ref n),some (V.ref T),some (oV ox)]=[some (.ref b),some (.ref n),some (.ref T),o]/\H1 T=some (.lst (j6 ((os.take (i+1)).foldl (gq ns) [])))/\aV H H1:=by
   rintro w rfl
   refine⟨T,_,_,rfl,rfl,hT,cc (by omega),_,rfl,?_,λc oc hc=>?_⟩
   ·rw[ag,DU ex,iL]
    show some (HO.lst _)=some (HO.lst (j6 (gq ns ((os.take i).foldl (gq ns) []) ox)))
    unfold gq j6
    rw[aN]
    rfl
   ·rw[ax (ar hc nT)];exact s' c oc hc
  refine⟨_,rfl,.inl ⟨rfl,_,ce.of hT⟩,_,rfl,_,rfl,n,_,rfl,.inr (dZ.of hn'),wu _,qA _,_,rfl,?_⟩
  show if qX (oV ox) (ns.map V.str)=true then _ else _
  rw[Li,Jp]
  refine cI (λm=>⟨_,rfl,_,rfl,T,_,rfl,.inl (ce.of hT),wu _,E2 _,_,rfl,?_⟩) (λm=>lg (app _ ?_))
  ·show if(!qX (oV ox) (j6 _))=true then _ else _
   rw[Jp]
   refine mt (λm2=>⟨_,rfl,app _ ?_⟩) (λm2=>app _ ?_)
   ·rw[if_pos ⟨m,m2⟩]
   ·rw[if_neg λz=>z.2 m2];rfl
  ·rw[if_neg λz=>m z.1];rfl
 ·rintro σ' H' ⟨o,rfl,hT,s'⟩
  rw[j7,bK] at hT
  exact⟨_,rfl,T,_,rfl,.inl ⟨ce.of hT,λP nP=>q P _ ag (s'.new nP)⟩⟩
theorem KY{K:Fg}{vs:List V}{H:Hp}{Q:VK}{E:XK}(h:iY K vs H Q E):FW K {nx:=λ_ H'=>Q .non H',rt:=Q} (cY zu vs) H:=
 IC (K:=K) (E:=E) h
def oN(F:List Nat)(t:Nat):List Nat:=if t∈F then F else F++[t]
theorem pA{F:List Nat}{t x:Nat}:x∈oN F t↔x∈F\/x=t:=by
 unfold oN
 split
 ·rename_i h
  exact⟨.inl,λz=>z.elim id λe=>e ▸ h⟩
 ·rw[aB,ae]
theorem vR{F:List Nat}(h:F.Nodup)(t:Nat):(oN F t).Nodup:=by
 unfold oN
 split
 ·exact h
 ·rename_i c
  exact cF.mpr ⟨h,by simp,λa ha b hb=>by rw[ae.mp hb];exact λe=>c (e ▸ ha)⟩
theorem LY(F:List Nat)(t:Nat):ix (dG F) (Sum.inl (t:Int)) (V.bl true)=dG (oN F t):=by
 unfold oN
 split
 ·rename_i h
  unfold ix
  rw[if_pos]
  ·unfold dG
   rw[cx]
   refine fO λn hn=>?_
   show(if(Sum.inl (n:Int):dY)=Sum.inl (t:Int) then _ else _)=_
   split<;>rfl
  ·rw[gN]
   exact⟨(Sum.inl (t:Int),V.bl true),bV.mpr ⟨t,h,rfl⟩,by simp⟩
 ·rename_i h
  exact putF h
theorem EY:∀(G F:List Nat),gc (dG F) (dG G)=dG (G.foldl oN F)
 |[],F=>rfl
 |x::G,F=>by
  show gc (ix (dG F) (Sum.inl (x:Int)) (V.bl true)) (dG G)=_
  rw[LY,EY G (oN F x)];rfl
theorem uQ:∀(G:List Nat) {F:List Nat},F.Nodup->(G.foldl oN F).Nodup
 |[],F,h=>h
 |x::G,F,h=>uQ G (vR h x)
theorem sC:∀(G:List Nat) {F:List Nat} {t:Nat},t∈G.foldl oN F↔t∈F\/t∈G
 |[],F,t=>by simp
 |x::G,F,t=>by
  show t∈G.foldl oN (oN F x)↔_
  rw[sC G,pA,aJ,or_assoc]
theorem Hc{F:List Nat}{j:Nat}{k:dY}{v:V}(h:(dG F)[j]?=some (k,v)):∃n,F[j]?=some n/\k=Sum.inl (n:Int)/\v=.bl true:=by
 unfold dG at h
 rw[aC] at h
 cases e:F[j]? with
 |none=>rw[e] at h;cases h
 |some n=>rw[e] at h;cases h;exact⟨n,rfl,rfl,rfl⟩
structure Mq(H:Hp)(D:Addr)(ns:List Nat)(H':Hp)(i:Nat)(ts:List Addr):Prop where
 hD:H' D=some (.lst (ts.map V.ref))
 len:ts.length=(ns.take i).length
 at_:∀(j:Nat) t n,ts[j]?=some t->(ns.take i)[j]?=some n->H' t=some (.tup [.int (n:Nat),.bl true])
 sm:aV H H'
theorem yj{K:Fg}{vs:List V}{H:Hp}{Q:VK}{E:XK}(h:fH K vs H Q E):rj K {nx:=λ_ H'=>Q .non H',rt:=Q} (cY kN vs) H:=by
 obtain⟨l,ns,rfl,hl,few,q⟩:=h
 refine .inl ⟨_,rfl,l,rfl,⟨_,ce.of hl⟩,λD nD=>?_⟩
 refine jh (xs:=aO ns) (λi σ' H'=>∃(o:Option V) (ts:List Addr),σ'=[some (.ref l),o]/\Mq H D ns H' i ts) ?_ ?_ ?_ ?_
 ·exact⟨none,[],rfl,ag,rfl,λj t n e=>by simp at e,(aV.refl H).new nD⟩
 ·rintro i σ' H' _ ⟨_,_,_,A⟩
  exact ce.of (A.sm _ _ hl)
 ·rintro i x σ' H1 hx ⟨o,ts,rfl,A⟩
  obtain⟨n,hn,rfl⟩:=mw hx
  have il:=(af.mp hn).1
  have tk:ns.take (i+1)=ns.take i++[n]:=by rw[cC,hn];rfl
  have al:=A.len
  refine j4 ⟨_,rfl,(by show 2<=sizeLine;decide),λp np=>?_⟩
  have s2:aV H1 (upd H1 p (.tup [.int (n:Nat),.bl true])):=(aV.refl H1).new np
  have hp2:upd H1 p (.tup [.int (n:Nat),.bl true]) p=some (.tup [.int (n:Nat),.bl true]):=ag
  generalize upd H1 p (.tup [.int (n:Nat),.bl true])=H2 at s2 hp2 ⊢
  have hD2:=s2 _ _ A.hD
  refine⟨_,hD2,cc (by rw[ab,al,be];lia),_,ts++[p],rfl,?_,?_,λj t m e1 e2=>?_,λb u e=>?_⟩
  ·rw[ag,aN];rfl
  ·rw[tk,ai,ai,al];rfl
  ·have ht:H2 t=some (.tup [.int (m:Nat),.bl true]):=by
    rw[tk] at e2
    rcases fu j ts.length with hj|hj
    ·rw[bJ hj] at e1
     rw[bJ (by rw[<-al];exact hj)] at e2
     exact s2 _ _ (A.at_ j t m e1 e2)
    ·rw[aX hj] at e1
     rw[aX (by rw[<-al];exact hj),<-al] at e2
     cases ej:j-ts.length with
     |zero=>rw[ej] at e1 e2;cases e1;cases e2;exact hp2
     |succ k=>rw[ej] at e1;simp at e1
   rw[ax (iH ht hD2 (by intro z;cases z))];exact ht
  ·rw[ax (ar e nD)];exact s2 _ _ (A.sm b u e)
 ·rintro σ' H1 ⟨o,ts,rfl,A⟩
  obtain⟨a1,a2,a3,a4⟩:=A
  rw[bv,bK] at a2 a3
  refine⟨D,_,dG ns,rfl,a1,?_,?_,λj x k v e1 e2=>?_,λd ndd=>?_⟩
  ·unfold dG;rw[ab,ab];exact a2
  ·unfold dG;rw[ab];lia
  ·obtain⟨n,en,rfl,rfl⟩:=Hc e2
   rw[aC] at e1
   cases et:ts[j]? with
   |none=>rw[et] at e1;cases e1
   |some t=>rw[et] at e1;cases e1;exact⟨t,rfl,a3 j t n et en⟩
  ·have e0:gc [] (dG ns)=dG (ns.foldl oN []):=EY ns []
   rw[e0]
   have Hd:H d=none:=by
    cases ee:H d with
    |none=>rfl
    |some u=>rw[a4 _ _ ee] at ndd;cases ndd
   exact q d _ _ ag (uQ ns eW) (λt=>by rw[sC];simp) Hd (a4.new ndd)
theorem vz{r:ba}(h:oj r="give"):∃a,r=.give a:=by
 cases r with
 |give a=>exact⟨a,rfl⟩
 |num x z=>exact absurd h (by show ¬("num":Str)="give";decide +kernel)
 |op x s a b=>exact absurd h (by show ¬("op":Str)="give";decide +kernel)
 |call x k as=>exact absurd h (by show ¬("call":Str)="give";decide +kernel)
 |say a=>exact absurd h (by show ¬("say":Str)="give";decide +kernel)
 |test a to=>exact absurd h (by show ¬("test":Str)="give";decide +kernel)
 |jump to=>exact absurd h (by show ¬("jump":Str)="give";decide +kernel)
theorem vA{r:ba}(h:oj r="test"):∃a to,r=.test a to:=by
 cases r with
 |test a to=>exact⟨a,to,rfl⟩
 |num x z=>exact absurd h (by show ¬("num":Str)="test";decide +kernel)
 |op x s a b=>exact absurd h (by show ¬("op":Str)="test";decide +kernel)
 |call x k as=>exact absurd h (by show ¬("call":Str)="test";decide +kernel)
 |say a=>exact absurd h (by show ¬("say":Str)="test";decide +kernel)
 |give a=>exact absurd h (by show ¬("give":Str)="test";decide +kernel)
 |jump to=>exact absurd h (by show ¬("jump":Str)="test";decide +kernel)
theorem Bk{r:ba}(h:¬oj r="give")(hj:fL r=false):xc r=true:=by
 cases r with
 |give a=>exact absurd rfl h
 |jump to=>cases hj
 |_=>rfl
theorem CP{ns:List Int}(h:∀x∈ns,0<=x):ns=(ns.map ef).map λ(n:Nat)=>(n:Int):=by
 rw[cx]
 have:ns.map id=ns.map ((λ(n:Nat)=>(n:Int)) ∘ ef):=fO λx hx=>by have:=h x hx;show x=((x.toNat:Nat):Int);lia
 rw[<-this,qS]
theorem Bc(ms:List Nat):(ms.map λ(n:Nat)=>(n:Int)).map V.int=aO ms:=by unfold aO;rw[cx];rfl
theorem oa{ns:List Int}{F:List Nat}(hm:∀x,x∈ns↔x∈F.map λ(n:Nat)=>(n:Int))(nd:ns.Nodup)(srt:ns.Pairwise (·<=·)):∃ms:List Nat,ns.map V.int=aO ms/\ms.Pairwise (·<·)/\∀t,t∈ms↔t∈F:=by
 have h0:∀x∈ns,0<=x:=λx hx=>by
  obtain⟨n,_,rfl⟩:=bV.mp ((hm x).mp hx)
  lia
 have hc:=CP h0
 refine⟨ns.map ef,?_,?_,λt=>?_⟩
 ·rw[<-Bc,<-hc]
 ·rw[fq]
  have both:ns.Pairwise λa b=>a<=b/\a≠b:=srt.and nd
  exact List.Pairwise.imp_of_mem (λ{a b} ha hb z=>by have:=h0 a ha;have:=h0 b hb;lia) both
 ·rw[bV]
  constructor
  ·rintro⟨x,hx,rfl⟩
   obtain⟨n,hn,e⟩:=bV.mp ((hm x).mp hx)
   rw[<-e];simpa using hn
  ·intro ht
   exact⟨(t:Int),(hm _).mpr (bV.mpr ⟨t,ht,rfl⟩),by simp⟩
structure rL(H:Hp)(d l0:Addr)(rs:List ba)(ns:List Nat)(H':Hp)(F:List Nat)(P:Nat->Prop):Prop where
 hl:H' l0=some (.lst (aO ns))
 hd:H' d=some (.dK (dG F))
 nd:F.Nodup
 mem:∀t,t∈F↔P t
 few:F.length<=64
 sm:aV H H'
theorem rL.put{H:Hp}{d l0:Addr}{rs:List ba}{ns:List Nat}{H':Hp}{F:List Nat}{P:Nat->Prop}(A:rL H d l0 rs ns H' F P)(nd0:H d=none)(t:Nat)(hb:∀x∈oN F t,x<rs.length)(r64:rs.length<64) :
  rL H d l0 rs ns (upd H' d (.dK (ix (dG F) (nk t) (V.bl true)))) (oN F t) (λx=>P x\/x=t):=by
 refine⟨by rw[ax (iH A.hl A.hd (by intro z;cases z))];exact A.hl,by rw[ag];exact congrArg (λz=>some (HO.dK z)) (LY F t),vR A.nd t,λx=>by rw[pA,A.mem],?_,λb u e=>by rw[ax (ar e nd0)];exact A.sm b u e⟩
 have:=dH (vR A.nd t) hb
 lia
theorem Au{K:Fg}{vs:List V}{H:Hp}{Q:VK}{E:XK}(h:dh K vs H Q E):ub K {nx:=λ_ H'=>Q .non H',rt:=Q} (cY oH vs) H:=by
 obtain⟨rt,rs,rfl,⟨rvs,hrt,hA,g⟩,q⟩:=h
 have rlen:rvs.length=rs.length:=hA.len
 have r64:=g.few
 refine λd nd=>?_
 have s0:aV H (upd H d (.dK [])):=(aV.refl H).new nd
 have hd0:upd H d (.dK []) d=some (.dK (dG [])):=ag
 show qa K _ [some (.ref rt),some (.ref d),none] (upd H d (.dK []))
 generalize upd H d (.dK [])=H1 at s0 hd0 ⊢
 refine .inl ⟨_,rfl,rt,rvs,rs,rfl,s0 _ _ hrt,hA.imp λ_ _ z=>z.mono (.of_same s0),g,λl0 ns H2 hn hp hl0 nl0 s1=>⟨l0,rfl,⟨_,ce.of hl0⟩,?_⟩⟩
 refine ib (xs:=aO ns) (λi σ' H'=>∃(o2:Option V) (F:List Nat),σ'=[some (.ref rt),some (.ref d),o2]/\rL H d l0 rs ns H' F (λt=>∃n∈ns.take i,zr rs n t\/w4 rs n t))
  ⟨none,[],rfl,hl0,s1 _ _ hd0,eW,λt=>by simp,bF _,s0.trans s1⟩ ?_ ?_ ?_
 ·rintro i σ' H' _ ⟨_,_,_,A⟩
  exact ce.of A.hl
 ·rintro i x σ' H3 hx ⟨o2,F,rfl,A⟩
  obtain⟨n,hni,rfl⟩:=mw hx
  have stn:=(hn n).mp (aA hni)
  have nlt:=cZ g stn
  obtain⟨v,r,ev,er,ra⟩:=hA.get nlt
  obtain⟨p,xs,rfl,hp0⟩:=ra.ref
  have tk:ns.take (i+1)=ns.take i++[n]:=by rw[cC,hni];rfl
  have ev':rvs[((n:Nat):Int).toNat]?=some (.ref p):=by simpa using ev
  have oldb:∀{F':List Nat} {H':Hp} {P:Nat->Prop},rL H d l0 rs ns H' F' P->(∀t,P t->Ld rs t)->∀x∈F',x<rs.length:=λA' hP x hx=>cZ g (ic g (hP x ((A'.mem x).mp hx)))
  have oldP:∀t,(∃n∈ns.take i,zr rs n t\/w4 rs n t)->Ld rs t:=λt ⟨m,hm,z⟩=>⟨m,(hn m).mp (fo hm),z⟩
  have half:∀(F1:List Nat) (H4:Hp),rL H d l0 rs ns H4 F1 (λt=>(∃n∈ns.take i,zr rs n t\/w4 rs n t)\/zr rs n t)->
    p0 K {nx:=λσ' H'=>∃(o2:Option V) (F:List Nat),σ'=[some (.ref rt),some (.ref d),o2]/\rL H d l0 rs ns H' F (λt=>∃n∈ns.take (i+1),zr rs n t\/w4 rs n t),rt:=Q,bk:=mP K {nx:=λ_ H'=>Q .non H',rt:=Q},ct:=λσ' H'=>∃(o2:Option V) (F:List Nat),σ'=[some (.ref rt),some (.ref d),o2]/\rL H d l0 rs ns H' F (λt=>∃n∈ns.take (i+1),zr rs n t\/w4 rs n t)} [some (.ref rt),some (.ref d),some (.int (n:Nat))] H4:=λF1 H4 A1=>by
   have S4:=A1.sm
   have fin:∀{F2:List Nat} {H5:Hp} {P:Nat->Prop},rL H d l0 rs ns H5 F2 P->(∀t,P t↔((∃n∈ns.take i,zr rs n t\/w4 rs n t)\/zr rs n t)\/w4 rs n t)->∃(o2:Option V) (F:List Nat),[some (.ref rt),some (.ref d),some (.int (n:Nat))]=[some (V.ref rt),some (V.ref d),o2]/\rL H d l0 rs ns H5 F (λt=>∃n∈ns.take (i+1),zr rs n t\/w4 rs n t):=λA2 hP=>by
    refine⟨_,_,rfl,A2.hl,A2.hd,A2.nd,λt=>?_,A2.few,A2.sm⟩
    rw[A2.mem,hP,tk]
    constructor
    ·rintro((⟨m,hm,z⟩|z)|z)
     ·exact⟨m,bh _ hm,z⟩
     ·exact⟨n,aQ _ aL,.inl z⟩
     ·exact⟨n,aQ _ aL,.inr z⟩
    ·rintro⟨m,hm,z⟩
     rcases aB.mp hm with hm|hm
     ·exact .inl (.inl ⟨m,hm,z⟩)
     ·rw[ae.mp hm] at z
      exact z.elim (λz=>.inl (.inr z)) .inr
   refine⟨_,rfl,_,rfl,dM (S4 _ _ hrt) (by lia) ev' (dM (S4 _ _ hp0) (by decide) rfl (.inl ⟨rfl,_,rfl,mt (λc=>?_) (λc=>lg ?_)⟩))⟩
   ·have hf:xc r=true:=Bk (λz=>c (by rw[z])) (stn.2 r er)
    have n1:n+1<rs.length:=g.inr n (n+1) r er (mr hf)
    obtain⟨v',r',ev1,er1,ra1⟩:=hA.get n1
    obtain⟨p',xs',rfl,hp1⟩:=ra1.ref
    have ev1':rvs[((n:Nat)+1:Int).toNat]?=some (.ref p'):=by rw[show((n:Nat)+1:Int).toNat=n+1 by lia];exact ev1
    have put:(w4 rs n (Sd rs (n+1)))->ci (tC (.bl true)) (oi (au 1) (bE (cw K) [] E0 (ao (au 0) (ao (bA (cN K) (au 2) (tC (.int 1))) aP))) u6) {nx:=λσ' H'=>∃(o2:Option V) (F:List Nat),σ'=[some (.ref rt),some (.ref d),o2]/\rL H d l0 rs ns H' F (λt=>∃n∈ns.take (i+1),zr rs n t\/w4 rs n t),rt:=Q,bk:=mP K {nx:=λ_ H'=>Q .non H',rt:=Q},ct:=λσ' H'=>∃(o2:Option V) (F:List Nat),σ'=[some (.ref rt),some (.ref d),o2]/\rL H d l0 rs ns H' F (λt=>∃n∈ns.take (i+1),zr rs n t\/w4 rs n t)} [some (.ref rt),some (.ref d),some (.int (n:Nat))] H4:=λhL=>by
     refine⟨_,rfl,_,rfl,_,rfl,.inl ⟨_,_,rfl,rfl,rt,n+1,rvs,rs,rfl,S4 _ _ hrt,hA.imp λ_ _ z=>z.mono (.of_same S4),g,n1,d,_,rfl,xb.k (k:=nk (Sd rs (n+1))) A1.hd (cc (by unfold dG;rw[ab];have:=A1.few;lia)),?_⟩⟩
     refine fin (A1.put nd _ (λx hx=>?_) r64) λt=>?_
     ·rcases pA.mp hx with z|z
      ·exact oldb A1 (λt z=>z.elim (oldP t) λz=>⟨n,stn,.inl z⟩) x z
      ·rw[z];exact mE g _ n1
     ·refine or_congr Iff.rfl ⟨λe=>e ▸ hL,λ⟨_,_,_,_,e⟩=>e⟩
    refine⟨_,rfl,_,rfl,.inl ⟨_,_,rfl,rfl,dM (S4 _ _ hrt) (by lia) ev1' (dM (S4 _ _ hp1) (by decide) rfl (.inl ⟨rfl,_,rfl,cI (λc1=>?_) (λc1=>?_)⟩))⟩⟩
    ·obtain⟨to,rfl⟩:=kj (iZ c1)
     exact ut (put ⟨r,er,hf,.inl ⟨to,er1⟩,rfl⟩)
    ·refine⟨_,rfl,.inl ⟨_,_,rfl,rfl,_,rfl,rt,0,rvs,rs,rfl,S4 _ _ hrt,hA.imp λ_ _ z=>z.mono (.of_same S4),g,g.pos,.inl ⟨rfl,_,rfl,cI (λc2=>?_) (λc2=>?_)⟩⟩⟩
     ·have e2:n+1=Sd rs 0:=by injection c2 with c2;have c3:((n:Int)+1)=((Sd rs 0:Nat):Int):=c2;lia
      exact put ⟨r,er,hf,.inr e2,rfl⟩
     ·refine fin A1 λt=>⟨.inl,λz=>z.elim id λ⟨r2,hr2,hf2,z2,_⟩=>?_⟩
      exfalso
      rcases z2 with⟨to,z2⟩|z2
      ·rw[er1] at z2;cases z2
       exact c1 rfl
      ·exact c2 (by show V.int ((n:Int)+1)=V.int ((Sd rs 0:Nat):Int);rw[<-z2];rfl)
   ·obtain⟨a,rfl⟩:=vz (iZ c)
    refine fin A1 λt=>⟨.inl,λz=>z.elim id λ⟨r2,hr2,hf2,_⟩=>?_⟩
    rw[er] at hr2;cases hr2;cases hf2
  show p9 K _ [some (.ref rt),some (.ref d),some (.int (n:Nat))] H3
  have S3:=A.sm
  refine⟨_,rfl,_,rfl,dM (S3 _ _ hrt) (by lia) ev' (dM (S3 _ _ hp0) (by decide) rfl (.inl ⟨rfl,_,rfl,cI (λc=>?_) (λc=>?_)⟩))⟩
  ·obtain⟨a,to,rfl⟩:=vA (iZ c)
   have tolt:to<rs.length:=g.inr n to _ er (by simp[bS])
   refine⟨_,rfl,_,rfl,_,rfl,_,rfl,dM (S3 _ _ hrt) (by lia) ev' ⟨.ref p,.test a to,rfl,ra.mono (.of_same S3),rt,to,rvs,rs,rfl,S3 _ _ hrt,hA.imp λ_ _ z=>z.mono (.of_same S3),g,tolt,d,_,rfl,xb.k (k:=nk (Sd rs to)) A.hd (cc (by unfold dG;rw[ab];have:=A.few;lia)),?_⟩⟩
   have A1:=A.put nd (Sd rs to) (λx hx=>by
    rcases pA.mp hx with z|z
    ·exact oldb A oldP x z
    ·rw[z];exact mE g _ tolt) r64
   refine half _ _ ⟨A1.hl,A1.hd,A1.nd,λt=>?_,A1.few,A1.sm⟩
   rw[A1.mem]
   refine or_congr Iff.rfl ⟨λe=>⟨a,to,er,e⟩,λ⟨a',to',e1,e2⟩=>?_⟩
   rw[er] at e1;cases e1;exact e2
  ·refine half F H3 ⟨A.hl,A.hd,A.nd,λt=>?_,A.few,A.sm⟩
   rw[A.mem]
   refine⟨.inl,λz=>z.elim id λ⟨a',to',e1,e2⟩=>?_⟩
   rw[er] at e1;cases e1
   exact absurd rfl c
 ·rintro σ' H3 ⟨o2,F,rfl,A⟩
  rw[bv,bK] at A
  have hL:∀t,t∈F↔Ld rs t:=λt=>by
   rw[A.mem]
   exact⟨λ⟨m,hm,z⟩=>⟨m,(hn m).mp hm,z⟩,λ⟨m,hm,z⟩=>⟨m,(hn m).mpr hm,z⟩⟩
  have flt:=dH A.nd λx hx=>cZ g (ic g ((hL x).mp hx))
  refine⟨_,rfl,d,dG F,F.map λ(n:Nat)=>(n:Int),rfl,A.hd,by unfold dG;rw[cx,cx];rfl,by rw[ab];lia,λl ns' nl perm srt=>?_⟩
  obtain⟨ms,e1,e2,e3⟩:=oa (F:=F) (λx=>perm.mem_iff) (perm.nodup_iff.mpr (by unfold List.Nodup;rw[fq];exact A.nd.imp λh e=>h (by lia))) srt
  rw[e1]
  have Hl:H l=none:=by
   cases ee:H l with
   |none=>rfl
   |some u=>rw[A.sm _ _ ee] at nl;cases nl
  exact q l ms _ (λt=>by rw[e3,hL]) e2 ag Hl (A.sm.new nl)
theorem JW{K:Fg}{p:Addr}{xs:List V}{v:V}{H:Hp}{Q:VK}(h:ce K H p xs)(e:xs[xs.length-1]?=some v)(q:Q v H):dN K (.ref p) (.int (-1)) H Q:=by
 have lt:xs.length-1<xs.length:=(af.mp e).1
 refine .inl ⟨p,xs,-1,v,rfl,rfl,h,?_,q⟩
 unfold Jk Jq
 rw[if_neg (by decide),if_pos (by lia)]
 show xs[((-1:Int)+(xs.length:Int)).toNat]?=some v
 rw[show((-1:Int)+(xs.length:Int)).toNat=xs.length-1 by lia]
 exact e
theorem Du{K:Fg}{vs:List V}{H:Hp}{Q:VK}{E:XK}(h:gJ K vs H Q E):vq K {nx:=λ_ H'=>Q .non H',rt:=Q} (cY qr vs) H:=by
 obtain⟨rt,rs,rfl,R,q⟩:=h
 obtain⟨rvs,hrt,hA,g⟩:=id R
 have r64:=g.few
 refine⟨_,rfl,rt,0,rvs,rs,rfl,hrt,hA,g,g.pos,(by show 1<=sizeLine;decide),λl1 nl1=>?_⟩
 have s1:aV H (upd H l1 (.lst [V.int ((Sd rs 0:Nat):Int)])):=(aV.refl H).new nl1
 have h1:upd H l1 (.lst [V.int ((Sd rs 0:Nat):Int)]) l1=some (.lst [V.int ((Sd rs 0:Nat):Int)]):=ag
 refine⟨_,rfl,rt,rs,rfl,R.same s1,λl2 ns H2 hn hp hl2 nl2 s2=>.inr (.inr (.inl ⟨l1,l2,_,_,rfl,rfl,s2 _ _ h1,hl2,bW (cc ?_),λl3 nl3=>?_⟩))⟩
 ·have:=dH (hp.imp λz=>aH z) λx hx=>cZ g (ic g ((hn x).mp hx))
  rw[bv];show 1+ns.length<=100000;lia
 have hns:=dH (hp.imp λz=>aH z) λx hx=>cZ g (ic g ((hn x).mp hx))
 have ec:[V.int ((Sd rs 0:Nat):Int)]++aO ns=((Sd rs 0::ns).map λ(n:Nat)=>(n:Int)).map V.int:=by rw[Bc];rfl
 rw[ec]
 refine⟨l3,false,(Sd rs 0::ns).map λ(n:Nat)=>(n:Int),(dz rs.length).map λ(n:Nat)=>(n:Int),rfl,ce.of ag,by rw[ab,bM];lia,λx hx=>?_,by rw[ab,eB];exact r64,λl ss' nl nd mem srt=>?_⟩
 ·obtain⟨n,hn',rfl⟩:=bV.mp hx
  refine bV.mpr ⟨n,gC.mpr ?_,rfl⟩
  rcases aJ.mp hn' with rfl|z
  ·exact mE g _ g.pos
  ·exact cZ g (ic g ((hn n).mp z))
 ·obtain⟨ms,e1,e2,e3⟩:=oa (F:=Sd rs 0::ns) mem nd srt
  rw[e1]
  have S3:aV H (upd H2 l3 (.lst (((Sd rs 0::ns).map λ(n:Nat)=>(n:Int)).map V.int))):=(s1.trans s2).new nl3
  have Hl:H l=none:=by
   cases ee:H l with
   |none=>rfl
   |some u=>rw[S3 _ _ ee] at nl;cases nl
  refine q l ms _ (λt=>?_) e2 ag Hl (S3.new nl)
  rw[e3,aJ,hn]
  exact Iff.rfl
theorem A3.tp{H H':Hp}{rt:Addr}{rs:List ba}(h:A3 H rt rs)(t:Tp H H'):A3 H' rt rs:=by
 obtain⟨rvs,a,b,c⟩:=h
 exact⟨rvs,t _ _ a,b.imp λ_ _ z=>z.mono t,c⟩
theorem DZ.same{H H':Hp}{wd:Addr}{rs:List ba}(h:DZ H wd rs)(s:aV H H'):DZ H' wd rs:=by
 obtain⟨ns,ts,wss,ss,a,b,c,d,e,f⟩:=h
 exact⟨ns,ts,wss,ss,s _ _ a,b,c,d,λj t ws x y=>s _ _ (e j t ws x y),f⟩
theorem wZ{H:Hp}{wd:Addr}{rs:List ba}{n:Nat}{ws:List Str}(h:DZ H wd rs)(st:dm rs n)(W:Ws rs n ws):∃t,oe H wd (.int (n:Nat)) (some (.ref t))/\H t=some (.tup (ws.map V.str)):=by
 obtain⟨ns,ts,wss,ss,a,b,c,d,e,f⟩:=h
 obtain⟨j,hj⟩:=gA ((c n).mpr st)
 have jl:=(af.mp hj).1
 obtain⟨t,et⟩:∃t,ts[j]?=some t:=⟨_,aa (by rw[b];exact jl)⟩
 obtain⟨w,ew⟩:∃w,wss[j]?=some w:=⟨_,aa (by rw[f.len];exact jl)⟩
 obtain⟨g1,g2⟩:=f.at_ j n w hj ew
 have ew':w=ws:=Ap ((qN f.srt).sublist g1) W.srt (f.nd.sublist g1) W.nd λx=>by rw[g2,W.mem]
 subst ew'
 have knd:(ns.map nk).Nodup:=by
  unfold List.Nodup
  rw[fq]
  exact d.imp λh e=>aH h (E1 e)
 have gg:=oe.k (k:=nk n) a
 rw[zh knd (j:=j) (by rw[aC,hj];rfl) (by rw[aC,et];rfl)] at gg
 exact⟨t,gg,e j t w et ew⟩
theorem tH{K:Fg}(T:zw K){vs:List V}{H:Hp}{Q:VK}{E:XK}(h:eI K vs H Q E):nB K {nx:=λ_ H'=>Q .non H',rt:=Q} (cY ku vs) H:=by
 obtain⟨x,dx,pt,rt,rs,ps,zs,rfl,hx,⟨wv,pa,hpt,hpa⟩,R,W,nxp,q⟩:=h
 have tpx:∀{A B:Hp} {fs:List (Str×V)},A x=some (.ins (cT K "Outline") dx fs)->fh x A B->Tp A B:=λhA B p xs e=>B p _ (λz=>by rw[z,hA] at e;cases e) e
 have g:=let⟨_,_,_,g⟩:=R;g
 refine⟨_,rfl,dM hpt (by decide) rfl ⟨_,rfl,x,_,dx,_,rfl,hx,T.cl,T.n1,(by show 0<1000;decide),?_⟩⟩
 have hx1:upd H x (.ins (cT K "Outline") dx (L2.putF "params" (.ref pa) [])) x=some (.ins (cT K "Outline") dx [("params",.ref pa)]):=ag
 have B1:fh x H (upd H x (.ins (cT K "Outline") dx (L2.putF "params" (.ref pa) []))):=fh.upd_at
 show lS K _ [some (.ref x),some (.ref pt),none] _
 generalize upd H x (.ins (cT K "Outline") dx (L2.putF "params" (.ref pa) []))=H1 at hx1 B1 ⊢
 have P1:=tpx hx B1
 refine⟨_,rfl,dM (P1 _ _ hpt) (by decide) rfl ⟨_,rfl,x,_,dx,_,rfl,hx1,T.cl,T.n2,(by show 1<1000;decide),?_⟩⟩
 have hx2:upd H1 x (.ins (cT K "Outline") dx (L2.putF "rows" (.ref rt) [("params",.ref pa)])) x=some (.ins (cT K "Outline") dx [("params",.ref pa),("rows",.ref rt)]):=ag
 have B2:fh x H (upd H1 x (.ins (cT K "Outline") dx (L2.putF "rows" (.ref rt) [("params",.ref pa)]))):=B1.trans fh.upd_at
 show lR K _ [some (.ref x),some (.ref pt),none] _
 generalize upd H1 x (.ins (cT K "Outline") dx (L2.putF "rows" (.ref rt) [("params",.ref pa)]))=H2 at hx2 B2 ⊢
 have P2:=tpx hx B2
 obtain⟨rv2,a2,b2,_⟩:=R.tp P2
 refine⟨_,rfl,dM (P2 _ _ hpt) (by decide) rfl ⟨rt,rv2,rs,zs,rfl,a2,b2,g,W.r100,by have:=W.z64;lia,W.zin,λwd ns ts wss ss H3 hn hp hwd tl tt want nwd s3=>⟨_,rfl,x,_,dx,_,rfl,s3 _ _ hx2,T.cl,T.n3,(by show 2<1000;decide),?_⟩⟩⟩
 have W3:DZ H3 wd rs:=⟨ns,ts,wss,ss,hwd,tl,hn,hp,tt,want⟩
 have hx3:upd H3 x (.ins (cT K "Outline") dx (L2.putF "wants" (.ref wd) [("params",.ref pa),("rows",.ref rt)])) x=some (.ins (cT K "Outline") dx [("params",.ref pa),("rows",.ref rt),("wants",.ref wd)]):=ag
 have C3:fh x H3 (upd H3 x (.ins (cT K "Outline") dx (L2.putF "wants" (.ref wd) [("params",.ref pa),("rows",.ref rt)]))):=fh.upd_at
 show lQ K _ [some (.ref x),some (.ref pt),none] _
 generalize upd H3 x (.ins (cT K "Outline") dx (L2.putF "wants" (.ref wd) [("params",.ref pa),("rows",.ref rt)]))=H4 at hx3 C3 ⊢
 have B4:fh x H H4:=λb u n e=>C3 b u n (s3 b u (B2 b u n e))
 have P4:=tpx hx B4
 obtain⟨rv4,a4,b4,_⟩:=R.tp P4
 have hx3':=s3 _ _ hx2
 have wdx:wd≠x:=λz=>by rw[z,hx3'] at hwd;cases hwd
 have keepW:∀{B:Hp},fh x H3 B->DZ B wd rs:=λ{B} C=>⟨ns,ts,wss,ss,C _ _ wdx hwd,tl,hn,hp,λj t ws a b=>C _ _ (λz=>by have:=tt j t ws a b;rw[z,hx3'] at this;cases this) (tt j t ws a b),want⟩
 refine⟨_,rfl,dM (P4 _ _ hpt) (by decide) rfl ⟨rt,0,rv4,rs,rfl,a4,b4,g,g.pos,_,rfl,x,_,dx,_,rfl,hx3,T.cl,T.n4,(by show 3<1000;decide),?_⟩⟩
 have hx5:upd H4 x (.ins (cT K "Outline") dx (L2.putF "first" (.int (Sd rs 0:Nat)) [("params",.ref pa),("rows",.ref rt),("wants",.ref wd)])) x=some (.ins (cT K "Outline") dx [("params",.ref pa),("rows",.ref rt),("wants",.ref wd),("first",.int (Sd rs 0:Nat))]):=ag
 have C5:fh x H4 (upd H4 x (.ins (cT K "Outline") dx (L2.putF "first" (.int (Sd rs 0:Nat)) [("params",.ref pa),("rows",.ref rt),("wants",.ref wd)]))):=fh.upd_at
 show lP K _ [some (.ref x),some (.ref pt),none] (upd H4 x (.ins (cT K "Outline") dx (L2.putF "first" (.int (Sd rs 0:Nat)) [("params",.ref pa),("rows",.ref rt),("wants",.ref wd)])))
 generalize upd H4 x (.ins (cT K "Outline") dx (L2.putF "first" (.int (Sd rs 0:Nat)) [("params",.ref pa),("rows",.ref rt),("wants",.ref wd)]))=H5 at hx5 C5 ⊢
 have B5:=B4.trans C5
 have P5:=tpx hx B5
 refine⟨_,rfl,dM (P5 _ _ hpt) (by decide) rfl ⟨rt,rs,rfl,R.tp P5,λl ms H6 hm mp hl nl s6=>?_⟩⟩
 show lO K _ [some (.ref x),some (.ref pt),some (.ref l)] H6
 have m64:=dH (mp.imp λz=>aH z) λy hy=>cZ g (ic g ((hm y).mp hy))
 have r64:=g.few
 refine⟨_,rfl,l,ms,rfl,hl,by lia,λld F H7 hld fnd fm nld s7=>⟨_,rfl,x,_,dx,_,rfl,s7 _ _ (s6 _ _ hx5),T.cl,T.n5,(by show 4<1000;decide),?_⟩⟩
 have hx7:=s7 _ _ (s6 _ _ hx5)
 have hx8:upd H7 x (.ins (cT K "Outline") dx (L2.putF "led" (.ref ld) [("params",.ref pa),("rows",.ref rt),("wants",.ref wd),("first",.int (Sd rs 0:Nat))])) x=some (.ins (cT K "Outline") dx [("params",.ref pa),("rows",.ref rt),("wants",.ref wd),("first",.int (Sd rs 0:Nat)),("led",.ref ld)]):=ag
 have C8:fh x H7 (upd H7 x (.ins (cT K "Outline") dx (L2.putF "led" (.ref ld) [("params",.ref pa),("rows",.ref rt),("wants",.ref wd),("first",.int (Sd rs 0:Nat))]))):=fh.upd_at
 show lN K _ [some (.ref x),some (.ref pt),some (.ref l)] _
 generalize upd H7 x (.ins (cT K "Outline") dx (L2.putF "led" (.ref ld) [("params",.ref pa),("rows",.ref rt),("wants",.ref wd),("first",.int (Sd rs 0:Nat))]))=H8 at hx8 C8 ⊢
 have ldx:ld≠x:=λz=>by rw[z,hx7] at hld;cases hld
 have lx:l≠x:=λz=>by rw[z,s6 _ _ hx5] at hl;cases hl
 have hld8:=C8 _ _ ldx hld
 have hl8:=C8 _ _ lx (s7 _ _ hl)
 refine⟨_,rfl,x,_,dx,_,_,rfl,hx8,T.cl,T.n4,rfl,(by show 1<=sizeLine;decide),λl9 n9=>⟨_,rfl,.inr (.inr (.inl ⟨l9,l,_,_,rfl,rfl,ag,by rw[ax (ar hl8 n9)];exact hl8,bW (cc (by rw[bv];show 1+ms.length<=100000;lia)),λl10 n10=>?_⟩))⟩⟩
 have S10:aV H8 (upd (upd H8 l9 (.lst [V.int (Sd rs 0:Nat)])) l10 (.lst ([V.int (Sd rs 0:Nat)]++aO ms))):=((aV.refl H8).new n9).new n10
 have h10:(upd (upd H8 l9 (.lst [V.int (Sd rs 0:Nat)])) l10 (.lst ([V.int (Sd rs 0:Nat)]++aO ms))) l10=some (.lst (aO (Sd rs 0::ms))):=ag
 generalize upd (upd H8 l9 (.lst [V.int (Sd rs 0:Nat)])) l10 (.lst ([V.int (Sd rs 0:Nat)]++aO ms))=H10 at S10 h10 ⊢
 refine⟨l10,Sd rs 0::ms,rfl,h10,by rw[bM];lia,λhd F2 H11 hhd _ _ nhd s11=>⟨_,rfl,x,_,dx,_,rfl,s11 _ _ (S10 _ _ hx8),T.cl,T.n6,(by show 5<1000;decide),?_⟩⟩
 have S11:=S10.trans s11
 have hx11:=S11 _ _ hx8
 have C12:fh x H8 (upd H11 x (.ins (cT K "Outline") dx (L2.putF "heads" (.ref hd) [("params",.ref pa),("rows",.ref rt),("wants",.ref wd),("first",.int (Sd rs 0:Nat)),("led",.ref ld)]))):=λb u n e=>by rw[ax n];exact S11 b u e
 have D7:fh x H5 H8:=λb u n e=>C8 b u n (s7 _ _ (s6 b u e))
 have D12:=D7.trans C12
 have C3':fh x H3 (upd H11 x (.ins (cT K "Outline") dx (L2.putF "heads" (.ref hd) [("params",.ref pa),("rows",.ref rt),("wants",.ref wd),("first",.int (Sd rs 0:Nat)),("led",.ref ld)]))):=(C3.trans C5).trans D12
 have B12:fh x H (upd H11 x (.ins (cT K "Outline") dx (L2.putF "heads" (.ref hd) [("params",.ref pa),("rows",.ref rt),("wants",.ref wd),("first",.int (Sd rs 0:Nat)),("led",.ref ld)]))):=B5.trans D12
 refine q _ ⟨dx,pa,rt,wd,ld,hd,F,ag,tpx hx B12 _ _ hpa,R.tp (tpx hx B12),keepW C3',C12 _ _ ldx hld8,λt=>by rw[fm,hm]⟩ B12
theorem Le{K:Fg}{H:Hp}{a:Addr}{xs:List V}{c:Nat}{Q:VK}(ha:H a=some (.tup xs))(hc:c<=xs.length)(h:∀(p:Addr) (H':Hp),H' p=some (.tup (xs.take c))->aV H H'->Q (.ref p) H') :
  Iy K (.ref a) none (some (c:Int)) H Q:=by
 by_cases e:c=xs.length
 ·refine .inl ⟨a,xs,rfl,dZ.of ha,⟨by rw[HT.sIx_none],by rw[HT.sIx_nat];lia⟩,h a H (by rw[e,bK];exact ha) (aV.refl H)⟩
 ·refine .inr (.inr ⟨a,xs,rfl,dZ.of ha,λz=>?_,λp np=>?_⟩)
  ·have:=z.2
   rw[HT.sIx_nat] at this
   lia
  ·rw[jE]
   exact h p _ ag ((aV.refl H).new np)
theorem Jl{K:Fg}{H:Hp}{a b:Addr}{xs ys:List V}{Q:VK}(ha:H a=some (.tup xs))(hb:H b=some (.tup ys))(hl:xs.length+ys.length<=sizeLine)(h:∀(p:Addr) (H':Hp),H' p=some (.tup (xs++ys))->aV H H'->Q (.ref p) H') :
  tG K (.ref a) (.ref b) H Q:=by
 by_cases c:xs=[]
 ·subst c
  exact .inl ⟨a,b,ys,rfl,rfl,dZ.of ha,dZ.of hb,h b H hb (aV.refl H)⟩
 ·refine .inr (.inr (.inr (.inr ⟨a,b,xs,ys,rfl,rfl,dZ.of ha,dZ.of hb,c,hl,λe=>?_,λ_ p np=>h p _ ag ((aV.refl H).new np)⟩)))
  subst e
  exact h a H (by rw[cQ];exact ha) (aV.refl H)
theorem BF(k:Nat):(az k [V.non]).flatten=j6 (az k none):=by
 induction k with
 |zero=>rfl
 |succ k ih=>rw[ck,ck,eA,ih];rfl
theorem Gk{K:Fg}{H:Hp}{p:Addr}{k:Nat}{Q:VK}(hp:H p=some (.tup [.non]))(hk:k<=1000)(h:∀(q:Addr) (H':Hp),H' q=some (.tup (j6 (az k none)))->aV H H'->Q (.ref q) H'):gH K (.ref p) (.int (k:Nat)) H Q:=by
 refine .inr ⟨p,k,[.non],rfl,rfl,dZ.of hp,by simp,bW (cc (by show 1*k<=100000;lia)),λe=>?_,λ_ q nq=>?_⟩
 ·subst e;exact h p H hp (aV.refl H)
 ·rw[BF];exact h q _ ag ((aV.refl H).new nq)
theorem x6(ws:List Str):j6 (ws.map some)=ws.map V.str:=by unfold j6;rw[cx];rfl
theorem sd(a b:List (Option Str)):j6 (a++b)=j6 a++j6 b:=by unfold j6;rw[aN]
theorem pK(a:List (Option Str))(n:Nat):j6 (a.take n)=(j6 a).take n:=by unfold j6;rw[fI]
theorem Dn(ws:List Str)(pl:Nat)(h:ws.length<=pl):(ws.map some++az pl none).take pl=Dm ws pl:=by
 unfold Dm
 rw[List.take_append,ab,dA (by rw[ab];exact h),List.take_replicate,mU (Nat.sub_le _ _)]
def Ed(ps:List Str)(n:Nat):List (Option Str):=(ps.reverse.map some++az n none).take n
theorem Bb(ps:List Str)(n:Nat):(Ed ps n).length=n:=by
 unfold Ed
 rw[be,ai,bf];lia
theorem Cr(n:Nat)(ps:List Str):vU n (ps.map V.str) .non=j6 (Ed ps n):=by
 rw[<-jA ps]
 induction ps.reverse with
 |nil=>
  unfold vU Ed j6
  simp[oV]
 |cons y r ih=>
  unfold vU at ih ⊢
  rw[kH,aN,iL,ih]
  show lH (j6 (Ed r.reverse n)) (V.str y)=_
  unfold lH
  rw[j7,Bb]
  unfold Ed
  rw[List.reverse_append,jA]
  show(oV (some y)::j6 (((r.map some++az n none)).take n)).take n=j6 ((some y::(r.map some++az n none)).take n)
  cases n with
  |zero=>rfl
  |succ k=>
   rw[jU,jU]
   show _::_=oV (some y)::j6 _
   rw[pK,pK,List.take_take,mU (jB k)]
theorem FG(ns:List Str)(os:List (Option Str))(nd:(os.filterMap id).Nodup):BP os ns=os.map λo=>if o∈ns.map some then o else none:=by
 rw[<-jA os] at nd ⊢
 generalize os.reverse=qs at nd ⊢
 induction qs with
 |nil=>rfl
 |cons o r ih=>
  rw[kH,List.filterMap_append] at nd
  have nd1:=(cF.mp nd).1
  have ih:=ih nd1
  unfold BP at ih ⊢
  rw[kH,iL,ih,aN]
  show gq ns _ o=_
  unfold gq
  congr 1
  show[_]=[if o∈ns.map some then o else none]
  by_cases c:o∈ns.map some
  ·have hm:¬o∈r.reverse.map λo=>if o∈ns.map some then o else none:=λm=>by
    obtain⟨o',mo,e⟩:=bV.mp m
    obtain⟨y,_,rfl⟩:=bV.mp c
    split at e
    ·subst e
     have m1:y∈r.reverse.filterMap id:=kq.mpr ⟨some y,mo,rfl⟩
     exact(cF.mp nd).2.2 y m1 y (by simp) rfl
    ·cases e
   rw[if_pos c,if_pos ⟨c,hm⟩]
  ·rw[if_neg c,if_neg λz=>c z.1]
theorem JJ{ps:List Str}(n:Nat)(nd:ps.Nodup):((Ed ps n).filterMap id).Nodup:=by
 have h1:((ps.reverse.map some++az n (none:Option Str)).filterMap id)=ps.reverse:=by
  rw[List.filterMap_append]
  have e2:(az n (none:Option Str)).filterMap id=[]:=by
   rw[List.filterMap_eq_nil_iff];intro a ha;rw[(dW.mp ha).2];rfl
  rw[e2,cQ,List.filterMap_map]
  show ps.reverse.filterMap some=_
  rw[List.filterMap_some]
 have h2:((Ed ps n).filterMap id).Sublist ps.reverse:=by
  rw[<-h1]
  exact(gx _ _).filterMap id
 exact((List.reverse_perm ps).nodup_iff.mpr nd).sublist h2
theorem DD(ps ws:List Str)(n:Nat)(nd:ps.Nodup):BP (Ed ps n) ws=yd ps ws n:=by
 rw[FG ws _ (JJ n nd)]
 unfold Ed yd
 rw[fI,aN,cx,ko]
 congr 2
 ·refine fO λy _=>?_
  show(if some y∈ws.map some then some y else none)=if y∈ws then some y else none
  have:some y∈ws.map some↔y∈ws:=by simp
  by_cases c:y∈ws
  ·rw[if_pos c,if_pos (this.mpr c)]
  ·rw[if_neg c,if_neg λz=>c (this.mp z)]
 ·rw[if_neg (by simp)]
theorem uA{K:Fg}(T:zw K){vs:List V}{H:Hp}{Q:VK}{E:XK}(h:e7 K vs H Q E):oz K {nx:=λ_ H'=>Q .non H',rt:=Q} (cY kZ vs) H:=by
 obtain⟨o,pl,rs,ps,ws,rfl,O,W,pnd,p100,l1,l100,q⟩:=h
 obtain⟨dx,pa,rt,wd,ld,hd,F,ho,hpa,R,WD,hld,fm⟩:=id O
 have g:=let⟨_,_,_,g⟩:=R;g
 refine⟨_,rfl,_,rfl,o,_,dx,_,_,rfl,ho,T.cl,T.n1,rfl,pl,pa,.non,ps.map V.str,rfl,.inr hpa,l1,by lia,λp H1 hp s1=>?_⟩
 rw[Cr] at hp
 obtain⟨t,dg,ht⟩:=wZ (WD.same s1) (lU g (.inl rfl)) W
 refine⟨_,rfl,o,_,dx,_,_,rfl,s1 _ _ ho,T.cl,T.n3,rfl,_,rfl,o,_,dx,_,_,rfl,s1 _ _ ho,T.cl,T.n4,rfl,wd,_,rfl,dg,p,t,Ed ps pl,ws,rfl,hp,ht,by rw[Bb];lia,λp2 H2 hp2 s2=>?_⟩
 rw[DD ps ws pl pnd] at hp2
 exact q (.ref p2) H2 ⟨p2,rfl,hp2⟩ (s1.trans s2)
theorem Mg{H:Hp}{wd:Addr}{rs:List ba}{n:Nat}(h:DZ H wd rs)(st:dm rs n):∃ws,Ws rs n ws:=by
 obtain⟨ns,ts,wss,ss,a,b,c,d,e,f⟩:=h
 obtain⟨j,hj⟩:=gA ((c n).mpr st)
 obtain⟨w,ew⟩:∃w,wss[j]?=some w:=⟨_,aa (by rw[f.len];exact(af.mp hj).1)⟩
 obtain⟨g1,g2⟩:=f.at_ j n w hj ew
 exact⟨w,(qN f.srt).sublist g1,f.nd.sublist g1,g2⟩
theorem Lj{rs:List ba}{zs:List Str}(g:cp rs)(R:Mi rs zs){n:Nat}{ws:List Str}(st:dm rs n)(W:Ws rs n ws):ws.length<=6:=by
 refine bn (ES W.nd λy hy=>?_) R.z64
 obtain⟨x,_,r,hr,hy'⟩:=zj g ((W.mem y).mp hy) st
 exact R.zin r (aA hr) y hy'
theorem wJ{K:Fg}(T:zw K){vs:List V}{H:Hp}{Q:VK}{E:XK}(h:fM K vs H Q E):qb K {nx:=λ_ H'=>Q .non H',rt:=Q} (cY me vs) H:=by
 obtain⟨o,n,pl,rs,ps,ws,rfl,O,W,lw,pnd,p100,wpl,l100,q⟩:=h
 obtain⟨dx,pa,rt,wd,ld,hd,F,ho,hpa,R,WD,hld,fm⟩:=id O
 have g:=let⟨_,_,_,g⟩:=R;g
 obtain⟨t,dg,ht⟩:=wZ WD (lU g lw) W
 refine⟨_,rfl,o,_,dx,_,_,rfl,ho,T.cl,T.n3,rfl,_,rfl,wd,_,rfl,dg,?_⟩
 show nE K _ [some (.ref o),some (.int (n:Nat)),some (.int (pl:Nat)),some (.ref t)] H
 have last:Ld rs n->nC K {nx:=λ_ H'=>Q .non H',rt:=Q} [some (.ref o),some (.int (n:Nat)),some (.int (pl:Nat)),some (.ref t)] H:=λL=>by
  refine⟨_,rfl,(by show 1<=sizeLine;decide),λp1 np1=>⟨_,rfl,?_⟩⟩
  have s1:aV H (upd H p1 (.tup [V.non])):=(aV.refl H).new np1
  have h1:upd H p1 (.tup [V.non]) p1=some (.tup [V.non]):=ag
  generalize upd H p1 (.tup [V.non])=H1 at s1 h1 ⊢
  refine Gk h1 (by lia) λp2 H2 h2 s2=>?_
  refine Jl ((s1.trans s2) _ _ ht) h2 (bW (cc (by rw[j7,ab,bf];lia))) λp3 H3 h3 s3=>?_
  refine⟨_,rfl,_,rfl,Le h3 (by rw[ai,j7,bf];lia) λp4 H4 h4 s4=>?_⟩
  rw[<-x6,<-sd,<-pK,Dn ws pl (by lia)] at h4
  exact q (.ref p4) H4 _ ⟨p4,rfl,h4⟩ (λ_=>rfl) (λz=>absurd L z) (((s1.trans s2).trans s3).trans s4)
 refine⟨_,rfl,_,rfl,o,_,dx,_,_,rfl,ho,T.cl,T.n4,rfl,.inr (.inl ⟨rfl,_,rfl,cI (λc=>?_) (λc=>lg ?_)⟩)⟩
 ·have en:n=Sd rs 0:=by injection c with c;lia
  refine⟨_,rfl,_,rfl,o,_,dx,_,_,rfl,ho,T.cl,T.n5,rfl,ld,_,rfl,oe.k (k:=nk n) hld,_,rfl,?_⟩
  have hv:(gz (dG F) (nk n)).isSome=decide (n∈F):=Gr F n
  show if(!(gz (dG F) (nk n)).isSome)=true then _ else _
  rw[hv]
  refine mt (λz=>?_) (λz=>last ((fm n).mp z))
  subst en
  exact⟨_,rfl,_,rfl,o,pl,rs,ps,ws,rfl,O,W,pnd,p100,by lia,l100,λv H' a s=>q v H' _ a (λL=>absurd ((fm _).mpr L) z) (λ_=>rfl) s⟩
 ·refine last ?_
  rcases lw with e|L
  ·exact absurd (by rw[e]) c
  ·exact L
theorem Dx{K:Fg}{vs:List V}{H:Hp}{Q:VK}{E:XK}(h:iA K vs H Q E):vv K {nx:=λ_ H'=>Q .non H',rt:=Q} (cY qu vs) H:=by
 obtain⟨pt,rt,n,pl,rs,ps,ws,zs,rfl,⟨wv,pa,hpt,hpa⟩,R,RW,W,lw,pnd,p100,wpl,l100,q⟩:=h
 refine⟨_,rfl,λx dx nx ndx ne=>?_⟩
 have s1:aV H (upd (upd H dx (.own x)) x (.ins (cT K "Outline") dx [])):=((aV.refl H).new ndx).new (by rw[ax (Ne.symm ne)];exact nx)
 have h1:upd (upd H dx (.own x)) x (.ins (cT K "Outline") dx []) x=some (.ins (cT K "Outline") dx []):=ag
 generalize upd (upd H dx (.own x)) x (.ins (cT K "Outline") dx [])=H1 at s1 h1 ⊢
 refine⟨x,dx,pt,rt,rs,ps,zs,rfl,h1,⟨wv,pa,s1 _ _ hpt,s1 _ _ hpa⟩,R.same s1,RW,(λz=>by rw[<-z,nx] at hpt;cases hpt),λH2 O B2=>⟨rfl,?_⟩⟩
 have S2:aV H H2:=λb u e=>B2 b u (ar e nx) (s1 b u e)
 exact⟨_,rfl,_,rfl,x,n,pl,rs,ps,ws,rfl,O,W,lw,pnd,p100,wpl,l100,λv H3 os a c d s3=>q v H3 os a c d (S2.trans s3)⟩
theorem G3(n:Nat)(ls:List Nat):qX (.int (n:Nat)) (aO ls)=decide (n∈ls):=by
 unfold qX aO
 rw[oZ,Bool.eq_iff_iff,gN,decide_eq_true_eq]
 constructor
 ·rintro⟨z,hz,e⟩
  have e':(((z:Nat):Int)==((n:Nat):Int))=true:=e
  have:z=n:=by
   have:=eq_of_beq e'
   lia
  rw[<-this];exact hz
 ·intro h
  exact⟨n,h,by show(((n:Nat):Int)==((n:Nat):Int))=true;simp⟩
theorem Et(ls:List Nat):(aO ls).all iG=true:=by
 rw[eT]
 intro v hv
 unfold aO at hv
 obtain⟨y,_,rfl⟩:=bV.mp hv
 rfl
theorem MO{K:Fg}{H:Hp}{p:Addr}{n:Nat}{ls:List Nat}{Q:VK}(hp:H p=some (.lst (aO ls)))(h:Q (.bl (decide (n∈ls))) H):zo K false (.int (n:Nat)) (.ref p) H Q:=by
 refine⟨p,_,rfl,.inl (ce.of hp),rfl,Et ls,?_⟩
 rw[G3]
 exact h
structure Cm(rs:List ba)(S T L:List Nat):Prop where
 nd:S.Nodup
 st:∀n∈S,dm rs n
 td:∀n∈T,dm rs n
 ed:∀n∈S,∀t,vB rs n t->t∈S\/t∈T
 z:Sd rs 0∈S\/Sd rs 0∈T
 ld:∀t,t∈L↔∃n∈S,zr rs n t\/w4 rs n t
 lL:L.length<=2*S.length
 lT:T.length<=1+2*S.length
theorem Cm.all{rs:List ba}(g:cp rs){S L:List Nat}(D:Cm rs S [] L){m:Nat}(w:w5 rs none m):Sd rs m∈S:=by
 induction w with
 |zero=>exact D.z.elim id λh=>by cases h
 |@step n m r hn hr _ hm ih=>
  cases hj:fL r with
  |true=>
   cases r with
   |jump to=>
    have:m=to:=by simpa[bS] using hm
    subst this
    rw[<-II g (hn.lt g) hr];exact ih
   |_=>cases hj
  |false=>
   have st:dm rs n:=⟨hn,λr' hr'=>by rw[hr] at hr';cases hr';exact hj⟩
   rw[BO st.2] at ih
   exact(D.ed n ih _ ⟨r,m,hr,hm,rfl⟩).elim id λh=>by cases h
structure pq(H:Hp)(sr lf ld:Addr)(H':Hp)(S T L:List Nat):Prop where
 hs:H' sr=some (.lst (aO S))
 hf:H' lf=some (.lst (aO T))
 hl:H' ld=some (.lst (aO L))
 sm:aV H H'
structure GE(H:Hp)(sr lf ld:Addr):Prop where
 n1:H sr=none
 n2:H lf=none
 n3:H ld=none
 d1:sr≠lf
 d2:sr≠ld
 d3:lf≠ld
theorem pq.putF{H H':Hp}{sr lf ld:Addr}{S T L:List Nat}(A:pq H sr lf ld H' S T L)(N:GE H sr lf ld)(T':List Nat):pq H sr lf ld (upd H' lf (.lst (aO T'))) S T' L:=
 ⟨by rw[ax N.d1];exact A.hs,ag,by rw[ax (Ne.symm N.d3)];exact A.hl,λb u e=>by rw[ax (ar e N.n2)];exact A.sm b u e⟩
theorem pq.putS{H H':Hp}{sr lf ld:Addr}{S T L:List Nat}(A:pq H sr lf ld H' S T L)(N:GE H sr lf ld)(S':List Nat):pq H sr lf ld (upd H' sr (.lst (aO S'))) S' T L:=
 ⟨ag,by rw[ax (Ne.symm N.d1)];exact A.hf,by rw[ax (Ne.symm N.d2)];exact A.hl,λb u e=>by rw[ax (ar e N.n1)];exact A.sm b u e⟩
theorem pq.putL{H H':Hp}{sr lf ld:Addr}{S T L:List Nat}(A:pq H sr lf ld H' S T L)(N:GE H sr lf ld)(L':List Nat):pq H sr lf ld (upd H' ld (.lst (aO L'))) S T L':=
 ⟨by rw[ax N.d2];exact A.hs,by rw[ax N.d3];exact A.hf,ag,λb u e=>by rw[ax (ar e N.n3)];exact A.sm b u e⟩
theorem gR(T:List Nat)(n:Nat):aO T++[V.int (n:Nat)]=aO (T++[n]):=by unfold aO;rw[aN];rfl
def rM(H:Hp)(rt sr lf ld:Addr)(rs:List ba)(m:Nat)(σ:St)(H':Hp):Prop:=∃(S T L:List Nat) (o5:Option V),m=(rs.length-S.length)*3+T.length/\σ=[some (.ref rt),some (.ref sr),some (.ref lf),some (.ref ld),some (.int (Sd rs 0:Nat)),o5]/\pq H sr lf ld H' S T L/\Cm rs S T L
theorem Cm.take{rs:List ba}(g:cp rs){S T L:List Nat}{n:Nat}{r:ba}(D:Cm rs S (T++[n]) L)(hn:n∉S)(er:rs[n]?=some r){X Y:List Nat}(hX:∀t,t∈X↔vB rs n t)(hY:∀t,t∈Y↔zr rs n t\/w4 rs n t)(lX:X.length<=2)(lY:Y.length<=2):Cm rs (S++[n]) (T++X) (L++Y):=by
 have stn:dm rs n:=D.td n (aQ _ aL)
 have mS:∀{x},x∈S++[n]↔x∈S\/x=n:=by intro x;rw[aB,ae]
 have mT:∀{x},x∈T++[n]↔x∈T\/x=n:=by intro x;rw[aB,ae]
 refine⟨cF.mpr ⟨D.nd,by simp,λa ha b hb=>by rw[ae.mp hb];exact λe=>hn (e ▸ ha)⟩,λx hx=>?_,λx hx=>?_,λx hx t et=>?_,?_,λt=>?_,?_,?_⟩
 ·rcases mS.mp hx with h|h
  ·exact D.st x h
  ·rw[h];exact stn
 ·rcases aB.mp hx with h|h
  ·exact D.td x (mT.mpr (.inl h))
  ·exact mM g stn ((hX x).mp h)
 ·rcases mS.mp hx with h|h
  ·rcases D.ed x h t et with z|z
   ·exact .inl (mS.mpr (.inl z))
   ·rcases mT.mp z with z|z
    ·exact .inr (bh _ z)
    ·exact .inl (mS.mpr (.inr z))
  ·rw[h] at et
   exact .inr (aQ _ ((hX t).mpr et))
 ·rcases D.z with z|z
  ·exact .inl (mS.mpr (.inl z))
  ·rcases mT.mp z with z|z
   ·exact .inr (bh _ z)
   ·exact .inl (mS.mpr (.inr z))
 ·rw[aB,D.ld,hY]
  constructor
  ·rintro(⟨m,hm,z⟩|z)
   ·exact⟨m,mS.mpr (.inl hm),z⟩
   ·exact⟨n,mS.mpr (.inr rfl),z⟩
  ·rintro⟨m,hm,z⟩
   rcases mS.mp hm with h|h
   ·exact .inl ⟨m,h,z⟩
   ·rw[h] at z;exact .inr z
 ·have:=D.lL
  rw[ai,ai,aS];lia
 ·have:=D.lT
  rw[ai,aS] at this
  rw[ai,ai,aS];lia
theorem CG{rs:List ba}{n:Nat}{r:ba}(er:rs[n]?=some r)(hj:fL r=false)(t:Nat):vB rs n t↔(∃a to,r=.test a to/\t=Sd rs to)\/(xc r=true/\t=Sd rs (n+1)):=by
 constructor
 ·rintro⟨r',m,hr',hm,rfl⟩
  rw[er] at hr';cases hr'
  cases r with
  |jump to=>cases hj
  |give a=>simp[bS] at hm
  |test a to=>
   have hm':m=n+1\/m=to:=by simpa[bS] using hm
   rcases hm' with rfl|rfl
   ·exact .inr ⟨rfl,rfl⟩
   ·exact .inl ⟨a,_,rfl,rfl⟩
  |num x z=>
   have:m=n+1:=by simpa[bS] using hm
   subst this;exact .inr ⟨rfl,rfl⟩
  |op x s a b=>
   have:m=n+1:=by simpa[bS] using hm
   subst this;exact .inr ⟨rfl,rfl⟩
  |call x k as=>
   have:m=n+1:=by simpa[bS] using hm
   subst this;exact .inr ⟨rfl,rfl⟩
  |say a=>
   have:m=n+1:=by simpa[bS] using hm
   subst this;exact .inr ⟨rfl,rfl⟩
 ·rintro(⟨a,to,rfl,rfl⟩|⟨hf,rfl⟩)
  ·exact⟨_,to,er,by simp[bS],rfl⟩
  ·exact⟨r,n+1,er,mr hf,rfl⟩
theorem Me{K:Fg}{vs:List V}{H:Hp}{Q:VK}{E:XK}(h:oU K vs H Q E):JC K {nx:=λ_ H'=>Q .non H',rt:=Q} (cY D8 vs) H:=by
 obtain⟨rt,rs,rfl,R,q⟩:=h
 obtain⟨rvs,hrt,hA,g⟩:=id R
 have r64:=g.few
 refine⟨(by show 0<=sizeLine;decide),λsr nsr=>?_⟩
 have s1:aV H (upd H sr (.lst [])):=(aV.refl H).new nsr
 have h1:upd H sr (.lst []) sr=some (.lst (aO [])):=ag
 show yM K _ [some (.ref rt),some (.ref sr),none,none,none,none] _
 generalize upd H sr (.lst [])=H1 at s1 h1 ⊢
 refine⟨_,rfl,rt,0,rvs,rs,rfl,s1 _ _ hrt,hA.imp λ_ _ z=>z.mono (.of_same s1),g,g.pos,(by show 1<=sizeLine;decide),λlf nlf=>?_⟩
 have s2:aV H1 (upd H1 lf (.lst [V.int (Sd rs 0:Nat)])):=(aV.refl H1).new nlf
 have h2:upd H1 lf (.lst [V.int (Sd rs 0:Nat)]) lf=some (.lst (aO [Sd rs 0])):=ag
 show yL K _ [some (.ref rt),some (.ref sr),some (.ref lf),none,none,none] _
 generalize upd H1 lf (.lst [V.int (Sd rs 0:Nat)])=H2 at s2 h2 ⊢
 refine⟨(by show 0<=sizeLine;decide),λld nld=>?_⟩
 have s3:aV H2 (upd H2 ld (.lst [])):=(aV.refl H2).new nld
 have h3:upd H2 ld (.lst []) ld=some (.lst (aO [])):=ag
 show yK K _ [some (.ref rt),some (.ref sr),some (.ref lf),some (.ref ld),none,none] _
 generalize upd H2 ld (.lst [])=H3 at s3 h3 ⊢
 have back:∀{A B:Hp} {a:Addr},aV A B->B a=none->A a=none:=λ{A B a} s n=>by
  cases ee:A a with
  |none=>rfl
  |some u=>rw[s _ _ ee] at n;cases n
 have N:GE H sr lf ld:=⟨nsr,back s1 nlf,back (s1.trans s2) nld,(λz=>by rw[<-z,h1] at nlf;cases nlf),(λz=>by rw[<-z,s2 _ _ h1] at nld;cases nld),(λz=>by rw[<-z,h2] at nld;cases nld)⟩
 have s0d:dm rs (Sd rs 0):=lU g (.inl rfl)
 refine⟨_,rfl,m6 (ce.of (s3 _ _ h2)) (by decide) rfl ?_⟩
 show Cg K _ [some (.ref rt),some (.ref sr),some (.ref lf),some (.ref ld),some (.int (Sd rs 0:Nat)),none] H3
 refine⟨rM H rt sr lf ld rs,⟨_,[],[Sd rs 0],[],none,rfl,rfl,⟨s3 _ _ (s2 _ _ h1),s3 _ _ h2,h3,(s1.trans s2).trans s3⟩,⟨eW,λn m=>by(cases m),λn m=>by rw[ae.mp m];exact s0d,λn m=>by(cases m),.inr aL,λt=>by simp,bF _,by simp⟩⟩,?_⟩
 rintro m σ' H4 ⟨S,T,L,o5,rfl,rfl,A,D⟩
 have S64:=dH D.nd λx hx=>cZ g (D.st x hx)
 have lT:=D.lT
 have lL:=D.lL
 refine⟨_,rfl,(by show 0<=sizeLine;decide),λl0 n0=>?_⟩
 have s5:aV H4 (upd H4 l0 (.lst [])):=(aV.refl H4).new n0
 have h5:upd H4 l0 (.lst []) l0=some (.lst []):=ag
 generalize upd H4 l0 (.lst [])=H5 at s5 h5 ⊢
 have A5:pq H sr lf ld H5 S T L:=⟨s5 _ _ A.hs,s5 _ _ A.hf,s5 _ _ A.hl,A.sm.trans s5⟩
 rcases i7 T with rfl|⟨T0,n,rfl⟩
 ·refine .inl ⟨lf,l0,_,[],rfl,rfl,.inl ⟨ce.of A5.hf,ce.of h5⟩,.inr ⟨[],rfl,rfl,λj a b e h=>by(simp[aO] at h),_,rfl,lg ?_⟩⟩
  show mO K _ [some (.ref rt),some (.ref sr),some (.ref lf),some (.ref ld),some (.int (Sd rs 0:Nat)),o5] H5
  have hL:∀t,t∈L↔Ld rs t:=λt=>by
   rw[D.ld]
   constructor
   ·rintro⟨n,hn,z⟩;exact⟨n,D.st n hn,z⟩
   ·rintro⟨n,hn,z⟩
    have:=D.all g hn.1
    rw[BO hn.2] at this
    exact⟨n,this,z⟩
  refine⟨_,rfl,ld,false,L.map λ(n:Nat)=>(n:Int),(dz rs.length).map λ(n:Nat)=>(n:Int),rfl,ce.of (by rw[Bc];exact A5.hl),by rw[ab];lia,λx hx=>?_,by rw[ab,eB];exact r64,λl ss' nl nd mem srt=>?_⟩
  ·obtain⟨n,hn',rfl⟩:=bV.mp hx
   exact bV.mpr ⟨n,gC.mpr (cZ g (ic g ((hL n).mp hn'))),rfl⟩
  ·obtain⟨ms,e1,e2,e3⟩:=oa (F:=L) mem nd srt
   rw[e1]
   refine⟨_,rfl,(by show 2<=sizeLine;decide),λp np=>?_⟩
   exact q p l ms _ (λt=>by rw[e3,hL]) e2 ag (by rw[ax (ar ag np)];exact ag) ((A5.sm.new nl).new np)
 ·rw[i6] at A5 D lT ⊢
  have nmem:n∈T0++[n]:=aQ _ aL
  have stn:=D.td n nmem
  have nlt:=cZ g stn
  refine .inl ⟨lf,l0,_,[],rfl,rfl,.inl ⟨ce.of A5.hf,ce.of h5⟩,.inl ⟨by rw[bv];simp,_,rfl,ut ?_⟩⟩
  refine⟨λσ' H'=>∃m',m'<(rs.length-S.length)*3+(T0++[n]).length/\rM H rt sr lf ld rs m' σ' H',λ_ _ h=>h,?_⟩
  show Cf K _ [some (.ref rt),some (.ref sr),some (.ref lf),some (.ref ld),some (.int (Sd rs 0:Nat)),o5] H5
  refine⟨_,rfl,.inl ⟨rfl,_,ce.of A5.hf⟩,lf,_,.int (n:Nat),rfl,rfl,A5.hf,?_,?_⟩
  ·rw[bv,<-gR,ai,aS,show T0.length+1-1=T0.length by lia,aX (by rw[bv];exact aw _),bv,dB];rfl
  rw[<-gR,jx]
  have A6:=A5.putF N T0
  show Ce K _ [some (.ref rt),some (.ref sr),some (.ref lf),some (.ref ld),some (.int (Sd rs 0:Nat)),some (.int (n:Nat))] _
  generalize upd H5 lf (.lst (aO T0))=H6 at A6 ⊢
  refine⟨_,rfl,_,rfl,MO A6.hs ⟨_,rfl,cI (λc=>?_) (λc=>?_)⟩⟩
  ·refine⟨_,by rw[ai,aS];exact dX _,S,T0,L,_,rfl,rfl,A6,⟨D.nd,D.st,λx hx=>D.td x (bh _ hx),λx hx t et=>?_,?_,D.ld,lL,by rw[ai] at lT;lia⟩⟩
   ·rcases D.ed x hx t et with z|z
    ·exact .inl z
    ·rcases aB.mp z with z|z
     ·exact .inr z
     ·rw[ae.mp z];exact .inl c
   ·rcases D.z with z|z
    ·exact .inl z
    ·rcases aB.mp z with z|z
     ·exact .inr z
     ·rw[ae.mp z];exact .inl c
  ·have S1lt:S.length+1<=rs.length:=by
    have:=dH (l:=S++[n]) (n:=rs.length) (cF.mpr ⟨D.nd,by simp,λa ha b hb=>by rw[ae.mp hb];exact λe=>c (e ▸ ha)⟩) λx hx=>by
     rcases aB.mp hx with h|h
     ·exact cZ g (D.st x h)
     ·rw[ae.mp h];exact nlt
    rw[ai] at this;exact this
   show Cd K _ [some (.ref rt),some (.ref sr),some (.ref lf),some (.ref ld),some (.int (Sd rs 0:Nat)),some (.int (n:Nat))] H6
   refine⟨_,rfl,.inl ⟨rfl,_,ce.of A6.hs⟩,_,rfl,sr,_,_,rfl,rfl,A6.hs,cc (by rw[bv];lia),?_⟩
   rw[gR]
   have A7:=A6.putS N (S++[n])
   show Cc K _ [some (.ref rt),some (.ref sr),some (.ref lf),some (.ref ld),some (.int (Sd rs 0:Nat)),some (.int (n:Nat))] _
   generalize upd H6 sr (.lst (aO (S++[n])))=H7 at A7 ⊢
   obtain⟨v,r,ev,er,ra⟩:=hA.get nlt
   obtain⟨p,xs,rfl,hp0⟩:=ra.ref
   have ev':rvs[((n:Nat):Int).toNat]?=some (.ref p):=by simpa using ev
   have hj:=stn.2 r er
   have t0l:(T0++[n]).length=T0.length+1:=by rw[ai];rfl
   have half:∀(X Y:List Nat) (H8:Hp),pq H sr lf ld H8 (S++[n]) (T0++X) (L++Y)->(∀t,t∈X↔∃a to,r=.test a to/\t=Sd rs to)->(∀t,t∈Y↔zr rs n t)->X.length<=1->Y.length<=1->
     Ca K {nx:=λσ' H'=>∃m',m'<(rs.length-S.length)*3+(T0++[n]).length/\rM H rt sr lf ld rs m' σ' H',rt:=Q,bk:=mO K {nx:=λ_ H'=>Q .non H',rt:=Q},ct:=λσ' H'=>∃m',m'<(rs.length-S.length)*3+(T0++[n]).length/\rM H rt sr lf ld rs m' σ' H'} [some (.ref rt),some (.ref sr),some (.ref lf),some (.ref ld),some (.int (Sd rs 0:Nat)),some (.int (n:Nat))] H8:=λX Y H8 A8 hX hY lX lY=>by
    have S8:=A8.sm
    have fin:∀(X2 Y2:List Nat) (H9:Hp),pq H sr lf ld H9 (S++[n]) (T0++(X++X2)) (L++(Y++Y2))->(∀t,t∈X2↔xc r=true/\t=Sd rs (n+1))->(∀t,t∈Y2↔w4 rs n t)->X2.length<=1->Y2.length<=1->
      ∃m',m'<(rs.length-S.length)*3+(T0++[n]).length/\rM H rt sr lf ld rs m' [some (.ref rt),some (.ref sr),some (.ref lf),some (.ref ld),some (.int (Sd rs 0:Nat)),some (.int (n:Nat))] H9:=λX2 Y2 H9 A9 h1 h2 l1 l2=>by
     refine⟨_,?_,S++[n],T0++(X++X2),L++(Y++Y2),_,rfl,rfl,A9,D.take g c er (λt=>?_) (λt=>?_) (by rw[ai];lia) (by rw[ai];lia)⟩
     ·rw[t0l,ai,ai,ai,aS];lia
     ·rw[aB,hX,h1,CG er hj]
     ·rw[aB,hY,h2]
    have TL:(T0++X).length<=500:=by rw[ai];rw[t0l] at lT;lia
    have LL:(L++Y).length<=500:=by rw[ai];lia
    refine⟨_,rfl,_,rfl,dM (S8 _ _ hrt) (by lia) ev' (dM (S8 _ _ hp0) (by decide) rfl (.inr (.inr (.inl ⟨rfl,_,rfl,mt (λcg=>?_) (λcg=>?_)⟩))))⟩
    ·have hf:xc r=true:=Bk (λz=>cg (by rw[z])) hj
     have n1:n+1<rs.length:=g.inr n (n+1) r er (mr hf)
     obtain⟨v',r',ev1,er1,ra1⟩:=hA.get n1
     obtain⟨p',xs',rfl,hp1⟩:=ra1.ref
     have ev1':rvs[((n:Nat)+1:Int).toNat]?=some (.ref p'):=by rw[show((n:Nat)+1:Int).toNat=n+1 by lia];exact ev1
     have push:∀(Y2:List Nat) (H9:Hp),pq H sr lf ld H9 (S++[n]) (T0++X) (L++(Y++Y2))->(∀t,t∈Y2↔w4 rs n t)->Y2.length<=1->se K {nx:=λσ' H'=>∃m',m'<(rs.length-S.length)*3+(T0++[n]).length/\rM H rt sr lf ld rs m' σ' H',rt:=Q,bk:=mO K {nx:=λ_ H'=>Q .non H',rt:=Q},ct:=λσ' H'=>∃m',m'<(rs.length-S.length)*3+(T0++[n]).length/\rM H rt sr lf ld rs m' σ' H'} [some (.ref rt),some (.ref sr),some (.ref lf),some (.ref ld),some (.int (Sd rs 0:Nat)),some (.int (n:Nat))] H9:=λY2 H9 A9 h2 l2=>by
      have S9:=A9.sm
      refine⟨_,rfl,.inl ⟨rfl,_,ce.of A9.hf⟩,_,rfl,_,rfl,.inl ⟨_,_,rfl,rfl,rt,n+1,rvs,rs,rfl,S9 _ _ hrt,hA.imp λ_ _ z=>z.mono (.of_same S9),g,n1,lf,_,_,rfl,rfl,A9.hf,cc (by rw[bv];lia),?_⟩⟩
      rw[gR,eh]
      exact fin [Sd rs (n+1)] Y2 _ (A9.putF N _) (λt=>by rw[ae];exact⟨λz=>⟨hf,z⟩,λz=>z.2⟩) h2 (by simp) l2
     have both:w4 rs n (Sd rs (n+1))->se K {nx:=λσ' H'=>∃m',m'<(rs.length-S.length)*3+(T0++[n]).length/\rM H rt sr lf ld rs m' σ' H',rt:=Q,bk:=mO K {nx:=λ_ H'=>Q .non H',rt:=Q},ct:=λσ' H'=>∃m',m'<(rs.length-S.length)*3+(T0++[n]).length/\rM H rt sr lf ld rs m' σ' H'} [some (.ref rt),some (.ref sr),some (.ref lf),some (.ref ld),some (.int (Sd rs 0:Nat)),some (.int (n:Nat))] (upd H8 ld (.lst (aO (L++(Y++[Sd rs (n+1)]))))):=λhF=>
      push [Sd rs (n+1)] _ (A8.putL N _) (λt=>by rw[ae];exact⟨λz=>z ▸ hF,λ⟨_,_,_,_,z⟩=>z⟩) (by simp)
     have appL:w4 rs n (Sd rs (n+1))->i4 (vh K "list" eC (au 3) (ao (bE (iY K) [] E0 (ao (au 0) (ao (bA (cN K) (au 5) (tC (.int 1))) aP))) aP)) {nx:=se K {nx:=λσ' H'=>∃m',m'<(rs.length-S.length)*3+(T0++[n]).length/\rM H rt sr lf ld rs m' σ' H',rt:=Q,bk:=mO K {nx:=λ_ H'=>Q .non H',rt:=Q},ct:=λσ' H'=>∃m',m'<(rs.length-S.length)*3+(T0++[n]).length/\rM H rt sr lf ld rs m' σ' H'},rt:=Q,bk:=mO K {nx:=λ_ H'=>Q .non H',rt:=Q},ct:=λσ' H'=>∃m',m'<(rs.length-S.length)*3+(T0++[n]).length/\rM H rt sr lf ld rs m' σ' H'} [some (.ref rt),some (.ref sr),some (.ref lf),some (.ref ld),some (.int (Sd rs 0:Nat)),some (.int (n:Nat))] H8:=λhF=>by
      refine⟨_,rfl,.inl ⟨rfl,_,ce.of A8.hl⟩,_,rfl,_,rfl,.inl ⟨_,_,rfl,rfl,rt,n+1,rvs,rs,rfl,S8 _ _ hrt,hA.imp λ_ _ z=>z.mono (.of_same S8),g,n1,ld,_,_,rfl,rfl,A8.hl,cc (by rw[bv];lia),?_⟩⟩
      rw[gR,eh]
      exact both hF
     refine⟨_,rfl,_,rfl,.inl ⟨_,_,rfl,rfl,dM (S8 _ _ hrt) (by lia) ev1' (dM (S8 _ _ hp1) (by decide) rfl (.inr (.inr (.inl ⟨rfl,_,rfl,cI (λc1=>?_) (λc1=>?_)⟩))))⟩⟩
     ·obtain⟨to,rfl⟩:=kj (iZ c1)
      exact ut (appL ⟨r,er,hf,.inl ⟨to,er1⟩,rfl⟩)
     ·refine⟨_,rfl,.inl ⟨_,_,rfl,rfl,_,rfl,.inr (.inr (.inl ⟨rfl,_,rfl,cI (λc2=>?_) (λc2=>?_)⟩))⟩⟩
      ·have e2:n+1=Sd rs 0:=by injection c2 with c2;have c3:((n:Int)+1)=((Sd rs 0:Nat):Int):=c2;lia
       exact appL ⟨r,er,hf,.inr e2,rfl⟩
      ·refine push [] H8 (by rw[cQ];exact A8) (λt=>⟨λz=>(by cases z),λ⟨r2,hr2,hf2,z2,_⟩=>?_⟩) (by simp)
       exfalso
       rcases z2 with⟨to,z2⟩|z2
       ·rw[er1] at z2;cases z2
        exact c1 rfl
       ·exact c2 (by show V.int ((n:Int)+1)=V.int ((Sd rs 0:Nat):Int);rw[<-z2];rfl)
    ·obtain⟨a,rfl⟩:=vz (iZ cg)
     refine fin [] [] H8 (by rw[cQ,cQ];exact A8) (λt=>⟨λz=>(by cases z),λz=>(by cases z.1)⟩) (λt=>⟨λz=>(by cases z),λ⟨r2,hr2,hf2,_⟩=>?_⟩) (by simp) (by simp)
     rw[er] at hr2;cases hr2;cases hf2
   have S7:=A7.sm
   refine⟨_,rfl,_,rfl,dM (S7 _ _ hrt) (by lia) ev' (dM (S7 _ _ hp0) (by decide) rfl (.inr (.inr (.inl ⟨rfl,_,rfl,cI (λct=>?_) (λct=>?_)⟩))))⟩
   ·obtain⟨a,to,rfl⟩:=vA (iZ ct)
    have tolt:to<rs.length:=g.inr n to _ er (by simp[bS])
    obtain⟨p',ep,hp'⟩:=ra
    cases ep
    refine⟨_,rfl,.inl ⟨rfl,_,ce.of A7.hl⟩,_,rfl,_,rfl,_,rfl,dM (S7 _ _ hrt) (by lia) ev' (dM (S7 _ _ hp') (by decide) rfl ⟨rt,to,rvs,rs,rfl,S7 _ _ hrt,hA.imp λ_ _ z=>z.mono (.of_same S7),g,tolt,ld,_,_,rfl,rfl,A7.hl,cc (by rw[bv];lia),?_⟩)⟩
    rw[gR]
    have A8:=A7.putL N (L++[Sd rs to])
    show Cb K _ [some (.ref rt),some (.ref sr),some (.ref lf),some (.ref ld),some (.int (Sd rs 0:Nat)),some (.int (n:Nat))] _
    generalize upd H7 ld (.lst (aO (L++[Sd rs to])))=H8 at A8 ⊢
    refine⟨_,rfl,.inl ⟨rfl,_,ce.of A8.hf⟩,_,rfl,_,rfl,JW (ce.of A8.hl) (v:=.int (Sd rs to:Nat)) (by rw[bv,<-gR,ai,aS,show L.length+1-1=L.length by lia,aX (by rw[bv];exact aw _),bv,dB];rfl) ⟨lf,_,_,rfl,rfl,A8.hf,cc (by rw[bv];rw[t0l] at lT;lia),?_⟩⟩
    rw[gR]
    exact half [Sd rs to] [Sd rs to] _ (A8.putF N _) (λt=>by rw[ae];exact⟨λz=>⟨a,to,rfl,z⟩,λ⟨a',to',e1,e2⟩=>by cases e1;exact e2⟩) (λt=>by rw[ae];exact⟨λz=>⟨a,to,er,z⟩,λ⟨a',to',e1,e2⟩=>by rw[er] at e1;cases e1;exact e2⟩) (by simp) (by simp)
   ·refine half [] [] H7 (by rw[cQ,cQ];exact A7) (λt=>⟨λz=>(by cases z),λ⟨a',to',e1,_⟩=>?_⟩) (λt=>⟨λz=>(by cases z),λ⟨a',to',e1,_⟩=>?_⟩) (by simp) (by simp)
    ·subst e1;exact absurd rfl ct
    ·rw[er] at e1;cases e1;exact absurd rfl ct
theorem MZ{K:Fg}{H:Hp}{p:Addr}{y:Str}{ls:List Str}{Q:VK}(hp:H p=some (.tup (ls.map V.str)))(h:Q (.bl (decide (y∈ls))) H):zo K false (.str y) (.ref p) H Q:=by
 refine⟨p,_,rfl,.inr (dZ.of hp),rfl,qA ls,?_⟩
 rw[sP]
 exact h
def Hj(ws:List Str)(y:Str):Option Str:=if y∈ws then some y else none
theorem IB{K:Fg}{vs:List V}{H:Hp}{Q:VK}{E:XK}(h:kE K vs H Q E):Ci K {nx:=λ_ H'=>Q .non H',rt:=Q} (cY vJ vs) H:=by
 obtain⟨pt,rt,l,wt,n,pl,ns,ps,ws,rfl,⟨wv,pa,hpt,hpa⟩,hl,hwt,wpw,wnd,w64,p100,wpl,l100,q⟩:=h
 refine⟨_,rfl,_,rfl,MO hl ⟨_,rfl,cI (λc=>?_) (λc=>?_)⟩⟩
 ·rw[if_pos c] at q
  refine⟨_,rfl,wt,ws,rfl,dZ.of hwt,w64,λl1 ss n1 perm srt=>⟨l1,_,rfl,.inl ⟨ce.of ag,λt1 nt1=>?_⟩⟩⟩
  have es:ss=ws:=Ap (qN srt) wpw (perm.nodup_iff.mpr wnd) wnd λx=>perm.mem_iff
  subst es
  have s1:aV H (upd (upd H l1 (.lst (ss.map V.str))) t1 (.tup (ss.map V.str))):=((aV.refl H).new n1).new nt1
  have h1:upd (upd H l1 (.lst (ss.map V.str))) t1 (.tup (ss.map V.str)) t1=some (.tup (ss.map V.str)):=ag
  generalize upd (upd H l1 (.lst (ss.map V.str))) t1 (.tup (ss.map V.str))=H1 at s1 h1 ⊢
  refine⟨(by show 1<=sizeLine;decide),λp1 np1=>?_⟩
  have s2:aV H1 (upd H1 p1 (.tup [V.non])):=(aV.refl H1).new np1
  have h2:upd H1 p1 (.tup [V.non]) p1=some (.tup [V.non]):=ag
  generalize upd H1 p1 (.tup [V.non])=H2 at s2 h2 ⊢
  refine⟨_,rfl,_,rfl,_,_,rfl,.inr ⟨_,dZ.of ((s1.trans s2) _ _ hwt),rfl⟩,_,_,rfl,rfl,?_⟩
  show gH K (.ref p1) (.int ((pl:Int)-((ss.map V.str).length:Int))) H2 _
  rw[show((pl:Int)-((ss.map V.str).length:Int))=((pl-ss.length:Nat):Int) by rw[ab];lia]
  refine Gk h2 (by lia) λp2 H3 h3 s3=>?_
  refine Jl ((s2.trans s3) _ _ h1) h3 (bW (cc (by rw[j7,ab,bf];lia))) λp3 H4 h4 s4=>?_
  rw[<-x6,<-sd] at h4
  exact q (.ref p3) H4 ⟨p3,rfl,h4⟩ (((s1.trans s2).trans s3).trans s4)
 ·rw[if_neg c] at q
  show vo K _ [some (.ref pt),some (.int (n:Nat)),some (.ref l),some (.int (pl:Nat)),some (.ref wt),none,none] H
  refine⟨(by show 0<=sizeLine;decide),λfl nfl=>?_⟩
  have s1:aV H (upd H fl (.lst [])):=(aV.refl H).new nfl
  have h1:upd H fl (.lst []) fl=some (.lst (j6 [])):=ag
  show vn K _ [some (.ref pt),some (.int (n:Nat)),some (.ref l),some (.int (pl:Nat)),some (.ref wt),some (.ref fl),none] _
  generalize upd H fl (.lst [])=H1 at s1 h1 ⊢
  refine⟨_,rfl,dM (s1 _ _ hpt) (by decide) rfl ⟨pa,ps.map V.str,rfl,dZ.of (s1 _ _ hpa),GZ (xs:=ps.map V.str) (λi σ' H'=>∃o6,σ'=[some (.ref pt),some (.int (n:Nat)),some (.ref l),some (.int (pl:Nat)),some (.ref wt),some (.ref fl),o6]/\H' fl=some (.lst (j6 ((ps.reverse.take i).map (Hj ws))))/\aV H H') ⟨none,rfl,h1,s1⟩ ?_ ?_ ?_⟩⟩
  ·rintro i σ' H' _ ⟨_,_,_,s⟩
   exact dZ.of (s _ _ hpa)
  ·rintro i x σ' H2 hx ⟨o6,rfl,hfl,s2⟩
   rw[<-List.map_reverse] at hx
   obtain⟨y,hy,rfl⟩:=wN hx
   have il:=(af.mp hy).1
   rw[jT] at il
   have tk:(ps.reverse.take (i+1)).map (Hj ws)=(ps.reverse.take i).map (Hj ws)++[Hj ws y]:=by rw[cC,hy,aN];rfl
   refine⟨_,rfl,.inl ⟨rfl,_,ce.of hfl⟩,_,rfl,(by show 2<=sizeLine;decide),λl2 n2=>?_⟩
   have s3:aV H2 (upd H2 l2 (.lst [V.non,V.str y])):=(aV.refl H2).new n2
   have h3:upd H2 l2 (.lst [V.non,V.str y]) l2=some (.lst [V.non,V.str y]):=ag
   generalize upd H2 l2 (.lst [V.non,V.str y])=H3 at s3 h3 ⊢
   refine⟨_,rfl,_,rfl,MZ (s3 _ _ (s2 _ _ hwt)) (.inr ⟨_,rfl,?_⟩)⟩
   have hfl3:=s3 _ _ hfl
   have fin:∀v:V,v=oV (Hj ws y)->eC (.ref fl) [v] H3 (λ_ H1=>∃o6,[some (V.ref pt),some (.int (n:Nat)),some (.ref l),some (.int (pl:Nat)),some (.ref wt),some (.ref fl),some (V.str y)]=[some (.ref pt),some (.int (n:Nat)),some (.ref l),some (.int (pl:Nat)),some (.ref wt),some (.ref fl),o6]/\H1 fl=some (.lst (j6 ((ps.reverse.take (i+1)).map (Hj ws))))/\aV H H1):=λv hv=>by
    refine⟨fl,_,v,rfl,rfl,hfl3,cc (by rw[j7,ab,be];lia),_,rfl,?_,λb u e=>by rw[ax (ar e nfl)];exact s3 _ _ (s2 b u e)⟩
    rw[ag,tk,sd,hv];rfl
   cases hd:decide (y∈ws) with
   |true=>exact m6 (ce.of h3) (by decide) rfl (fin _ (by unfold Hj;rw[if_pos (of_decide_eq_true hd)];rfl))
   |false=>exact m6 (ce.of h3) (by decide) rfl (fin _ (by unfold Hj;rw[if_neg (of_decide_eq_false hd)];rfl))
  ·rintro σ' H2 ⟨o6,rfl,hfl,s2⟩
   rw[ab,show ps.length=ps.reverse.length by rw[jT],bK] at hfl
   refine⟨_,rfl,(by show 1<=sizeLine;decide),λl3 n3=>?_⟩
   have s3:aV H2 (upd H2 l3 (.lst [V.non])):=(aV.refl H2).new n3
   have h3:upd H2 l3 (.lst [V.non]) l3=some (.lst [V.non]):=ag
   generalize upd H2 l3 (.lst [V.non])=H3 at s3 h3 ⊢
   refine⟨_,rfl,l3,_,_,rfl,rfl,h3,by lia,by lia,bW (cc (by show 1*((pl:Nat):Int).toNat<=100000;lia)),λl4 n4=>?_⟩
   rw[de,BF]
   have s4:aV H3 (upd H3 l4 (.lst (j6 (az pl none)))):=(aV.refl H3).new n4
   have h4:upd H3 l4 (.lst (j6 (az pl none))) l4=some (.lst (j6 (az pl none))):=ag
   generalize upd H3 l4 (.lst (j6 (az pl none)))=H4 at s4 h4 ⊢
   refine .inr (.inr (.inr (.inl ⟨fl,l4,_,_,rfl,rfl,s4 _ _ (s3 _ _ hfl),h4,bW (cc (by rw[j7,j7,ab,jT,bf];lia)),λl5 n5=>?_⟩)))
   refine⟨_,rfl,_,rfl,.inr (.inl ⟨l5,_,rfl,ce.of ag,λl6 n6=>⟨l6,_,rfl,.inl ⟨ce.of ag,λt nt=>?_⟩⟩⟩)⟩
   have e6:ng (j6 (ps.reverse.map (Hj ws))++j6 (az pl none)) none (some ((pl:Nat):Int))=j6 (yd ps ws pl):=by
    rw[jE,<-sd,<-pK];rfl
   refine q (.ref t) _ ⟨t,rfl,by rw[ag,e6]⟩ ((((s2.trans s3).trans s4).new n5).new n6 |>.new nt)
theorem Mf{K:Fg}{H:Hp}{v u:V}{os:List (Option Str)}{Q:VK}(a:JH H v os)(b:JH H u os)(q:Q (.bl false) H):yi K v u H Q:=by
 obtain⟨p,rfl,hp⟩:=a
 obtain⟨p',rfl,hp'⟩:=b
 refine .inl ⟨p,p',_,_,rfl,rfl,.inr ⟨dZ.of hp,dZ.of hp',rfl⟩,.inr ⟨az (j6 os).length true,rfl,by simp,λj x y b hx hy hb=>?_,?_⟩⟩
 ·rw[hx] at hy;cases hy
  have:b=true:=(dW.mp (aA hb)).2
  subst this
  unfold j6 at hx
  rw[aC] at hx
  cases eo:os[j]? with
  |none=>rw[eo] at hx;cases hx
  |some o=>
   rw[eo] at hx
   cases hx
   cases o with
   |none=>
    have:=AW.flat (K:=K) (H:=H) (d:=4) (x:=.non) (y:=.non) rfl rfl
    simpa[xa,oV] using this
   |some z=>
    have:=AW.flat (K:=K) (H:=H) (d:=4) (x:=.str z) (y:=.str z) rfl rfl
    simpa[xa,oV] using this
 ·have:(az (j6 os).length true).all id=true:=by simp
  rw[this];exact q
theorem G5(K:Fg)(H:Hp)(d:Nat)(z:Int):AW K H d (.int z) (.int z) true:=by
 have:=AW.flat (K:=K) (H:=H) (d:=d) (x:=.int z) (y:=.int z) rfl rfl
 simpa[xa] using this
theorem Jr{K:Fg}{H:Hp}{l m:Addr}{ns:List Nat}{Q:VK}(hl:H l=some (.lst (aO ns)))(hm:H m=some (.lst (aO ns)))(k:Q (.bl false) H):yi K (.ref l) (.ref m) H Q:=by
 refine .inl ⟨l,m,_,_,rfl,rfl,.inl ⟨ce.of hl,ce.of hm⟩,.inr ⟨az (aO ns).length true,rfl,by simp,λj x y b hx hy hb=>?_,?_⟩⟩
 ·rw[hx] at hy;cases hy
  have:b=true:=(dW.mp (aA hb)).2
  subst this
  obtain⟨n,_,rfl⟩:=mw hx
  exact G5 K H 4 _
 ·have:(az (aO ns).length true).all id=true:=by simp
  rw[this];exact k
theorem DZ.but{K:Fg}{H H':Hp}{st wd:Addr}{rs:List ba}{k:Nat}(h:DZ H wd rs)(S:kh K H st k)(B:fh st H H'):DZ H' wd rs:=by
 obtain⟨ns,ts,wss,ss,a,b,c,d,e,f⟩:=h
 obtain⟨_,e'⟩:=S.lst
 exact⟨ns,ts,wss,ss,B _ _ (λz=>by rw[z,e'] at a;cases a) a,b,c,d,λj t ws x y=>B _ _ (λz=>by have:=e j t ws x y;rw[z,e'] at this;cases this) (e j t ws x y),f⟩
theorem Ck{K:Fg}{H:Hp}{l:Addr}{rs:List ba}{ns:List Nat}{σ:St}{Q:VK}(g:cp rs)(hm:∀t,t∈ns↔Ld rs t)(hp:ns.Pairwise (·<·))(hl:H l=some (.lst (aO ns)))(h5:σ[5]?=some (some (.ref l)))(h6:σ[6]?=some (some (.int (Sd rs 0:Nat))))
  (q:∀(l5:Addr) (ms:List Nat) (H':Hp),(∀t,t∈ms↔Ln rs t)->ms.Pairwise (·<·)->H' l5=some (.lst (aO ms))->H l5=none->aV H H'->Q (.ref l5) H'):jp K (ao (bA (cN K) (au 5) (gM (ao (au 6) aP))) aP) σ H Q:=by
 have r64:=g.few
 have hns:=dH (hp.imp λz=>aH z) λx hx=>cZ g (ic g ((hm x).mp hx))
 refine⟨_,h5,_,h6,(by show 1<=sizeLine;decide),λl3 n3=>?_⟩
 have s3:aV H (upd H l3 (.lst [V.int (Sd rs 0:Nat)])):=(aV.refl H).new n3
 have h3:upd H l3 (.lst [V.int (Sd rs 0:Nat)]) l3=some (.lst [V.int (Sd rs 0:Nat)]):=ag
 generalize upd H l3 (.lst [V.int (Sd rs 0:Nat)])=H3 at s3 h3 ⊢
 refine .inr (.inr (.inl ⟨l,l3,_,_,rfl,rfl,s3 _ _ hl,h3,bW (cc (by rw[bv];show ns.length+1<=100000;lia)),λl4 n4=>?_⟩))
 have ec:aO ns++[V.int (Sd rs 0:Nat)]=((ns++[Sd rs 0]).map λ(n:Nat)=>(n:Int)).map V.int:=by rw[Bc,gR]
 rw[ec]
 refine⟨l4,false,(ns++[Sd rs 0]).map λ(n:Nat)=>(n:Int),(dz rs.length).map λ(n:Nat)=>(n:Int),rfl,ce.of ag,by rw[ab,ai];simp;lia,λx hx=>?_,by rw[ab,eB];exact r64,λl5 ss' n5 nd mem srt=>?_⟩
 ·obtain⟨n,hn',rfl⟩:=bV.mp hx
  refine bV.mpr ⟨n,gC.mpr ?_,rfl⟩
  rcases aB.mp hn' with z|z
  ·exact cZ g (ic g ((hm n).mp z))
  ·rw[ae.mp z];exact mE g _ g.pos
 ·obtain⟨ms,e1,e2,e3⟩:=oa (F:=ns++[Sd rs 0]) mem nd srt
  rw[e1]
  have S4:=s3.new (o:=.lst (((ns++[Sd rs 0]).map λ(n:Nat)=>(n:Int)).map V.int)) n4
  have Hl5:H l5=none:=by
   cases ee:H l5 with
   |none=>rfl
   |some u=>rw[S4 _ _ ee] at n5;cases n5
  refine q l5 ms _ (λt=>?_) e2 ag Hl5 (S4.new n5)
  rw[e3,aB,ae,hm]
  exact or_comm
theorem Md{K:Fg}{vs:List V}{H:Hp}{Q:VK}{E:XK}(h:sp_law K vs H Q E):JB K {nx:=λ_ H'=>Q .non H',rt:=Q} (cY D6 vs) H:=by
 obtain⟨scr,zs,rfl,hscr,hzs,q⟩:=h
 refine⟨_,rfl,(by show 3<=sizeLine;decide),λst hst=>?_⟩
 have S1:kh K (upd H st (.lst [.ref scr,.int 0,.int 0])) st 0:=⟨scr,zs,0,ag,hscr.mono (.of_same ((aV.refl H).new hst)),hzs⟩
 show yJ K _ [some (.ref scr),some (.ref st),none,none,none,none,none,none,none,none,none] (upd H st (.lst [.ref scr,.int 0,.int 0]))
 generalize upd H st (.lst [.ref scr,.int 0,.int 0])=H1 at S1 ⊢
 refine⟨_,rfl,st,14,0,rfl,S1,by decide,by decide,by decide,λpp pvs bs ys cs k4 H4 hpp hA ok _ S4 l4 B4=>.inr ⟨_,rfl,pp,rfl,⟨_,dZ.of hpp⟩,kR (xs:=pvs) (λi σ' H'=>∃o3 o4 o5 o6 o7 o8 o9 o10 k',σ'=[some (.ref scr),some (.ref st),some (.ref pp),o3,o4,o5,o6,o7,o8,o9,o10]/\Tp H4 H'/\kh K H' st k'/\k'<=k4+64*i) ⟨_,_,_,_,_,_,_,_,k4,rfl,Tp.refl _,S4,by lia⟩ ?_ ?_ λσ' H' _=>q H'⟩⟩
 ·rintro j σ' H' _ ⟨_,_,_,_,_,_,_,_,_,_,t,_⟩
  exact dZ.of (t _ _ hpp)
 ·rintro j x σ' H5 hx ⟨o3,o4,o5,o6,o7,o8,o9,o10,k5,rfl,t5,S5,hk5⟩
  obtain⟨b,hb,hP⟩:=hA.of_v hx
  have jl:j<5:=by have h1:=(af.mp hb).1;have:=ok.few;lia
  obtain⟨a,pa,rt,rvs,rfl,ha,hpa,hrt,hR⟩:=hP.mono t5
  have po:=ok.part b (aA hb)
  have g:=po.good
  have r64:=g.few
  have R5:A3 H5 rt b.rows:=⟨rvs,hrt,hR,g⟩
  have p4:b.params.length<=4:=ok.c4 _ (by rw[<-ok.cnt];exact bV.mpr ⟨b,aA hb,rfl⟩)
  have RW:Mi b.rows ys:=⟨λr' hr'=>by
    have ro':=po.rows r' hr'
    cases r' with
    |call x k as=>exact bn (ok.c4 _ (aA ro'.2.1)) (by decide)
    |_=>simp[eN],ok.y6,λr' hr' y hy=>by
    have ro':=po.rows r' hr'
    cases r' with
    |num x z=>cases hy
    |jump t=>cases hy
    |op x s a c=>
     rcases aJ.mp hy with e|e
     ·rw[e];exact ro'.2.2.1
     ·rw[ae.mp e];exact ro'.2.2.2
    |call x k as=>exact ro'.2.2 y hy
    |say a=>rw[ae.mp hy];exact ro'
    |test a t=>rw[ae.mp hy];exact ro'.1
    |give a=>rw[ae.mp hy];exact ro'⟩
  have y6:=ok.y6
  show yI K _ [some (.ref scr),some (.ref st),some (.ref pp),some (.ref a),o4,o5,o6,o7,o8,o9,o10] H5
  refine⟨_,rfl,dM ha (by decide) rfl ?_⟩
  show B0 K _ [some (.ref scr),some (.ref st),some (.ref pp),some (.ref a),some (.ref rt),o5,o6,o7,o8,o9,o10] H5
  refine⟨_,rfl,rt,b.rows,rfl,R5,λp l ns H6 hm hp hpl hl s6=>⟨p,_,rfl,ce.of hpl,rfl,_,_,rfl,_,_,rfl,rfl,?_⟩⟩
  show BZ K _ [some (.ref scr),some (.ref st),some (.ref pp),some (.ref a),some (.ref rt),some (.ref l),some (.int (Sd b.rows 0:Nat)),o7,o8,o9,o10] H6
  obtain⟨rv6,a6,b6,_⟩:=R5.same s6
  refine⟨_,rfl,rt,rv6,b.rows,ys,rfl,a6,b6,g,RW.r100,by lia,RW.zin,λwd ws_ns ts wss ss H7 hn hpn hwd tl tt want nwd s7=>?_⟩
  have WD:DZ H7 wd b.rows:=⟨ws_ns,ts,wss,ss,hwd,tl,hn,hpn,tt,want⟩
  have S7:=s6.trans s7
  have R7:=R5.same S7
  have hl7:=s7 _ _ hl
  show BY K _ [some (.ref scr),some (.ref st),some (.ref pp),some (.ref a),some (.ref rt),some (.ref l),some (.int (Sd b.rows 0:Nat)),some (.ref wd),o8,o9,o10] H7
  refine⟨_,rfl,by lia,by lia,lE (n:=2) (λi σ' H'=>∃o8,σ'=[some (.ref scr),some (.ref st),some (.ref pp),some (.ref a),some (.ref rt),some (.ref l),some (.int (Sd b.rows 0:Nat)),some (.ref wd),o8,o9,o10]/\aV H7 H') ⟨_,rfl,aV.refl _⟩ ?_ ?_⟩
  ·rintro i σ' H8 _ ⟨o8,rfl,s8⟩
   have R8:=R7.same s8
   refine⟨_,rfl,rt,b.rows,rfl,R8,λl1 n1 H9 hm1 hp1 hl1 _ s9=>⟨_,rfl,?_⟩⟩
   cases(sZ hp1 hp λt=>by rw[hm1,hm]:n1=ns)
   refine Jr hl1 (s9 _ _ (s8 _ _ hl7)) ⟨_,rfl,lg ?_⟩
   have S9:=s8.trans s9
   refine⟨_,rfl,rt,b.rows,rfl,R7.same S9,λl2 hs H10 hm2 hp2 hl2 _ s10=>Ck g hm hp ((S9.trans s10) _ _ hl7) rfl rfl λl5 ms H11 hm5 hp5 hl5 _ s11=>?_⟩
   cases(sZ hp5 hp2 λt=>by rw[hm5,hm2]:ms=hs)
   refine Jr (s11 _ _ hl2) hl5 ⟨_,rfl,lg ?_⟩
   have S11:=(S9.trans s10).trans s11
   refine⟨_,rfl,rt,b.rows,rfl,R7.same S11,λl6 n6 H12 _ _ hl6 _ s12=>⟨.ref l6,"list",true,rfl,.lst_list (ce.of hl6),_,rfl,lg ?_⟩⟩
   refine⟨_,rfl,rt,b.rows,rfl,R7.same (S11.trans s12),λl7 n7 H13 _ _ hl7' _ s13=>⟨.ref l7,"list",true,rfl,.lst_list (ce.of hl7'),_,rfl,lg ?_⟩⟩
   exact⟨_,rfl,(S11.trans s12).trans s13⟩
  ·rintro σ' H8 ⟨o8,rfl,s8⟩
   have S8:=S7.trans s8
   have St8:kh K H8 st k5:=S5.same S8
   have hl8:=s8 _ _ hl7
   have WD8:=WD.same s8
   have nlst:l≠st:=λz=>by
    obtain⟨_,_,_,e,_⟩:=St8
    rw[z,e] at hl8
    injection hl8 with hl8
    injection hl8 with hl8
    cases ns with
    |nil=>cases hl8
    |cons x r=>simp[aO] at hl8
   show BX K _ [some (.ref scr),some (.ref st),some (.ref pp),some (.ref a),some (.ref rt),some (.ref l),some (.int (Sd b.rows 0:Nat)),some (.ref wd),o8,o9,o10] H8
   refine .inl (Ck g hm hp hl8 rfl rfl λl5 ms H9 hm5 hp5 hl5 nl5 s9=>⟨l5,rfl,⟨_,ce.of hl5⟩,?_⟩)
   have St9:=St8.same s9
   have n5st:l5≠st:=λz=>by obtain⟨_,e⟩:=St8.lst;rw[z,e] at nl5;cases nl5
   have S9:=S8.trans s9
   have ms64:=dH (hp5.imp λz=>aH z) λx hx=>cZ g (lU g ((hm5 x).mp hx))
   refine ib (xs:=aO ms) (λi σ' H'=>∃o9 o10 k',σ'=[some (.ref scr),some (.ref st),some (.ref pp),some (.ref a),some (.ref rt),some (.ref l),some (.int (Sd b.rows 0:Nat)),some (.ref wd),o8,o9,o10]/\fh st H9 H'/\kh K H' st k'/\k'<=k5+i) ⟨_,_,k5,rfl,fh.refl _ _,St9,by lia⟩ ?_ ?_ ?_
   ·rintro i σ' H' _ ⟨_,_,_,_,B,_⟩
    exact ce.of (B _ _ n5st hl5)
   ·rintro i x σ' H10 hx ⟨o9,o10,k',rfl,B,St,hk'⟩
    obtain⟨n,hn',rfl⟩:=mw hx
    have il:i<ms.length:=(af.mp hn').1
    have lw:Ln b.rows n:=(hm5 n).mp (aA hn')
    have stn:=lU g lw
    have WD10:=(WD8.same s9).but St9 B
    obtain⟨ws,W⟩:=Mg WD10 stn
    obtain⟨t,dg,ht⟩:=wZ WD10 stn W
    have w6:=Lj g RW stn W
    show BW K _ [some (.ref scr),some (.ref st),some (.ref pp),some (.ref a),some (.ref rt),some (.ref l),some (.int (Sd b.rows 0:Nat)),some (.ref wd),o8,some (.int (n:Nat)),o10] H10
    refine⟨_,rfl,_,rfl,wd,_,rfl,dg,_,_,rfl,.inr ⟨_,dZ.of ht,rfl⟩,.inl ⟨_,_,rfl,rfl,_,rfl,_,rfl,_,rfl,wd,_,rfl,dg,_,_,rfl,.inr ⟨_,dZ.of ht,rfl⟩,_,_,rfl,rfl,st,_,k',rfl,St,by lia,by rw[ab];lia,by rw[ab];lia,λd H11 d0 d1 St11 B11=>.inl ⟨_,_,rfl,rfl,?_⟩⟩⟩
    rw[ab] at d1
    obtain⟨pl,epl,wpl,pl16⟩:∃pl:Nat,((ws.map V.str).length:Int)+1+d=(pl:Int)/\ws.length<pl/\pl<=100:=⟨(((ws.map V.str).length:Int)+1+d).toNat,by rw[ab];lia,by rw[ab];lia,by rw[ab];lia⟩
    show BV K _ [some (.ref scr),some (.ref st),some (.ref pp),some (.ref a),some (.ref rt),some (.ref l),some (.int (Sd b.rows 0:Nat)),some (.ref wd),o8,some (.int (n:Nat)),some (.int (((ws.map V.str).length:Int)+1+d))] H11
    rw[epl]
    obtain⟨_,e9⟩:=St9.lst
    obtain⟨_,e10⟩:=St.lst
    have tp:Tp H5 H11:=(Tp.of_same S9).trans ((Tp.of_but B e9).trans (Tp.of_but B11 e10))
    have PA:GI H11 a b.params rt:=⟨_,pa,tp _ _ ha,tp _ _ hpa⟩
    have R11:A3 H11 rt b.rows:=R5.tp tp
    have WD11:=WD10.but St B11
    have hl11:H11 l=some (.lst (aO ns)):=B11 _ _ nlst (B _ _ nlst (s9 _ _ hl8))
    refine⟨_,rfl,_,rfl,_,rfl,a,rt,n,pl,b.rows,b.params,ws,ys,rfl,PA,R11,RW,W,lw,po.pnd,by lia,wpl,pl16,λv H12 os TA h1 h2 s12=>?_⟩
    obtain⟨wv2,pa2,e1,e2⟩:=PA
    obtain⟨t',dg12,ht12⟩:=wZ (WD11.same s12) stn W
    refine⟨_,rfl,_,rfl,_,rfl,_,rfl,_,rfl,_,rfl,wd,_,rfl,dg12,a,rt,l,t',n,pl,ns,b.params,ws,rfl,⟨wv2,pa2,s12 _ _ e1,s12 _ _ e2⟩,s12 _ _ hl11,ht12,W.srt,W.nd,by lia,by lia,wpl,pl16,λu H13 TB s13=>?_⟩
    have TA':JH H13 v os:=by obtain⟨p,e,hp⟩:=TA;exact⟨p,e,s13 _ _ hp⟩
    have eo:os=if n∈ns then Dm ws pl else yd b.params ws pl:=by
     by_cases c:n∈ns
     ·rw[if_pos c];exact h1 ((hm n).mp c)
     ·rw[if_neg c];exact h2 λL=>c ((hm n).mpr L)
    rw[eo] at TA'
    refine Mf TA' TB ⟨_,rfl,lg ?_⟩
    have S13:=s12.trans s13
    exact⟨_,_,k'+1,rfl,λb u n e=>S13 b u (B11 b u n (B b u n e)),St11.same S13,by lia⟩
   ·rintro σ' H10 ⟨o9,o10,k',rfl,B,St,hk'⟩
    rw[bv] at hk'
    obtain⟨_,e9⟩:=St9.lst
    exact⟨_,_,_,_,_,_,_,_,k',rfl,t5.trans ((Tp.of_same S9).trans (Tp.of_but B e9)),St,by lia⟩
end Bg
end
namespace Bg
open PySem PySem.Spec PyProof.Rows L2
section
variable{P:Program}{w:World}{K:Fg}{mg:Str->Option Value}{base:Heap}
theorem uv{vs:List V}{H:Hp}{Q:VK}{E:XK}(h:fH K vs H Q E):vs.length=fY.length:=by
 first|(obtain⟨_,_,rfl,_⟩:=h;rfl)
theorem wx{f:Addr}{fd:FuncData}(F:lZ K "as_keys" "as_keys" eQ f fd)(B:gD mg) :eK P w K mg base fU kK f fd fY (fH K):=
 F.ok pT (λvs H Q E h=>uv h) λcdv A outer s H vs Q E hr h=>⟨_,xq B hr,yj (E:=E) h⟩
theorem Aa{vs:List V}{H:Hp}{Q:VK}{E:XK}(h:gs K vs H Q E):vs.length=gQ.length:=by
 first|(obtain⟨_,_,rfl,_⟩:=h;rfl)
theorem Dl{f:Addr}{fd:FuncData}(F:lZ K "sets" "sets" iX f fd)(B:gD mg) :eK P w K mg base fU lC f fd gQ (gs K):=
 F.ok vf (λvs H Q E h=>Aa h) λcdv A outer s H vs Q E hr h=>⟨_,En B hr,Fw (E:=E) h⟩
theorem z7{vs:List V}{H:Hp}{Q:VK}{E:XK}(h:eD K vs H Q E):vs.length=fS.length:=by
 first|(obtain⟨_,_,rfl,_⟩:=h;rfl)
theorem Dj{f:Addr}{fd:FuncData}(F:lZ K "goal" "goal" iV f fd)(B:gD mg) :eK P w K mg base fU jC f fd fS (eD K):=
 F.ok vd (λvs H Q E h=>z7 h) λcdv A outer s H vs Q E hr h=>⟨_,El B hr,Fu (E:=E) h⟩
theorem xQ{vs:List V}{H:Hp}{Q:VK}{E:XK}(h:e8 K vs H Q E):vs.length=fZ.length:=by
 first|(obtain⟨rfl,_⟩:=h;rfl)|(obtain⟨_,rfl,_⟩:=h;rfl)|(obtain⟨_,_,rfl,_⟩:=h;rfl)|(obtain⟨_,_,_,rfl,_⟩:=h;rfl)|(obtain⟨_,_,_,_,rfl,_⟩:=h;rfl)|(obtain⟨_,_,_,_,_,rfl,_⟩:=h;rfl)|(obtain⟨_,_,_,_,_,_,rfl,_⟩:=h;rfl)|(obtain⟨_,_,_,_,_,_,_,rfl,_⟩:=h;rfl)|(obtain⟨_,_,_,_,_,_,_,_,rfl,_⟩:=h;rfl)|(obtain⟨_,_,_,_,_,_,_,_,_,rfl,_⟩:=h;rfl)|(obtain⟨_,_,_,_,_,_,_,_,_,_,rfl,_⟩:=h;rfl)|(obtain⟨_,_,_,_,_,_,_,_,_,_,_,rfl,_⟩:=h;rfl)|(obtain⟨_,_,_,_,_,_,_,_,_,_,_,_,rfl,_⟩:=h;rfl)|(obtain⟨_,_,_,_,_,_,_,_,_,_,_,_,_,rfl,_⟩:=h;rfl)|(obtain⟨_,_,_,_,_,_,_,_,_,_,_,_,_,_,rfl,_⟩:=h;rfl)|(obtain⟨_,_,_,_,_,_,_,_,_,_,_,_,_,_,_,rfl,_⟩:=h;rfl)|(obtain⟨_,_,_,_,_,_,_,_,_,_,_,_,_,_,_,_,rfl,_⟩:=h;rfl)|(obtain⟨_,_,_,_,_,_,_,_,_,_,_,_,_,_,_,_,_,rfl,_⟩:=h;rfl)|(obtain⟨_,_,_,_,_,_,_,_,_,_,_,_,_,_,_,_,_,_,rfl,_⟩:=h;rfl)|(obtain⟨_,_,_,_,_,_,_,_,_,_,_,_,_,_,_,_,_,_,_,rfl,_⟩:=h;rfl)|(obtain⟨_,_,_,_,_,_,_,_,_,_,_,_,_,_,_,_,_,_,_,_,rfl,_⟩:=h;rfl)|(obtain⟨_,_,_,_,_,_,_,_,_,_,_,_,_,_,_,_,_,_,_,_,_,rfl,_⟩:=h;rfl)|(obtain⟨_,_,_,_,_,_,_,_,_,_,_,_,_,_,_,_,_,_,_,_,_,_,rfl,_⟩:=h;rfl)|(obtain⟨_,_,_,_,_,_,_,_,_,_,_,_,_,_,_,_,_,_,_,_,_,_,_,rfl,_⟩:=h;rfl)|(obtain⟨_,_,_,_,_,_,_,_,_,_,_,_,_,_,_,_,_,_,_,_,_,_,_,_,rfl,_⟩:=h;rfl)|(obtain⟨_,_,_,_,_,_,_,_,_,_,_,_,_,_,_,_,_,_,_,_,_,_,_,_,_,rfl,_⟩:=h;rfl)
theorem Ah{f:Addr}{fd:FuncData}(F:lZ K "leads" "leads" gY f fd)(B:gD mg)(c_p_goal:aK P w K mg base "goal" fS jC (eD K)):eK P w K mg base fU kg f fd fZ (e8 K):=
 F.ok tK (λvs H Q E h=>xQ h) λcdv A outer s H vs Q E hr h=>⟨_,Cz B c_p_goal hr,Dv (E:=E) h⟩
theorem wk{vs:List V}{H:Hp}{Q:VK}{E:XK}(h:gL K vs H Q E):vs.length=gG.length:=by
 first|(obtain⟨_,_,_,_,rfl,_⟩:=h;rfl)
theorem yb{f:Addr}{fd:FuncData}{dV:Value}(F:GC K "walked" "walked" eG dV f fd)(B:gD mg)(c_p_sets:aK P w K mg base "sets" gQ lC (gs K))(c_p_leads:aK P w K mg base "leads" fZ kg (e8 K)):eK P w K mg base fU md f fd gG (gL K):=
 F.ok rf (λvs H Q E h=>wk h) λcdv A outer s H vs Q E hr h=>⟨_,zH B c_p_sets c_p_leads hr,Ax (E:=E) h⟩
theorem uw{vs:List V}{H:Hp}{Q:VK}{E:XK}(h:cX K vs H Q E):vs.length=dC.length:=by
 first|(obtain⟨rfl,_⟩:=h;rfl)|(obtain⟨_,rfl,_⟩:=h;rfl)|(obtain⟨_,_,rfl,_⟩:=h;rfl)|(obtain⟨_,_,_,rfl,_⟩:=h;rfl)|(obtain⟨_,_,_,_,rfl,_⟩:=h;rfl)|(obtain⟨_,_,_,_,_,rfl,_⟩:=h;rfl)|(obtain⟨_,_,_,_,_,_,rfl,_⟩:=h;rfl)|(obtain⟨_,_,_,_,_,_,_,rfl,_⟩:=h;rfl)|(obtain⟨_,_,_,_,_,_,_,_,rfl,_⟩:=h;rfl)|(obtain⟨_,_,_,_,_,_,_,_,_,rfl,_⟩:=h;rfl)|(obtain⟨_,_,_,_,_,_,_,_,_,_,rfl,_⟩:=h;rfl)|(obtain⟨_,_,_,_,_,_,_,_,_,_,_,rfl,_⟩:=h;rfl)|(obtain⟨_,_,_,_,_,_,_,_,_,_,_,_,rfl,_⟩:=h;rfl)|(obtain⟨_,_,_,_,_,_,_,_,_,_,_,_,_,rfl,_⟩:=h;rfl)|(obtain⟨_,_,_,_,_,_,_,_,_,_,_,_,_,_,rfl,_⟩:=h;rfl)|(obtain⟨_,_,_,_,_,_,_,_,_,_,_,_,_,_,_,rfl,_⟩:=h;rfl)|(obtain⟨_,_,_,_,_,_,_,_,_,_,_,_,_,_,_,_,rfl,_⟩:=h;rfl)|(obtain⟨_,_,_,_,_,_,_,_,_,_,_,_,_,_,_,_,_,rfl,_⟩:=h;rfl)|(obtain⟨_,_,_,_,_,_,_,_,_,_,_,_,_,_,_,_,_,_,rfl,_⟩:=h;rfl)|(obtain⟨_,_,_,_,_,_,_,_,_,_,_,_,_,_,_,_,_,_,_,rfl,_⟩:=h;rfl)|(obtain⟨_,_,_,_,_,_,_,_,_,_,_,_,_,_,_,_,_,_,_,_,rfl,_⟩:=h;rfl)|(obtain⟨_,_,_,_,_,_,_,_,_,_,_,_,_,_,_,_,_,_,_,_,_,rfl,_⟩:=h;rfl)|(obtain⟨_,_,_,_,_,_,_,_,_,_,_,_,_,_,_,_,_,_,_,_,_,_,rfl,_⟩:=h;rfl)|(obtain⟨_,_,_,_,_,_,_,_,_,_,_,_,_,_,_,_,_,_,_,_,_,_,_,rfl,_⟩:=h;rfl)|(obtain⟨_,_,_,_,_,_,_,_,_,_,_,_,_,_,_,_,_,_,_,_,_,_,_,_,rfl,_⟩:=h;rfl)|(obtain⟨_,_,_,_,_,_,_,_,_,_,_,_,_,_,_,_,_,_,_,_,_,_,_,_,_,rfl,_⟩:=h;rfl)
theorem wz{f:Addr}{fd:FuncData}(F:lZ K "come_to" "come_to" eR f fd)(B:gD mg)(c_p_walked_d1:pc P w K mg base "walked" gG md [.non] (gL K)):eK P w K mg base fU fW f fd dC (cX K):=
 F.ok pU (λvs H Q E h=>uw h) λcdv A outer s H vs Q E hr h=>⟨_,xr B c_p_walked_d1 hr,yk (E:=E) h⟩
theorem wj{vs:List V}{H:Hp}{Q:VK}{E:XK}(h:cw K vs H Q E):vs.length=dv.length:=by
 first|(obtain⟨_,_,_,_,rfl,_⟩:=h;rfl)
theorem ya{f:Addr}{fd:FuncData}(F:lZ K "stands" "stands" gf f fd)(B:gD mg)(c_p_goal:aK P w K mg base "goal" fS jC (eD K)):eK P w K mg base fU fJ f fd dv (cw K):=
 F.ok re (λvs H Q E h=>wj h) λcdv A outer s H vs Q E hr h=>⟨_,zG B c_p_goal hr,Aw (E:=E) h⟩
theorem wf{vs:List V}{H:Hp}{Q:VK}{E:XK}(h:dh K vs H Q E):vs.length=d7.length:=by
 first|(obtain⟨_,_,rfl,_⟩:=h;rfl)
theorem x8{f:Addr}{fd:FuncData}(F:lZ K "led_to" "led_to" gd f fd)(B:gD mg)(c_p_come_to:aK P w K mg base "come_to" dC fW (cX K))(c_p_stands:aK P w K mg base "stands" dv fJ (cw K))(c_p_goal:aK P w K mg base "goal" fS jC (eD K)):eK P w K mg base fU gE f fd d7 (dh K):=
 F.ok q9 (λvs H Q E h=>wf h) λcdv A outer s H vs Q E hr h=>⟨_,zE B c_p_come_to c_p_stands c_p_goal hr,Au (E:=E) h⟩
theorem EV{vs:List V}{H:Hp}{Q:VK}{E:XK}(h:mK K vs H Q E):vs.length=mj.length:=by
 first|(obtain⟨_,_,_,_,_,_,_,_,_,_,rfl,_⟩:=h;rfl)
theorem Hr{f:Addr}{fd:FuncData}(F:lZ K "rows_wanting" "rows_wanting" lp f fd)(B:gD mg)(c_p_sets:aK P w K mg base "sets" gQ lC (gs K)):eK P w K mg base fU vF f fd mj (mK K):=
 F.ok BM (λvs H Q E h=>EV h) λcdv A outer s H vs Q E hr h=>⟨_,JP B c_p_sets hr,K7 (E:=E) h⟩
theorem xS{vs:List V}{H:Hp}{Q:VK}{E:XK}(h:iB K vs H Q E):vs.length=ir.length:=by
 first|(obtain⟨rfl,_⟩:=h;rfl)|(obtain⟨_,rfl,_⟩:=h;rfl)|(obtain⟨_,_,rfl,_⟩:=h;rfl)|(obtain⟨_,_,_,rfl,_⟩:=h;rfl)|(obtain⟨_,_,_,_,rfl,_⟩:=h;rfl)|(obtain⟨_,_,_,_,_,rfl,_⟩:=h;rfl)|(obtain⟨_,_,_,_,_,_,rfl,_⟩:=h;rfl)|(obtain⟨_,_,_,_,_,_,_,rfl,_⟩:=h;rfl)|(obtain⟨_,_,_,_,_,_,_,_,rfl,_⟩:=h;rfl)|(obtain⟨_,_,_,_,_,_,_,_,_,rfl,_⟩:=h;rfl)|(obtain⟨_,_,_,_,_,_,_,_,_,_,rfl,_⟩:=h;rfl)|(obtain⟨_,_,_,_,_,_,_,_,_,_,_,rfl,_⟩:=h;rfl)|(obtain⟨_,_,_,_,_,_,_,_,_,_,_,_,rfl,_⟩:=h;rfl)|(obtain⟨_,_,_,_,_,_,_,_,_,_,_,_,_,rfl,_⟩:=h;rfl)|(obtain⟨_,_,_,_,_,_,_,_,_,_,_,_,_,_,rfl,_⟩:=h;rfl)|(obtain⟨_,_,_,_,_,_,_,_,_,_,_,_,_,_,_,rfl,_⟩:=h;rfl)|(obtain⟨_,_,_,_,_,_,_,_,_,_,_,_,_,_,_,_,rfl,_⟩:=h;rfl)|(obtain⟨_,_,_,_,_,_,_,_,_,_,_,_,_,_,_,_,_,rfl,_⟩:=h;rfl)|(obtain⟨_,_,_,_,_,_,_,_,_,_,_,_,_,_,_,_,_,_,rfl,_⟩:=h;rfl)|(obtain⟨_,_,_,_,_,_,_,_,_,_,_,_,_,_,_,_,_,_,_,rfl,_⟩:=h;rfl)|(obtain⟨_,_,_,_,_,_,_,_,_,_,_,_,_,_,_,_,_,_,_,_,rfl,_⟩:=h;rfl)|(obtain⟨_,_,_,_,_,_,_,_,_,_,_,_,_,_,_,_,_,_,_,_,_,rfl,_⟩:=h;rfl)|(obtain⟨_,_,_,_,_,_,_,_,_,_,_,_,_,_,_,_,_,_,_,_,_,_,rfl,_⟩:=h;rfl)|(obtain⟨_,_,_,_,_,_,_,_,_,_,_,_,_,_,_,_,_,_,_,_,_,_,_,rfl,_⟩:=h;rfl)|(obtain⟨_,_,_,_,_,_,_,_,_,_,_,_,_,_,_,_,_,_,_,_,_,_,_,_,rfl,_⟩:=h;rfl)|(obtain⟨_,_,_,_,_,_,_,_,_,_,_,_,_,_,_,_,_,_,_,_,_,_,_,_,_,rfl,_⟩:=h;rfl)
theorem Aj{f:Addr}{fd:FuncData}(F:lZ K "reads" "reads" g7 f fd)(B:gD mg) :eK P w K mg base fU nN f fd ir (iB K):=
 F.ok tM (λvs H Q E h=>xS h) λcdv A outer s H vs Q E hr h=>⟨_,CB B hr,Dy (E:=E) h⟩
theorem EU{vs:List V}{H:Hp}{Q:VK}{E:XK}(h:mJ K vs H Q E):vs.length=mi.length:=by
 first|(obtain⟨_,_,_,rfl,_⟩:=h;rfl)
theorem Hq{f:Addr}{fd:FuncData}(F:lZ K "rows_that_read" "rows_that_read" mH f fd)(B:gD mg)(c_p_come_to:aK P w K mg base "come_to" dC fW (cX K))(c_p_reads:aK P w K mg base "reads" ir nN (iB K)):eK P w K mg base fU vE f fd mi (mJ K):=
 F.ok BL (λvs H Q E h=>EU h) λcdv A outer s H vs Q E hr h=>⟨_,JO B c_p_come_to c_p_reads hr,K6 (E:=E) h⟩
theorem ET{vs:List V}{H:Hp}{Q:VK}{E:XK}(h:mI K vs H Q E):vs.length=mh.length:=by
 first|(obtain⟨_,_,_,rfl,_⟩:=h;rfl)
theorem Ho{f:Addr}{fd:FuncData}(F:lZ K "rows_ahead" "rows_ahead" lm f fd)(B:gD mg)(c_p_leads:aK P w K mg base "leads" fZ kg (e8 K))(c_p_stands:aK P w K mg base "stands" dv fJ (cw K))(c_p_come_to:aK P w K mg base "come_to" dC fW (cX K)):eK P w K mg base fU vD f fd mh (mI K):=
 F.ok BK (λvs H Q E h=>ET h) λcdv A outer s H vs Q E hr h=>⟨_,JN B c_p_leads c_p_stands c_p_come_to hr,KZ (E:=E) h⟩
theorem wo{vs:List V}{H:Hp}{Q:VK}{E:XK}(h:eS K vs H Q E):vs.length=fB.length:=by
 first|(obtain⟨_,_,_,_,rfl,_⟩:=h;rfl)
theorem yc{f:Addr}{fd:FuncData}(F:lZ K "wanted" "wanted" eZ f fd)(B:gD mg)(c_p_rw:aK P w K mg base "rows_wanting" mj vF (mK K))(c_p_rt:aK P w K mg base "rows_that_read" mi vE (mJ K))(c_p_ra:aK P w K mg base "rows_ahead" mh vD (mI K)):eK P w K mg base fU jd f fd fB (eS K):=
 F.ok rg (λvs H Q E h=>wo h) λcdv A outer s H vs Q E hr h=>⟨_,zI B c_p_rw c_p_rt c_p_ra hr,Ay (E:=E) h⟩
theorem qE{vs:List V}{H:Hp}{Q:VK}{E:XK}(h:eI K vs H Q E):vs.length=eF.length:=by
 first|(obtain⟨_,_,_,_,_,_,_,rfl,_⟩:=h;rfl)
theorem rP{f:Addr}{fd:FuncData}(F:lZ K "__init__" "Outline.__init__" dJ f fd)(B:gD mg)(T:zw K)(c_p_as_keys:aK P w K mg base "as_keys" fY kK (fH K))(c_p_led_to:aK P w K mg base "led_to" d7 gE (dh K))(c_p_stands:aK P w K mg base "stands" dv fJ (cw K))(c_p_wanted:aK P w K mg base "wanted" fB jd (eS K)):eK P w K mg base fU iQ f fd eF (eI K):=
 F.ok mZ (λvs H Q E h=>qE h) λcdv A outer s H vs Q E hr h=>⟨_,sK B c_p_as_keys c_p_led_to c_p_stands c_p_wanted hr,tH T (E:=E) h⟩
theorem wg{vs:List V}{H:Hp}{Q:VK}{E:XK}(h:gK K vs H Q E):vs.length=gF.length:=by
 first|(obtain⟨_,_,_,rfl,_⟩:=h;rfl)
theorem x9{f:Addr}{fd:FuncData}(F:lZ K "pushed" "pushed" ge f fd)(B:gD mg) :eK P w K mg base fU ma f fd gF (gK K):=
 F.ok rc (λvs H Q E h=>wg h) λcdv A outer s H vs Q E hr h=>⟨_,zF B hr,Av (E:=E) h⟩
theorem xO{vs:List V}{H:Hp}{Q:VK}{E:XK}(h:iz K vs H Q E):vs.length=io.length:=by
 first|(obtain⟨_,_,_,_,rfl,_⟩:=h;rfl)
theorem Af{f:Addr}{fd:FuncData}(F:lZ K "begun" "begun" gW f fd)(B:gD mg)(c_p_pushed:aK P w K mg base "pushed" gF ma (gK K)):eK P w K mg base fU nJ f fd io (iz K):=
 F.ok tI (λvs H Q E h=>xO h) λcdv A outer s H vs Q E hr h=>⟨_,Cw B c_p_pushed hr,Dt (E:=E) h⟩
theorem z9{vs:List V}{H:Hp}{Q:VK}{E:XK}(h:jo K vs H Q E):vs.length=jg.length:=by
 first|(obtain⟨_,_,_,_,rfl,_⟩:=h;rfl)
theorem Dk{f:Addr}{fd:FuncData}(F:lZ K "seen" "seen" iW f fd)(B:gD mg) :eK P w K mg base fU pj f fd jg (jo K):=
 F.ok ve (λvs H Q E h=>z9 h) λcdv A outer s H vs Q E hr h=>⟨_,Em B hr,Fv (E:=E) h⟩
theorem rO{vs:List V}{H:Hp}{Q:VK}{E:XK}(h:e7 K vs H Q E):vs.length=eX.length:=by
 first|(obtain⟨_,_,_,_,_,rfl,_⟩:=h;rfl)
theorem tm{f:Addr}{fd:FuncData}(F:lZ K "args_belt" "args_belt" d6 f fd)(B:gD mg)(T:zw K)(c_p_begun:aK P w K mg base "begun" io nJ (iz K))(c_p_seen:aK P w K mg base "seen" jg pj (jo K)):eK P w K mg base fU jt f fd eX (e7 K):=
 F.ok nz (λvs H Q E h=>rO h) λcdv A outer s H vs Q E hr h=>⟨_,uq B c_p_begun c_p_seen hr,uA T (E:=E) h⟩
theorem sW{vs:List V}{H:Hp}{Q:VK}{E:XK}(h:fM K vs H Q E):vs.length=fK.length:=by
 first|(obtain⟨_,_,_,_,_,_,rfl,_⟩:=h;rfl)
theorem uz{f:Addr}{fd:FuncData}(F:lZ K "order_of" "order_of" eO f fd)(B:gD mg)(T:zw K)(c_p_args_belt:aK P w K mg base "args_belt" eX jt (e7 K)):eK P w K mg base fU jZ f fd fK (fM K):=
 F.ok ou (λvs H Q E h=>sW h) λcdv A outer s H vs Q E hr h=>⟨_,vZ B c_p_args_belt hr,wJ T (E:=E) h⟩
theorem xR{vs:List V}{H:Hp}{Q:VK}{E:XK}(h:iA K vs H Q E):vs.length=iq.length:=by
 first|(obtain⟨_,_,_,_,_,_,_,_,rfl,_⟩:=h;rfl)
theorem Ai{f:Addr}{fd:FuncData}(F:lZ K "order" "order" gZ f fd)(B:gD mg)(mk_Outline:vH P w K mg base "Outline" (cT K "Outline") eF iQ (eI K))(c_p_order_of:aK P w K mg base "order_of" fK jZ (fM K)):eK P w K mg base fU nM f fd iq (iA K):=
 F.ok tL (λvs H Q E h=>xR h) λcdv A outer s H vs Q E hr h=>⟨_,CA B mk_Outline c_p_order_of hr,Dx (E:=E) h⟩
theorem C9{vs:List V}{H:Hp}{Q:VK}{E:XK}(h:kE K vs H Q E):vs.length=kA.length:=by
 first|(obtain⟨_,_,_,_,_,_,_,_,_,rfl,_⟩:=h;rfl)
theorem E5{f:Addr}{fd:FuncData}(F:lZ K "_law_order" "_law_order" ke f fd)(B:gD mg) :eK P w K mg base fU rS f fd kA (kE K):=
 F.ok yv (λvs H Q E h=>C9 h) λcdv A outer s H vs Q E hr h=>⟨_,GT B hr,IB (E:=E) h⟩
theorem EQ{vs:List V}{H:Hp}{Q:VK}{E:XK}(h:bY K vs H Q E):vs.length=eL.length:=by
 first|(obtain⟨_,_,_,rfl,_⟩:=h;rfl)
theorem Hm{f:Addr}{fd:FuncData}(F:lZ K "_law_draw" "_law_draw" mF f fd)(B:gD mg) :eK P w K mg base fU hV f fd eL (bY K):=
 F.ok BI (λvs H Q E h=>EQ h) λcdv A outer s H vs Q E hr h=>⟨_,JL B hr,KW (E:=E) h⟩
theorem xP{vs:List V}{H:Hp}{Q:VK}{E:XK}(h:gJ K vs H Q E):vs.length=ip.length:=by
 first|(obtain⟨_,_,rfl,_⟩:=h;rfl)
theorem Ag{f:Addr}{fd:FuncData}(F:lZ K "heads" "heads" gX f fd)(B:gD mg)(c_p_stands:aK P w K mg base "stands" dv fJ (cw K))(c_p_led_to:aK P w K mg base "led_to" d7 gE (dh K)):eK P w K mg base fU nK f fd ip (gJ K):=
 F.ok tJ (λvs H Q E h=>xP h) λcdv A outer s H vs Q E hr h=>⟨_,Cy B c_p_stands c_p_led_to hr,Du (E:=E) h⟩
theorem ER{vs:List V}{H:Hp}{Q:VK}{E:XK}(h:iY K vs H Q E):vs.length=mf.length:=by
 first|(obtain⟨_,_,_,_,rfl,_⟩:=h;rfl)
theorem Hn{f:Addr}{fd:FuncData}(F:lZ K "_law_goal" "_law_goal" mG f fd)(B:gD mg) :eK P w K mg base fU vC f fd mf (iY K):=
 F.ok BJ (λvs H Q E h=>ER h) λcdv A outer s H vs Q E hr h=>⟨_,JM B hr,KY (E:=E) h⟩
theorem Hf{vs:List V}{H:Hp}{Q:VK}{E:XK}(h:oU K vs H Q E):vs.length=oM.length:=by
 first|(obtain⟨_,_,rfl,_⟩:=h;rfl)
theorem Ke{f:Addr}{fd:FuncData}(F:lZ K "_law_led" "_law_led" pS f fd)(B:gD mg)(c_goal:aK P w K mg base "_law_goal" mf vC (iY K)):eK P w K mg base fU AY f fd oM (oU K):=
 F.ok FF (λvs H Q E h=>Hf h) λcdv A outer s H vs Q E hr h=>⟨_,LD B c_goal hr,Me (E:=E) h⟩
theorem zY{vs:List V}{H:Hp}{Q:VK}{E:XK}(h:jj K vs H Q E):vs.length=je.length:=by
 first|(obtain⟨_,_,_,_,_,_,_,_,_,_,rfl,_⟩:=h;rfl)
theorem Dh{f:Addr}{fd:FuncData}(F:lZ K "_law_filled" "_law_filled" ig f fd)(B:gD mg)(c_draw:aK P w K mg base "_law_draw" eL hV (bY K)):eK P w K mg base fU pf f fd je (jj K):=
 F.ok u9 (λvs H Q E h=>zY h) λcdv A outer s H vs Q E hr h=>⟨_,Ej B c_draw hr,Fs (E:=E) h⟩
theorem C6{vs:List V}{H:Hp}{Q:VK}{E:XK}(h:kD K vs H Q E):vs.length=ky.length:=by
 first|(obtain⟨_,_,_,_,_,rfl,_⟩:=h;rfl)
theorem E3{f:Addr}{fd:FuncData}(F:lZ K "_law_leads" "_law_leads" kc f fd)(B:gD mg) :eK P w K mg base fU rQ f fd ky (kD K):=
 F.ok yt (λvs H Q E h=>C6 h) λcdv A outer s H vs Q E hr h=>⟨_,GQ B hr,Iz (E:=E) h⟩
theorem uy{vs:List V}{H:Hp}{Q:VK}{E:XK}(h:gi K vs H Q E):vs.length=gb.length:=by
 first|(obtain⟨_,_,_,_,_,_,_,_,rfl,_⟩:=h;rfl)
theorem wB{f:Addr}{fd:FuncData}(F:lZ K "_law_set_names" "_law_set_names" d9 f fd)(B:gD mg)(c_leads:aK P w K mg base "_law_leads" ky rQ (kD K)):eK P w K mg base fU kM f fd gb (gi K):=
 F.ok pW (λvs H Q E h=>uy h) λcdv A outer s H vs Q E hr h=>⟨_,xu B c_leads hr,yn (E:=E) h⟩
theorem zZ{vs:List V}{H:Hp}{Q:VK}{E:XK}(h:jm K vs H Q E):vs.length=jf.length:=by
 first|(obtain⟨_,_,_,_,_,_,_,rfl,_⟩:=h;rfl)
theorem Di{f:Addr}{fd:FuncData}(F:lZ K "_law_mended" "_law_mended" iU f fd)(B:gD mg) :eK P w K mg base fU ph f fd jf (jm K):=
 F.ok vc (λvs H Q E h=>zZ h) λcdv A outer s H vs Q E hr h=>⟨_,Ek B hr,Ft (E:=E) h⟩
theorem Db{vs:List V}{H:Hp}{Q:VK}{E:XK}(h:kF K vs H Q E):vs.length=kB.length:=by
 first|(obtain⟨_,_,rfl,_⟩:=h;rfl)
theorem E6{f:Addr}{fd:FuncData}(F:lZ K "_law_worth" "_law_worth" kf f fd)(B:gD mg)(c_draw:aK P w K mg base "_law_draw" eL hV (bY K)):eK P w K mg base fU rT f fd kB (kF K):=
 F.ok yw (λvs H Q E h=>Db h) λcdv A outer s H vs Q E hr h=>⟨_,GU B c_draw hr,ID (E:=E) h⟩
theorem ux{vs:List V}{H:Hp}{Q:VK}{E:XK}(h:gh K vs H Q E):vs.length=ga.length:=by
 first|(obtain⟨_,_,_,_,_,_,_,rfl,_⟩:=h;rfl)
theorem wA{f:Addr}{fd:FuncData}(F:lZ K "_law_rough_row" "_law_rough_row" fG f fd)(B:gD mg)(c_draw:aK P w K mg base "_law_draw" eL hV (bY K))(c_worth:aK P w K mg base "_law_worth" kB rT (kF K)):eK P w K mg base fU kL f fd ga (gh K):=
 F.ok pV (λvs H Q E h=>ux h) λcdv A outer s H vs Q E hr h=>⟨_,xt B c_draw c_worth hr,ym (E:=E) h⟩
theorem EW{vs:List V}{H:Hp}{Q:VK}{E:XK}(h:mL K vs H Q E):vs.length=mn.length:=by
 first|(obtain⟨_,_,_,_,_,_,_,_,_,_,rfl,_⟩:=h;rfl)
theorem Hs{f:Addr}{fd:FuncData}(F:lZ K "_law_part" "_law_part" lr f fd)(B:gD mg)(c_filled:aK P w K mg base "_law_filled" je pf (jj K))(c_set_names:aK P w K mg base "_law_set_names" gb kM (gi K))(c_mended:aK P w K mg base "_law_mended" jf ph (jm K))(c_rough_row:aK P w K mg base "_law_rough_row" ga kL (gh K))(c_draw:aK P w K mg base "_law_draw" eL hV (bY K)):eK P w K mg base fU vG f fd mn (mL K):=
 F.ok BN (λvs H Q E h=>EW h) λcdv A outer s H vs Q E hr h=>⟨_,JQ B c_filled c_set_names c_mended c_rough_row c_draw hr,K8 (E:=E) h⟩
theorem C7{vs:List V}{H:Hp}{Q:VK}{E:XK}(h:jI K vs H Q E):vs.length=kz.length:=by
 first|(obtain⟨_,_,_,rfl,_⟩:=h;rfl)
theorem E4{f:Addr}{fd:FuncData}(F:lZ K "_law_names" "_law_names" jw f fd)(B:gD mg)(c_draw:aK P w K mg base "_law_draw" eL hV (bY K)):eK P w K mg base fU rR f fd kz (jI K):=
 F.ok yu (λvs H Q E h=>C7 h) λcdv A outer s H vs Q E hr h=>⟨_,GR B c_draw hr,IA (E:=E) h⟩
theorem xT{vs:List V}{H:Hp}{Q:VK}{E:XK}(h:iC K vs H Q E):vs.length=iu.length:=by
 first|(obtain⟨_,_,_,rfl,_⟩:=h;rfl)
theorem Ak{f:Addr}{fd:FuncData}(F:lZ K "_law_program" "_law_program" gr f fd)(B:gD mg)(c_part:aK P w K mg base "_law_part" mn vG (mL K))(c_draw:aK P w K mg base "_law_draw" eL hV (bY K))(c_names:aK P w K mg base "_law_names" kz rR (jI K)):eK P w K mg base fU nO f fd iu (iC K):=
 F.ok tN (λvs H Q E h=>xT h) λcdv A outer s H vs Q E hr h=>⟨_,CC B c_part c_draw c_names hr,Dz (E:=E) h⟩
theorem He{vs:List V}{H:Hp}{Q:VK}{E:XK}(h:sp_law K vs H Q E):vs.length=sv.length:=by
 first|(obtain⟨_,_,rfl,_⟩:=h;rfl)
theorem Kd{f:Addr}{fd:FuncData}(F:lZ K "law" "law" mY f fd)(B:gD mg)(c_p_order:aK P w K mg base "order" iq nM (iA K))(c_order:aK P w K mg base "_law_order" kA rS (kE K))(c_draw:aK P w K mg base "_law_draw" eL hV (bY K))(c_p_heads:aK P w K mg base "heads" ip nK (gJ K))(c_p_led_to:aK P w K mg base "led_to" d7 gE (dh K))(c_p_wanted:aK P w K mg base "wanted" fB jd (eS K))(c_led:aK P w K mg base "_law_led" oM AY (oU K))(c_program:aK P w K mg base "_law_program" iu nO (iC K)):eK P w K mg base fU AX f fd sv (sp_law K):=
 F.ok FE (λvs H Q E h=>He h) λcdv A outer s H vs Q E hr h=>⟨_,LC B c_p_order c_order c_draw c_p_heads c_p_led_to c_p_wanted c_led c_program hr,Md (E:=E) h⟩
end
theorem all_mk{l:PySem.W.OpenLaw}{w:World}{K:Fg}{h:Heap}{mg:Str->Option Value}{fa:Addr}(X:K.In h)(G:h.Ns mainGlobals mg)(hfa:mg "law"=some (.ref fa))
  {C_Outline:Addr} (zc_Outline:aG K mainGlobals "Outline"=some (some (.ref C_Outline))) (pg_Outline:jc K C_Outline Str.empty=true) (hd_Outline:iP K C_Outline=true) (po_Outline:kJ K C_Outline=true) (sa_Outline:cu K (.ref C_Outline) "__setattr__"=some (some (.builtin "object.__setattr__"))) (ma_Outline:mV K C_Outline=true) (kp_Outline:aM K (.ref C_Outline)=true)
  (no_0:cu K (.ref C_Outline) "params"=some none)
  (no_1:cu K (.ref C_Outline) "rows"=some none)
  (no_2:cu K (.ref C_Outline) "wants"=some none)
  (no_3:cu K (.ref C_Outline) "first"=some none)
  (no_4:cu K (.ref C_Outline) "led"=some none)
  (no_5:cu K (.ref C_Outline) "heads"=some none)
  {od0 an0:Option Addr} {sl0:Array (Option Value)} {oc0 kV0 dc0 pm0 cd0 ct0:Value} {f0:Addr}
  (a0:aG K mainGlobals "as_keys"=some (some (.ref f0)))
  (l0:K.lookup f0=some ⟨oc0,od0,.func (aT "as_keys" "as_keys" (bT eQ) (aW eQ) (ap eQ) .none kV0 dc0 pm0 an0 cd0 ct0),sl0⟩) (c0:aR K cd0 "as_keys"=true) (k0:aM K (.ref f0)=true)
  {od1 an1:Option Addr} {sl1:Array (Option Value)} {oc1 kV1 dc1 pm1 cd1 ct1:Value} {f1:Addr}
  (a1:aG K mainGlobals "sets"=some (some (.ref f1)))
  (l1:K.lookup f1=some ⟨oc1,od1,.func (aT "sets" "sets" (bT iX) (aW iX) (ap iX) .none kV1 dc1 pm1 an1 cd1 ct1),sl1⟩) (c1:aR K cd1 "sets"=true) (k1:aM K (.ref f1)=true)
  {od2 an2:Option Addr} {sl2:Array (Option Value)} {oc2 kV2 dc2 pm2 cd2 ct2:Value} {f2:Addr}
  (a2:aG K mainGlobals "goal"=some (some (.ref f2)))
  (l2:K.lookup f2=some ⟨oc2,od2,.func (aT "goal" "goal" (bT iV) (aW iV) (ap iV) .none kV2 dc2 pm2 an2 cd2 ct2),sl2⟩) (c2:aR K cd2 "goal"=true) (k2:aM K (.ref f2)=true)
  {od3 an3:Option Addr} {sl3:Array (Option Value)} {oc3 kV3 dc3 pm3 cd3 ct3:Value} {f3:Addr}
  (a3:aG K mainGlobals "leads"=some (some (.ref f3)))
  (l3:K.lookup f3=some ⟨oc3,od3,.func (aT "leads" "leads" (bT gY) (aW gY) (ap gY) .none kV3 dc3 pm3 an3 cd3 ct3),sl3⟩) (c3:aR K cd3 "leads"=true) (k3:aM K (.ref f3)=true)
  {od4 an4:Option Addr} {sl4:Array (Option Value)} {oc4 kV4 dc4 pm4 cd4 ct4:Value} {f4:Addr}
  {T4:Addr} {ocT4:Value} {odT4:Option Addr} {nT4:Nat} {slT4:Array (Option Value)}
  (a4:aG K mainGlobals "walked"=some (some (.ref f4)))
  (l4:K.lookup f4=some ⟨oc4,od4,.func (aT "walked" "walked" (bT eG) (aW eG) (ap eG) (.ref T4) kV4 dc4 pm4 an4 cd4 ct4),sl4⟩) (c4:aR K cd4 "walked"=true) (k4:aM K (.ref f4)=true)
  (t4:K.lookup T4=some ⟨ocT4,odT4,.seq #[Value.none] nT4,slT4⟩)
  {od5 an5:Option Addr} {sl5:Array (Option Value)} {oc5 kV5 dc5 pm5 cd5 ct5:Value} {f5:Addr}
  (a5:aG K mainGlobals "come_to"=some (some (.ref f5)))
  (l5:K.lookup f5=some ⟨oc5,od5,.func (aT "come_to" "come_to" (bT eR) (aW eR) (ap eR) .none kV5 dc5 pm5 an5 cd5 ct5),sl5⟩) (c5:aR K cd5 "come_to"=true) (k5:aM K (.ref f5)=true)
  {od6 an6:Option Addr} {sl6:Array (Option Value)} {oc6 kV6 dc6 pm6 cd6 ct6:Value} {f6:Addr}
  (a6:aG K mainGlobals "stands"=some (some (.ref f6)))
  (l6:K.lookup f6=some ⟨oc6,od6,.func (aT "stands" "stands" (bT gf) (aW gf) (ap gf) .none kV6 dc6 pm6 an6 cd6 ct6),sl6⟩) (c6:aR K cd6 "stands"=true) (k6:aM K (.ref f6)=true)
  {od7 an7:Option Addr} {sl7:Array (Option Value)} {oc7 kV7 dc7 pm7 cd7 ct7:Value} {f7:Addr}
  (a7:aG K mainGlobals "led_to"=some (some (.ref f7)))
  (l7:K.lookup f7=some ⟨oc7,od7,.func (aT "led_to" "led_to" (bT gd) (aW gd) (ap gd) .none kV7 dc7 pm7 an7 cd7 ct7),sl7⟩) (c7:aR K cd7 "led_to"=true) (k7:aM K (.ref f7)=true)
  {od8 an8:Option Addr} {sl8:Array (Option Value)} {oc8 kV8 dc8 pm8 cd8 ct8:Value} {f8:Addr}
  (a8:aG K mainGlobals "rows_wanting"=some (some (.ref f8)))
  (l8:K.lookup f8=some ⟨oc8,od8,.func (aT "rows_wanting" "rows_wanting" (bT lp) (aW lp) (ap lp) .none kV8 dc8 pm8 an8 cd8 ct8),sl8⟩) (c8:aR K cd8 "rows_wanting"=true) (k8:aM K (.ref f8)=true)
  {od9 an9:Option Addr} {sl9:Array (Option Value)} {oc9 kV9 dc9 pm9 cd9 ct9:Value} {f9:Addr}
  (a9:aG K mainGlobals "reads"=some (some (.ref f9)))
  (l9:K.lookup f9=some ⟨oc9,od9,.func (aT "reads" "reads" (bT g7) (aW g7) (ap g7) .none kV9 dc9 pm9 an9 cd9 ct9),sl9⟩) (c9:aR K cd9 "reads"=true) (k9:aM K (.ref f9)=true)
  {od10 an10:Option Addr} {sl10:Array (Option Value)} {oc10 kV10 dc10 pm10 cd10 ct10:Value} {f10:Addr}
  (a10:aG K mainGlobals "rows_that_read"=some (some (.ref f10)))
  (l10:K.lookup f10=some ⟨oc10,od10,.func (aT "rows_that_read" "rows_that_read" (bT mH) (aW mH) (ap mH) .none kV10 dc10 pm10 an10 cd10 ct10),sl10⟩) (c10:aR K cd10 "rows_that_read"=true) (k10:aM K (.ref f10)=true)
  {od11 an11:Option Addr} {sl11:Array (Option Value)} {oc11 kV11 dc11 pm11 cd11 ct11:Value} {f11:Addr}
  (a11:aG K mainGlobals "rows_ahead"=some (some (.ref f11)))
  (l11:K.lookup f11=some ⟨oc11,od11,.func (aT "rows_ahead" "rows_ahead" (bT lm) (aW lm) (ap lm) .none kV11 dc11 pm11 an11 cd11 ct11),sl11⟩) (c11:aR K cd11 "rows_ahead"=true) (k11:aM K (.ref f11)=true)
  {od12 an12:Option Addr} {sl12:Array (Option Value)} {oc12 kV12 dc12 pm12 cd12 ct12:Value} {f12:Addr}
  (a12:aG K mainGlobals "wanted"=some (some (.ref f12)))
  (l12:K.lookup f12=some ⟨oc12,od12,.func (aT "wanted" "wanted" (bT eZ) (aW eZ) (ap eZ) .none kV12 dc12 pm12 an12 cd12 ct12),sl12⟩) (c12:aR K cd12 "wanted"=true) (k12:aM K (.ref f12)=true)
  {od13 an13:Option Addr} {sl13:Array (Option Value)} {oc13 kV13 dc13 pm13 cd13 ct13:Value} {f13:Addr}
  (a13:cu K (.ref C_Outline) "__init__"=some (some (.ref f13)))
  (l13:K.lookup f13=some ⟨oc13,od13,.func (aT "__init__" "Outline.__init__" (bT dJ) (aW dJ) (ap dJ) .none kV13 dc13 pm13 an13 cd13 ct13),sl13⟩) (c13:aR K cd13 "Outline.__init__"=true) (k13:aM K (.ref f13)=true)
  (i13:PySem.W.isFn K (.ref f13)=true)
  {od14 an14:Option Addr} {sl14:Array (Option Value)} {oc14 kV14 dc14 pm14 cd14 ct14:Value} {f14:Addr}
  (a14:aG K mainGlobals "pushed"=some (some (.ref f14)))
  (l14:K.lookup f14=some ⟨oc14,od14,.func (aT "pushed" "pushed" (bT ge) (aW ge) (ap ge) .none kV14 dc14 pm14 an14 cd14 ct14),sl14⟩) (c14:aR K cd14 "pushed"=true) (k14:aM K (.ref f14)=true)
  {od15 an15:Option Addr} {sl15:Array (Option Value)} {oc15 kV15 dc15 pm15 cd15 ct15:Value} {f15:Addr}
  (a15:aG K mainGlobals "begun"=some (some (.ref f15)))
  (l15:K.lookup f15=some ⟨oc15,od15,.func (aT "begun" "begun" (bT gW) (aW gW) (ap gW) .none kV15 dc15 pm15 an15 cd15 ct15),sl15⟩) (c15:aR K cd15 "begun"=true) (k15:aM K (.ref f15)=true)
  {od16 an16:Option Addr} {sl16:Array (Option Value)} {oc16 kV16 dc16 pm16 cd16 ct16:Value} {f16:Addr}
  (a16:aG K mainGlobals "seen"=some (some (.ref f16)))
  (l16:K.lookup f16=some ⟨oc16,od16,.func (aT "seen" "seen" (bT iW) (aW iW) (ap iW) .none kV16 dc16 pm16 an16 cd16 ct16),sl16⟩) (c16:aR K cd16 "seen"=true) (k16:aM K (.ref f16)=true)
  {od17 an17:Option Addr} {sl17:Array (Option Value)} {oc17 kV17 dc17 pm17 cd17 ct17:Value} {f17:Addr}
  (a17:aG K mainGlobals "args_belt"=some (some (.ref f17)))
  (l17:K.lookup f17=some ⟨oc17,od17,.func (aT "args_belt" "args_belt" (bT d6) (aW d6) (ap d6) .none kV17 dc17 pm17 an17 cd17 ct17),sl17⟩) (c17:aR K cd17 "args_belt"=true) (k17:aM K (.ref f17)=true)
  {od18 an18:Option Addr} {sl18:Array (Option Value)} {oc18 kV18 dc18 pm18 cd18 ct18:Value} {f18:Addr}
  (a18:aG K mainGlobals "order_of"=some (some (.ref f18)))
  (l18:K.lookup f18=some ⟨oc18,od18,.func (aT "order_of" "order_of" (bT eO) (aW eO) (ap eO) .none kV18 dc18 pm18 an18 cd18 ct18),sl18⟩) (c18:aR K cd18 "order_of"=true) (k18:aM K (.ref f18)=true)
  {od19 an19:Option Addr} {sl19:Array (Option Value)} {oc19 kV19 dc19 pm19 cd19 ct19:Value} {f19:Addr}
  (a19:aG K mainGlobals "order"=some (some (.ref f19)))
  (l19:K.lookup f19=some ⟨oc19,od19,.func (aT "order" "order" (bT gZ) (aW gZ) (ap gZ) .none kV19 dc19 pm19 an19 cd19 ct19),sl19⟩) (c19:aR K cd19 "order"=true) (k19:aM K (.ref f19)=true)
  {od20 an20:Option Addr} {sl20:Array (Option Value)} {oc20 kV20 dc20 pm20 cd20 ct20:Value} {f20:Addr}
  (a20:aG K mainGlobals "_law_order"=some (some (.ref f20)))
  (l20:K.lookup f20=some ⟨oc20,od20,.func (aT "_law_order" "_law_order" (bT ke) (aW ke) (ap ke) .none kV20 dc20 pm20 an20 cd20 ct20),sl20⟩) (c20:aR K cd20 "_law_order"=true) (k20:aM K (.ref f20)=true)
  {od21 an21:Option Addr} {sl21:Array (Option Value)} {oc21 kV21 dc21 pm21 cd21 ct21:Value} {f21:Addr}
  (a21:aG K mainGlobals "_law_draw"=some (some (.ref f21)))
  (l21:K.lookup f21=some ⟨oc21,od21,.func (aT "_law_draw" "_law_draw" (bT mF) (aW mF) (ap mF) .none kV21 dc21 pm21 an21 cd21 ct21),sl21⟩) (c21:aR K cd21 "_law_draw"=true) (k21:aM K (.ref f21)=true)
  {od22 an22:Option Addr} {sl22:Array (Option Value)} {oc22 kV22 dc22 pm22 cd22 ct22:Value} {f22:Addr}
  (a22:aG K mainGlobals "heads"=some (some (.ref f22)))
  (l22:K.lookup f22=some ⟨oc22,od22,.func (aT "heads" "heads" (bT gX) (aW gX) (ap gX) .none kV22 dc22 pm22 an22 cd22 ct22),sl22⟩) (c22:aR K cd22 "heads"=true) (k22:aM K (.ref f22)=true)
  {od23 an23:Option Addr} {sl23:Array (Option Value)} {oc23 kV23 dc23 pm23 cd23 ct23:Value} {f23:Addr}
  (a23:aG K mainGlobals "_law_goal"=some (some (.ref f23)))
  (l23:K.lookup f23=some ⟨oc23,od23,.func (aT "_law_goal" "_law_goal" (bT mG) (aW mG) (ap mG) .none kV23 dc23 pm23 an23 cd23 ct23),sl23⟩) (c23:aR K cd23 "_law_goal"=true) (k23:aM K (.ref f23)=true)
  {od24 an24:Option Addr} {sl24:Array (Option Value)} {oc24 kV24 dc24 pm24 cd24 ct24:Value} {f24:Addr}
  (a24:aG K mainGlobals "_law_led"=some (some (.ref f24)))
  (l24:K.lookup f24=some ⟨oc24,od24,.func (aT "_law_led" "_law_led" (bT pS) (aW pS) (ap pS) .none kV24 dc24 pm24 an24 cd24 ct24),sl24⟩) (c24:aR K cd24 "_law_led"=true) (k24:aM K (.ref f24)=true)
  {od25 an25:Option Addr} {sl25:Array (Option Value)} {oc25 kV25 dc25 pm25 cd25 ct25:Value} {f25:Addr}
  (a25:aG K mainGlobals "_law_filled"=some (some (.ref f25)))
  (l25:K.lookup f25=some ⟨oc25,od25,.func (aT "_law_filled" "_law_filled" (bT ig) (aW ig) (ap ig) .none kV25 dc25 pm25 an25 cd25 ct25),sl25⟩) (c25:aR K cd25 "_law_filled"=true) (k25:aM K (.ref f25)=true)
  {od26 an26:Option Addr} {sl26:Array (Option Value)} {oc26 kV26 dc26 pm26 cd26 ct26:Value} {f26:Addr}
  (a26:aG K mainGlobals "_law_leads"=some (some (.ref f26)))
  (l26:K.lookup f26=some ⟨oc26,od26,.func (aT "_law_leads" "_law_leads" (bT kc) (aW kc) (ap kc) .none kV26 dc26 pm26 an26 cd26 ct26),sl26⟩) (c26:aR K cd26 "_law_leads"=true) (k26:aM K (.ref f26)=true)
  {od27 an27:Option Addr} {sl27:Array (Option Value)} {oc27 kV27 dc27 pm27 cd27 ct27:Value} {f27:Addr}
  (a27:aG K mainGlobals "_law_set_names"=some (some (.ref f27)))
  (l27:K.lookup f27=some ⟨oc27,od27,.func (aT "_law_set_names" "_law_set_names" (bT d9) (aW d9) (ap d9) .none kV27 dc27 pm27 an27 cd27 ct27),sl27⟩) (c27:aR K cd27 "_law_set_names"=true) (k27:aM K (.ref f27)=true)
  {od28 an28:Option Addr} {sl28:Array (Option Value)} {oc28 kV28 dc28 pm28 cd28 ct28:Value} {f28:Addr}
  (a28:aG K mainGlobals "_law_mended"=some (some (.ref f28)))
  (l28:K.lookup f28=some ⟨oc28,od28,.func (aT "_law_mended" "_law_mended" (bT iU) (aW iU) (ap iU) .none kV28 dc28 pm28 an28 cd28 ct28),sl28⟩) (c28:aR K cd28 "_law_mended"=true) (k28:aM K (.ref f28)=true)
  {od29 an29:Option Addr} {sl29:Array (Option Value)} {oc29 kV29 dc29 pm29 cd29 ct29:Value} {f29:Addr}
  (a29:aG K mainGlobals "_law_worth"=some (some (.ref f29)))
  (l29:K.lookup f29=some ⟨oc29,od29,.func (aT "_law_worth" "_law_worth" (bT kf) (aW kf) (ap kf) .none kV29 dc29 pm29 an29 cd29 ct29),sl29⟩) (c29:aR K cd29 "_law_worth"=true) (k29:aM K (.ref f29)=true)
  {od30 an30:Option Addr} {sl30:Array (Option Value)} {oc30 kV30 dc30 pm30 cd30 ct30:Value} {f30:Addr}
  (a30:aG K mainGlobals "_law_rough_row"=some (some (.ref f30)))
  (l30:K.lookup f30=some ⟨oc30,od30,.func (aT "_law_rough_row" "_law_rough_row" (bT fG) (aW fG) (ap fG) .none kV30 dc30 pm30 an30 cd30 ct30),sl30⟩) (c30:aR K cd30 "_law_rough_row"=true) (k30:aM K (.ref f30)=true)
  {od31 an31:Option Addr} {sl31:Array (Option Value)} {oc31 kV31 dc31 pm31 cd31 ct31:Value} {f31:Addr}
  (a31:aG K mainGlobals "_law_part"=some (some (.ref f31)))
  (l31:K.lookup f31=some ⟨oc31,od31,.func (aT "_law_part" "_law_part" (bT lr) (aW lr) (ap lr) .none kV31 dc31 pm31 an31 cd31 ct31),sl31⟩) (c31:aR K cd31 "_law_part"=true) (k31:aM K (.ref f31)=true)
  {od32 an32:Option Addr} {sl32:Array (Option Value)} {oc32 kV32 dc32 pm32 cd32 ct32:Value} {f32:Addr}
  (a32:aG K mainGlobals "_law_names"=some (some (.ref f32)))
  (l32:K.lookup f32=some ⟨oc32,od32,.func (aT "_law_names" "_law_names" (bT jw) (aW jw) (ap jw) .none kV32 dc32 pm32 an32 cd32 ct32),sl32⟩) (c32:aR K cd32 "_law_names"=true) (k32:aM K (.ref f32)=true)
  {od33 an33:Option Addr} {sl33:Array (Option Value)} {oc33 kV33 dc33 pm33 cd33 ct33:Value} {f33:Addr}
  (a33:aG K mainGlobals "_law_program"=some (some (.ref f33)))
  (l33:K.lookup f33=some ⟨oc33,od33,.func (aT "_law_program" "_law_program" (bT gr) (aW gr) (ap gr) .none kV33 dc33 pm33 an33 cd33 ct33),sl33⟩) (c33:aR K cd33 "_law_program"=true) (k33:aM K (.ref f33)=true)
  {od34 an34:Option Addr} {sl34:Array (Option Value)} {oc34 kV34 dc34 pm34 cd34 ct34:Value} {f34:Addr}
  (a34:aG K mainGlobals "law"=some (some (.ref f34)))
  (l34:K.lookup f34=some ⟨oc34,od34,.func (aT "law" "law" (bT mY) (aW mY) (ap mY) .none kV34 dc34 pm34 an34 cd34 ct34),sl34⟩) (c34:aR K cd34 "law"=true) (k34:aM K (.ref f34)=true)
  (z_len:aG K mainGlobals "len"=some none) (z_range:aG K mainGlobals "range"=some none) (z_divmod:aG K mainGlobals "divmod"=some none) (z_max:aG K mainGlobals "max"=some none) (z_min:aG K mainGlobals "min"=some none) (z_sum:aG K mainGlobals "sum"=some none) (z_all:aG K mainGlobals "all"=some none) (z_isinstance:aG K mainGlobals "isinstance"=some none) (z_int:aG K mainGlobals "int"=some none) (z_bool:aG K mainGlobals "bool"=some none) (z_list:aG K mainGlobals "list"=some none) (z_tuple:aG K mainGlobals "tuple"=some none) (z_enumerate:aG K mainGlobals "enumerate"=some none) (z_zip:aG K mainGlobals "zip"=some none) (z_sorted:aG K mainGlobals "sorted"=some none) (z_set:aG K mainGlobals "set"=some none) (z_dict:aG K mainGlobals "dict"=some none) (z_str:aG K mainGlobals "str"=some none) (z_any:aG K mainGlobals "any"=some none) (z_reversed:aG K mainGlobals "reversed"=some none) (z_abs:aG K mainGlobals "abs"=some none) :
  ∃fd:FuncData,(∀(s:Shared) (v:Value),BindsTo s fd ⟨[v],[]⟩ [("_law_script",v)])/\∀base:Heap,K.In base->base.Ns mainGlobals mg->eK l.prog w K mg base fU AX fa fd sv (sp_law K):=by
 have e:=hfa.symm.trans (aZ X G a34)
 cases e
 have B:gD mg:=⟨bj X G z_len,bj X G z_range,bj X G z_divmod,bj X G z_max,bj X G z_min,bj X G z_sum,bj X G z_all,bj X G z_isinstance,bj X G z_int,bj X G z_bool,bj X G z_list,bj X G z_tuple,bj X G z_enumerate,bj X G z_zip,bj X G z_sorted,bj X G z_set,bj X G z_dict,bj X G z_str,bj X G z_any,bj X G z_reversed,bj X G z_abs⟩
 have eC_Outline:cT K "Outline"=C_Outline:=Ef zc_Outline
 have cl_Outline:Jd K (cT K "Outline"):=by rw[eC_Outline];exact⟨pg_Outline,hd_Outline,po_Outline,sa_Outline⟩
 have T:zw K:=⟨cl_Outline,(by rw[eC_Outline];exact no_0),(by rw[eC_Outline];exact no_1),(by rw[eC_Outline];exact no_2),(by rw[eC_Outline];exact no_3),(by rw[eC_Outline];exact no_4),(by rw[eC_Outline];exact no_5)⟩
 have F0:=cW (st:=eQ) l0 c0 k0
 have b0:=F0.binds (ps:=fY) λ_ _ _ _ _ _ us hl=>by(obtain⟨_,rfl⟩:=C4 (us:=us) hl);rfl
 have F1:=cW (st:=iX) l1 c1 k1
 have b1:=F1.binds (ps:=gQ) λ_ _ _ _ _ _ us hl=>by(obtain⟨_,rfl⟩:=C4 (us:=us) hl);rfl
 have F2:=cW (st:=iV) l2 c2 k2
 have b2:=F2.binds (ps:=fS) λ_ _ _ _ _ _ us hl=>by(obtain⟨_,rfl⟩:=C4 (us:=us) hl);rfl
 have F3:=cW (st:=gY) l3 c3 k3
 have b3:=F3.binds (ps:=fZ) λ_ _ _ _ _ _ us hl=>by(obtain⟨_,_,rfl⟩:=EM (us:=us) hl);rfl
 have F4:=G1 (st:=eG) l4 c4 k4
 have F5:=cW (st:=eR) l5 c5 k5
 have b5:=F5.binds (ps:=dC) λ_ _ _ _ _ _ us hl=>by(obtain⟨_,rfl⟩:=C4 (us:=us) hl);rfl
 have F6:=cW (st:=gf) l6 c6 k6
 have b6:=F6.binds (ps:=dv) λ_ _ _ _ _ _ us hl=>by(obtain⟨_,_,rfl⟩:=EM (us:=us) hl);rfl
 have F7:=cW (st:=gd) l7 c7 k7
 have b7:=F7.binds (ps:=d7) λ_ _ _ _ _ _ us hl=>by(obtain⟨_,rfl⟩:=C4 (us:=us) hl);rfl
 have F8:=cW (st:=lp) l8 c8 k8
 have b8:=F8.binds (ps:=mj) λ_ _ _ _ _ _ us hl=>by(obtain⟨_,_,_,_,rfl⟩:=MP (us:=us) hl);rfl
 have F9:=cW (st:=g7) l9 c9 k9
 have b9:=F9.binds (ps:=ir) λ_ _ _ _ _ _ us hl=>by(obtain⟨_,rfl⟩:=C4 (us:=us) hl);rfl
 have F10:=cW (st:=mH) l10 c10 k10
 have b10:=F10.binds (ps:=mi) λ_ _ _ _ _ _ us hl=>by(obtain⟨_,rfl⟩:=C4 (us:=us) hl);rfl
 have F11:=cW (st:=lm) l11 c11 k11
 have b11:=F11.binds (ps:=mh) λ_ _ _ _ _ _ us hl=>by(obtain⟨_,rfl⟩:=C4 (us:=us) hl);rfl
 have F12:=cW (st:=eZ) l12 c12 k12
 have b12:=F12.binds (ps:=fB) λ_ _ _ _ _ _ us hl=>by(obtain⟨_,rfl⟩:=C4 (us:=us) hl);rfl
 have F13:=cW (st:=dJ) l13 c13 k13
 have b13:=F13.binds (ps:=eF) λ_ _ _ _ _ _ us hl=>by(obtain⟨_,_,rfl⟩:=EM (us:=us) hl);rfl
 have F14:=cW (st:=ge) l14 c14 k14
 have b14:=F14.binds (ps:=gF) λ_ _ _ _ _ _ us hl=>by(obtain⟨_,_,rfl⟩:=EM (us:=us) hl);rfl
 have F15:=cW (st:=gW) l15 c15 k15
 have b15:=F15.binds (ps:=io) λ_ _ _ _ _ _ us hl=>by(obtain⟨_,_,_,rfl⟩:=Lo (us:=us) hl);rfl
 have F16:=cW (st:=iW) l16 c16 k16
 have b16:=F16.binds (ps:=jg) λ_ _ _ _ _ _ us hl=>by(obtain⟨_,_,rfl⟩:=EM (us:=us) hl);rfl
 have F17:=cW (st:=d6) l17 c17 k17
 have b17:=F17.binds (ps:=eX) λ_ _ _ _ _ _ us hl=>by(obtain⟨_,_,rfl⟩:=EM (us:=us) hl);rfl
 have F18:=cW (st:=eO) l18 c18 k18
 have b18:=F18.binds (ps:=fK) λ_ _ _ _ _ _ us hl=>by(obtain⟨_,_,_,rfl⟩:=Lo (us:=us) hl);rfl
 have F19:=cW (st:=gZ) l19 c19 k19
 have b19:=F19.binds (ps:=iq) λ_ _ _ _ _ _ us hl=>by(obtain⟨_,_,_,rfl⟩:=Lo (us:=us) hl);rfl
 have F20:=cW (st:=ke) l20 c20 k20
 have b20:=F20.binds (ps:=kA) λ_ _ _ _ _ _ us hl=>by(obtain⟨_,_,_,_,_,rfl⟩:=M3 (us:=us) hl);rfl
 have F21:=cW (st:=mF) l21 c21 k21
 have b21:=F21.binds (ps:=eL) λ_ _ _ _ _ _ us hl=>by(obtain⟨_,_,rfl⟩:=EM (us:=us) hl);rfl
 have F22:=cW (st:=gX) l22 c22 k22
 have b22:=F22.binds (ps:=ip) λ_ _ _ _ _ _ us hl=>by(obtain⟨_,rfl⟩:=C4 (us:=us) hl);rfl
 have F23:=cW (st:=mG) l23 c23 k23
 have b23:=F23.binds (ps:=mf) λ_ _ _ _ _ _ us hl=>by(obtain⟨_,_,rfl⟩:=EM (us:=us) hl);rfl
 have F24:=cW (st:=pS) l24 c24 k24
 have b24:=F24.binds (ps:=oM) λ_ _ _ _ _ _ us hl=>by(obtain⟨_,rfl⟩:=C4 (us:=us) hl);rfl
 have F25:=cW (st:=ig) l25 c25 k25
 have b25:=F25.binds (ps:=je) λ_ _ _ _ _ _ us hl=>by(obtain⟨_,_,_,rfl⟩:=Lo (us:=us) hl);rfl
 have F26:=cW (st:=kc) l26 c26 k26
 have b26:=F26.binds (ps:=ky) λ_ _ _ _ _ _ us hl=>by(obtain⟨_,_,rfl⟩:=EM (us:=us) hl);rfl
 have F27:=cW (st:=d9) l27 c27 k27
 have b27:=F27.binds (ps:=gb) λ_ _ _ _ _ _ us hl=>by(obtain⟨_,_,_,rfl⟩:=Lo (us:=us) hl);rfl
 have F28:=cW (st:=iU) l28 c28 k28
 have b28:=F28.binds (ps:=jf) λ_ _ _ _ _ _ us hl=>by(obtain⟨_,_,_,rfl⟩:=Lo (us:=us) hl);rfl
 have F29:=cW (st:=kf) l29 c29 k29
 have b29:=F29.binds (ps:=kB) λ_ _ _ _ _ _ us hl=>by(obtain⟨_,rfl⟩:=C4 (us:=us) hl);rfl
 have F30:=cW (st:=fG) l30 c30 k30
 have b30:=F30.binds (ps:=ga) λ_ _ _ _ _ _ us hl=>by(obtain⟨_,_,_,_,rfl⟩:=MP (us:=us) hl);rfl
 have F31:=cW (st:=lr) l31 c31 k31
 have b31:=F31.binds (ps:=mn) λ_ _ _ _ _ _ us hl=>by(obtain⟨_,_,_,_,_,_,rfl⟩:=M4 (us:=us) hl);rfl
 have F32:=cW (st:=jw) l32 c32 k32
 have b32:=F32.binds (ps:=kz) λ_ _ _ _ _ _ us hl=>by(obtain⟨_,_,rfl⟩:=EM (us:=us) hl);rfl
 have F33:=cW (st:=gr) l33 c33 k33
 have b33:=F33.binds (ps:=iu) λ_ _ _ _ _ _ us hl=>by(obtain⟨_,_,rfl⟩:=EM (us:=us) hl);rfl
 have F34:=cW (st:=mY) l34 c34 k34
 refine⟨aT "law" "law" (bT mY) (aW mY) (ap mY) .none kV34 dc34 pm34 an34 cd34 ct34,λs v=>.of_eq rfl,λbase _ _=>?_⟩
 have c_p_as_keys:aK l.prog w K mg base "as_keys" fY kK (fH K):=⟨⟨_,_,aZ X G a0,k0,b0,wx F0 B⟩⟩
 have c_p_sets:aK l.prog w K mg base "sets" gQ lC (gs K):=⟨⟨_,_,aZ X G a1,k1,b1,Dl F1 B⟩⟩
 have c_p_goal:aK l.prog w K mg base "goal" fS jC (eD K):=⟨⟨_,_,aZ X G a2,k2,b2,Dj F2 B⟩⟩
 have c_p_leads:aK l.prog w K mg base "leads" fZ kg (e8 K):=⟨⟨_,_,aZ X G a3,k3,b3,Ah F3 B c_p_goal⟩⟩
 have b4_1:m9 K _ gG [Value.none]:=λs us X hl=>by(obtain⟨_,rfl⟩:=C4 (us:=us) (show us.length=1 from by rw[ai] at hl;exact Nat.succ.inj hl));exact PySem.W.binds_K (fd:=aT "walked" "walked" (bT eG) (aW eG) (ap eG) (.ref T4) kV4 dc4 pm4 an4 cd4 ct4) X rfl t4 rfl rfl rfl
 have c_p_walked_d1:pc l.prog w K mg base "walked" gG md [.non] (gL K):=⟨⟨_,_,_,aZ X G a4,k4,b4_1,.cons rfl .nil,yb F4 B c_p_sets c_p_leads⟩⟩
 have c_p_come_to:aK l.prog w K mg base "come_to" dC fW (cX K):=⟨⟨_,_,aZ X G a5,k5,b5,wz F5 B c_p_walked_d1⟩⟩
 have c_p_stands:aK l.prog w K mg base "stands" dv fJ (cw K):=⟨⟨_,_,aZ X G a6,k6,b6,ya F6 B c_p_goal⟩⟩
 have c_p_led_to:aK l.prog w K mg base "led_to" d7 gE (dh K):=⟨⟨_,_,aZ X G a7,k7,b7,x8 F7 B c_p_come_to c_p_stands c_p_goal⟩⟩
 have c_p_rw:aK l.prog w K mg base "rows_wanting" mj vF (mK K):=⟨⟨_,_,aZ X G a8,k8,b8,Hr F8 B c_p_sets⟩⟩
 have c_p_reads:aK l.prog w K mg base "reads" ir nN (iB K):=⟨⟨_,_,aZ X G a9,k9,b9,Aj F9 B⟩⟩
 have c_p_rt:aK l.prog w K mg base "rows_that_read" mi vE (mJ K):=⟨⟨_,_,aZ X G a10,k10,b10,Hq F10 B c_p_come_to c_p_reads⟩⟩
 have c_p_ra:aK l.prog w K mg base "rows_ahead" mh vD (mI K):=⟨⟨_,_,aZ X G a11,k11,b11,Ho F11 B c_p_leads c_p_stands c_p_come_to⟩⟩
 have c_p_wanted:aK l.prog w K mg base "wanted" fB jd (eS K):=⟨⟨_,_,aZ X G a12,k12,b12,yc F12 B c_p_rw c_p_rt c_p_ra⟩⟩
 have mk_Outline:vH l.prog w K mg base "Outline" (cT K "Outline") eF iQ (eI K):=⟨⟨f13,_,aZ X G zc_Outline |>.trans (by rw[eC_Outline]),by rw[eC_Outline];exact⟨ma_Outline,a13,i13,kp_Outline⟩,b13,rP F13 B T c_p_as_keys c_p_led_to c_p_stands c_p_wanted⟩⟩
 have c_p_pushed:aK l.prog w K mg base "pushed" gF ma (gK K):=⟨⟨_,_,aZ X G a14,k14,b14,x9 F14 B⟩⟩
 have c_p_begun:aK l.prog w K mg base "begun" io nJ (iz K):=⟨⟨_,_,aZ X G a15,k15,b15,Af F15 B c_p_pushed⟩⟩
 have c_p_seen:aK l.prog w K mg base "seen" jg pj (jo K):=⟨⟨_,_,aZ X G a16,k16,b16,Dk F16 B⟩⟩
 have c_p_args_belt:aK l.prog w K mg base "args_belt" eX jt (e7 K):=⟨⟨_,_,aZ X G a17,k17,b17,tm F17 B T c_p_begun c_p_seen⟩⟩
 have c_p_order_of:aK l.prog w K mg base "order_of" fK jZ (fM K):=⟨⟨_,_,aZ X G a18,k18,b18,uz F18 B T c_p_args_belt⟩⟩
 have c_p_order:aK l.prog w K mg base "order" iq nM (iA K):=⟨⟨_,_,aZ X G a19,k19,b19,Ai F19 B mk_Outline c_p_order_of⟩⟩
 have c_order:aK l.prog w K mg base "_law_order" kA rS (kE K):=⟨⟨_,_,aZ X G a20,k20,b20,E5 F20 B⟩⟩
 have c_draw:aK l.prog w K mg base "_law_draw" eL hV (bY K):=⟨⟨_,_,aZ X G a21,k21,b21,Hm F21 B⟩⟩
 have c_p_heads:aK l.prog w K mg base "heads" ip nK (gJ K):=⟨⟨_,_,aZ X G a22,k22,b22,Ag F22 B c_p_stands c_p_led_to⟩⟩
 have c_goal:aK l.prog w K mg base "_law_goal" mf vC (iY K):=⟨⟨_,_,aZ X G a23,k23,b23,Hn F23 B⟩⟩
 have c_led:aK l.prog w K mg base "_law_led" oM AY (oU K):=⟨⟨_,_,aZ X G a24,k24,b24,Ke F24 B c_goal⟩⟩
 have c_filled:aK l.prog w K mg base "_law_filled" je pf (jj K):=⟨⟨_,_,aZ X G a25,k25,b25,Dh F25 B c_draw⟩⟩
 have c_leads:aK l.prog w K mg base "_law_leads" ky rQ (kD K):=⟨⟨_,_,aZ X G a26,k26,b26,E3 F26 B⟩⟩
 have c_set_names:aK l.prog w K mg base "_law_set_names" gb kM (gi K):=⟨⟨_,_,aZ X G a27,k27,b27,wB F27 B c_leads⟩⟩
 have c_mended:aK l.prog w K mg base "_law_mended" jf ph (jm K):=⟨⟨_,_,aZ X G a28,k28,b28,Di F28 B⟩⟩
 have c_worth:aK l.prog w K mg base "_law_worth" kB rT (kF K):=⟨⟨_,_,aZ X G a29,k29,b29,E6 F29 B c_draw⟩⟩
 have c_rough_row:aK l.prog w K mg base "_law_rough_row" ga kL (gh K):=⟨⟨_,_,aZ X G a30,k30,b30,wA F30 B c_draw c_worth⟩⟩
 have c_part:aK l.prog w K mg base "_law_part" mn vG (mL K):=⟨⟨_,_,aZ X G a31,k31,b31,Hs F31 B c_filled c_set_names c_mended c_rough_row c_draw⟩⟩
 have c_names:aK l.prog w K mg base "_law_names" kz rR (jI K):=⟨⟨_,_,aZ X G a32,k32,b32,E4 F32 B c_draw⟩⟩
 have c_program:aK l.prog w K mg base "_law_program" iu nO (iC K):=⟨⟨_,_,aZ X G a33,k33,b33,Ak F33 B c_part c_draw c_names⟩⟩
 exact Kd F34 B c_p_order c_order c_draw c_p_heads c_p_led_to c_p_wanted c_led c_program
theorem Lc{K:Fg}{H:Hp}{a:Addr}{ns:List Int}(o:GG H)(h:ce K H a (ns.map V.int)):kP K H a ns:=by
 rcases h with(h|h)|h
 ·rcases o a with z|⟨ob,xs,z⟩<;>rw[h] at z<;>cases z
 ·exact .inl h
 ·exact .inr h
theorem walk{l:PySem.W.OpenLaw}{q:Program}{loose:List Str}{XP:(Str->Option Value)->Heap->Prop}{YP:World->Heap->Prop}{d:DefRec}{K:Params->Fg}(hn:l.most=some 63)(hdf:d.params.defaults=[])
  (hY:∀(w:World) (h:Heap),YP w h->(K w.params).In h)
  (F:∀(w:World) (mg:Str->Option Value) (fa:Addr) (h:Heap),(K w.params).In h->h.Ns mainGlobals mg->mg d.name=some (.ref fa)->
   ∃fd:FuncData,(∀(s:Shared) (u:Value),BindsTo s fd ⟨[u],[]⟩ [("_law_script",u)])/\∀base:Heap,(K w.params).In base->base.Ns mainGlobals mg->eK l.prog w (K w.params) mg base fU AX fa fd sv (sp_law (K w.params))) :
  PySem.W.WalkO q loose XP YP l.row.toRowW d [] (λf vs=>sf f vs):=
 L2.walk_of (n:=63) (k:=AX) (x:="_law_script") (CX:=λ_=>fU) (sp:=λw=>sp_law (K w.params)) hn (by decide) hdf ⟨rfl,by decide,by decide⟩ hY F (λ_ _ a ns hl hO hS=>⟨a,ns,rfl,Lc hO hS,hl,λ_=>rfl⟩) λ_ _ _ _ _ z=>z
end Bg
open PySem PySem.W PyProof.Rows
def PySem.W.Fast.tw8387168069579597495:Unit:=()
theorem PySem.W.Fast.te8387168069579597495:True:=trivial
def PySem.W.Fast.tw6801243454285587908:Unit:=()
theorem PySem.W.Fast.te6801243454285587908:True:=trivial
def PySem.W.Fast.tw6639629282940973196:Unit:=()
theorem PySem.W.Fast.te6639629282940973196:True:=trivial
def PySem.W.Fast.tw17226955009089921977:Unit:=()
theorem PySem.W.Fast.te17226955009089921977:True:=trivial
def PySem.W.Fast.tw12632403324215764073:Unit:=()
theorem PySem.W.Fast.te12632403324215764073:True:=trivial
def PySem.W.Fast.tw8208445095703492612:Unit:=()
theorem PySem.W.Fast.te8208445095703492612:True:=trivial
def PySem.W.Fast.tw131274841409520875:Unit:=()
theorem PySem.W.Fast.te131274841409520875:True:=trivial
def PySem.W.Fast.tw6644103299021844943:Unit:=()
theorem PySem.W.Fast.te6644103299021844943:True:=trivial
def PySem.W.Fast.tw12435798348423268544:Unit:=()
theorem PySem.W.Fast.te12435798348423268544:True:=trivial
def PySem.W.Fast.tw9051191426509459747:Unit:=()
theorem PySem.W.Fast.te9051191426509459747:True:=trivial
def PySem.W.Fast.tw5484119502464935941:Unit:=()
theorem PySem.W.Fast.te5484119502464935941:True:=trivial
def PySem.W.Fast.tw10587894942109725642:Unit:=()
theorem PySem.W.Fast.te10587894942109725642:True:=trivial
set_option maxRecDepth 100000 in
set_option maxHeartbeats 0 in
theorem PySem.Challenge.cw_beltgarth_k71_heads_and_orders_holds : PySem.Challenge.rw_beltgarth_k71_heads_and_orders.Holds := by
 w_on;o_law;k_head;(case hw=>w_witness2)
 k_fill
 refine Bg.walk (l:=PySem.Challenge.rw_beltgarth_k71_heads_and_orders) rfl rfl (λw h Y=>PySem.W.kIn_of Y) ?F
 case F=>
  intro w mg fa h KX G hmg
  refine' Bg.all_mk KX G hmg ?zc_Outline ?pg_Outline ?hd_Outline ?po_Outline ?sa_Outline ?ma_Outline ?kp_Outline ?no_0 ?no_1 ?no_2 ?no_3 ?no_4 ?no_5 ?a0 ?l0 ?c0 ?k0 ?a1 ?l1 ?c1 ?k1 ?a2 ?l2 ?c2 ?k2 ?a3 ?l3 ?c3 ?k3 ?a4 ?l4 ?c4 ?k4 ?t4 ?a5 ?l5 ?c5 ?k5 ?a6 ?l6 ?c6 ?k6 ?a7 ?l7 ?c7 ?k7 ?a8 ?l8 ?c8 ?k8 ?a9 ?l9 ?c9 ?k9 ?a10 ?l10 ?c10 ?k10 ?a11 ?l11 ?c11 ?k11 ?a12 ?l12 ?c12 ?k12 ?a13 ?l13 ?c13 ?k13 ?i13 ?a14 ?l14 ?c14 ?k14 ?a15 ?l15 ?c15 ?k15 ?a16 ?l16 ?c16 ?k16 ?a17 ?l17 ?c17 ?k17 ?a18 ?l18 ?c18 ?k18 ?a19 ?l19 ?c19 ?k19 ?a20 ?l20 ?c20 ?k20 ?a21 ?l21 ?c21 ?k21 ?a22 ?l22 ?c22 ?k22 ?a23 ?l23 ?c23 ?k23 ?a24 ?l24 ?c24 ?k24 ?a25 ?l25 ?c25 ?k25 ?a26 ?l26 ?c26 ?k26 ?a27 ?l27 ?c27 ?k27 ?a28 ?l28 ?c28 ?k28 ?a29 ?l29 ?c29 ?k29 ?a30 ?l30 ?c30 ?k30 ?a31 ?l31 ?c31 ?k31 ?a32 ?l32 ?c32 ?k32 ?a33 ?l33 ?c33 ?k33 ?a34 ?l34 ?c34 ?k34 ?z_len ?z_range ?z_divmod ?z_max ?z_min ?z_sum ?z_all ?z_isinstance ?z_int ?z_bool ?z_list ?z_tuple ?z_enumerate ?z_zip ?z_sorted ?z_set ?z_dict ?z_str ?z_any ?z_reversed ?z_abs
  (case zc_Outline=>k_is)
  (case pg_Outline=>k_is)
  (case hd_Outline=>k_is)
  (case po_Outline=>k_is)
  (case sa_Outline=>k_is)
  (case ma_Outline=>k_is)
  (case kp_Outline=>k_is)
  (case no_0=>k_is)
  (case no_1=>k_is)
  (case no_2=>k_is)
  (case no_3=>k_is)
  (case no_4=>k_is)
  (case no_5=>k_is)
  (case a0=>k_is)
  (case l0=>k_is)
  (case c0=>k_is)
  (case k0=>k_is)
  (case a1=>k_is)
  (case l1=>k_is)
  (case c1=>k_is)
  (case k1=>k_is)
  (case a2=>k_is)
  (case l2=>k_is)
  (case c2=>k_is)
  (case k2=>k_is)
  (case a3=>k_is)
  (case l3=>k_is)
  (case c3=>k_is)
  (case k3=>k_is)
  (case a4=>k_is)
  (case l4=>k_is)
  (case c4=>k_is)
  (case k4=>k_is)
  (case t4=>k_is)
  (case a5=>k_is)
  (case l5=>k_is)
  (case c5=>k_is)
  (case k5=>k_is)
  (case a6=>k_is)
  (case l6=>k_is)
  (case c6=>k_is)
  (case k6=>k_is)
  (case a7=>k_is)
  (case l7=>k_is)
  (case c7=>k_is)
  (case k7=>k_is)
  (case a8=>k_is)
  (case l8=>k_is)
  (case c8=>k_is)
  (case k8=>k_is)
  (case a9=>k_is)
  (case l9=>k_is)
  (case c9=>k_is)
  (case k9=>k_is)
  (case a10=>k_is)
  (case l10=>k_is)
  (case c10=>k_is)
  (case k10=>k_is)
  (case a11=>k_is)
  (case l11=>k_is)
  (case c11=>k_is)
  (case k11=>k_is)
  (case a12=>k_is)
  (case l12=>k_is)
  (case c12=>k_is)
  (case k12=>k_is)
  (case a13=>k_is)
  (case l13=>k_is)
  (case c13=>k_is)
  (case k13=>k_is)
  (case i13=>k_is)
  (case a14=>k_is)
  (case l14=>k_is)
  (case c14=>k_is)
  (case k14=>k_is)
  (case a15=>k_is)
  (case l15=>k_is)
  (case c15=>k_is)
  (case k15=>k_is)
  (case a16=>k_is)
  (case l16=>k_is)
  (case c16=>k_is)
  (case k16=>k_is)
  (case a17=>k_is)
  (case l17=>k_is)
  (case c17=>k_is)
  (case k17=>k_is)
  (case a18=>k_is)
  (case l18=>k_is)
  (case c18=>k_is)
  (case k18=>k_is)
  (case a19=>k_is)
  (case l19=>k_is)
  (case c19=>k_is)
  (case k19=>k_is)
  (case a20=>k_is)
  (case l20=>k_is)
  (case c20=>k_is)
  (case k20=>k_is)
  (case a21=>k_is)
  (case l21=>k_is)
  (case c21=>k_is)
  (case k21=>k_is)
  (case a22=>k_is)
  (case l22=>k_is)
  (case c22=>k_is)
  (case k22=>k_is)
  (case a23=>k_is)
  (case l23=>k_is)
  (case c23=>k_is)
  (case k23=>k_is)
  (case a24=>k_is)
  (case l24=>k_is)
  (case c24=>k_is)
  (case k24=>k_is)
  (case a25=>k_is)
  (case l25=>k_is)
  (case c25=>k_is)
  (case k25=>k_is)
  (case a26=>k_is)
  (case l26=>k_is)
  (case c26=>k_is)
  (case k26=>k_is)
  (case a27=>k_is)
  (case l27=>k_is)
  (case c27=>k_is)
  (case k27=>k_is)
  (case a28=>k_is)
  (case l28=>k_is)
  (case c28=>k_is)
  (case k28=>k_is)
  (case a29=>k_is)
  (case l29=>k_is)
  (case c29=>k_is)
  (case k29=>k_is)
  (case a30=>k_is)
  (case l30=>k_is)
  (case c30=>k_is)
  (case k30=>k_is)
  (case a31=>k_is)
  (case l31=>k_is)
  (case c31=>k_is)
  (case k31=>k_is)
  (case a32=>k_is)
  (case l32=>k_is)
  (case c32=>k_is)
  (case k32=>k_is)
  (case a33=>k_is)
  (case l33=>k_is)
  (case c33=>k_is)
  (case k33=>k_is)
  (case a34=>k_is)
  (case l34=>k_is)
  (case c34=>k_is)
  (case k34=>k_is)
  (case z_len=>k_is)
  (case z_range=>k_is)
  (case z_divmod=>k_is)
  (case z_max=>k_is)
  (case z_min=>k_is)
  (case z_sum=>k_is)
  (case z_all=>k_is)
  (case z_isinstance=>k_is)
  (case z_int=>k_is)
  (case z_bool=>k_is)
  (case z_list=>k_is)
  (case z_tuple=>k_is)
  (case z_enumerate=>k_is)
  (case z_zip=>k_is)
  (case z_sorted=>k_is)
  (case z_set=>k_is)
  (case z_dict=>k_is)
  (case z_str=>k_is)
  (case z_any=>k_is)
  (case z_reversed=>k_is)
  (case z_abs=>k_is)
