import PyProof.Rows.All
import Wide.All
import OpenK.AllK
import Wide.FinOn
import Lean
import PyProof.EqAt
import PyProof.EqKinds
import PyProof.TupleCall
import PyProof.SetKind
import PyProof.Rows.SetFrom
import PyProof.FactsAll.set
import PyProof.DictIter
import PyProof.DictWalks
import PyProof.WalksMore
import PyProof.MakeMany
import PyProof.FactsAll.subtypes_4
import KE.KDictSum
import KE.KRevIter
import PyProof.TupleOps
import PyProof.FactsAll.tuple
import PySem.Challenge.RW_beltgarth_k72_the_first_row_that_is_shor
set_option Elab.async false
set_option autoImplicit true
set_option linter.all false
set_option maxHeartbeats 1000000
set_option maxHeartbeats 3200000
set_option maxHeartbeats 4000000
set_option maxRecDepth 100000
set_option relaxedAutoImplicit true
open List renaming getElem?_eq_getElem → aa, length_map → ae, getElem?_eq_some_iff → af, mem_singleton → ai, size_toArray → au, length_append → ay, mem_of_getElem? → az, getElem?_map → aD, mem_append → aE, replicate → aH, map_append → aL, mem_cons → aN, mem_cons_self → aP, mem_append_right → aS, length_take → bg, getElem?_append_right → bh, getElem?_set_self → bj, length_singleton → bo, map_cons → bq, mem_append_left → bt, mem_cons_of_mem → bu, length_replicate → bE, length_cons → bG, take_length → bH, getElem?_set_ne → bJ, getElem?_append_left → bM, map_nil → cy, length_filter_le → cD, nodup_cons → cK, take_succ → cL, replicate_succ → cM, mem_iff_getElem? → cO, map_map → cP, mem_map → cQ, length_set → cY, pairwise_cons → du, length_eq_zero_iff → dv, map_take → dw, nodup_append → dy, getLast?_eq_getElem? → dH, all_eq_true → dI, length_drop → dJ, mem_replicate → dM, not_mem_nil → dN, mem_of_mem_take → dZ, length_nil → ef, mem_filter → eg, length_pos_iff → eF, take_of_length_le → eJ, lookup_cons → eW, getElem?_eq_none → fh, find?_cons → fk, length_zip → fo, flatten_cons → fA, mem_iff_getElem → fB, pairwise_map → fE, take_add_one → fF, map_congr_left → fS, getElem_inj → fU, getElem_map → fV, getElem_mem → fW, nodup_nil → fX, foldl_cons → gB, reverse_cons → gJ, take_sublist → gK, lookup → gN, any_eq_true → gU, drop_length → gW, getElem_zip → gX, drop_eq_getElem_cons → ia, getElem?_take_of_lt → ig, length_erase_of_mem → ij, append_nil → ir, range → iz, zip_cons_cons → iA, append_assoc → iQ, foldl_append → iR, head?_eq_getElem? → iS, map_fst_zip → ja, any_cons → jw, length → jE, reverse_reverse → jF, filterMap_cons → jV, take_succ_cons → jW, filter_append → kh, map_replicate → ki, mem_filterMap → kj, mem_range → ko, not_lt → kF, nil_append → mJ, of_mem_zip → mK, drop_zero → m8, map_drop → oq, any_map → pq, map_id → rg, foldl → sW
open PySem.Heap renaming get?_push_of_some → aA, lt_size → aJ, get?_push_size → aQ, get?_update_other → de, get?_update_self → fg, size_push → iP
open Nat renaming le_refl → aB, ne_of_lt → aV, lt_of_lt_of_le → bw, le_trans → bx, zero_le → cf, le_of_lt → dW, sub_self → eK, lt_irrefl → eN, not_lt_zero → fq, ne_of_gt → fG, le_succ → iJ, min_self → iT, min_le_right → jb, lt_of_le_of_lt → kq, lt_succ_of_lt → kG, lt_succ_self → lJ, lt_trans → px
open PySem.W renaming nsIn → aG, keepIn → aK, codeIn → aO, fnOf → aR, mg_of → aY, mg_none_of → bp, findIn → cz, emptyDict → dk, instObj → eh, hasDictIn → iU, plainGet → jc, methodObj → kI, plainOver → kJ, kdl_dict → lK, makesIn → mL, takerIn → mM, lookIn → m9
open PySem.F renaming plainAttrs_list → bN, slot_list_append → cg, type_list_append → ck
open PyProof.Rows renaming callWith_type1 → cb
open PySem renaming mem_of_lookup → cN, call → sX
open Int renaming emod_lt_of_pos → cS, emod_nonneg → cX, toNat → d7, toNat_natCast → fz
open Option renaming map_some → cZ, getD_some → gY, isSome_iff_exists → ik, toList_some → kr, isSome_map → kH
open Array renaming length_toList → dj, getElem?_toList → ff, toArray_toList → fu, getElem?_eq_getElem → h9, toList_append → jU
abbrev Fg := PySem.W.Frag
section
namespace Bg
theorem M3{α:Type}{P:List α->Prop}{us:List α}(h:us.length=0)(k:P []):P us:=by cases us with|nil=>exact k|cons a r=>cases h
theorem MN{α:Type}{P:List α->Prop}{us:List α}(h:us.length=1)(k:∀x0,P [x0]):P us:=by cases us with|nil=>cases h|cons a r=>exact M3 (P:=λr=>P (a::r)) (Nat.succ.inj h) (k a)
theorem Mg{α:Type}{P:List α->Prop}{us:List α}(h:us.length=2)(k:∀x0 x1,P [x0,x1]):P us:=by cases us with|nil=>cases h|cons a r=>exact MN (P:=λr=>P (a::r)) (Nat.succ.inj h) (k a)
theorem MO{α:Type}{P:List α->Prop}{us:List α}(h:us.length=3)(k:∀x0 x1 x2,P [x0,x1,x2]):P us:=by cases us with|nil=>cases h|cons a r=>exact Mg (P:=λr=>P (a::r)) (Nat.succ.inj h) (k a)
theorem MP{α:Type}{P:List α->Prop}{us:List α}(h:us.length=4)(k:∀x0 x1 x2 x3,P [x0,x1,x2,x3]):P us:=by cases us with|nil=>cases h|cons a r=>exact MO (P:=λr=>P (a::r)) (Nat.succ.inj h) (k a)
theorem MQ{α:Type}{P:List α->Prop}{us:List α}(h:us.length=5)(k:∀x0 x1 x2 x3 x4,P [x0,x1,x2,x3,x4]):P us:=by cases us with|nil=>cases h|cons a r=>exact MP (P:=λr=>P (a::r)) (Nat.succ.inj h) (k a)
theorem M4{α:Type}{P:List α->Prop}{us:List α}(h:us.length=6)(k:∀x0 x1 x2 x3 x4 x5,P [x0,x1,x2,x3,x4,x5]):P us:=by cases us with|nil=>cases h|cons a r=>exact MQ (P:=λr=>P (a::r)) (Nat.succ.inj h) (k a)
theorem E1{α:Type}{us:List α}(h:us.length=1):∃x0,us=[x0]:=MN (P:=λus=>∃x0,us=[x0]) h λx0=>⟨x0,rfl⟩
theorem BI{α:Type}{us:List α}(h:us.length=2):∃x0 x1,us=[x0,x1]:=Mg (P:=λus=>∃x0 x1,us=[x0,x1]) h λx0 x1=>⟨x0,x1,rfl⟩
theorem Lb{α:Type}{us:List α}(h:us.length=3):∃x0 x1 x2,us=[x0,x1,x2]:=MO (P:=λus=>∃x0 x1 x2,us=[x0,x1,x2]) h λx0 x1 x2=>⟨x0,x1,x2,rfl⟩
theorem ML{α:Type}{us:List α}(h:us.length=4):∃x0 x1 x2 x3,us=[x0,x1,x2,x3]:=MP (P:=λus=>∃x0 x1 x2 x3,us=[x0,x1,x2,x3]) h λx0 x1 x2 x3=>⟨x0,x1,x2,x3,rfl⟩
theorem MY{α:Type}{us:List α}(h:us.length=5):∃x0 x1 x2 x3 x4,us=[x0,x1,x2,x3,x4]:=MQ (P:=λus=>∃x0 x1 x2 x3 x4,us=[x0,x1,x2,x3,x4]) h λx0 x1 x2 x3 x4=>⟨x0,x1,x2,x3,x4,rfl⟩
theorem MZ{α:Type}{us:List α}(h:us.length=6):∃x0 x1 x2 x3 x4 x5,us=[x0,x1,x2,x3,x4,x5]:=M4 (P:=λus=>∃x0 x1 x2 x3 x4 x5,us=[x0,x1,x2,x3,x4,x5]) h λx0 x1 x2 x3 x4 x5=>⟨x0,x1,x2,x3,x4,x5,rfl⟩
end Bg
end
section
namespace L2
open PySem PySem.Spec PyProof.Rows
abbrev dS:=Sum Int Str
def vM:dS->Value->Bool
 |.inl k,v=>Value.isInt k v
 |.inr x,v=>Value.isStrOf x v
def Mw(w:World):dS->Int
 |.inl k=>hashInt k
 |.inr x=>hashStr w x
theorem fL:∀{k:dS} {v:Value},vM k v=true->(∃i t,k=Sum.inl i/\v=Value.int i t)\/(∃x t,k=Sum.inr x/\v=Value.str x t)
 |.inl i,v,h=>by
  obtain⟨t,e⟩:=Value.isInt_shape (k:=i) (v:=v) h
  exact .inl ⟨i,t,rfl,e⟩
 |.inr x,v,h=>by
  obtain⟨t,e⟩:=Value.isStrOf_shape (x:=x) (v:=v) h
  exact .inr ⟨x,t,rfl,e⟩
theorem De(i:Int)(t:Tok):vM (.inl i) (.int i t)=true:=by simp[vM,Value.isInt]
theorem Dg(x:Str)(t:Tok):vM (.inr x) (.str x t)=true:=by simp[vM,Value.isStrOf]
theorem JT(a b:Int):decide ((Sum.inl a:dS)=Sum.inl b)=(a==b):=by
 by_cases e:a=b
 ·subst e;simp
 ·have h:¬(Sum.inl a:dS)=Sum.inl b:=λq=>e (Sum.inl.inj q)
  rw[decide_eq_false h]
  exact(beq_eq_false_iff_ne.mpr e).symm
theorem JW(a b:Str):decide ((Sum.inr a:dS)=Sum.inr b)=decide (a=b):=by
 by_cases e:a=b
 ·subst e;simp
 ·have h:¬(Sum.inr a:dS)=Sum.inr b:=λq=>e (Sum.inr.inj q)
  rw[decide_eq_false h,decide_eq_false e]
theorem JU(a:Int)(b:Str):decide ((Sum.inl a:dS)=Sum.inr b)=false:=decide_eq_false (λq=>nomatch q)
theorem JV(a:Str)(b:Int):decide ((Sum.inr a:dS)=Sum.inl b)=false:=decide_eq_false (λq=>nomatch q)
def dq(prog:Program)(w:World):PySem.KeyKind prog w dS where
 is:=vM
 hash:=Mw w
 inj:=λv a b ha hb=>by
  rcases fL ha with⟨i,t,rfl,rfl⟩|⟨x,t,rfl,rfl⟩
  ·rcases fL hb with⟨j,u,rfl,e⟩|⟨y,u,rfl,e⟩
   ·injection e with e1 _;rw[e1]
   ·exact nomatch e
  ·rcases fL hb with⟨j,u,rfl,e⟩|⟨y,u,rfl,e⟩
   ·exact nomatch e
   ·injection e with e1 _;rw[e1]
 byValue:=λk v h=>by
  rcases fL h with⟨i,t,rfl,rfl⟩|⟨x,t,rfl,rfl⟩<;>rfl
 pyHash:=λhv h=>by
  rcases fL hv with⟨i,t,rfl,rfl⟩|⟨x,t,rfl,rfl⟩
  ·exact wpAny_pyHash_int h
  ·exact wpAny_pyHash_str h
 eqBool:=λhu hv h=>by
  rcases fL hu with⟨i,t,rfl,rfl⟩|⟨x,t,rfl,rfl⟩
  ·rcases fL hv with⟨j,u,rfl,rfl⟩|⟨y,u,rfl,rfl⟩
   ·rw[JT] at h;exact wpAny_eqBool_int h
   ·rw[JU] at h;exact SeqAt.EqAt.int_str i t y u _ _ _ _ h
  ·rcases fL hv with⟨j,u,rfl,rfl⟩|⟨y,u,rfl,rfl⟩
   ·rw[JV] at h;exact SeqAt.EqAt.str_int x t j u _ _ _ _ h
   ·rw[JW] at h;exact wpAny_eqBool_str h
 «strs»:=λk x t v h=>by
  rcases fL h with⟨i,u,rfl,e⟩|⟨y,u,rfl,e⟩
  ·exact nomatch e
  ·injection e with e1 _
   subst e1
   cases v<;>rfl
theorem yC(prog:Program)(w:World)(i:Int)(t:Tok):(dq prog w).is (.inl i) (.int i t)=true:=De i t
theorem yD(prog:Program)(w:World)(x:Str)(t:Tok):(dq prog w).is (.inr x) (.str x t)=true:=Dg x t
inductive V where
 |non|bl (b:Bool)|int (i:Int)|str (x:Str)|byt (b:Array UInt8)|flt (b:UInt64)|ref (a:Addr)|ty (n:String)
 deriving DecidableEq
def cJ:V->Value->Prop
 |.non,u=>u=Value.none
 |.bl b,u=>u=Value.bool b
 |.int i,u=>∃t,u=Value.int i t
 |.str x,u=>∃t,u=Value.str x t
 |.byt b,u=>∃t,u=Value.bytes b t
 |.flt b,u=>∃t,u=Value.float b t
 |.ref a,u=>u=Value.ref a
 |.ty n,u=>u=Value.type n
abbrev cu:List V->List Value->Prop:=Paired cJ
theorem cu.length{xs:List V}{us:List Value}(r:cu xs us):xs.length=us.length:=Paired.length r
theorem cu.get:∀{xs:List V} {us:List Value} {i:Nat} {x:V},cu xs us->xs[i]?=some x->∃u,us[i]?=some u/\cJ x u
 |_,_,_,_,.nil,e=>by simp at e
 |_,_,0,_,.cons r _,e=>by simp at e;subst e;exact⟨_,rfl,r⟩
 |_,_,i+1,x,.cons _ t,e=>by
  obtain⟨u,h1,h2⟩:=cu.get (i:=i) (x:=x) t (by simpa using e)
  exact⟨u,by simpa using h1,h2⟩
theorem cu.set{x:V}{u:Value}(r:cJ x u):∀{xs:List V} {us:List Value} (i:Nat),cu xs us->cu (xs.set i x) (us.set i u)
 |_,_,_,.nil=>.nil
 |_,_,0,.cons _ t=>.cons r t
 |_,_,i+1,.cons q t=>.cons q (cu.set r i t)
theorem cu.append:∀{xs ys:List V} {us ws:List Value},cu xs us->cu ys ws->cu (xs++ys) (us++ws)
 |_,_,_,_,.nil,s=>s
 |_,_,_,_,.cons r t,s=>.cons r (cu.append t s)
theorem cu.take:∀{xs:List V} {us:List Value} (n:Nat),cu xs us->cu (xs.take n) (us.take n)
 |_,_,0,_=>.nil
 |_,_,_+1,.nil=>.nil
 |_,_,n+1,.cons r t=>.cons r (cu.take n t)
theorem cu.drop:∀{xs:List V} {us:List Value} (n:Nat),cu xs us->cu (xs.drop n) (us.drop n)
 |_,_,0,r=>r
 |_,_,_+1,.nil=>.nil
 |_,_,n+1,.cons _ t=>cu.drop n t
def pG:Option V->Option Value->Prop
 |some v,some u=>cJ v u
 |none,none=>True
 |_,_=>False
def KV{κ:Type}:List (κ×V)->List (κ×Value)->Prop:=Paired λ(p:κ×V) (q:κ×Value)=>p.1=q.1/\cJ p.2 q.2
def kV:dS->V
 |.inl i=>.int i
 |.inr x=>.str x
inductive HO where
  |lst (xs:List V)
  |tup (xs:List V)
  |dK (kvs:List (dS×V))|dT (kvs:List (List dS×V))
  |set (S:Int->Bool) (n:Nat)
  |ins (C dx:Addr) (fs:List (Str×V))
  |own (x:Addr)
  |xd (fs:List (Str×V))
  |met (f x:Addr)
  |rng (lo hi:Int)
  |frz (o:Obj) (u:HO)
  |tbl (ps:Array Value)
  |ext (φ:Heap->Prop)
abbrev Hp:=Addr->Option HO
def upd(H:Hp)(a:Addr)(o:HO):Hp:=λb=>if b=a then some o else H b
theorem ag{H:Hp}{a:Addr}{o:HO}:upd H a o a=some o:=by unfold upd;rw[if_pos rfl]
theorem ax{H:Hp}{a b:Addr}{o:HO}(h:b≠a):upd H a o b=H b:=by unfold upd;rw[if_neg h]
theorem xM{H:Hp}{a:Addr}{o u:HO}:upd (upd H a o) a u=upd H a u:=by
 funext b;unfold upd;split<;>rfl
theorem iL{H:Hp}{a b:Addr}{o u:HO}(h:H a=some o)(h':H b=some u)(d:o≠u):a≠b:=by
 intro e;subst e;rw[h] at h';exact d (Option.some.inj h')
theorem ak{H:Hp}{a b:Addr}{o:HO}(h:H a=some o)(h':H b=none):a≠b:=by
 intro e;subst e;rw[h] at h';cases h'
def ly(h:Heap)(a:Addr)(items:Array Value):Prop:=∃o,h.get? a=some o/\(o.cls=.type "tuple"/\o.dict=none)/\∃n,o.data=.seq items n
theorem ly.tup{h:Heap}{a:Addr}{items:Array Value}(x:ly h a items):IsTup h a items:=let⟨o,e,c,n⟩:=x;⟨o,e,c.1,n⟩
theorem ly.lt{h:Heap}{a:Addr}{items:Array Value}(x:ly h a items):a<h.objs.size:=let⟨_,e,_⟩:=x;aJ e
theorem ly.new(h:Heap)(items:Array Value):ly (h.push {cls:=.type "tuple",data:=.seq items}) h.objs.size items:=⟨_,aQ _ rfl,⟨rfl,rfl⟩,_,rfl⟩
section
variable(P:Program)(w:World)
def fH(H:Hp)(h:Heap)(a:Addr):HO->Prop
 |.lst xs=>xs.length<=sizeLine/\∃(its:List Value) (n:Nat),cu xs its/\h.get? a=some {cls:=.type "list",data:=.seq its.toArray n}
 |.tup xs=>xs.length<=sizeLine/\∃its:List Value,cu xs its/\ly h a its.toArray
 |.dK kvs=>kvs.length<=sizeLine/\(a==sysModules)=false/\∃vs,KV kvs vs/\h.DictOf (dq P w) a vs
 |.dT kvs=>kvs.length<=sizeLine/\(a==sysModules)=false/\∃xs:List (List dS×Addr×Value),
   Paired (λ(p:List dS×V) (q:List dS×Addr×Value)=>p.1=q.1/\H q.2.1=some (.tup (p.1.map kV))/\cJ p.2 q.2.2) kvs xs/\
   ∃o es ep,h.get? a=some o/\o.ExactDict/\o.data=.dict es ep/\es.toList=xs.map (entryOfKey (tupleKind (dq P w)))/\(xs.map (·.1)).Nodup
 |.set S n=>h.SetOf (intKind P w) a S n
 |.ins C dx fs=>H dx=some (.own a)/\fs.length<=1000/\dx≠a/\h.get? a=some (eh C dx)/\
   ∃mA,h.Ns1 dx mA/\(∀f,pG (fs.lookup f) (mA f))/\PySem.Within mA (fs.map (·.1))
 |.own _=>∃o,h.get? a=some o
 |.xd fs=>∃mA,h.Ns1 a mA/\∀f,pG (fs.lookup f) (mA f)
 |.rng lo hi=>∃t u v,h.get? a=some {cls:=.type "range",data:=.fields #[.int lo t,.int hi u,.int 1 v]}
 |.frz o u=>h.get? a=some o/\fH H h a u
 |.tbl ps=>h.get? a=some {cls:=.none,data:=.fields ps}
 |.met f x=>h.get? a=some (kI (.ref f) (.ref x))
 |.ext φ=>φ h/\(∃o,h.get? a=some o)/\∀h1 h2:Heap,φ h1->(∀o,h1.get? a=some o->h2.get? a=some o)->φ h2
def pj(H:Hp)(h:Heap):Prop:=∀a o,H a=some o->fH P w H h a o
end
section
variable{P:Program}{w:World}{H H':Hp}{h h':Heap}{a:Addr}{o:HO}
theorem fH.lt(x:fH P w H h a o):a<h.objs.size:=by
 cases o with
 |lst xs=>obtain⟨_,_,_,_,e⟩:=x;exact aJ e
 |tup xs=>obtain⟨_,_,_,p⟩:=x;exact p.lt
 |dK kvs=>obtain⟨_,_,_,_,o,_,_,e,_⟩:=x;exact aJ e
 |dT kvs=>obtain⟨_,_,_,_,o,_,_,e,_⟩:=x;exact aJ e
 |set S n=>obtain⟨o,_,_,_,e,_⟩:=x;exact aJ e
 |ins C dx fs=>obtain⟨_,_,_,e,_⟩:=x;exact aJ e
 |own y=>obtain⟨_,e⟩:=x;exact aJ e
 |xd fs=>obtain⟨_,⟨_,_,_,e,_⟩,_⟩:=x;exact aJ e
 |rng lo hi=>obtain⟨_,_,_,e⟩:=x;exact aJ e
 |frz ob u=>obtain⟨e,_⟩:=x;exact aJ e
 |tbl ps=>exact aJ (show h.get? a=some _ from x)
 |met f y=>exact aJ (show h.get? a=some _ from x)
 |ext φ=>obtain⟨_,⟨_,e⟩,_⟩:=x;exact aJ e
theorem Paired.mapP{α β:Type}{F G:α->β->Prop}:∀{l₁:List α} {l₂:List β},Paired F l₁ l₂->(∀a b,F a b->G a b)->Paired G l₁ l₂
 |_,_,.nil,_=>.nil
 |_,_,.cons r t,f=>.cons (f _ _ r) (Paired.mapP t f)
theorem fH.stay(x:fH P w H h a o)(k:∀b u,(b=a\/H b=some (.own a))->h.get? b=some u->h'.get? b=some u)
  (ho:∀b,H b=some (.own a)->H' b=some (.own a)) (ht:∀b xs,H b=some (.tup xs)->H' b=some (.tup xs)):fH P w H' h' a o:=by
 induction o with
 |lst xs=>obtain⟨z,its,n,r,e⟩:=x;exact⟨z,its,n,r,k _ _ (.inl rfl) e⟩
 |tup xs=>obtain⟨z,its,r,ob,e,c⟩:=x;exact⟨z,its,r,ob,k _ _ (.inl rfl) e,c⟩
 |dK kvs=>obtain⟨z,y,vs,r,ob,es,ep,e,c⟩:=x;exact⟨z,y,vs,r,ob,es,ep,k _ _ (.inl rfl) e,c⟩
 |dT kvs=>
  obtain⟨z,y,xs,r,ob,es,ep,e,c⟩:=x
  exact⟨z,y,xs,Paired.mapP r λp q z=>⟨z.1,ht _ _ z.2.1,z.2.2⟩,ob,es,ep,k _ _ (.inl rfl) e,c⟩
 |set S n=>obtain⟨ob,es,ep,t,e,c⟩:=x;exact⟨ob,es,ep,t,k _ _ (.inl rfl) e,c⟩
 |ins C dx fs=>
  obtain⟨d,z,ne,e,mA,⟨od,es,ep,e2,c⟩,r⟩:=x
  exact⟨ho _ d,z,ne,k _ _ (.inl rfl) e,mA,⟨od,es,ep,k _ _ (.inr d) e2,c⟩,r⟩
 |own y=>obtain⟨ob,e⟩:=x;exact⟨ob,k _ _ (.inl rfl) e⟩
 |xd fs=>obtain⟨mA,⟨od,es,ep,e,c⟩,r⟩:=x;exact⟨mA,⟨od,es,ep,k _ _ (.inl rfl) e,c⟩,r⟩
 |rng lo hi=>obtain⟨t,u,v,e⟩:=x;exact⟨t,u,v,k _ _ (.inl rfl) e⟩
 |frz ob u ih=>obtain⟨e,q⟩:=x;exact⟨k _ _ (.inl rfl) e,ih q⟩
 |tbl ps=>
  have e:h.get? a=some {cls:=.none,data:=.fields ps}:=x
  show h'.get? a=some {cls:=.none,data:=.fields ps}
  exact k a _ (.inl rfl) e
 |met f y=>
  have e:h.get? a=some (kI (.ref f) (.ref y)):=x
  show h'.get? a=some (kI (.ref f) (.ref y))
  exact k a _ (.inl rfl) e
 |ext φ=>obtain⟨p,⟨o,e⟩,st⟩:=x;exact⟨st _ _ p λo q=>k _ _ (.inl rfl) q,⟨o,k _ _ (.inl rfl) e⟩,st⟩
theorem pj.lt(x:pj P w H h)(e:H a=some o):a<h.objs.size:=(x a o e).lt
theorem pj.fresh(x:pj P w H h)(e:h.objs.size<=a):H a=none:=by
 cases q:H a with
 |none=>rfl
 |some u=>exact absurd (bw (x.lt q) e) (eN _)
theorem pj.kept(x:pj P w H h)(k:∀b u,h.get? b=some u->h'.get? b=some u):pj P w H h':=λa o e=>
 (x a o e).stay (λb u _ q=>k b u q) (λ_ q=>q) λ_ _ q=>q
theorem pj.laid(x:pj P w H h)(k:∀b u,h.get? b=some u->h'.get? b=some u)(hp:h.objs.size<=a)(new:fH P w (upd H a o) h' a o):pj P w (upd H a o) h':=λb u e=>by
 have hn:=x.fresh hp
 by_cases hb:b=a
 ·subst hb;rw[ag] at e;cases e;exact new
 ·rw[ax hb] at e
  exact(x b u e).stay (λc v _ q=>k c v q) (λc q=>by rw[ax (ak q hn)];exact q) λc xs q=>by rw[ax (ak q hn)];exact q
end
def Rd(H:Hp)(a:Addr)(u:HO):Prop:=H a=some u\/∃o,H a=some (.frz o u)
theorem Rd.ok{P:Program}{w:World}{H:Hp}{h:Heap}{a:Addr}{u:HO}(r:Rd H a u)(x:pj P w H h):fH P w H h a u:=by
 rcases r with r|⟨o,r⟩
 ·exact x a u r
 ·obtain⟨_,q⟩:=x a _ r
  exact q
def Lk:Option HO->Prop
 |some (.lst _)=>True
 |some (.dK _)=>True
 |some (.dT _)=>True
 |some (.set _ _)=>True
 |some (.ins _ _ _)=>True
 |some (.ext _)=>True
 |_=>False
section
variable{P:Program}{w:World}{H:Hp}{h h':Heap}{x e:Addr}{o':HO}
theorem pj.write(ok:pj P w H h)(mu:Lk (H x))(he:e=x\/H e=some (.own x))(k:∀b u,b≠e->h.get? b=some u->h'.get? b=some u)(heo:∃u,h'.get? e=some u)
  (new:fH P w (upd H x o') h' x o'):pj P w (upd H x o') h':=λb u q=>by
 have nown:∀c y,H c=some (.own y)->c≠x:=λc y r z=>by subst z;rw[r] at mu;exact mu
 have ntup:∀c xs,H c=some (.tup xs)->c≠x:=λc xs r z=>by subst z;rw[r] at mu;exact mu
 by_cases hb:b=x
 ·subst hb;rw[ag] at q;cases q;exact new
 ·rw[ax hb] at q
  by_cases hbe:b=e
  ·have q':H b=some (.own x):=by
    rcases he with z|z
    ·exact absurd (hbe.trans z) hb
    ·rw[hbe];exact z
   rw[q] at q';cases q'
   obtain⟨v,hv⟩:=heo
   exact⟨v,by rw[hbe];exact hv⟩
  ·refine(ok b u q).stay (λc v hc r=>k c v ?_ r) (λc r=>by rw[ax (nown c b r)];exact r) λc xs r=>by rw[ax (ntup c xs r)];exact r
   rcases hc with rfl|hc
   ·exact hbe
   ·rintro rfl
    rcases he with z|z
    ·exact nown c b hc z
    ·rw[hc] at z;cases z;exact hb rfl
end
structure Un(fs ex:List Addr)(H H':Hp)(h h':Heap):Prop where
 keep:∀b o,h.get? b=some o->H b=none->b∉fs->b∉ex->h'.get? b=some o
 slot:∀b o,h.get? b=some o->H b=none->b∈fs->b∉ex->∃sl,h'.get? b=some {o with slots:=sl}
 free:∀b o,h.get? b=some o->H b=none->b∉ex->H' b=none
 there:∀b o,h.get? b=some o->b∉ex->∃o',h'.get? b=some o'
 tups:∀b xs,H b=some (.tup xs)->H' b=some (.tup xs)
 frzs:∀b o u,H b=some (.frz o u)->H' b=some (.frz o u)
 tbls:∀b ps,H b=some (.tbl ps)->∃more,H' b=some (.tbl (ps++more))
section
variable{fs fs' ex ex':List Addr}{H H1 H2:Hp}{h h1 h2 h':Heap}{a x e:Addr}{o:HO}
theorem Un.any(u:Un fs ex H H1 h h1){b:Addr}{ob:Obj}(q:h.get? b=some ob)(n:H b=none)(hx:b∉ex):∃sl,h1.get? b=some {ob with slots:=sl}:=by
 by_cases hb:b∈fs
 ·exact u.slot b ob q n hb hx
 ·exact⟨ob.slots,u.keep b ob q n hb hx⟩
theorem Un.kept(k:∀b u,h.get? b=some u->h'.get? b=some u):Un fs ex H H h h':=
 ⟨λb ob q _ _ _=>k b ob q,λb ob q _ _ _=>⟨ob.slots,k b ob q⟩,λ_ _ _ n _=>n,λb ob q _=>⟨ob,k b ob q⟩,λ_ _ q=>q,λ_ _ _ q=>q,λ_ ps q=>⟨#[],by rw[q];simp⟩⟩
theorem Un.refl:Un fs ex H H h h:=Un.kept λ_ _ q=>q
theorem Un.laid(k:∀b u,h.get? b=some u->h'.get? b=some u)(hp:h.objs.size<=a)(hn:H a=none):Un fs ex H (upd H a o) h h' where
 keep:=λb u q _ _ _=>k b u q
 slot:=λb u q _ _ _=>⟨u.slots,k b u q⟩
 free:=λb u q n _=>by rw[ax (aV (bw (aJ q) hp))];exact n
 there:=λb u q _=>⟨u,k b u q⟩
 tups:=λb xs q=>by rw[ax (ak q hn)];exact q
 frzs:=λb u xs q=>by rw[ax (ak q hn)];exact q
 tbls:=λb ps q=>⟨#[],by rw[ax (ak q hn),q];simp⟩
theorem Un.write(mu:Lk (H x))(he:e=x\/H e=some (.own x))(k:∀b u,b≠e->h.get? b=some u->h'.get? b=some u)(heo:∃u,h'.get? e=some u):Un fs ex H (upd H x o) h h':=by
 have hx:∀b,H b=none->b≠x:=λb n z=>by subst z;rw[n] at mu;exact mu
 have hb:∀b,H b=none->b≠e:=λb n z=>by
  subst z
  rcases he with r|r
  ·exact hx b n r
  ·rw[n] at r;cases r
 have hm:∀b u,H b=some u->¬Lk (some u)->b≠x:=λb u q nm z=>by subst z;rw[q] at mu;exact nm mu
 refine⟨λb u q n _ _=>k b u (hb b n) q,λb u q n _ _=>⟨u.slots,k b u (hb b n) q⟩,λb u q n _=>by rw[ax (hx b n)];exact n,λb u q _=>?_,
  λb xs q=>by rw[ax (hm b _ q λz=>z)];exact q,λb u xs q=>by rw[ax (hm b _ q λz=>z)];exact q,λb ps q=>⟨#[],by rw[ax (hm b _ q λz=>z),q];simp⟩⟩
 by_cases hbe:b=e
 ·subst hbe;exact heo
 ·exact⟨u,k b u hbe q⟩
end
def Mi(h:Heap)(H:Hp):List Addr:=(iz h.objs.size).filter λa=>(H a).isSome
def wX(h:Heap)(H:Hp):Heap:=PySem.W.hideAll h (Mi h H)
theorem CW(h:Heap)(H:Hp):(wX h H).objs.size=h.objs.size:=PySem.W.hideAll_size _ _
theorem EJ{h:Heap}{H:Hp}{b:Addr}{o:Obj}(e:h.get? b=some o)(n:H b=none):(wX h H).get? b=some o:=
 PySem.W.hideAll_get _ e λhm=>by
  have q:(H b).isSome=true:=(eg.mp hm).2
  rw[n] at q;simp at q
theorem Hz{h:Heap}{H:Hp}{b:Addr}{o:Obj}(e:(wX h H).get? b=some o):h.get? b=some o/\H b=none:=by
 have e':h.get? b=some o:=PySem.W.of_hideAll (Mi h H) e
 refine⟨e',?_⟩
 cases q:H b with
 |none=>rfl
 |some x=>
  have hm:b∈Mi h H:=eg.mpr ⟨ko.mpr (aJ e'),by simp[q]⟩
  have z:(wX h H).get? b=none:=PySem.W.hideAll_none (Mi h H) hm
  rw[z] at e;cases e
structure Mod(K:Fg)(mg:Str->Option Value)(base:Heap):Prop where
 kin:K.In base
 glob:base.Ns mainGlobals mg
 blt:∃mb,base.Ns builtinsNs mb/\∀x:Str,x≠"__name__"->mb x=bootBuiltins x
 nolimit:base.NoLimit
structure Cx where
 prog:Program
 w:World
 K:Fg
 mg:Str->Option Value
 base:Heap
 A:Around
 N:List Str
 s₀:Shared
 H₀:Hp
 env:Env
 outer:List Env
 stack:List Env
 ex:List Addr
 fn:Str->Bool
 calm:Bool
 pn:List (Addr×Obj)
 xe:Value->Shared->Prop
def EG(l:List Env):List Addr:=l.filterMap (·.frame)
abbrev Cx.fs(X:Cx):List Addr:=EG X.outer
def Mf(sc:Scope)(x:Str):Prop:=sc.names.lookup x=some .local\/sc.names.lookup x=some .cell\/sc.names.lookup x=some .free
def Jf(sc:Scope)(x:Str):Prop:=sc.names.lookup x=some .local\/sc.names.lookup x=some .cell
def Mm(env:Env)(h:Heap)(m:Str->Option Value)(x:Str)(u:Value):Prop:=
 (env.kindOf x=some .local/\m x=some u)\/((env.kindOf x=some .cell\/env.kindOf x=some .free)/\∃c,env.cells.lookup x=some c/\h.IsCell c (some u))
structure Cx.Ok(X:Cx):Prop where
 mod:Mod X.K X.mg X.base
 kind:X.env.scope.kind=.function
 glob:X.env.globals=mainGlobals
 blt:X.env.builtins=builtinsNs
 above:X.s₀.heap.objs.size<=X.env.locals
 inj:∀x y c,X.env.cells.lookup x=some c->X.env.cells.lookup y=some c->x=y
 has:∀x,(X.env.kindOf x=some .cell\/X.env.kindOf x=some .free)->∃c,X.env.cells.lookup x=some c
 cab:∀x c,X.fn x=true->X.env.cells.lookup x=some c->X.s₀.heap.objs.size<=c
 hd:X.calm=true->X.A.handled=none
 frames:X.A.frames=some X.stack
 stk:X.stack=X.outer\/(X.stack=X.env::X.outer/\X.env.frame=some X.env.locals)
 exf:∀b∈X.ex,b≠X.env.locals/\∀x c,X.env.cells.lookup x=some c->c≠b
 bs:∀b o,X.base.get? b=some o->X.s₀.heap.get? b=some o/\X.H₀ b=none
 bsz:X.base.objs.size<=X.s₀.heap.objs.size
 noex:∀b o,X.base.get? b=some o->b∉X.ex
 exfs:∀b∈X.ex,b∉X.fs
 funs:X.s₀.heap.FunFrames X.base X.outer
 frf:∀b∈X.fs,X.H₀ b=none
structure bU(X:Cx)(pins:List (Addr×Obj))(σ:List (Option V))(H:Hp)(s:Shared):Prop where
 ok:X.Ok
 os:s.os=X.s₀.os
 bare:AllBare s.gens
 base:Un X.fs X.ex X.H₀ H X.s₀.heap s.heap
 loc:∃m,s.heap.Ns X.env.locals m/\∀(i:Nat) (x:Str) (v:V),X.N[i]?=some x->σ[i]?=some (some v)->Mf X.env.scope x->∃u,cJ v u/\Mm X.env s.heap m x u
 cell:∀x c,X.env.cells.lookup x=some c->∃v,s.heap.IsCell c v
 free:H X.env.locals=none
 freeC:∀x c,X.env.cells.lookup x=some c->H c=none
 pin:∀p∈X.pn++pins,s.heap.get? p.1=some p.2/\H p.1=none/\p.1≠X.env.locals/\p.1∉X.fs/\∀v,p.2.data≠.cell v
 hok:pj X.prog X.w H s.heap
 len:σ.length=X.N.length
section
variable{X:Cx}{pins:List (Addr×Obj)}{σ:List (Option V)}{H H':Hp}{s:Shared}{h':Heap}
theorem Cx.Ok.nofr(ok:X.Ok){b:Addr}{o:Obj}(e:X.base.get? b=some o):b∉X.fs:=λhb=>by
 have:=(ok.funs.mem hb).1
 rw[e] at this;cases this
theorem bU.bs(I:bU X pins σ H s):∀b o,X.base.get? b=some o->s.heap.get? b=some o/\H b=none:=λb o e=>
 ⟨I.base.keep b o (I.ok.bs b o e).1 (I.ok.bs b o e).2 (I.ok.nofr e) (I.ok.noex b o e),I.base.free b o (I.ok.bs b o e).1 (I.ok.bs b o e).2 (I.ok.noex b o e)⟩
theorem bU.bk(I:bU X pins σ H s):∀b o,X.base.get? b=some o->s.heap.get? b=some o:=λb o e=>(I.bs b o e).1
theorem bU.mod(I:bU X pins σ H s):Mod X.K X.mg X.base:=I.ok.mod
theorem bU.kIn(I:bU X pins σ H s):X.K.In s.heap:=I.ok.mod.kin.keeps I.bk
theorem bU.lt(I:bU X pins σ H s):X.env.locals<s.heap.objs.size:=let⟨_,hn,_⟩:=I.loc;hn.lt
theorem bU.sz(I:bU X pins σ H s):X.s₀.heap.objs.size<=s.heap.objs.size:=bx I.ok.above (dW I.lt)
theorem bU.nofs(I:bU X pins σ H s){a:Addr}(h:s.heap.objs.size<=a):a∉X.fs:=λhb=>by
 obtain⟨_,o,ho,_⟩:=I.ok.funs.mem hb
 exact absurd (bw (aJ ho) (bx I.sz h)) (eN _)
theorem bU.cne(I:bU X pins σ H s):∀x c,X.env.cells.lookup x=some c->c≠X.env.locals:=λx c e z=>by
 obtain⟨v,o,ho,hd⟩:=I.cell x c e
 obtain⟨m,⟨o',es,ep,ho',hd',_⟩,_⟩:=I.loc
 rw[z,ho'] at ho;cases ho;rw[hd'] at hd;cases hd
theorem bU.funs(I:bU X pins σ H s):s.heap.FunFrames X.base X.outer:=by
 have all:∀(l:List Env),(∀b∈EG l,b∈X.fs)->X.s₀.heap.FunFrames X.base l->s.heap.FunFrames X.base l:=by
  intro l
  induction l with
  |nil=>intro _ _;trivial
  |cons env r ih=>
   intro hs hl
   obtain⟨hk,⟨L,o,hf,hn,ho,hd⟩,hr⟩:=hl
   have hL:L∈X.fs:=hs L (by unfold EG;rw[jV,hf];exact aP)
   obtain⟨sl,e⟩:=I.base.slot L o ho (I.ok.frf L hL) hL λz=>I.ok.exfs L z hL
   exact⟨hk,⟨L,_,hf,hn,e,hd⟩,ih (λb hb=>hs b (by unfold EG;rw[jV,hf];exact bu _ hb)) hr⟩
 exact all X.outer (λ_ hb=>hb) I.ok.funs
theorem bU.stack(I:bU X pins σ H s):s.heap.FunFrames X.base X.stack:=by
 rcases I.ok.stk with e|⟨e,hf⟩
 ·rw[e];exact I.funs
 ·rw[e]
  obtain⟨m,hn,_⟩:=I.loc
  refine .cons (by rw[I.ok.kind];decide) hf hn ?_ I.funs
  exact Heap.get?_none_of_le (bx I.ok.bsz I.ok.above)
theorem bU.stkSub(I:bU X pins σ H s):∀b∈EG X.stack,b∈X.env.locals::X.fs:=λb hb=>by
 rcases I.ok.stk with e|⟨e,hf⟩
 ·rw[e] at hb;exact bu _ hb
 ·rw[e] at hb
  unfold EG at hb
  rw[jV,hf] at hb
  exact hb
theorem bU.stkFree(I:bU X pins σ H s):∀b∈EG X.stack,H b=none:=λb hb=>by
 rcases aN.mp (I.stkSub b hb) with e|hb
 ·rw[e];exact I.free
 ·obtain⟨_,o,ho,_⟩:=I.ok.funs.mem hb
  exact I.base.free b o ho (I.ok.frf b hb) λz=>I.ok.exfs b z hb
theorem bU.step{g':Array GenState}{t':Nat}{d':Drawn}{ch:List Addr}(I:bU X pins σ H s)
  (hch:∀b∈ch,(b∈X.ex\/X.s₀.heap.objs.size<=b)/\b≠X.env.locals/\(∀x c,X.env.cells.lookup x=some c->c≠b)/\∀p∈X.pn++pins,p.1≠b)
  (keep:∀b o,b≠X.env.locals->b∉X.fs->b∉ch->s.heap.get? b=some o->H b=none->h'.get? b=some o)
  (slot:∀b o,b≠X.env.locals->b∈X.fs->b∉ch->s.heap.get? b=some o->H b=none->∃sl,h'.get? b=some {o with slots:=sl}) (free:∀b o,b∉ch->s.heap.get? b=some o->H b=none->H' b=none)
  (there:∀b o,b∉ch->s.heap.get? b=some o->∃o',h'.get? b=some o')
  (tups:∀b xs,H b=some (.tup xs)->H' b=some (.tup xs)) (frzs:∀b o u,H b=some (.frz o u)->H' b=some (.frz o u)) (tbls:∀b ps,H b=some (.tbl ps)->∃more,H' b=some (.tbl (ps++more)))
  (ns:∀m,s.heap.Ns X.env.locals m->h'.Ns X.env.locals m) (hok:pj X.prog X.w H' h') (hg:AllBare g') :
  bU X pins σ H' {s with heap:=h',gens:=g',drawn:=d',toks:=t'}:=by
 have neL:∀b o,X.s₀.heap.get? b=some o->b≠X.env.locals:=λb o e=>aV (bw (aJ e) I.ok.above)
 have neC:∀b o,X.s₀.heap.get? b=some o->b∉X.ex->b∉ch:=λb o e hx hb=>by
  rcases(hch b hb).1 with z|z
  ·exact hx z
  ·exact absurd (bw (aJ e) z) (eN _)
 have cellK:∀x c,X.env.cells.lookup x=some c->∀v,s.heap.IsCell c v->h'.IsCell c v:=λx c e v ⟨o,ho,hd⟩=>by
  have nch:c∉ch:=λz=>(hch c z).2.2.1 x c e rfl
  by_cases hc:c∈X.fs
  ·obtain⟨sl,q⟩:=slot c o (I.cne x c e) hc nch ho (I.freeC x c e)
   exact⟨_,q,hd⟩
  ·exact⟨o,keep c o (I.cne x c e) hc nch ho (I.freeC x c e),hd⟩
 refine⟨I.ok,I.os,hg,⟨λb o e n hb hx=>?_,λb o e n hb hx=>?_,λb o e n hx=>?_,λb o e hx=>?_,λb xs e=>tups b xs (I.base.tups b xs e),λb o xs e=>frzs b o xs (I.base.frzs b o xs e),λb ps e=>?_⟩,?_,λx c e=>?_,?_,λx c e=>?_,λp hp=>?_,hok,I.len⟩
 ·exact keep b o (neL b o e) hb (neC b o e hx) (I.base.keep b o e n hb hx) (I.base.free b o e n hx)
 ·obtain⟨sl,e1⟩:=I.base.slot b o e n hb hx
  obtain⟨sl',e2⟩:=slot b _ (neL b o e) hb (neC b o e hx) e1 (I.base.free b o e n hx)
  exact⟨sl',e2⟩
 ·obtain⟨o',e1⟩:=I.base.there b o e hx
  exact free b o' (neC b o e hx) e1 (I.base.free b o e n hx)
 ·obtain⟨o',e1⟩:=I.base.there b o e hx
  exact there b o' (neC b o e hx) e1
 ·obtain⟨m1,e1⟩:=I.base.tbls b ps e
  obtain⟨m2,e2⟩:=tbls b _ e1
  exact⟨m1++m2,by rw[e2,Array.append_assoc]⟩
 ·obtain⟨m,hn,hl⟩:=I.loc
  refine⟨m,ns m hn,λi x v e1 e2 e3=>?_⟩
  obtain⟨u,r,l⟩:=hl i x v e1 e2 e3
  refine⟨u,r,?_⟩
  rcases l with l|⟨k,c,e,z⟩
  ·exact .inl l
  ·exact .inr ⟨k,c,e,cellK x c e _ z⟩
 ·obtain⟨v,z⟩:=I.cell x c e
  exact⟨v,cellK x c e v z⟩
 ·obtain⟨m,⟨o,_,_,ho,_⟩,_⟩:=I.loc
  exact free _ o (λz=>(hch _ z).2.1 rfl) ho I.free
 ·obtain⟨v,o,ho,hd⟩:=I.cell x c e
  exact free c o (λz=>(hch c z).2.2.1 x c e rfl) ho (I.freeC x c e)
 ·obtain⟨e,n,ne,nf,d⟩:=I.pin p hp
  have nch:p.1∉ch:=λz=>(hch p.1 z).2.2.2 p hp rfl
  exact⟨keep p.1 p.2 ne nf nch e n,free p.1 p.2 nch e n,ne,nf,d⟩
theorem bU.un{t':Nat}(I:bU X pins σ H s)(u:Un X.fs [] H H' s.heap h')(hok:pj X.prog X.w H' h'):bU X pins σ H' {s with heap:=h',toks:=t'}:=by
 obtain⟨m,⟨o,es,ep,ho,r⟩,_⟩:=id I.loc
 obtain⟨sl,hL⟩:=u.any ho I.free (by simp)
 exact I.step (g':=s.gens) (d':=s.drawn) (ch:=[]) (λ_ z=>nomatch z) (λb o _ hb _ e n=>u.keep b o e n hb (by simp)) (λb o _ hb _ e n=>u.slot b o e n hb (by simp)) (λb o _ e n=>u.free b o e n (by simp)) (λb o _ e=>u.there b o e (by simp)) u.tups u.frzs u.tbls (λm' hm=>by
  obtain⟨o',es',ep',ho',r'⟩:=hm
  rw[ho] at ho';cases ho'
  exact⟨_,es',ep',hL,r'⟩) hok I.bare
theorem bU.call{g':Array GenState}{t':Nat}{d':Drawn}{ch:List Addr}(I:bU X pins σ H s)(u:Un (EG X.stack) ch H H' s.heap h')(hok:pj X.prog X.w H' h')(hg:AllBare g')
  (hch:∀b∈ch,(b∈X.ex\/X.s₀.heap.objs.size<=b)/\b≠X.env.locals/\(∀x c,X.env.cells.lookup x=some c->c≠b)/\∀p∈X.pn++pins,p.1≠b) :
  bU X pins σ H' {s with heap:=h',gens:=g',drawn:=d',toks:=t'}:=by
 obtain⟨m,⟨o,es,ep,ho,r⟩,_⟩:=id I.loc
 obtain⟨sl,hL⟩:=u.any ho I.free λz=>(hch _ z).2.1 rfl
 exact I.step (ch:=ch) hch (λb o hL hb hc e n=>u.keep b o e n (λz=>(aN.mp (I.stkSub b z)).elim hL hb) hc) (λb o _ _ hc e n=>u.any e n hc) (λb o hc e n=>u.free b o e n hc) (λb o hc e=>u.there b o e hc) u.tups u.frzs u.tbls (λm' hm=>by
  obtain⟨o',es',ep',ho',r'⟩:=hm
  rw[ho] at ho';cases ho'
  exact⟨_,es',ep',hL,r'⟩) hok hg
theorem bU.turned{t':Nat}{it:Addr}(I:bU X pins σ H s)(k:∀b o,b≠it->s.heap.get? b=some o->h'.get? b=some o)(hn:H it=none)(hL:it≠X.env.locals)
  (h1:it∈X.ex\/X.s₀.heap.objs.size<=it) (h2:∀x c,X.env.cells.lookup x=some c->c≠it) (h3:∀p∈X.pn++pins,p.1≠it):bU X pins σ H {s with heap:=h',toks:=t'}:=by
 have nit:∀b u,H b=some u->b≠it:=λb u e z=>by rw[z,hn] at e;cases e
 refine I.step (g':=s.gens) (d':=s.drawn) (ch:=[it]) (λb hb=>?_) (λb o _ _ hc e _=>k b o (λz=>hc (by simp[z])) e) (λb o _ _ hc e _=>⟨o.slots,k b o (λz=>hc (by simp[z])) e⟩) (λ_ _ _ _ n=>n)
  (λb o hc e=>⟨o,k b o (λz=>hc (by simp[z])) e⟩) (λ_ _ e=>e) (λ_ _ _ e=>e) (λb ps e=>⟨#[],by rw[e];simp⟩) (λm hm=>?_) (λb u e=>?_) I.bare
 ·have e:b=it:=by simpa using hb
  subst e
  exact⟨h1,hL,h2,h3⟩
 ·obtain⟨o,es,ep,ho,r⟩:=hm
  exact⟨o,es,ep,k _ o (Ne.symm hL) ho,r⟩
 ·refine(I.hok b u e).stay (λc v hc q=>k c v ?_ q) (λ_ q=>q) λ_ _ q=>q
  rcases hc with z|z
  ·rw[z];exact nit b u e
  ·exact nit c _ z
theorem bU.tok(I:bU X pins σ H s)(t:Nat):bU X pins σ H {s with toks:=t}:=I.un (h':=s.heap) (t':=t) Un.refl I.hok
theorem bU.kept{t':Nat}(I:bU X pins σ H s)(k:∀b u,s.heap.get? b=some u->h'.get? b=some u):bU X pins σ H {s with heap:=h',toks:=t'}:=I.un (Un.kept k) (I.hok.kept k)
theorem bU.laid{a:Addr}{o:HO}{t':Nat}(I:bU X pins σ H s)(k:∀b u,s.heap.get? b=some u->h'.get? b=some u)(hp:s.heap.objs.size<=a)(new:fH X.prog X.w (upd H a o) h' a o) :
  bU X pins σ (upd H a o) {s with heap:=h',toks:=t'}:=I.un (Un.laid k hp (I.hok.fresh hp)) (I.hok.laid k hp new)
theorem bU.write{x e:Addr}{o:HO}{t':Nat}(I:bU X pins σ H s)(mu:Lk (H x))(he:e=x\/H e=some (.own x))(k:∀b u,b≠e->s.heap.get? b=some u->h'.get? b=some u)(heo:∃u,h'.get? e=some u)
  (new:fH X.prog X.w (upd H x o) h' x o):bU X pins σ (upd H x o) {s with heap:=h',toks:=t'}:=I.un (Un.write mu he k heo) (I.hok.write mu he k heo new)
theorem bU.pins_of{pins':List (Addr×Obj)}(I:bU X pins σ H s)(h:∀p∈pins',s.heap.get? p.1=some p.2/\H p.1=none/\p.1≠X.env.locals/\p.1∉X.fs/\∀v,p.2.data≠.cell v):bU X pins' σ H s:=
 ⟨I.ok,I.os,I.bare,I.base,I.loc,I.cell,I.free,I.freeC,λp hp=>(aE.mp hp).elim (λz=>I.pin p (bt _ z)) (h p),I.hok,I.len⟩
theorem yG{N:List Str}(hN:N.Nodup){i j:Nat}{x:Str}(a:N[i]?=some x)(b:N[j]?=some x):i=j:=by
 obtain⟨h1,e1⟩:=af.mp a
 obtain⟨h2,e2⟩:=af.mp b
 exact(fU hN).mp (e1.trans e2.symm)
theorem vZ{M:Model}{A:Around}{E:Value->Shared->Prop}{i:Nat}{x:Str}{v:V}{u:Value}{Q:Unit->Shared->Prop}(I:bU X pins σ H s)(hN:X.N.Nodup)(hi:X.N[i]?=some x)(hx:Jf X.env.scope x)(r:cJ v u)
  (h:∀s',bU X pins (σ.set i (some v)) H s'->(∃a,Heap.SameBut a s.heap s'.heap/\(a=X.env.locals\/X.env.cells.lookup x=some a))->Q () s') (hf:X.fn x=true\/X.env.scope.names.lookup x=some .local:=by first|exact .inl rfl|exact .inr rfl|assumption):wpAny M A (storeName X.env x u) Q E s:=by
 obtain⟨m,hn,hl⟩:=id I.loc
 have hcls:(X.env.scope.kind==.class || (X.env.scope.kind==.module&&X.env.locals != X.env.globals))=false:=by rw[I.ok.kind];rfl
 have hiσ:i<σ.length:=by rw[I.len];exact(af.mp hi).1
 have cne:=I.cne
 have tracked:∀{a:Addr} {h':Heap},(∃o,s.heap.get? a=some o/\H a=none)->Heap.SameBut a s.heap h'->pj X.prog X.w H h':=λ{a h'} ha hs b ob e=>by
  obtain⟨_,_,hfree⟩:=ha
  refine(I.hok b ob e).stay (λc w' hc q=>(hs.2 c ?_).trans q) (λ_ q=>q) λ_ _ q=>q
  rintro rfl
  rcases hc with rfl|hc
  ·rw[hfree] at e;cases e
  ·rw[hfree] at hc;cases hc
 rcases hx with hk|hk
 ·refine wpAny_storeName_local hk hn (λh' hn' hs=>?_) hcls
  obtain⟨oL,_,_,hoL,_⟩:=id hn
  refine h _ ⟨I.ok,I.os,I.bare,⟨λb o e n hb hx=>?_,λb o e n hb hx=>?_,I.base.free,λb o e hx=>?_,I.base.tups,I.base.frzs,I.base.tbls⟩,⟨_,hn',λj y v' e1 e2 e3=>?_⟩,λy c e=>?_,I.free,I.freeC,λp hp=>?_,tracked ⟨oL,hoL,I.free⟩ hs,by simpa using I.len⟩ ⟨_,hs,.inl rfl⟩
  ·exact(hs.2 b (aV (bw (aJ e) I.ok.above))).trans (I.base.keep b o e n hb hx)
  ·obtain⟨sl,e1⟩:=I.base.slot b o e n hb hx
   exact⟨sl,(hs.2 b (aV (bw (aJ e) I.ok.above))).trans e1⟩
  ·obtain⟨o',e1⟩:=I.base.there b o e hx
   exact⟨o',(hs.2 b (aV (bw (aJ e) I.ok.above))).trans e1⟩
  ·by_cases hj:j=i
   ·subst hj
    rw[hi] at e1;cases e1
    rw[bj hiσ] at e2
    cases e2
    exact⟨u,r,.inl ⟨hk,by simp⟩⟩
   ·rw[bJ (Ne.symm hj)] at e2
    obtain⟨u',r',q⟩:=hl j y v' e1 e2 e3
    refine⟨u',r',?_⟩
    rcases q with⟨k,e⟩|⟨k,c,e,z⟩
    ·refine .inl ⟨k,?_⟩
     have:y≠x:=λe=>hj (yG hN e1 (e ▸ hi))
     simp[this,e]
    ·exact .inr ⟨k,c,e,z.sameBut hs (cne y c e)⟩
  ·obtain⟨w',z⟩:=I.cell y c e
   exact⟨w',z.sameBut hs (cne y c e)⟩
  ·obtain⟨e,n,ne,nf,d⟩:=I.pin p hp
   exact⟨(hs.2 p.1 ne).trans e,n,ne,nf,d⟩
 ·have hfn:X.fn x=true:=by
   rcases hf with z|z
   ·exact z
   ·rw[z] at hk;cases hk
  obtain⟨c,hc⟩:=I.ok.has x (.inl hk)
  obtain⟨w',z⟩:=I.cell x c hc
  refine wpAny_storeName_cell I.ok.kind hk hc z (λh' hc' hs=>?_)
  obtain⟨oc,hoc,hocd⟩:=id z
  refine h {s with heap:=h'} ⟨I.ok,I.os,I.bare,⟨λb o e n hb hx=>?_,λb o e n hb hx=>?_,I.base.free,λb o e hx=>?_,I.base.tups,I.base.frzs,I.base.tbls⟩,⟨m,hn.sameBut hs (Ne.symm (cne x c hc)),λj y v' e1 e2 e3=>?_⟩,λy c' e=>?_,I.free,I.freeC,λp hp=>?_,tracked ⟨oc,hoc,I.freeC x c hc⟩ hs,by simpa using I.len⟩ ⟨c,hs,.inr hc⟩
  ·exact(hs.2 b (aV (bw (aJ e) (I.ok.cab x c hfn hc)))).trans (I.base.keep b o e n hb hx)
  ·obtain⟨sl,e1⟩:=I.base.slot b o e n hb hx
   exact⟨sl,(hs.2 b (aV (bw (aJ e) (I.ok.cab x c hfn hc)))).trans e1⟩
  ·obtain⟨o',e1⟩:=I.base.there b o e hx
   exact⟨o',(hs.2 b (aV (bw (aJ e) (I.ok.cab x c hfn hc)))).trans e1⟩
  ·by_cases hj:j=i
   ·subst hj
    rw[hi] at e1;cases e1
    rw[bj hiσ] at e2
    cases e2
    exact⟨u,r,.inr ⟨.inl hk,c,hc,hc'⟩⟩
   ·rw[bJ (Ne.symm hj)] at e2
    obtain⟨u',r',q⟩:=hl j y v' e1 e2 e3
    refine⟨u',r',?_⟩
    rcases q with q|⟨k,c',e,z'⟩
    ·exact .inl q
    ·refine .inr ⟨k,c',e,z'.sameBut hs ?_⟩
     rintro rfl
     exact hj (yG hN e1 (I.ok.inj _ _ _ e hc ▸ hi))
  ·by_cases hcc:c'=c
   ·subst hcc;exact⟨_,hc'⟩
   ·obtain⟨w2,z2⟩:=I.cell y c' e
    exact⟨w2,z2.sameBut hs hcc⟩
  ·obtain⟨e,n,ne,nf,d⟩:=I.pin p hp
   refine⟨(hs.2 p.1 ?_).trans e,n,ne,nf,d⟩
   intro q
   rw[q,hoc] at e
   have q':oc=p.2:=Option.some.inj e
   exact d w' (by rw[<-q'];exact hocd)
theorem y9{M:Model}{A:Around}{E:Value->Shared->Prop}{i:Nat}{x:Str}{v:V}{u:Value}{Q:Unit->Shared->Prop}(I:bU X pins σ H s)(hN:X.N.Nodup)(hi:X.N[i]?=some x)(hx:Jf X.env.scope x)(r:cJ v u)
  (h:∀s',bU X pins (σ.set i (some v)) H s'->Q () s') (hf:X.fn x=true\/X.env.scope.names.lookup x=some .local:=by first|exact .inl rfl|exact .inr rfl|assumption):wpAny M A (storeName X.env x u) Q E s:=
 vZ I hN hi hx r (λs' I' _=>h s' I') hf
theorem bU.call'{s':Shared}{ch:List Addr}(I:bU X pins σ H s)(ho:s'.os=s.os)(u:Un (EG X.stack) ch H H' s.heap s'.heap)(hok:pj X.prog X.w H' s'.heap)(hg:AllBare s'.gens)
  (hch:∀b∈ch,(b∈X.ex\/X.s₀.heap.objs.size<=b)/\b≠X.env.locals/\(∀x c,X.env.cells.lookup x=some c->c≠b)/\∀p∈X.pn++pins,p.1≠b):bU X pins σ H' s':=by
 obtain⟨h',g',d',t',o'⟩:=s'
 have e:o'=s.os:=ho
 subst e
 exact I.call (g':=g') (t':=t') (d':=d') u hok hg hch
end
abbrev XK:=Value->Option Addr->Hp->Prop
abbrev St:=List (Option V)
abbrev VK:=V->Hp->Prop
abbrev TE:=St->Hp->VK->Prop
abbrev TT:=St->Hp->(Bool->Hp->Prop)->Prop
abbrev TA:=St->Hp->(List V->Hp->Prop)->Prop
structure nh where
 nx:St->Hp->Prop
 rt:VK
 bk:St->Hp->Prop:=λ_ _=>False
 ct:St->Hp->Prop:=λ_ _=>False
abbrev TS:=nh->St->Hp->Prop
def EP(X:Cx)(pins:List (Addr×Obj))(σ:St)(Q:VK)(u:Value)(s':Shared):Prop:=∃v H',bU X pins σ H' s'/\cJ v u/\Q v H'
def TP(X:Cx)(pins:List (Addr×Obj))(σ:St)(Q:Bool->Hp->Prop)(b:Bool)(s':Shared):Prop:=∃H',bU X pins σ H' s'/\Q b H'
def AP(X:Cx)(pins:List (Addr×Obj))(σ:St)(Q:List V->Hp->Prop)(us:List Value)(s':Shared):Prop:=∃vs H',bU X pins σ H' s'/\cu vs us/\Q vs H'
def SP(X:Cx)(pins:List (Addr×Obj))(D:nh)(f:Flow)(s':Shared):Prop:=
 match f with
 |.next=>∃σ' H',bU X pins σ' H' s'/\D.nx σ' H'
 |.brk=>∃σ' H',bU X pins σ' H' s'/\D.bk σ' H'
 |.cont=>∃σ' H',bU X pins σ' H' s'/\D.ct σ' H'
 |.ret u=>∃v σ' H',bU X pins σ' H' s'/\cJ v u/\D.rt v H'
def PE(X:Cx)(e:Expr)(t:TE):Prop:=
 ∀(pins:List (Addr×Obj)) (s:Shared) (σ:St) (H:Hp) (Q:VK),bU X pins σ H s->t σ H Q->wpAny (model X.prog X.w) X.A (eval e X.env) (EP X pins σ Q) X.xe s
def PT(X:Cx)(e:Expr)(t:TT):Prop:=
 ∀(pins:List (Addr×Obj)) (s:Shared) (σ:St) (H:Hp) (Q:Bool->Hp->Prop),bU X pins σ H s->t σ H Q->wpAny (model X.prog X.w) X.A (isTrue e X.env (eval e X.env)) (TP X pins σ Q) X.xe s
def PW(X:Cx)(e:Expr)(t:TT):Prop:=
 ∀(whole:Sem Value) (pins:List (Addr×Obj)) (s:Shared) (σ:St) (H:Hp) (Q:Bool->Hp->Prop),bU X pins σ H s->t σ H Q->wpAny (model X.prog X.w) X.A (isTrue e X.env whole) (TP X pins σ Q) X.xe s
theorem PW.pt{X:Cx}{e:Expr}{t:TT}(h:PW X e t):PT X e t:=h _
def PA(X:Cx)(es:List Expr)(t:TA):Prop:=
 ∀(pos:Pos) (pins:List (Addr×Obj)) (s:Shared) (σ:St) (H:Hp) (Q:List V->Hp->Prop),bU X pins σ H s->t σ H Q->wpAny (model X.prog X.w) X.A (spliced (backTo pos (starEach es X.env))) (AP X pins σ Q) X.xe s
def PS(X:Cx)(st:Stmt)(t:TS):Prop:=
 ∀(pins:List (Addr×Obj)) (s:Shared) (σ:St) (H:Hp) (D:nh),bU X pins σ H s->t D σ H->wpAny (model X.prog X.w) X.A (exec st X.env) (SP X pins D) X.xe s
def jQ(X:Cx)(st:List Stmt)(t:TS):Prop:=
 ∀(pins:List (Addr×Obj)) (s:Shared) (σ:St) (H:Hp) (D:nh),bU X pins σ H s->t D σ H->wpAny (model X.prog X.w) X.A (execs st X.env) (SP X pins D) X.xe s
theorem gd{α:Type}{t:Sem α}{Q Q':α->Shared->Prop}{M:Model}{A:Around}{E:Value->Shared->Prop}{s:Shared}(h:wpAny M A t Q E s)(hQ:∀a s,Q a s->Q' a s):wpAny M A t Q' E s:=wpAny_mono h hQ λ_ _ x=>x
section
variable{X:Cx}
def ar(i:Nat):TE:=λσ H Q=>∃v,σ[i]?=some (some v)/\Q v H
def tC(v:V):TE:=λ_ H Q=>Q v H
theorem Kq{i:Nat}{x:Str}{pos:Pos}(hN:X.N[i]?=some x)(hv:Mf X.env.scope x)(hd:(x==("__debug__":Str))=false:=by decide)(hcd:(x==("__classdict__":Str))=false:=by decide):PE X (.Name x pos) (ar i):=by
 intro pins s σ H Q I h
 obtain⟨v,e,h⟩:=h
 obtain⟨m,hn,hl⟩:=I.loc
 obtain⟨u,r,l⟩:=hl i x v hN e hv
 have fin:EP X pins σ Q u s:=⟨v,H,I,r,h⟩
 rcases l with⟨hk,hm⟩|⟨hk,c,hc,hcell⟩
 ·exact wpAny_Name (wpAny_loadName_local I.ok.kind hk hn hm fin) hd
 ·rcases hk with hk|hk
  ·exact wpAny_Name (wpAny_loadName_cell I.ok.kind hk hc hcell fin) hd
  ·exact wpAny_Name (wpAny_loadName_free I.ok.kind hk hc hcell fin hcd) hd
theorem Kl{i j pos}:PE X (.Constant (.int i) j pos) (tC (.int i)):=λ_ _ _ H _ I h=>wpAny_Constant_int ⟨.int i,H,I.tok _,⟨_,rfl⟩,h⟩
theorem LK{b j pos}:PE X (.Constant (.bool b) j pos) (tC (.bl b)):=λ_ _ _ H _ I h=>Constant_bool ⟨.bl b,H,I,rfl,h⟩
theorem Kn{j pos}:PE X (.Constant .none j pos) (tC .non):=λ_ _ _ H _ I h=>Constant_none ⟨.non,H,I,rfl,h⟩
theorem Ko{x j pos}:PE X (.Constant (.str x) j pos) (tC (.str x)):=λ_ _ _ H _ I h=>Calls.Constant_str ⟨.str x,H,I.tok _,⟨_,rfl⟩,h⟩
def Gl(X:Cx)(x:Str):Prop:=X.env.kindOf x=some .globalImplicit
theorem BG{E:Value->Shared->Prop}{pins:List (Addr×Obj)}{s:Shared}{σ:St}{H:Hp}{x:Str}{u:Value}{pos:Pos}{Q:Value->Shared->Prop}(I:bU X pins σ H s)(hg:Gl X x)(hm:X.mg x=some u)(h:Q u s)
  (hd:(x==("__debug__":Str))=false:=by decide):wpAny (model X.prog X.w) X.A (eval (.Name x pos) X.env) Q E s:=
 Calls.Name_function_global I.ok.kind hg (Calls.loadGlobal_global (by rw[I.ok.glob];exact I.mod.glob.keeps I.bk) hm h) hd
theorem lB{E:Value->Shared->Prop}{pins:List (Addr×Obj)}{s:Shared}{σ:St}{H:Hp}{x:Str}{u:Value}{pos:Pos}{Q:Value->Shared->Prop}(I:bU X pins σ H s)(hg:Gl X x)(hm:X.mg x=none)(hv:bootBuiltins x=some u)(h:Q u s)
  (hn:x≠"__name__":=by decide) (hd:(x==("__debug__":Str))=false:=by decide):wpAny (model X.prog X.w) X.A (eval (.Name x pos) X.env) Q E s:=by
 obtain⟨mb,h1,h2⟩:=I.mod.blt
 exact Calls.Name_function_global I.ok.kind hg (Calls.loadGlobal_builtin (by rw[I.ok.glob];exact I.mod.glob.keeps I.bk) hm (by rw[I.ok.blt];exact h1.keeps I.bk) ((h2 x hn).trans hv) h) hd
theorem HP{x:Str}{v:V}{u:Value}{pos:Pos}(hg:Gl X x)(hm:X.mg x=none)(hv:bootBuiltins x=some u)(r:cJ v u)(hn:x≠"__name__":=by decide)(hd:(x==("__debug__":Str))=false:=by decide):PE X (.Name x pos) (tC v):=
 λ_ _ _ H _ I h=>lB I hg hm hv ⟨v,H,I,r,h⟩ hn hd
variable{a b:Expr}{ta tb:TE}{pos:Pos}
def tB(t:TE):TT:=λσ H Q=>t σ H λx H1=>∃c,x=.bl c/\Q c H1
theorem KB{e:Expr}{t:TE}(h:PE X e t)(he:∀whole,isTrue e X.env whole=(do let v <-whole;standAt e.pos;holding [v] (truthy v)):=by intro _;rfl):PT X e (tB t):=by
 intro pins s σ H Q I hw
 refine isTrue_plain (gd (h pins s σ H _ I hw) λv s1 ⟨x,H1,I1,r1,q1⟩=>?_) (he _)
 obtain⟨d,rfl,q⟩:=q1
 cases r1
 exact wpAny_truthy_bool ⟨H1,I1,q⟩
variable{tA tB':TT}{rest:List Expr}
def qj(t u:TT):TT:=λσ H Q=>t σ H λc H1=>if c=true then u σ H1 Q else Q false H1
def Mb(t u:TT):TT:=λσ H Q=>t σ H λc H1=>if c=true then Q true H1 else u σ H1 Q
theorem Iq(ha:PT X a tA):PW X (.BoolOp .And [a] pos) tA:=by
 intro wh pins s σ H Q I h
 refine isTrue_and (gd (ha pins s σ H Q I h) λc s1 e=>?_)
 cases c with
 |true=>exact isTrue_and_nil e
 |false=>exact e
theorem KD(ha:PT X a tA):PW X (.BoolOp .Or [a] pos) tA:=by
 intro wh pins s σ H Q I h
 refine isTrue_or (gd (ha pins s σ H Q I h) λc s1 e=>?_)
 cases c with
 |false=>exact isTrue_or_nil e
 |true=>exact e
theorem KC(ha:PT X a tA)(hb:PW X (.BoolOp .And (b::rest) pos) tB'):PW X (.BoolOp .And (a::b::rest) pos) (qj tA tB'):=by
 intro wh pins s σ H Q I h
 refine isTrue_and (gd (ha pins s σ H _ I h) λc s1 ⟨H1,I1,q1⟩=>?_)
 cases c with
 |true=>exact hb wh pins s1 σ H1 Q I1 q1
 |false=>exact⟨H1,I1,q1⟩
theorem LS(ha:PT X a tA)(hb:PW X (.BoolOp .Or (b::rest) pos) tB'):PW X (.BoolOp .Or (a::b::rest) pos) (Mb tA tB'):=by
 intro wh pins s σ H Q I h
 refine isTrue_or (gd (ha pins s σ H _ I h) λc s1 ⟨H1,I1,q1⟩=>?_)
 cases c with
 |true=>exact⟨H1,I1,q1⟩
 |false=>exact hb wh pins s1 σ H1 Q I1 q1
def ME(t:TT)(ta tb:TE):TE:=λσ H Q=>t σ H λc H1=>if c=true then ta σ H1 Q else tb σ H1 Q
theorem Fq{c:Expr}(hc:PT X c tA)(ha:PE X a ta)(hb:PE X b tb):PE X (.IfExp c a b pos) (ME tA ta tb):=by
 intro pins s σ H Q I h
 refine wpAny_IfExp (gd (hc pins s σ H _ I h) λd s1 ⟨H1,I1,q1⟩=>?_)
 cases d with
 |true=>exact ha pins s1 σ H1 Q I1 q1
 |false=>exact hb pins s1 σ H1 Q I1 q1
end
def cq(K:Fg)(H:Hp)(a:Addr)(xs:List V):Prop:=
 Rd H a (.lst xs)\/
  ∃(o:Obj) (its:Array Value) (n:Nat),K.lookup a=some o/\o.cls=.type "list"/\o.dict=none/\o.data=.seq its n/\its.size<=sizeLine/\cu xs its.toList
def dC(K:Fg)(H:Hp)(a:Addr)(xs:List V):Prop:=
 Rd H a (.tup xs)\/
  ∃(o:Obj) (its:Array Value) (n:Nat),K.lookup a=some o/\o.cls=.type "tuple"/\o.data=.seq its n/\its.size<=sizeLine/\cu xs its.toList
def Ms:Value->Option V
 |.none=>some .non
 |.bool b=>some (.bl b)
 |.int i _=>some (.int i)
 |.str x _=>some (.str x)
 |.bytes b _=>some (.byt b)
 |.float b _=>some (.flt b)
 |.ref a=>some (.ref a)
 |.type n=>some (.ty n)
 |_=>none
theorem cJ.abs{x:V}{u:Value}(r:cJ x u):Ms u=some x:=by
 cases x with
 |non=>cases r;rfl
 |bl _=>cases r;rfl
 |int _=>obtain⟨t,rfl⟩:=r;rfl
 |str _=>obtain⟨t,rfl⟩:=r;rfl
 |byt _=>obtain⟨t,rfl⟩:=r;rfl
 |flt _=>obtain⟨t,rfl⟩:=r;rfl
 |ref _=>cases r;rfl
 |ty _=>cases r;rfl
theorem cJ.inj{x y:V}{u:Value}(r:cJ x u)(q:cJ y u):x=y:=Option.some.inj (r.abs.symm.trans q.abs)
theorem cu.inj:∀{xs ys:List V} {us:List Value},cu xs us->cu ys us->xs=ys
 |_,_,_,.nil,.nil=>rfl
 |_,_,_,.cons r t,.cons r' t'=>by rw[r.inj r',cu.inj t t']
section
variable{X:Cx}{pins:List (Addr×Obj)}{σ:St}{H:Hp}{s:Shared}{a:Addr}{xs ys:List V}
theorem cq.of{K:Fg}(h:H a=some (.lst xs)):cq K H a xs:=.inl (.inl h)
theorem dC.of{K:Fg}(h:H a=some (.tup xs)):dC K H a xs:=.inl (.inl h)
theorem bU.list(I:bU X pins σ H s)(h:cq X.K H a xs):∃its:List Value,cu xs its/\PlainL s.heap a its.toArray/\xs.length<=sizeLine:=by
 rcases h with h|⟨o,its,n,hk,hc,hd,hs,hz,r⟩
 ·obtain⟨z,its,n,r,e⟩:=h.ok I.hok
  exact⟨its,r,⟨_,n,e,rfl,rfl,rfl⟩,z⟩
 ·refine⟨its.toList,r,⟨o,n,I.kIn a o hk,hc,hd,by simpa using hs⟩,?_⟩
  have e:=r.length
  simp only[dj] at e
  lia
theorem bU.tuple(I:bU X pins σ H s)(h:dC X.K H a xs):∃its:List Value,cu xs its/\IsTup s.heap a its.toArray/\xs.length<=sizeLine:=by
 rcases h with h|⟨o,its,n,hk,hc,hs,hz,r⟩
 ·obtain⟨z,its,r,p⟩:=h.ok I.hok
  exact⟨its,r,p.tup,z⟩
 ·refine⟨its.toList,r,⟨o,I.kIn a o hk,hc,n,by simpa using hs⟩,?_⟩
  have e:=r.length
  simp only[dj] at e
  lia
theorem bU.list_inj(I:bU X pins σ H s)(h:cq X.K H a xs)(h':cq X.K H a ys):xs=ys:=by
 obtain⟨its,r,⟨o,n,e,_,_,d⟩,_⟩:=I.list h
 obtain⟨its',r',⟨o',n',e',_,_,d'⟩,_⟩:=I.list h'
 rw[e] at e';cases e'
 rw[d] at d'
 injection d' with d1 _
 have:its=its':=by simpa using congrArg Array.toList d1
 subst this
 exact r.inj r'
theorem bU.tuple_inj(I:bU X pins σ H s)(h:dC X.K H a xs)(h':dC X.K H a ys):xs=ys:=by
 obtain⟨its,r,⟨o,e,_,n,d⟩,_⟩:=I.tuple h
 obtain⟨its',r',⟨o',e',_,n',d'⟩,_⟩:=I.tuple h'
 rw[e] at e';cases e'
 rw[d] at d'
 injection d' with d1 _
 have:its=its':=by simpa using congrArg Array.toList d1
 subst this
 exact r.inj r'
end
abbrev Cx.wish(X:Cx)(E:Value->Shared->Prop):Cx:={X with xe:=E}
abbrev Cx.nox(X:Cx):Cx:=X.wish λ_ _=>False
theorem Cx.Ok.wish{X:Cx}(ok:X.Ok)(E:Value->Shared->Prop):(X.wish E).Ok:=
 ⟨ok.mod,ok.kind,ok.glob,ok.blt,ok.above,ok.inj,ok.has,ok.cab,ok.hd,ok.frames,ok.stk,ok.exf,ok.bs,ok.bsz,ok.noex,ok.exfs,ok.funs,ok.frf⟩
theorem Cx.Ok.unwish{X:Cx}{E:Value->Shared->Prop}(ok:(X.wish E).Ok):X.Ok:=
 ⟨ok.mod,ok.kind,ok.glob,ok.blt,ok.above,ok.inj,ok.has,ok.cab,ok.hd,ok.frames,ok.stk,ok.exf,ok.bs,ok.bsz,ok.noex,ok.exfs,ok.funs,ok.frf⟩
section
variable{X:Cx}{pins:List (Addr×Obj)}{σ:St}{H:Hp}{s:Shared}{E:Value->Shared->Prop}
theorem bU.wish(I:bU X pins σ H s)(E:Value->Shared->Prop):bU (X.wish E) pins σ H s:=⟨I.ok.wish E,I.os,I.bare,I.base,I.loc,I.cell,I.free,I.freeC,I.pin,I.hok,I.len⟩
theorem bU.unwish(I:bU (X.wish E) pins σ H s):bU X pins σ H s:=⟨I.ok.unwish,I.os,I.bare,I.base,I.loc,I.cell,I.free,I.freeC,I.pin,I.hok,I.len⟩
theorem SP.unwish{D:nh}{f:Flow}{s':Shared}(h:SP (X.wish E) pins D f s'):SP X pins D f s':=by
 cases f with
 |next=>obtain⟨σ',H',I,q⟩:=h;exact⟨σ',H',I.unwish,q⟩
 |brk=>obtain⟨σ',H',I,q⟩:=h;exact⟨σ',H',I.unwish,q⟩
 |cont=>obtain⟨σ',H',I,q⟩:=h;exact⟨σ',H',I.unwish,q⟩
 |ret u=>obtain⟨v,σ',H',I,r,q⟩:=h;exact⟨v,σ',H',I.unwish,r,q⟩
theorem jQ.nox{st:List Stmt}{t:TS}(h:jQ X.nox st t):jQ X st t:=λpins s σ H D I hw=>
 wpAny_mono (h pins s σ H D (I.wish _) hw) (λ_ _ q=>q.unwish) λ_ _ z=>False.elim z
end
section
variable{X:Cx}{st:Stmt}{rest:List Stmt}{t u:TS}{e:Expr}{te:TE}{pos:Pos}
def cG:TS:=λD σ H=>D.nx σ H
def bB(t u:TS):TS:=λD σ H=>t {D with nx:=u D} σ H
theorem Im:jQ X [] cG:=λ_ _ σ H _ I h=>wpAny_execs_nil ⟨σ,H,I,h⟩
theorem FB(h1:PS X st t)(h2:jQ X rest u):jQ X (st::rest) (bB t u):=by
 intro pins s σ H D I h
 refine wpAny_execs_cons (gd (h1 pins s σ H {D with nx:=u D} I h) λf s1 q=>?_)
 cases f with
 |next=>
  obtain⟨σ',H',I',q⟩:=q
  exact h2 pins s1 σ' H' D I' q
 |ret v=>exact q
 |brk=>exact q
 |cont=>exact q
theorem Io(h1:PS X st t):jQ X [st] t:=by
 intro pins s σ H D I h
 refine wpAny_execs_cons (gd (h1 pins s σ H D I h) λf s1 q=>?_)
 cases f with
 |next=>exact wpAny_execs_nil q
 |ret v=>exact q
 |brk=>exact q
 |cont=>exact q
theorem bU.quiet{pins:List (Addr×Obj)}{σ:St}{H:Hp}{s:Shared}(I:bU X pins σ H s):interactive X.env=false:=by simp[interactive,I.ok.kind]
def mS(te:TE):TS:=λD σ H=>te σ H λ_ H1=>D.nx σ H1
theorem Il(he:PE X e te)(hs:swapsWith e none pos.line X.env=pure false:=by rfl):PS X (.Expr e pos) (mS te):=by
 intro pins s σ H D I h
 exact wpAny_Expr_any (gd (he pins s σ H _ I h) λv s1 ⟨x,H1,I1,r1,q1⟩=>⟨σ,H1,I1,q1⟩) I.quiet hs
def cR(te:TE):TS:=λD σ H=>te σ H D.rt
theorem Kz(he:PE X e te):PS X (.Return (some e) pos) (cR te):=by
 intro pins s σ H D I h
 exact wpAny_Return_some (gd (he pins s σ H _ I h) λv s1 ⟨x,H1,I1,r1,q1⟩=>⟨x,σ,H1,I1,r1,q1⟩)
def dG(c:TT)(t u:TS):TS:=λD σ H=>c σ H λb H1=>if b=true then t D σ H1 else u D σ H1
theorem LQ{c:Expr}{a b:List Stmt}{tc:TT}(hc:PT X c tc)(ha:jQ X a t)(hb:jQ X b u):PS X (.If c a b pos) (dG tc t u):=by
 intro pins s σ H D I h
 refine wpAny_If (gd (hc pins s σ H _ I h) λd s1 ⟨H1,I1,q1⟩=>?_)
 cases d with
 |true=>exact ha pins s1 σ H1 D I1 q1
 |false=>exact hb pins s1 σ H1 D I1 q1
end
abbrev TG:=V->St->Hp->(St->Hp->Prop)->Prop
abbrev CC:=List V->St->Hp->(St->Hp->Prop)->Prop
def PG(X:Cx)(target:Expr)(t:TG):Prop:=
 ∀(pins:List (Addr×Obj)) (s:Shared) (σ:St) (H:Hp) (v:V) (u:Value) (Q:St->Hp->Prop),bU X pins σ H s->cJ v u->t v σ H Q->
  wpAny (model X.prog X.w) X.A (assign target X.env u) (λ_ s'=>∃σ' H',bU X pins σ' H' s'/\Q σ' H') X.xe s
def K9(X:Cx)(ts:List Expr)(t:CC):Prop:=
 ∀(pins:List (Addr×Obj)) (s:Shared) (σ:St) (H:Hp) (vs:List V) (us:List Value) (Q:St->Hp->Prop),bU X pins σ H s->cu vs us->t vs σ H Q->
  wpAny (model X.prog X.w) X.A (assignInOrder ((assignEach ts X.env).map (·.2)) us) (λ_ s'=>∃σ' H',bU X pins σ' H' s'/\Q σ' H') X.xe s
abbrev G0:=V->V->V->Hp->(Hp->Prop)->Prop
def GW(X:Cx)(t:G0):Prop:=
 ∀(pins:List (Addr×Obj)) (s:Shared) (σ:St) (H:Hp) (o i v:V) (ov iv u:Value) (Q:Hp->Prop),bU X pins σ H s->cJ o ov->cJ i iv->cJ v u->t o i v H Q->
  wpAny (model X.prog X.w) X.A (setItem ov iv u) (λ_ s'=>∃H',bU X pins σ H' s'/\Q H') X.xe s
section
variable{X:Cx}{pos:Pos}
def aX(i:Nat):TG:=λv σ H Q=>Q (σ.set i (some v)) H
theorem HX{i:Nat}{x:Str}(hN:X.N.Nodup)(hi:X.N[i]?=some x)(hx:Jf X.env.scope x)(hf:X.fn x=true\/X.env.scope.names.lookup x=some .local:=by first|exact .inl rfl|exact .inr rfl|assumption):PG X (.Name x pos) (aX i):=by
 intro pins s σ H v u Q I r h
 exact wpAny_assign_Name (y9 I hN hi hx r (λs' I'=>⟨_,H,I',h⟩) hf)
def yi:CC:=λvs σ H Q=>vs=[]/\Q σ H
def kZ(t:TG)(u:CC):CC:=λvs σ H Q=>∃v r,vs=v::r/\t v σ H λσ' H'=>u r σ' H' Q
theorem HZ:K9 X [] yi:=by
 intro pins s σ H vs us Q I r h
 obtain⟨e,h⟩:=h
 subst e
 cases r
 exact assignInOrder_nil ⟨σ,H,I,h⟩
theorem Ft{e:Expr}{es:List Expr}{t:TG}{u:CC}(h1:PG X e t)(h2:K9 X es u)
  (hs:(assignEach (e::es) X.env).map (·.2)=assign e X.env::(assignEach es X.env).map (·.2):=by rfl):K9 X (e::es) (kZ t u):=by
 intro pins s σ H vs us Q I r h
 obtain⟨v,vr,e1,h⟩:=h
 subst e1
 cases r with
 |cons r rr=>
  rw[hs]
  refine assignInOrder_cons (gd (h1 pins s σ H _ _ _ I r h) λ_ s1 ⟨σ1,H1,I1,q1⟩=>?_)
  exact h2 pins s1 σ1 H1 _ _ Q I1 rr q1
def Ak(K:Fg)(n:Nat)(t:CC):TG:=λv σ H Q=>∃a xs,v=.ref a/\dC K H a xs/\xs.length=n/\t xs σ H Q
theorem Ks{es:List Expr}{k:Nat}{t:CC}{n:Nat}(hc:X.calm=true)(h:K9 X es t)
  (hn:(assignEach es X.env).length=n:=by rfl) (hst:(assignEach es X.env).findIdx? (·.1)=none:=by rfl):PG X (.Tuple es k pos) (Ak X.K n t):=by
 intro pins s σ H v u Q I r hw
 obtain⟨a,xs,e1,hq,hl,hw⟩:=hw
 subst e1
 cases r
 obtain⟨its,rv,ht,hz⟩:=I.tuple hq
 refine assign_Tuple_tuple (I.ok.hd hc) ht (by simp[hn,<-hl,rv.length]) hst λh' hx=>?_
 have I1:bU X pins σ H {s with heap:=h'}:=I.kept (t':=s.toks) λb o e=>hx b o (aV (aJ e)) e
 exact h pins _ σ H xs _ Q I1 (by simpa using rv) hw
def oj(to ti:TE)(t:G0):TG:=λv σ H Q=>to σ H λo H1=>ti σ H1 λi H2=>t o i v H2 λH3=>Q σ H3
theorem Kr{o i:Expr}{to ti:TE}{t:G0}(ho:PE X o to)(hi:PE X i ti)(hs:GW X t)
  (ha:∀v,assign (.Subscript o i pos) X.env v=(do
   let ov <-holding [v] (eval o X.env)
   let iv <-holding [v,ov] (eval i X.env)
   standAt pos
   holding [v,ov,iv] (setItem ov iv v)
   release [v,ov,iv] []):=by intro _;rfl):PG X (.Subscript o i pos) (oj to ti t):=by
 intro pins s σ H v u Q I r h
 rw[ha]
 refine wpAny_bind (wpAny_holding (gd (ho pins s σ H _ I h) λov s1 ⟨x,H1,I1,r1,q1⟩=>?_))
 refine wpAny_bind (wpAny_holding (gd (hi pins s1 σ H1 _ I1 q1) λiv s2 ⟨y,H2,I2,r2,q2⟩=>?_))
 refine wpAny_bind (wpAny_standAt (wpAny_bind (wpAny_holding (gd (hs pins s2 σ H2 x y v ov iv u _ I2 r1 r2 r q2) λ_ s3 ⟨H3,I3,q3⟩=>?_))))
 exact wpAny_release ⟨σ,H3,I3,q3⟩
def bZ(te:TE)(g:TG):TS:=λD σ H=>te σ H λx H1=>g x σ H1 D.nx
theorem Kw{tg e:Expr}{te:TE}{g:TG}(he:PE X e te)(hg:PG X tg g)(hs:swapsWithSole [tg] e pos.line X.env=pure false:=by rfl)(hw:swappedStores [tg] e X.env=pure none:=by rfl)
  (h1:(assignEach [tg] X.env).map (·.2)=[assign tg X.env]:=by rfl):PS X (.Assign [tg] e pos) (bZ te g):=by
 intro pins s σ H D I h
 refine wpAny_Assign_stores (gd (he pins s σ H _ I h) λv s1 ⟨x,H1,I1,r1,q1⟩=>?_) hs hw
 rw[h1]
 exact gd (hg pins s1 σ H1 x v _ I1 r1 q1) λ_ s2 q=>q
theorem KA{i:Nat}{x:Str}{e:Expr}{te:TE}{pos':Pos}(hN:X.N.Nodup)(hi:X.N[i]?=some x)(hx:Jf X.env.scope x)(he:PE X e te)(hs:swapsWith e (some (.Name x pos')) pos.line X.env=pure false:=by rfl)(hf:X.fn x=true\/X.env.scope.names.lookup x=some .local:=by first|exact .inl rfl|exact .inr rfl|assumption) :
  PS X (.Assign [.Name x pos'] e pos) (bZ te (aX i)):=by
 intro pins s σ H D I h
 refine wpAny_Assign_Name (gd (he pins s σ H _ I h) λv s1 ⟨y,H1,I1,r1,q1⟩=>?_) hs
 exact y9 I1 hN hi hx r1 (λs2 I2=>⟨_,H1,I2,q1⟩) hf
end
section
variable{X:Cx}{pos:Pos}
def qY(c:TT)(tb:TS):TS:=λD σ H=>∃W:Nat->St->Hp->Prop,(∃m,W m σ H)/\∀m σ H,W m σ H->
 c σ H λb H1=>if b=true then ∃N:St->Hp->Prop,(∀σ' H',N σ' H'->∃m',m'<m/\W m' σ' H')/\tb {D with nx:=N,ct:=N,bk:=D.nx} σ H1 else D.nx σ H1
theorem FA{c:Expr}{body:List Stmt}{tc:TT}{tb:TS}(hp:PassesOwn (model X.prog X.w) X.A X.env X.xe)(hc:PT X c tc)(hb:jQ X body tb):PS X (.While c body [] pos) (qY tc tb):=by
 intro pins s σ H D I h
 obtain⟨W,⟨m0,w0⟩,turn⟩:=h
 refine wpAny_While (codeAny_whileLoop (λn s'=>∃σ' H',bU X pins σ' H' s'/\W n σ' H') ?_ m0 ⟨σ,H,I,w0⟩)
 rintro n s1 ⟨σ1,H1,I1,w1⟩
 refine wpAny_passesOwn hp (gd (hc pins s1 σ1 H1 _ I1 (turn n σ1 H1 w1)) λb s2 ⟨H2,I2,q2⟩=>?_)
 cases b with
 |true=>
  obtain⟨N,hN,q2⟩:=q2
  rw[if_pos rfl]
  refine wpAny_passesOwn hp (gd (hb pins s2 σ1 H2 _ I2 q2) λf s3 q3=>?_)
  cases f with
  |next=>
   obtain⟨σ3,H3,I3,n3⟩:=q3
   obtain⟨m',hm,w3⟩:=hN σ3 H3 n3
   exact⟨m',hm,σ3,H3,I3,w3⟩
  |cont=>
   obtain⟨σ3,H3,I3,n3⟩:=q3
   obtain⟨m',hm,w3⟩:=hN σ3 H3 n3
   exact⟨m',hm,σ3,H3,I3,w3⟩
  |brk=>exact q3
  |ret v=>exact q3
 |false=>
  rw[if_neg Bool.false_ne_true]
  exact wpAny_execs_nil ⟨σ1,H2,I2,q2⟩
end
structure It where
 go:Nat->Hp->Prop
 yld:Nat->Hp->V->Hp->Prop
 stop:Nat->Hp->Prop
def oJ(X:Cx)(pins:List (Addr×Obj))(H:Hp)(b:Addr):Prop:=
 H b=none/\b≠X.env.locals/\b∉X.fs/\(b∈X.ex\/X.s₀.heap.objs.size<=b)/\(∀x c,X.env.cells.lookup x=some c->c≠b)/\∀p∈X.pn++pins,p.1≠b
theorem bU.fpOk{X:Cx}{pins:List (Addr×Obj)}{σ:St}{H H':Hp}{s:Shared}{b:Addr}(I:bU X pins σ H s)(hb:s.heap.objs.size<=b)(hn:H' b=none):oJ X pins H' b:=by
 refine⟨hn,fG (bw I.lt hb),I.nofs hb,.inr (bx I.sz hb),λx c e z=>?_,λp hp z=>?_⟩
 ·obtain⟨v,q⟩:=I.cell x c e
  exact absurd (bw q.lt (by rw[z];exact hb)) (eN _)
 ·exact absurd (bw (aJ (I.pin p hp).1) (by rw[z];exact hb)) (eN _)
structure uV(P:Program)(w:World)(K:Fg)(tg:Expr)(J:It)(fp:List Addr)(it:Addr)(tn:Nat->Heap->Prop):Prop where
 mem:it∈fp
 obj:∀i h,tn i h->∀b∈fp,∃o,h.get? b=some o/\∀v,o.data≠.cell v
 keep:∀i h h',tn i h->(∀b∈fp,∀o,h.get? b=some o->h'.get? b=some o)->tn i h'
 item:∀(X:Cx),X.prog=P->X.w=w->X.K=K->X.calm=true->∀(i:Nat) (pins:List (Addr×Obj)) (s:Shared) (σ:St) (H:Hp) (E:Value->Shared->Prop),bU X pins σ H s->(∀b∈fp,oJ X pins H b)->tn i s.heap->J.go i H->
  wpAny (model P w) X.A (pyNext (.ref it)) (λr s1=>∃u,r=some u/\
   wpAny (model P w) X.A (letOwnedTupleGo tg (.ref it) u) (λ_ s2=>∃x H',bU X pins σ H' s2/\cJ x u/\J.yld i H x H'/\tn (i+1) s2.heap/\∀b∈fp,H' b=none) E s1) E s
 done:∀(X:Cx),X.prog=P->X.w=w->X.K=K->X.calm=true->∀(i:Nat) (pins:List (Addr×Obj)) (s:Shared) (σ:St) (H:Hp) (E:Value->Shared->Prop),bU X pins σ H s->(∀b∈fp,oJ X pins H b)->tn i s.heap->J.stop i H->
  wpAny (model P w) X.A (pyNext (.ref it)) (λr s1=>r=none/\bU X pins σ H s1) E s
 self:∀(A:Around) (i:Nat) (s:Shared) (Q:Value->Shared->Prop) (E:Value->Shared->Prop),tn i s.heap->Q (.ref it) s->wpAny (model P w) A (pyIter (.ref it)) Q E s
abbrev TI:=St->Hp->(It->Hp->Prop)->Prop
def MK(X:Cx)(pins:List (Addr×Obj))(σ:St)(tg:Expr)(R:It->Hp->Prop)(itv:Value)(s2:Shared):Prop:=
 ∃(it:Addr) (fp:List Addr) (tn:Nat->Heap->Prop) (J:It) (H':Hp),itv=.ref it/\bU X pins σ H' s2/\uV X.prog X.w X.K tg J fp it tn/\tn 0 s2.heap/\(∀b∈fp,oJ X pins H' b)/\R J H'
def PI(X:Cx)(tg iter:Expr)(wi:TI):Prop:=
 ∀(pins:List (Addr×Obj)) (s:Shared) (σ:St) (H:Hp) (R:It->Hp->Prop),bU X pins σ H s->wi σ H R->
  wpAny (model X.prog X.w) X.A (eval iter X.env) (λv s1=>wpAny (model X.prog X.w) X.A (pyIter v) (MK X pins σ tg R) X.xe s1) X.xe s
theorem BC{M:Model}{A:Around}{E:Value->Shared->Prop}{s:Shared}{tg:Expr}{it:Addr}{u:Value}{o:Obj}{n:String}{vs:Array Value}{Q:Unit->Shared->Prop}(ho:s.heap.get? it=some o)(hc:o.cls=.type n)(hd:o.data=.fields vs)
  (hn:["enumerate","zip","dict_itemiterator","dict_reverseitemiterator","odict_iterator","itertools.zip_longest","itertools.pairwise"].contains n=false) (hQ:Q () s):wpAny M A (letOwnedTupleGo tg (.ref it) u) Q E s:=by
 unfold letOwnedTupleGo
 cases tg<;>first
  |exact wpAny_pure hQ
  |(cases u<;>first
    |exact wpAny_pure hQ
    |(refine wpAny_bind (wpAny_load ho ?_)
      rw[hc,hd]
      show wpAny M A (if(["enumerate","zip","dict_itemiterator","dict_reverseitemiterator","odict_iterator","itertools.zip_longest","itertools.pairwise"].contains n&&vs[0]?==some (rawInt _))=true then _ else _) Q E s
      rw[if_neg (by intro h;rw[hn,Bool.false_and] at h;cases h)]
      exact wpAny_pure hQ))
def Jd(K:Fg)(a:Addr):It:=
 ⟨λi H=>∃xs x,cq K H a xs/\xs[i]?=some x,λi H x H'=>H'=H/\∀xs,cq K H a xs->xs[i]?=some x,λi H=>∃xs,cq K H a xs/\xs.length<=i⟩
def Je(K:Fg)(a:Addr):It:=
 ⟨λi H=>∃xs x,dC K H a xs/\xs[i]?=some x,λi H x H'=>H'=H/\∀xs,dC K H a xs->xs[i]?=some x,λi H=>∃xs,dC K H a xs/\xs.length<=i⟩
def GN(lo:Int)(n:Nat):It:=⟨λi _=>i<n,λi H x H'=>H'=H/\x=.int (lo+i),λi _=>n<=i⟩
theorem D4{P:Program}{w:World}{K:Fg}{tg:Expr}(a it:Addr):uV P w K tg (Jd K a) [it] it (λi h=>h.IsListIter it a i) where
 mem:=by simp
 obj:=λi h st b hb=>by
  have e:b=it:=by simpa using hb
  subst e
  obtain⟨o,e,c,d⟩:=st
  exact⟨o,e,λv z=>by rw[d] at z;cases z⟩
 keep:=λi h h' st k=>st.at λo e=>k it (by simp) o e
 item:=by
  intro X hP hw hK hc i pins s σ H E I hf st hg
  subst hP hw hK
  obtain⟨xs,x,hq,hx⟩:=hg
  obtain⟨its,rv,p,hz⟩:=I.list hq
  obtain⟨u,hu,ru⟩:=rv.get hx
  obtain⟨f0,f1,f2,f3,f4,f5⟩:=hf it (by simp)
  refine wpAny_pyNext_list_item st p.isList (x:=u) (by simpa using hu) λh' st' sb=>?_
  have I1:bU X pins σ H {s with heap:=h'}:=I.turned (t':=s.toks) (λb o hb e=>(sb.2 b hb).trans e) f0 f1 f3 f4 f5
  obtain⟨o,e,c,d⟩:=id st'
  exact⟨u,rfl,BC (s:={s with heap:=h'}) e c d (by decide) ⟨x,H,I1,ru,⟨rfl,λys hy=>by rw[I.list_inj hy hq];exact hx⟩,st',λb hb=>(hf b hb).1⟩⟩
 done:=by
  intro X hP hw hK hc i pins s σ H E I hf st hg
  subst hP hw hK
  obtain⟨xs,hq,hx⟩:=hg
  obtain⟨its,rv,p,hz⟩:=I.list hq
  obtain⟨f0,f1,f2,f3,f4,f5⟩:=hf it (by simp)
  have hl:=rv.length
  exact wpAny_pyNext_list_end (I.ok.hd hc) st p.isList (by simp;lia) λh' eb=>⟨rfl,I.turned (t':=s.toks) (λb o hb e=>eb b o hb e) f0 f1 f3 f4 f5⟩
 self:=λ_ _ _ _ _ st h=>wpAny_pyIter_listiter st h
theorem Bk{P:Program}{w:World}{K:Fg}{tg:Expr}(a it:Addr):uV P w K tg (Je K a) [it] it (λi h=>h.IsTupleIter it a i) where
 mem:=by simp
 obj:=λi h st b hb=>by
  have e:b=it:=by simpa using hb
  subst e
  obtain⟨o,e,c,d⟩:=st
  exact⟨o,e,λv z=>by rw[d] at z;cases z⟩
 keep:=λi h h' st k=>st.at λo e=>k it (by simp) o e
 item:=by
  intro X hP hw hK hc i pins s σ H E I hf st hg
  subst hP hw hK
  obtain⟨xs,x,hq,hx⟩:=hg
  obtain⟨its,rv,p,hz⟩:=I.tuple hq
  obtain⟨u,hu,ru⟩:=rv.get hx
  obtain⟨f0,f1,f2,f3,f4,f5⟩:=hf it (by simp)
  refine wpAny_pyNext_tuple_item st (show s.heap.IsTuple a its.toArray from p) (x:=u) (by simpa using hu) λh' st' sb=>?_
  have I1:bU X pins σ H {s with heap:=h'}:=I.turned (t':=s.toks) (λb o hb e=>(sb.2 b hb).trans e) f0 f1 f3 f4 f5
  obtain⟨o,e,c,d⟩:=id st'
  exact⟨u,rfl,BC (s:={s with heap:=h'}) e c d (by decide) ⟨x,H,I1,ru,⟨rfl,λys hy=>by rw[I.tuple_inj hy hq];exact hx⟩,st',λb hb=>(hf b hb).1⟩⟩
 done:=by
  intro X hP hw hK hc i pins s σ H E I hf st hg
  subst hP hw hK
  obtain⟨xs,hq,hx⟩:=hg
  obtain⟨its,rv,p,hz⟩:=I.tuple hq
  obtain⟨f0,f1,f2,f3,f4,f5⟩:=hf it (by simp)
  have hl:=rv.length
  exact wpAny_pyNext_tuple_end (I.ok.hd hc) st (show s.heap.IsTuple a its.toArray from p) (by simp;lia) λh' eb=>⟨rfl,I.turned (t':=s.toks) (λb o hb e=>eb b o hb e) f0 f1 f3 f4 f5⟩
 self:=λ_ _ _ _ _ st h=>wpAny_pyIter_tupleiter st h
theorem Bj{P:Program}{w:World}{K:Fg}{tg:Expr}(it:Addr)(lo:Int)(n:Nat):uV P w K tg (GN lo n) [it] it (λi h=>IsRangeIter h it (lo+(i:Nat)*1) ((n:Int)-(i:Nat)) 1) where
 mem:=by simp
 obj:=λi h st b hb=>by
  have e:b=it:=by simpa using hb
  subst e
  exact⟨_,st,λv z=>by
   have z':Data.fields _=Data.cell v:=z
   cases z'⟩
 keep:=λi h h' st k=>k it (by simp) _ st
 item:=by
  intro X hP hw hK hc i pins s σ H E I hf st hg
  subst hP hw hK
  obtain⟨f0,f1,f2,f3,f4,f5⟩:=hf it (by simp)
  have W:=Walks.range (prog:=X.prog) (w:=X.w) (I.ok.hd hc) it lo 1 n
  refine W.item i s _ _ hg st λv h' tk hv st' kk=>?_
  obtain⟨t,rfl⟩:=hv
  have I1:bU X pins σ H {s with heap:=h',toks:=tk}:=I.turned (λb o hb e=>kk b o (by simpa using hb) e) f0 f1 f3 f4 f5
  refine⟨_,rfl,BC (s:={s with heap:=h',toks:=tk}) (n:="range_iterator") st' rfl rfl (by decide) ⟨.int (lo+i),H,I1,⟨t,?_⟩,⟨rfl,rfl⟩,st',λb hb=>(hf b hb).1⟩⟩
  rw[Int.mul_one]
 done:=by
  intro X hP hw hK hc i pins s σ H E I hf st hg
  subst hP hw hK
  obtain⟨f0,f1,f2,f3,f4,f5⟩:=hf it (by simp)
  exact wpAny_pyNext_range_end (I.ok.hd hc) st (by have:n<=i:=hg;lia) λh' eb=>⟨rfl,I.turned (t':=s.toks) (λb o hb e=>eb b o hb e) f0 f1 f3 f4 f5⟩
 self:=λ_ _ _ _ _ st h=>wpAny_pyIter_rangeiter st h
section
variable{X:Cx}{tg:Expr}
def Jj(K:Fg)(tl:TE):TI:=λσ H R=>tl σ H λx H1=>∃a,x=.ref a/\(∃xs,cq K H1 a xs)/\R (Jd K a) H1
def Lw(K:Fg)(tl:TE):TI:=λσ H R=>tl σ H λx H1=>∃a,x=.ref a/\(∃xs,dC K H1 a xs)/\R (Je K a) H1
theorem Ic{l:Expr}{tl:TE}(hl:PE X l tl):PI X tg l (Jj X.K tl):=by
 intro pins s σ H R I h
 refine gd (hl pins s σ H _ I h) λv s1 ⟨x,H1,I1,r1,q1⟩=>?_
 obtain⟨a,e,⟨xs,hq⟩,q⟩:=q1
 subst e
 cases r1
 obtain⟨its,rv,p,hz⟩:=I1.list hq
 refine wpAny_pyIter_list p.isList ?_
 refine⟨s1.heap.objs.size,[s1.heap.objs.size],_,_,H1,rfl,I1.kept (t':=s1.toks) λb o e=>aA _ e,D4 a _,⟨_,aQ _ rfl,rfl,rfl⟩,λb hb=>?_,q⟩
 have e:b=s1.heap.objs.size:=by simpa using hb
 subst e
 exact I1.fpOk (aB _) (I1.hok.fresh (aB _))
theorem Ku{l:Expr}{tl:TE}(hl:PE X l tl):PI X tg l (Lw X.K tl):=by
 intro pins s σ H R I h
 refine gd (hl pins s σ H _ I h) λv s1 ⟨x,H1,I1,r1,q1⟩=>?_
 obtain⟨a,e,⟨xs,hq⟩,q⟩:=q1
 subst e
 cases r1
 obtain⟨its,rv,p,hz⟩:=I1.tuple hq
 refine wpAny_pyIter_tuple (show s1.heap.IsTuple a its.toArray from p) ?_
 refine⟨s1.heap.objs.size,[s1.heap.objs.size],_,_,H1,rfl,I1.kept (t':=s1.toks) λb o e=>aA _ e,Bk a _,⟨_,aQ _ rfl,rfl,rfl⟩,λb hb=>?_,q⟩
 have e:b=s1.heap.objs.size:=by simpa using hb
 subst e
 exact I1.fpOk (aB _) (I1.hok.fresh (aB _))
theorem yX{pins:List (Addr×Obj)}{σ:St}{H:Hp}{s:Shared}{R:It->Hp->Prop}{E:Value->Shared->Prop}{lo hi:Int}{t u v:Tok}{tk:Nat}(I:bU X pins σ H s)(h1:-(2 ^ 62)<=lo)(h2:lo<2 ^ 62)(h3:-(2 ^ 62)<=hi)(h4:hi<2 ^ 62)
  (q:R (GN lo (hi-lo).toNat) H):wpAny (model X.prog X.w) X.A (pyIter (.ref s.heap.objs.size)) (MK X pins σ tg R) E {s with heap:=s.heap.push {cls:=.type "range",data:=.fields #[.int lo t,.int hi u,.int 1 v]},toks:=tk}:=by
 refine wpAny_pyIter_range (IsRange.new ..) (small_one h1 h2 h3 h4) ?_
 have I1:bU X pins σ H {s with heap:=s.heap.push {cls:=.type "range",data:=.fields #[.int lo t,.int hi u,.int 1 v]},toks:=tk}:=I.kept λb o e=>aA _ e
 refine⟨(s.heap.push {cls:=.type "range",data:=.fields #[.int lo t,.int hi u,.int 1 v]}).objs.size,[(s.heap.push {cls:=.type "range",data:=.fields #[.int lo t,.int hi u,.int 1 v]}).objs.size],_,_,H,rfl,
  I1.kept (t':=tk) λb o e=>aA _ e,Bj _ lo (hi-lo).toNat,?_,λb hb=>?_,q⟩
 ·have e1:lo+((0:Nat):Int)*1=lo:=by simp
  have e2:(((hi-lo).toNat:Nat):Int)-((0:Nat):Int)=Builtin.Range.rangeSize lo hi 1:=by rw[rangeSize_one];split<;>lia
  show IsRangeIter _ _ (lo+((0:Nat):Int)*1) ((((hi-lo).toNat:Nat):Int)-((0:Nat):Int)) 1
  rw[e1,e2]
  exact aQ _ rfl
 ·have e:b=(s.heap.push {cls:=.type "range",data:=.fields #[.int lo t,.int hi u,.int 1 v]}).objs.size:=by simpa using hb
  subst e
  exact I1.fpOk (aB _) (I1.hok.fresh (aB _))
def rn(ta:TA):TI:=λσ H R=>ta σ H λvs H1=>∃j:Int,vs=[.int j]/\-(2 ^ 62)<=j/\j<2 ^ 62/\R (GN 0 j.toNat) H1
def EO(ta:TA):TI:=λσ H R=>ta σ H λvs H1=>∃i j:Int,vs=[.int i,.int j]/\(-(2 ^ 62)<=i/\i<2 ^ 62/\-(2 ^ 62)<=j/\j<2 ^ 62)/\R (GN i (j-i).toNat) H1
theorem Dy{a:Expr}{ta:TA}{p pos:Pos}(hg:Gl X "range")(hm:X.mg "range"=none)(ha:PA X [a] ta)(hs:starEach [a] X.env=[(false,eval a X.env)]:=by rfl):PI X tg (.Call (.Name "range" p) [a] [] pos) (rn ta):=by
 intro pins s σ H R I h
 refine Call_ (lB I hg hm boot_range (cb (gd (ha pos pins s σ H _ I h) λus s1 ⟨vs,H1,I1,r1,q1⟩=>?_) hs rfl))
 obtain⟨j,e,q1,q2,q⟩:=q1
 subst e
 cases r1 with
 |cons r rr=>
  cases rr
  obtain⟨t,rfl⟩:=r
  exact call_range_1 (yX I1 (by lia) (by lia) q1 q2 (by simpa using q))
theorem Dz{a b:Expr}{ta:TA}{p pos:Pos}(hg:Gl X "range")(hm:X.mg "range"=none)(ha:PA X [a,b] ta)(hs:starEach [a,b] X.env=[(false,eval a X.env),(false,eval b X.env)]:=by rfl)(hs2:starEach [b] X.env=[(false,eval b X.env)]:=by rfl) :
  PI X tg (.Call (.Name "range" p) [a,b] [] pos) (EO ta):=by
 intro pins s σ H R I h
 refine Call_ (lB I hg hm boot_range (cb (gd (ha pos pins s σ H _ I h) λus s1 ⟨vs,H1,I1,r1,q1⟩=>?_) (by rw[hs,hs2]) (by rw[hs2];rfl)))
 obtain⟨i,j,e,⟨q1,q2,q3,q4⟩,q⟩:=q1
 subst e
 cases r1 with
 |cons r rr=>
  cases rr with
  |cons r' rr=>
   cases rr
   obtain⟨t,rfl⟩:=r
   obtain⟨t',rfl⟩:=r'
   exact call_range_2 (yX I1 q1 q2 q3 q4 q)
def jM(wi:TI)(g:TG)(tb:TS):TS:=λD σ H=>wi σ H λJ H1=>∃W:Nat->Nat->St->Hp->Prop,(∃m,W 0 m σ H1)/\∀i m σ H,W i m σ H->
 (J.stop i H/\D.nx σ H)\/(J.go i H/\∃N:St->Hp->Prop,(∀σ' H',N σ' H'->∃m',m'<m/\W (i+1) m' σ' H')/\∀x H',J.yld i H x H'->g x σ H' λσ2 H2=>tb {D with nx:=N,ct:=N,bk:=D.nx} σ2 H2)
def ug(fp:List Addr)(h:Heap):List (Addr×Obj):=fp.filterMap λb=>(h.get? b).map λo=>(b,o)
theorem mq{fp:List Addr}{h:Heap}{b:Addr}{o:Obj}(hb:b∈fp)(e:h.get? b=some o):(b,o)∈ug fp h:=kj.mpr ⟨b,hb,by rw[e];rfl⟩
theorem Do{fp:List Addr}{h:Heap}{p:Addr×Obj}(hp:p∈ug fp h):p.1∈fp/\h.get? p.1=some p.2:=by
 obtain⟨b,hb,e⟩:=kj.mp hp
 cases q:h.get? b with
 |none=>rw[q] at e;cases e
 |some o=>
  rw[q] at e
  have e':(b,o)=p:=Option.some.inj e
  subst e'
  exact⟨hb,q⟩
theorem bU.pinned{pins:List (Addr×Obj)}{σ:St}{H:Hp}{s:Shared}{fp:List Addr}(I:bU X pins σ H s)(hf:∀b∈fp,oJ X pins H b)(ho:∀b∈fp,∃o,s.heap.get? b=some o/\∀v,o.data≠.cell v):bU X (pins++ug fp s.heap) σ H s:=
 I.pins_of λp hp=>(aE.mp hp).elim (λz=>I.pin p (aS _ z)) λz=>by
  obtain⟨hb,e⟩:=Do z
  obtain⟨f0,f1,f2,_⟩:=hf p.1 hb
  obtain⟨o,e',d⟩:=ho p.1 hb
  rw[e] at e';cases e'
  exact⟨e,f0,f1,f2,d⟩
theorem bU.unpinned{pins pl:List (Addr×Obj)}{σ:St}{H:Hp}{s:Shared}(I:bU X (pins++pl) σ H s):bU X pins σ H s:=I.pins_of λp hp=>I.pin p (aS _ (bt _ hp))
theorem Ky{iter:Expr}{body:List Stmt}{wi:TI}{g:TG}{tb:TS}{pos:Pos}(hp:PassesOwn (model X.prog X.w) X.A X.env X.xe)(hc:X.calm=true)(hi:PI X tg iter wi)(hg:PG X tg g)(hb:jQ X body tb)
  (hs:∀x,foldedSetIterable iter X.env x=pure x:=by intro _;rfl):PS X (.For tg iter body [] pos) (jM wi g tb):=by
 intro pins s σ H D I h
 refine wpAny_For (gd (hi pins s σ H _ I h) λv s1 h1=>gd h1 λitv s2 h2=>?_) hs
 obtain⟨it,fp,tn,J,H2,e,I2,T,st2,f2,W,⟨m0,w0⟩,turn⟩:=h2
 subst e
 have stat:∀{H':Hp},(∀b∈fp,H' b=none)->∀b∈fp,oJ X pins H' b:=λhn b hb=>⟨hn b hb,(f2 b hb).2⟩
 refine codeAny_forLoop_any (λn s'=>∃i σ' H',bU X pins σ' H' s'/\tn i s'.heap/\(∀b∈fp,H' b=none)/\W i n σ' H') ?_ m0 ⟨0,σ,H2,I2,st2,λb hb=>(f2 b hb).1,w0⟩
 rintro n s3 ⟨i,σ3,H3,I3,st3,fr3,w3⟩
 rcases turn i n σ3 H3 w3 with⟨stop,qn⟩|⟨go,N,hN,step⟩
 ·refine wpAny_passesOwn hp (gd (T.done X rfl rfl rfl hc i pins s3 σ3 H3 X.xe I3 (stat fr3) st3 stop) λr s4 ⟨hr,I4⟩=>?_)
  subst hr
  exact wpAny_execs_nil ⟨σ3,H3,I4,qn⟩
 ·refine wpAny_passesOwn hp (gd (T.item X rfl rfl rfl hc i pins s3 σ3 H3 X.xe I3 (stat fr3) st3 go) λr s4 ⟨u,hr,h4⟩=>?_)
  subst hr
  refine wpAny_passesOwn hp (gd h4 λ_ s5 ⟨x,H5,I5,r5,y5,st5,fr5⟩=>?_)
  have I5':=I5.pinned (stat fr5) (T.obj _ _ st5)
  refine wpAny_passesOwn hp (gd (hg _ s5 σ3 H5 x u _ I5' r5 (step x H5 y5)) λ_ s6 ⟨σ6,H6,I6,q6⟩=>?_)
  refine wpAny_passesOwn hp (gd (hb _ s6 σ6 H6 _ I6 q6) λf s7 q7=>?_)
  have again:∀{σ7:St} {H7:Hp},bU X (pins++ug fp s5.heap) σ7 H7 s7->N σ7 H7->∃m,m<n/\∃i σ' H',bU X pins σ' H' s7/\tn i s7.heap/\(∀b∈fp,H' b=none)/\W i m σ' H':=λ{σ7 H7} I7 n7=>by
   obtain⟨m',hm,w7⟩:=hN σ7 H7 n7
   refine⟨m',hm,i+1,σ7,H7,I7.unpinned,T.keep _ _ _ st5 λb hb o e=>(I7.pin (b,o) (aS _ (aS _ (mq hb e)))).1,λb hb=>?_,w7⟩
   obtain⟨o,e,d⟩:=T.obj _ _ st5 b hb
   exact(I7.pin (b,o) (aS _ (aS _ (mq hb e)))).2.1
  cases f with
  |next=>obtain⟨σ7,H7,I7,n7⟩:=q7;exact again I7 n7
  |cont=>obtain⟨σ7,H7,I7,n7⟩:=q7;exact again I7 n7
  |brk=>obtain⟨σ7,H7,I7,q7⟩:=q7;exact⟨σ7,H7,I7.unpinned,q7⟩
  |ret v=>obtain⟨x7,σ7,H7,I7,r7,q7⟩:=q7;exact⟨x7,σ7,H7,I7.unpinned,r7,q7⟩
end
theorem gQ{K:Fg}{a:Addr}{xs:List V}{g:TG}{tb:TS}{D:nh}{σ:St}{H:Hp}(Pv:Nat->St->Hp->Prop)(h0:Pv 0 σ H)(hl:∀i σ H,i<=xs.length->Pv i σ H->cq K H a xs)
  (hs:∀i x σ H,xs[i]?=some x->Pv i σ H->g x σ H λσ2 H2=>tb {D with nx:=Pv (i+1),ct:=Pv (i+1),bk:=D.nx} σ2 H2) (hd:∀σ H,Pv xs.length σ H->D.nx σ H) :
  ∃W:Nat->Nat->St->Hp->Prop,(∃m,W 0 m σ H)/\∀i m σ H,W i m σ H->
   ((Jd K a).stop i H/\D.nx σ H)\/((Jd K a).go i H/\∃N:St->Hp->Prop,(∀σ' H',N σ' H'->∃m',m'<m/\W (i+1) m' σ' H')/\∀x H',(Jd K a).yld i H x H'->g x σ H' λσ2 H2=>tb {D with nx:=N,ct:=N,bk:=D.nx} σ2 H2):=by
 refine⟨λi m σ H=>m=xs.length-i/\i<=xs.length/\Pv i σ H,⟨xs.length,by simp,cf _,h0⟩,?_⟩
 rintro i m σ H ⟨rfl,hi,p⟩
 have q:=hl i σ H hi p
 by_cases hlt:i<xs.length
 ·refine .inr ⟨⟨xs,xs[i],q,by simp[hlt]⟩,Pv (i+1),λσ' H' p'=>⟨xs.length-(i+1),by lia,rfl,hlt,p'⟩,λx H' y=>?_⟩
  obtain⟨e,y⟩:=y
  subst e
  exact hs i x σ _ (y xs q) p
 ·have e:i=xs.length:=by lia
  subst e
  exact .inl ⟨⟨xs,q,aB _⟩,hd σ H p⟩
theorem mi{K:Fg}{a:Addr}{xs:List V}{g:TG}{tb:TS}{D:nh}{σ:St}{H:Hp}(Pv:Nat->St->Hp->Prop)(h0:Pv 0 σ H)(hl:∀i σ H,i<=xs.length->Pv i σ H->dC K H a xs)
  (hs:∀i x σ H,xs[i]?=some x->Pv i σ H->g x σ H λσ2 H2=>tb {D with nx:=Pv (i+1),ct:=Pv (i+1),bk:=D.nx} σ2 H2) (hd:∀σ H,Pv xs.length σ H->D.nx σ H) :
  ∃W:Nat->Nat->St->Hp->Prop,(∃m,W 0 m σ H)/\∀i m σ H,W i m σ H->
   ((Je K a).stop i H/\D.nx σ H)\/((Je K a).go i H/\∃N:St->Hp->Prop,(∀σ' H',N σ' H'->∃m',m'<m/\W (i+1) m' σ' H')/\∀x H',(Je K a).yld i H x H'->g x σ H' λσ2 H2=>tb {D with nx:=N,ct:=N,bk:=D.nx} σ2 H2):=by
 refine⟨λi m σ H=>m=xs.length-i/\i<=xs.length/\Pv i σ H,⟨xs.length,by simp,cf _,h0⟩,?_⟩
 rintro i m σ H ⟨rfl,hi,p⟩
 have q:=hl i σ H hi p
 by_cases hlt:i<xs.length
 ·refine .inr ⟨⟨xs,xs[i],q,by simp[hlt]⟩,Pv (i+1),λσ' H' p'=>⟨xs.length-(i+1),by lia,rfl,hlt,p'⟩,λx H' y=>?_⟩
  obtain⟨e,y⟩:=y
  subst e
  exact hs i x σ _ (y xs q) p
 ·have e:i=xs.length:=by lia
  subst e
  exact .inl ⟨⟨xs,q,aB _⟩,hd σ H p⟩
theorem kf{lo:Int}{n:Nat}{g:TG}{tb:TS}{D:nh}{σ:St}{H:Hp}(Pv:Nat->St->Hp->Prop)(h0:Pv 0 σ H)
  (hs:∀i σ H,i<n->Pv i σ H->g (.int (lo+i)) σ H λσ2 H2=>tb {D with nx:=Pv (i+1),ct:=Pv (i+1),bk:=D.nx} σ2 H2) (hd:∀σ H,Pv n σ H->D.nx σ H) :
  ∃W:Nat->Nat->St->Hp->Prop,(∃m,W 0 m σ H)/\∀i m σ H,W i m σ H->
   ((GN lo n).stop i H/\D.nx σ H)\/((GN lo n).go i H/\∃N:St->Hp->Prop,(∀σ' H',N σ' H'->∃m',m'<m/\W (i+1) m' σ' H')/\∀x H',(GN lo n).yld i H x H'->g x σ H' λσ2 H2=>tb {D with nx:=N,ct:=N,bk:=D.nx} σ2 H2):=by
 refine⟨λi m σ H=>m=n-i/\i<=n/\Pv i σ H,⟨n,by simp,cf _,h0⟩,?_⟩
 rintro i m σ H ⟨rfl,hi,p⟩
 by_cases hlt:i<n
 ·refine .inr ⟨hlt,Pv (i+1),λσ' H' p'=>⟨n-(i+1),by lia,rfl,hlt,p'⟩,λx H' y=>?_⟩
  obtain⟨e,y⟩:=y
  subst e y
  exact hs i σ _ hlt p
 ·have e:i=n:=by lia
  subst e
  exact .inl ⟨aB _,hd σ H p⟩
abbrev R2:=V->V->Hp->VK->Prop
def jX(X:Cx)(f:Value->Value->Sem Value)(r:R2):Prop:=
 ∀(pins:List (Addr×Obj)) (s:Shared) (σ:St) (H:Hp) (x y:V) (v u:Value) (Q:VK),bU X pins σ H s->cJ x v->cJ y u->r x y H Q->
  wpAny (model X.prog X.w) X.A (f v u) (EP X pins σ Q) X.xe s
def Me(X:Cx)(f:Value->Sem Value)(r:V->Hp->VK->Prop):Prop:=
 ∀(pins:List (Addr×Obj)) (s:Shared) (σ:St) (H:Hp) (x:V) (v:Value) (Q:VK),bU X pins σ H s->cJ x v->r x H Q->
  wpAny (model X.prog X.w) X.A (f v) (EP X pins σ Q) X.xe s
def i8(X:Cx)(f:Value)(r:List V->Hp->VK->Prop):Prop:=
 ∀(pins:List (Addr×Obj)) (s:Shared) (σ:St) (H:Hp) (xs:List V) (us:List Value) (Q:VK),bU X pins σ H s->cu xs us->r xs H Q->
  wpAny (model X.prog X.w) X.A (call f us) (EP X pins σ Q) X.xe s
def bI(r:R2)(ta tb:TE):TE:=λσ H Q=>ta σ H λx H1=>tb σ H1 λy H2=>r x y H2 Q
def MF(r:V->Hp->VK->Prop)(ta:TE):TE:=λσ H Q=>ta σ H λx H1=>r x H1 Q
def rI(C:Int->Int->Prop)(g:Int->Int->V):R2:=λx y H Q=>∃i j,x=.int i/\y=.int j/\C i j/\Q (g i j) H
def Eb(g:Int->Int->V):R2:=λx y H Q=>∃i j,x=.int i/\y=.int j/\Q (g i j) H
def rU(g:Int->V):V->Hp->VK->Prop:=λx H Q=>∃i,x=.int i/\Q (g i) H
section
variable{X:Cx}{a b c:Expr}{ta tb tc:TE}{pos:Pos}
theorem Jy(ha:PE X a ta)(hb:PE X b tb){pins:List (Addr×Obj)}{s:Shared}{σ:St}{H:Hp}{R:V->V->Hp->Prop}(I:bU X pins σ H s)
  (h:ta σ H λx H1=>tb σ H1 λy H2=>R x y H2) {Q:Value->Shared->Prop} {f:Value->Value->Sem Value}
  (hf:∀v u s2 x y H2,bU X pins σ H2 s2->cJ x v->cJ y u->R x y H2->wpAny (model X.prog X.w) X.A (f v u) Q X.xe s2) :
  wpAny (model X.prog X.w) X.A (eval a X.env) (λv s₁=>wpAny (model X.prog X.w) X.A (eval b X.env) (λu s₂=>wpAny (model X.prog X.w) X.A (f v u) Q X.xe s₂) X.xe s₁) X.xe s:=by
 refine gd (ha pins s σ H _ I h) λv s1 ⟨x,H1,I1,r1,q1⟩=>?_
 refine gd (hb pins s1 σ H1 _ I1 q1) λu s2 ⟨y,H2,I2,r2,q2⟩=>?_
 exact hf v u s2 x y H2 I2 r1 r2 q2
theorem LO{op:Operator}{r:R2}(ho:jX X (binaryOp op) r)(ha:PE X a ta)(hb:PE X b tb):PE X (.BinOp a op b pos) (bI r ta tb):=by
 intro pins s σ H Q I h
 exact wpAny_BinOp (Jy ha hb I h λv u s2 x y H2 I2 rx ry q=>ho pins s2 σ H2 x y v u Q I2 rx ry q)
theorem LP{op:UnaryOp}{r:V->Hp->VK->Prop}(ho:Me X (unaryOp op) r)(ha:PE X a ta):PE X (.UnaryOp op a pos) (MF r ta):=by
 intro pins s σ H Q I h
 exact UnaryOp_ (gd (ha pins s σ H _ I h) λv s1 ⟨x,H1,I1,r1,q1⟩=>ho pins s1 σ H1 x v Q I1 r1 q1)
theorem Mh{f:Value->Value->Sem Value}{C:Int->Int->Prop}{g:Int->Int->Int}
  (rule:∀(i j:Int) (t u:Tok) (s:Shared) (Q:Value->Shared->Prop) (E:Value->Shared->Prop),C i j->Q (.int (g i j) s.toks) {s with toks:=s.toks+1}->wpAny (model X.prog X.w) X.A (f (.int i t) (.int j u)) Q E s) :
  jX X f (rI C λi j=>.int (g i j)):=by
 intro pins s σ H x y v u Q I rx ry h
 obtain⟨i,j,rfl,rfl,hc,q⟩:=h
 obtain⟨t,rfl⟩:=rx
 obtain⟨t',rfl⟩:=ry
 exact rule i j t t' s _ _ hc ⟨.int (g i j),H,I.tok _,⟨_,rfl⟩,q⟩
theorem LG{f:Value->Value->Sem Value}{g:Int->Int->Int}
  (rule:∀(i j:Int) (t u:Tok) (s:Shared) (Q:Value->Shared->Prop) (E:Value->Shared->Prop),Q (.int (g i j) s.toks) {s with toks:=s.toks+1}->wpAny (model X.prog X.w) X.A (f (.int i t) (.int j u)) Q E s) :
  jX X f (Eb λi j=>.int (g i j)):=by
 intro pins s σ H x y v u Q I rx ry h
 obtain⟨i,j,rfl,rfl,q⟩:=h
 obtain⟨t,rfl⟩:=rx
 obtain⟨t',rfl⟩:=ry
 exact rule i j t t' s _ _ ⟨.int (g i j),H,I.tok _,⟨_,rfl⟩,q⟩
theorem J5{f:Value->Value->Sem Value}{g:Int->Int->Bool}
  (rule:∀(i j:Int) (t u:Tok) (s:Shared) (Q:Value->Shared->Prop) (E:Value->Shared->Prop),Q (.bool (g i j)) s->wpAny (model X.prog X.w) X.A (f (.int i t) (.int j u)) Q E s) :
  jX X f (Eb λi j=>.bl (g i j)):=by
 intro pins s σ H x y v u Q I rx ry h
 obtain⟨i,j,rfl,rfl,q⟩:=h
 obtain⟨t,rfl⟩:=rx
 obtain⟨t',rfl⟩:=ry
 exact rule i j t t' s _ _ ⟨.bl (g i j),H,I,rfl,q⟩
def Lc(i j:Int):Prop:=0<j/\j<1073741824
def Le(i j:Int):Prop:=0<=j/\j<=1000000/\i.natAbs<2 ^ 64
def GS(i j:Int):Prop:=(-(2 ^ 64)<i/\i<2 ^ 64)\/(-(2 ^ 64)<j/\j<2 ^ 64)
theorem GS.ok{i j:Int}(h:GS i j):IntMulOk i j:=by
 rcases h with⟨h1,h2⟩|⟨h1,h2⟩
 ·exact .of_left (intBits_le_64 h1 h2)
 ·exact .of_right (intBits_le_64 h1 h2)
theorem J6:jX X (binaryOp .Add) (Eb λi j=>.int (i+j)):=LG λ_ _ _ _ _ _ _ q=>add_int q
theorem oY:jX X (binaryOp .Sub) (Eb λi j=>.int (i-j)):=LG λ_ _ _ _ _ _ _ q=>sub_int q
theorem Kd:jX X (binaryOp .Mult) (rI GS λi j=>.int (i*j)):=Mh λ_ _ _ _ _ _ _ hc q=>mul_int q hc.ok
theorem xo:jX X (binaryOp .FloorDiv) (rI Lc λi j=>.int (i / j)):=Mh λi j _ _ _ _ _ hc q=>by
 have h1:(0:Int)<j:=hc.1
 have h2:j<1073741824:=hc.2
 exact floordiv_int (by lia) (by rw[Int.fdiv_eq_ediv_of_nonneg i (by lia)];exact q) (.inl (PyProof.noPylong_small (by lia)))
theorem ji:jX X (binaryOp .Mod) (rI (λ_ j=>0<j) λi j=>.int (i % j)):=Mh λi j _ _ _ _ _ hc q=>by
 have h1:(0:Int)<j:=hc
 exact mod_int' (by lia) (by rw[Int.fmod_eq_emod_of_nonneg i (by lia)];exact q)
theorem xp:jX X (binaryOp .Pow) (rI Le λi j=>.int (i ^ j.toNat)):=Mh λ_ _ _ _ _ _ _ hc q=>pow_int_small hc.1 hc.2.1 hc.2.2 q
theorem M6{f:Value->Sem Value}{g:Int->Int}
  (rule:∀(i:Int) (t:Tok) (s:Shared) (Q:Value->Shared->Prop) (E:Value->Shared->Prop),Q (.int (g i) s.toks) {s with toks:=s.toks+1}->wpAny (model X.prog X.w) X.A (f (.int i t)) Q E s) :
  Me X f (rU λi=>.int (g i)):=by
 intro pins s σ H x v Q I rx h
 obtain⟨i,rfl,q⟩:=h
 obtain⟨t,rfl⟩:=rx
 exact rule i t s _ _ ⟨.int (g i),H,I.tok _,⟨_,rfl⟩,q⟩
theorem K7:Me X (unaryOp .USub) (rU λi=>.int (-i)):=M6 λ_ _ _ _ _ q=>neg_int q
end
def KS:V->V->Bool
 |.non,.non=>true|.non,.int _=>true|.int _,.non=>true|.non,.bl _=>true|.bl _,.non=>true|.non,.str _=>true|.str _,.non=>true
 |.int _,.int _=>true|.bl _,.bl _=>true|.str _,.str _=>true|.byt _,.byt _=>true
 |.int _,.str _=>true|.str _,.int _=>true|.bl _,.str _=>true|.str _,.bl _=>true
 |_,_=>false
def MR:R2:=λx y H Q=>KS x y=true/\Q (.bl (decide (x=y))) H
def MS:R2:=λx y H Q=>KS x y=true/\Q (.bl (!decide (x=y))) H
theorem Bz{i j:Int}:decide (V.int i=V.int j)=(i==j):=by
 rw[Bool.eq_iff_iff]
 simp
theorem Ez{i j:Bool}:decide (V.bl i=V.bl j)=(i==j):=by
 rw[Bool.eq_iff_iff]
 simp
theorem pK{i j:Str}:decide (V.str i=V.str j)=(i==j):=by
 rw[Bool.eq_iff_iff]
 simp
theorem By{i j:Array UInt8}:decide (V.byt i=V.byt j)=(i.toList==j.toList):=by
 rw[Bool.eq_iff_iff]
 cases i
 cases j
 simp
section
variable{X:Cx}{a b c:Expr}{ta tb tc:TE}{pos:Pos}
theorem dm{pins:List (Addr×Obj)}{σ:St}{H:Hp}{s:Shared}{Q:VK}{k k':Bool}(I:bU X pins σ H s)(q:Q (.bl k) H)(e:k=k'):EP X pins σ Q (.bool k') s:=by
 subst e
 exact⟨.bl k,H,I,rfl,q⟩
theorem LH:jX X (compareOp .Eq) MR:=by
 intro pins s σ H x y v u Q I rx ry h
 obtain⟨hs,q⟩:=h
 cases x with
 |non=>
  cases rx
  cases y with
  |non=>cases ry;exact PySem.EqNone.eq_none_none (dm I q (by simp))
  |bl j=>cases ry;exact PySem.EqNone.eq_none_bool (dm I q (by simp))
  |int j=>obtain⟨t',rfl⟩:=ry;exact PySem.EqNone.eq_none_int (dm I q (by simp))
  |str j=>obtain⟨t',rfl⟩:=ry;exact PySem.EqNone.eq_none_str (dm I q (by simp))
  |_=>exact absurd (show false=true from hs) Bool.false_ne_true
 |bl i=>
  cases rx
  cases y with
  |non=>cases ry;exact PySem.EqNone.eq_bool_none (dm I q (by simp))
  |bl j=>cases ry;exact eq_bool (dm I q Ez)
  |str j=>obtain⟨t',rfl⟩:=ry;exact PySem.EqMixed.eq_bool_str (dm I q (by simp))
  |_=>exact absurd (show false=true from hs) Bool.false_ne_true
 |int i=>
  obtain⟨t,rfl⟩:=rx
  cases y with
  |non=>cases ry;exact PySem.EqNone.eq_int_none (dm I q (by simp))
  |int j=>obtain⟨t',rfl⟩:=ry;exact eq_int (dm I q Bz)
  |str j=>obtain⟨t',rfl⟩:=ry;exact PySem.EqMixed.eq_int_str (dm I q (by simp))
  |_=>exact absurd (show false=true from hs) Bool.false_ne_true
 |str i=>
  obtain⟨t,rfl⟩:=rx
  cases y with
  |non=>cases ry;exact PySem.EqNone.eq_str_none (dm I q (by simp))
  |bl j=>cases ry;exact PySem.EqMixed.eq_str_bool (dm I q (by simp))
  |int j=>obtain⟨t',rfl⟩:=ry;exact PySem.EqMixed.eq_str_int (dm I q (by simp))
  |str j=>obtain⟨t',rfl⟩:=ry;exact eq_str (dm I q pK)
  |_=>exact absurd (show false=true from hs) Bool.false_ne_true
 |byt i=>
  obtain⟨t,rfl⟩:=rx
  cases y with
  |byt j=>obtain⟨t',rfl⟩:=ry;exact PySem.W.eq_bytes (dm I q By)
  |_=>exact absurd (show false=true from hs) Bool.false_ne_true
 |_=>cases y<;>exact absurd (show false=true from hs) Bool.false_ne_true
theorem LJ:jX X (compareOp .NotEq) MS:=by
 intro pins s σ H x y v u Q I rx ry h
 obtain⟨hs,q⟩:=h
 cases x with
 |non=>
  cases rx
  cases y with
  |non=>cases ry;exact PySem.EqNone.ne_none_none (dm I q (by simp))
  |bl j=>cases ry;exact PySem.EqNone.ne_none_bool (dm I q (by simp))
  |int j=>obtain⟨t',rfl⟩:=ry;exact PySem.EqNone.ne_none_int (dm I q (by simp))
  |str j=>obtain⟨t',rfl⟩:=ry;exact PySem.EqNone.ne_none_str (dm I q (by simp))
  |_=>exact absurd (show false=true from hs) Bool.false_ne_true
 |bl i=>
  cases rx
  cases y with
  |non=>cases ry;exact PySem.EqNone.ne_bool_none (dm I q (by simp))
  |bl j=>cases ry;exact ne_bool (dm I q (congrArg not Ez))
  |str j=>obtain⟨t',rfl⟩:=ry;exact PySem.EqMixed.ne_bool_str (dm I q (by simp))
  |_=>exact absurd (show false=true from hs) Bool.false_ne_true
 |int i=>
  obtain⟨t,rfl⟩:=rx
  cases y with
  |non=>cases ry;exact PySem.EqNone.ne_int_none (dm I q (by simp))
  |int j=>obtain⟨t',rfl⟩:=ry;exact ne_int (dm I q (congrArg not Bz))
  |str j=>obtain⟨t',rfl⟩:=ry;exact PySem.EqMixed.ne_int_str (dm I q (by simp))
  |_=>exact absurd (show false=true from hs) Bool.false_ne_true
 |str i=>
  obtain⟨t,rfl⟩:=rx
  cases y with
  |non=>cases ry;exact PySem.EqNone.ne_str_none (dm I q (by simp))
  |bl j=>cases ry;exact PySem.EqMixed.ne_str_bool (dm I q (by simp))
  |int j=>obtain⟨t',rfl⟩:=ry;exact PySem.EqMixed.ne_str_int (dm I q (by simp))
  |str j=>obtain⟨t',rfl⟩:=ry;exact ne_str (dm I q (congrArg not pK))
  |_=>exact absurd (show false=true from hs) Bool.false_ne_true
 |byt i=>
  obtain⟨t,rfl⟩:=rx
  cases y with
  |byt j=>obtain⟨t',rfl⟩:=ry;exact PySem.W.ne_bytes (dm I q (congrArg not By))
  |_=>exact absurd (show false=true from hs) Bool.false_ne_true
 |_=>cases y<;>exact absurd (show false=true from hs) Bool.false_ne_true
theorem rB:jX X (compareOp .Lt) (Eb λi j=>.bl (decide (i<j))):=J5 λ_ _ _ _ _ _ _ q=>lt_int q
theorem ow:jX X (compareOp .Gt) (Eb λi j=>.bl (decide (j<i))):=J5 λ_ _ _ _ _ _ _ q=>gt_int q
theorem LI:jX X (compareOp .GtE) (Eb λi j=>.bl (decide (j<=i))):=J5 λ_ _ _ _ _ _ _ q=>ge_int q
theorem AL:jX X (compareOp .Is) (λx y H Q=>y=.non/\Q (.bl (decide (x=.non))) H):=by
 intro pins s σ H x y v u Q I rx ry h
 obtain⟨rfl,q⟩:=h
 cases ry
 refine is_none_gen (dm I q ?_)
 cases x<;>first
  |(cases rx;rfl)
  |(obtain⟨t,rfl⟩:=rx;rfl)
theorem pU:jX X (compareOp .IsNot) (λx y H Q=>y=.non/\Q (.bl (!decide (x=.non))) H):=by
 intro pins s σ H x y v u Q I rx ry h
 obtain⟨rfl,q⟩:=h
 cases ry
 refine isnot_none_gen (dm I q ?_)
 cases x<;>first
  |(cases rx;rfl)
  |(obtain⟨t,rfl⟩:=rx;rfl)
theorem jX.or{f:Value->Value->Sem Value}{r r':R2}(h:jX X f r)(h':jX X f r'):jX X f (λx y H Q=>r x y H Q\/r' x y H Q):=by
 intro pins s σ H x y v u Q I rx ry q
 rcases q with q|q
 ·exact h pins s σ H x y v u Q I rx ry q
 ·exact h' pins s σ H x y v u Q I rx ry q
theorem HQ{op:CmpOp}{r:R2}(ho:jX X (compareOp op) r)(ha:PE X a ta)(hb:PE X b tb)(hm:behindInMarks op b=false):PE X (.Compare a [op] [b] pos) (bI r ta tb):=by
 intro pins s σ H Q I h
 exact wpAny_Compare1 (Jy ha hb I h λv u s2 x y H2 I2 rx ry q=>ho pins s2 σ H2 x y v u Q I2 rx ry q) hm
def bP(t:TE):TT:=λσ H Q=>t σ H λx H'=>∃k,x=.bl k/\Q k H'
theorem Ip{op:CmpOp}{r:R2}(ho:jX X (compareOp op) r)(ha:PE X a ta)(hb:PE X b tb)(hm:behindInMarks op b=false):PT X (.Compare a [op] [b] pos) (bP (bI r ta tb)):=by
 intro pins s σ H Q I h
 refine wpAny_isTrue_Compare1 (gd (ha pins s σ H _ I h) λv s1 ⟨x,H1,I1,r1,q1⟩=>gd (hb pins s1 σ H1 _ I1 q1) λu s2 ⟨y,H2,I2,r2,q2⟩=>
  gd (ho pins s2 σ H2 x y v u _ I2 r1 r2 q2) λc s3 ⟨z,H3,I3,r3,k,e,q3⟩=>?_) hm
 subst e
 cases r3
 exact wpAny_truthy_bool ⟨H3,I3,q3⟩
theorem ua:(sizeLine:Nat)<2 ^ 63:=by rw[sizeLine_eq];decide
theorem AK:jX X (binaryOp .Add) (λx y H Q=>∃i j,x=.str i/\y=.str j/\i.length+j.length<=sizeLine/\Q (.str (i++j)) H):=by
 intro pins s σ H x y v u Q I rx ry h
 obtain⟨i,j,rfl,rfl,hz,q⟩:=h
 obtain⟨t,rfl⟩:=rx
 obtain⟨t',rfl⟩:=ry
 exact add_str (λt' tk=>⟨.str (i++j),H,I.tok _,⟨_,rfl⟩,q⟩) hz
theorem m5{x:V}{us:List Value}(r:cu [x] us):∃u,us=[u]/\cJ x u:=by
 cases r with
 |cons r1 r2=>cases r2;exact⟨_,rfl,r1⟩
theorem zO{x y:V}{us:List Value}(r:cu [x,y] us):∃u w',us=[u,w']/\cJ x u/\cJ y w':=by
 cases r with
 |cons r1 r2=>
  cases r2 with
  |cons r3 r4=>cases r4;exact⟨_,_,rfl,r1,r3⟩
theorem CG(hc:X.calm=true):i8 X (.builtin "max") (λxs H Q=>∃i j,xs=[.int i,.int j]/\Q (.int (if j>i then j else i)) H):=by
 intro pins s σ H xs us Q I r h
 obtain⟨i,j,rfl,q⟩:=h
 obtain⟨u,w',rfl,⟨t,rfl⟩,⟨t',rfl⟩⟩:=zO r
 refine max_two_ints (I.ok.hd hc) λh' tk k=>⟨_,H,I.kept k,?_,q⟩
 by_cases hj:j>i
 ·rw[if_pos hj,if_pos hj];exact⟨_,rfl⟩
 ·rw[if_neg hj,if_neg hj];exact⟨_,rfl⟩
theorem CH(hc:X.calm=true):i8 X (.builtin "min") (λxs H Q=>∃i j,xs=[.int i,.int j]/\Q (.int (if j<i then j else i)) H):=by
 intro pins s σ H xs us Q I r h
 obtain⟨i,j,rfl,q⟩:=h
 obtain⟨u,w',rfl,⟨t,rfl⟩,⟨t',rfl⟩⟩:=zO r
 refine min_two_ints (I.ok.hd hc) λh' tk k=>⟨_,H,I.kept k,?_,q⟩
 by_cases hj:j<i
 ·rw[if_pos hj,if_pos hj];exact⟨_,rfl⟩
 ·rw[if_neg hj,if_neg hj];exact⟨_,rfl⟩
theorem qK:i8 X (.type "int") (λxs H Q=>(∃i,xs=[.int i]/\Q (.int i) H)\/∃k,xs=[.bl k]/\Q (.int (if k then 1 else 0)) H):=by
 intro pins s σ H xs us Q I r h
 rcases h with⟨i,rfl,q⟩|⟨k,rfl,q⟩
 ·obtain⟨u,rfl,t,rfl⟩:=m5 r
  exact call_int_int ⟨.int i,H,I,⟨_,rfl⟩,q⟩
 ·obtain⟨u,rfl,r1⟩:=m5 r
  cases r1
  exact call_int_bool ⟨.int (if k then 1 else 0),H,I.tok _,⟨_,rfl⟩,q⟩
def Lj(K:Fg)(x:V)(H:Hp)(n:Nat):Prop:=
 match x with
 |.str y=>y.length<=sizeLine/\n=y.length
 |.byt y=>y.size<=sizeLine/\n=y.size
 |.ref p=>(∃xs,cq K H p xs/\n=xs.length)\/∃xs,dC K H p xs/\n=xs.length
 |_=>False
theorem cC:i8 X (.builtin "len") (λxs H Q=>∃x n,xs=[x]/\Lj X.K x H n/\Q (.int n) H):=by
 intro pins s σ H xs us Q I r h
 obtain⟨x,n,rfl,e,q⟩:=h
 obtain⟨u,rfl,rx⟩:=m5 r
 have hl:=ua
 have hs:sizeLine=16777216:=sizeLine_eq
 cases x with
 |str y=>
  obtain⟨t,rfl⟩:=rx
  obtain⟨hy,e'⟩:y.length<=sizeLine/\n=y.length:=e
  subst e'
  exact len_str (by lia) ⟨.int _,H,I.tok _,⟨_,rfl⟩,q⟩
 |byt y=>
  obtain⟨t,rfl⟩:=rx
  obtain⟨hy,e'⟩:y.size<=sizeLine/\n=y.size:=e
  subst e'
  exact PySem.W.len_bytes (by lia) ⟨.int _,H,I.tok _,⟨_,rfl⟩,q⟩
 |ref p=>
  cases rx
  have e':(∃xs,cq X.K H p xs/\n=xs.length)\/∃xs,dC X.K H p xs/\n=xs.length:=e
  rcases e' with⟨xs,hx,e'⟩|⟨xs,hx,e'⟩
  ·subst e'
   obtain⟨its,r',pl,hz⟩:=I.list hx
   have hlen:=r'.length
   exact Calls.call_len_list pl.isList (by simp only[au];lia) ⟨.int xs.length,H,I.tok _,⟨_,by simp only[au];rw[hlen]⟩,q⟩
  ·subst e'
   obtain⟨its,r',pl,hz⟩:=I.tuple hx
   have hlen:=r'.length
   exact len_tuple pl (by simp only[au];lia) ⟨.int xs.length,H,I.tok _,⟨_,by simp only[au];rw[hlen]⟩,q⟩
 |_=>exact(show False from e).elim
end
structure CA(h:Heap)(x dx C:Addr)(mA:Str->Option Value):Prop where
 obj:h.get? x=some (eh C dx)
 ns:h.Ns1 dx mA
 ne:dx≠x
theorem Dm{h:Heap}{dx:Addr}{mA:Str->Option Value}(n:h.Ns1 dx mA):∃od,h.get? dx=some od/\∀name,m9 name od=some (mA name):=by
 obtain⟨o,es,ep,ho,hd,hk,_,hm⟩:=n
 refine⟨o,ho,λname=>?_⟩
 have e:=hm name
 unfold nsFind findBy at e
 rw[<-Array.find?_toList] at e
 unfold m9
 rw[hd]
 dsimp only
 split
 ·rename_i y q
  rw[q] at e
  exact congrArg some e
 ·rename_i q
  rw[q] at e
  have a:es.toList.any (·.refKey)=false:=by
   rw[List.any_eq_false]
   intro y hy
   obtain⟨z,t,hkey⟩:=hk y (Array.mem_toList_iff.mp hy)
   simp[DictEntry.refKey,hkey]
  have a':¬es.toList.any (·.refKey)=true:=by rw[a];exact Bool.false_ne_true
  rw[if_neg a']
  exact congrArg some e
theorem CA.look{h:Heap}{x dx C:Addr}{mA:Str->Option Value}(I:CA h x dx C mA):∃od,PySem.W.InstAt h x (eh C dx) C (some od)/\∀name,m9 name od=some (mA name):=
 let⟨od,ho,hl⟩:=Dm I.ns
 ⟨od,⟨I.obj,rfl,rfl,ho⟩,hl⟩
section
variable{prog:Program}{w:World}{A:Around}{E:Value->Shared->Prop}{s:Shared}{K:Fg}{x dx C f:Addr}{mA:Str->Option Value}{name:Str}{v:Value}
theorem Hj{expr:Bool}{Q:Value->Shared->Prop}(X:K.In s.heap)(I:CA s.heap x dx C mA)(hg:jc K C name=true)(hh:iU K C=true)
  (ha:cz K (.ref C) name=some none) (hv:mA name=some v) (hv':PySem.W.handedIn v=true) (h:Q v {s with toks:=s.toks+1}) :
  wpAny (model prog w) A (getAttr (.ref x) name expr) Q E s:=by
 obtain⟨od,J,hl⟩:=I.look
 exact PySem.W.get_value X J (PySem.W.plainGet_of hg).1 (PySem.W.findObj_own hh ha rfl (by rw[hl,hv])) hv' h
theorem IM{ns:List Str}{Q:Unit->Shared->Prop}(X:K.In s.heap)(I:CA s.heap x dx C mA)
  (hs:cz K (.ref C) "__setattr__"=some (some (.builtin "object.__setattr__"))) (hp:kJ K C=true) (ht:mM K C name=some none) (hh:iU K C=true)
  (hw:PySem.Within mA ns) (hsz:ns.length<=sizeLine)
  (h:∀h',CA h' x dx C (λy=>if y=name then some v else mA y)->Heap.SameBut dx s.heap h'->Q () {s with heap:=h',toks:=s.toks+2}) :
  wpAny (model prog w) A (setAttr (.ref x) name v) Q E s:=by
 obtain⟨od,J,hl⟩:=I.look
 refine PySem.W.set_plain X J hs (PySem.W.osa_open (s:={s with toks:=s.toks+1}) (r:=none) X J hp ht λb=>?_)
 obtain⟨cd,hc,hd'⟩:=PySem.W.any_some hh
 have hx:s.heap.get? x=some ⟨.ref C,some dx,.plain,#[]⟩:=I.obj
 refine wpAny_bind (wpAny_pure (wpAny_bind (wpAny_bind (wpAny_loadPart hx (wpAny_bind (PySem.W.Looks.here (s:={s with toks:=s.toks+1}) (PySem.W.looks_clsIn X hc) ?_))))))
 rw[hd']
 refine wpAny_pure (a:=some dx) (wpAny_bind (wpAny_pure (wpAny_bind ?_)))
 refine wpAny_nsSet1 (s:={s with toks:=s.toks+1}) I.ns λh' hn2 hs2=>?_
 obtain⟨oD,esD,epD,hoD,hdD,hcD⟩:=hn2.count (PySem.Within.cons name v hw)
 refine wpAny_bind (wpAny_lookBehind hoD (by rw[hdD];exact pastItsLine_dict (bx hcD (by rw[bG];lia))) ?_)
 exact wpAny_pure (h _ ⟨(hs2.2 _ (Ne.symm I.ne)).trans I.obj,hn2,I.ne⟩ hs2)
theorem E9{R:Result->Shared->Prop}{vs:List Value}{kw:List (Str×Value)}(X:K.In s.heap)(hm:mL K C=true)
  (hi:cz K (.ref C) "__init__"=some (some (.ref f))) (hf:PySem.W.typeIn K (.ref f)=some (.type "function"))
  (h:codeAny (model prog w) (A.under (.builtin "type.__call__" ⟨.ref C::vs,kw⟩)) (.call (.ref f) ⟨.ref (s.heap.objs.size+1)::vs,kw⟩) (PySem.W.InitBack (s.heap.objs.size+1) R)
   {s with heap:=(s.heap.push dk).push (eh C s.heap.objs.size)}) :
  codeAny (model prog w) A (.call (.ref C) ⟨vs,kw⟩) R s:=by
 obtain⟨hh,g,d,t,os⟩:=s
 exact PySem.W.make_core (PySem.W.makes_of X hm) (PySem.W.looks_findIn X hi) (λself=>PySem.W.bind_fn X self hf) (.inl rfl) h
end
def putF(f:Str)(v:V):List (Str×V)->List (Str×V)
 |[]=>[(f,v)]
 |(g,x)::r=>if g=f then(g,v)::r else(g,x)::putF f v r
theorem rA(f g:Str)(v:V):∀fs:List (Str×V),(putF f v fs).lookup g=if g=f then some v else fs.lookup g
 |[]=>by
  show gN g [(f,v)]=_
  by_cases h:g=f
  ·have hb:(g==f)=true:=beq_iff_eq.mpr h
   simp only[gN,hb,if_pos h]
  ·have hb:(g==f)=false:=beq_eq_false_iff_ne.mpr h
   simp only[gN,hb,if_neg h]
 |(k,x)::r=>by
  have ih:=rA f g v r
  rw[show putF f v ((k,x)::r)=(if k=f then(k,v)::r else(k,x)::putF f v r) from rfl]
  by_cases hk:k=f
  ·rw[if_pos hk]
   by_cases h:g=k
   ·have hb:(g==k)=true:=beq_iff_eq.mpr h
    simp only[gN,hb,if_pos (h.trans hk)]
   ·have hb:(g==k)=false:=beq_eq_false_iff_ne.mpr h
    simp only[gN,hb,if_neg (λe:g=f=>h (e.trans hk.symm))]
  ·rw[if_neg hk]
   by_cases h:g=k
   ·have hb:(g==k)=true:=beq_iff_eq.mpr h
    simp only[gN,hb,if_neg (λe:g=f=>hk (h.symm.trans e))]
   ·have hb:(g==k)=false:=beq_eq_false_iff_ne.mpr h
    simp only[gN,hb]
    exact ih
theorem qO(f:Str)(v:V):∀fs:List (Str×V),f∈(putF f v fs).map (·.1)/\∀g,g∈fs.map (·.1)->g∈(putF f v fs).map (·.1)
 |[]=>⟨by simp[putF],λg h=>by simp at h⟩
 |(k,x)::r=>by
  obtain⟨i1,i2⟩:=qO f v r
  rw[show putF f v ((k,x)::r)=(if k=f then(k,v)::r else(k,x)::putF f v r) from rfl]
  by_cases hk:k=f
  ·rw[if_pos hk]
   subst hk
   exact⟨by simp,λg h=>by simpa using h⟩
  ·rw[if_neg hk]
   refine⟨?_,λg h=>?_⟩
   ·rw[bq]
    exact bu _ i1
   ·rw[bq] at h ⊢
    rcases aN.mp h with e|e
    ·exact aN.mpr (.inl e)
    ·exact bu _ (i2 g e)
theorem rq(f:Str)(v:V):∀fs:List (Str×V),(putF f v fs).length<=fs.length+1
 |[]=>by simp[putF]
 |(k,x)::r=>by
  have ih:=rq f v r
  rw[show putF f v ((k,x)::r)=(if k=f then(k,v)::r else(k,x)::putF f v r) from rfl]
  by_cases hk:k=f
  ·rw[if_pos hk,bG,bG];lia
  ·rw[if_neg hk,bG,bG];lia
theorem pG.some_of{v:V}{o:Option Value}(r:pG (some v) o):∃u,o=some u/\cJ v u:=by
 cases o with
 |none=>exact(show False from r).elim
 |some u=>exact⟨u,rfl,r⟩
theorem CV{v:V}{u:Value}(r:cJ v u):PySem.W.handedIn u=true:=by
 cases v with
 |non=>cases(show u=Value.none from r);rfl
 |bl b=>cases(show u=Value.bool b from r);rfl
 |int i=>obtain⟨t,e⟩:=(show ∃t,u=Value.int i t from r);cases e;rfl
 |str x=>obtain⟨t,e⟩:=(show ∃t,u=Value.str x t from r);cases e;rfl
 |byt b=>obtain⟨t,e⟩:=(show ∃t,u=Value.bytes b t from r);cases e;rfl
 |flt b=>obtain⟨t,e⟩:=(show ∃t,u=Value.float b t from r);cases e;rfl
 |ref a=>cases(show u=Value.ref a from r);rfl
 |ty n=>cases(show u=Value.type n from r);rfl
section
variable{P:Program}{w:World}{H H':Hp}{h h':Heap}{a C dx:Addr}{fs fs':List (Str×V)}
theorem BE(hok:pj P w H h)(e:H a=some (.ins C dx fs)):∃mA,CA h a dx C mA/\(∀f,pG (fs.lookup f) (mA f))/\PySem.Within mA (fs.map (·.1))/\fs.length<=1000/\H dx=some (.own a):=by
 obtain⟨d,z,ne,ob,mA,n,r,q⟩:=(show fH P w H h a (.ins C dx fs) from hok a _ e)
 exact⟨mA,⟨ob,n,ne⟩,r,q,z,d⟩
end
structure Jb(K:Fg)(C:Addr):Prop where
 pg:jc K C Str.empty=true
 hd:iU K C=true
 po:kJ K C=true
 sa:cz K (.ref C) "__setattr__"=some (some (.builtin "object.__setattr__"))
theorem Jb.get{K:Fg}{C:Addr}(c:Jb K C)(f:Str):jc K C f=true:=c.pg
def jP(K:Fg)(C:Addr)(f:Str):Prop:=cz K (.ref C) f=some none
theorem jP.taker{K:Fg}{C:Addr}{f:Str}(n:jP K C f):mM K C f=some none:=by
 unfold mM
 rw[show cz K (.ref C) f=some none from n]
 rfl
section
variable{X:Cx}{pins:List (Addr×Obj)}{σ:St}{H:Hp}{s:Shared}{a C dx:Addr}{fs:List (Str×V)}{f:Str}{v:V}{A:Around}{E:Value->Shared->Prop}
theorem Al{b:Bool}{Q:Value->Shared->Prop}(I:bU X pins σ H s)(e:H a=some (.ins C dx fs))(c:Jb X.K C)(n:jP X.K C f)(l:fs.lookup f=some v)
  (h:∀u s',bU X pins σ H s'->cJ v u->Q u s'):wpAny (model X.prog X.w) A (getAttr (.ref a) f b) Q E s:=by
 obtain⟨mA,O,r,_,_,_⟩:=BE I.hok e
 obtain⟨u,hu,ru⟩:=pG.some_of (v:=v) (o:=mA f) (by rw[<-l];exact r f)
 exact Hj I.kIn O (c.get f) c.hd n hu (CV ru) (h u _ (I.tok _) ru)
theorem AZ{y:V}{u:Value}{Q:Unit->Shared->Prop}(I:bU X pins σ H s)(e:H a=some (.ins C dx fs))(c:Jb X.K C)(n:jP X.K C f)(hl:fs.length<1000)(ry:cJ y u)
  (h:∀s',bU X pins σ (upd H a (.ins C dx (putF f y fs))) s'->Q () s'):wpAny (model X.prog X.w) A (setAttr (.ref a) f u) Q E s:=by
 obtain⟨mA,O,r,wi,_,ho⟩:=BE I.hok e
 have hz:(fs.map (·.1)).length<=sizeLine:=by rw[ae,sizeLine_eq];lia
 refine IM I.kIn O c.sa c.po n.taker c.hd wi hz λh' O' sb=>h _ ?_
 have hd:∃o,h'.get? dx=some o:=let⟨o,_,_,e',_⟩:=O'.ns;⟨o,e'⟩
 refine I.write (x:=a) (e:=dx) (by rw[e];exact True.intro) (.inr ho) (λb q hb z=>(sb.2 b hb).trans z) hd ?_
 refine⟨by rw[ax O.ne];exact ho,?_,O.ne,O'.obj,_,O'.ns,λg=>?_,λg hg=>?_⟩
 ·have:=rq f y fs;lia
 ·show pG ((putF f y fs).lookup g) (if g=f then some u else mA g)
  rw[rA]
  by_cases q:g=f
  ·rw[if_pos q,if_pos q];exact ry
  ·rw[if_neg q,if_neg q];exact r g
 ·by_cases q:g=f
  ·rw[q];exact(qO f y fs).1
  ·refine(qO f y fs).2 g (wi g λz=>hg ?_)
   show(if g=f then some u else mA g)=none
   rw[if_neg q];exact z
theorem bU.made(I:bU X pins σ H s):bU X pins σ (upd (upd H s.heap.objs.size (.own (s.heap.objs.size+1))) (s.heap.objs.size+1) (.ins C s.heap.objs.size []))
  {s with heap:=(s.heap.push dk).push (eh C s.heap.objs.size)}:=by
 have e1:(s.heap.push dk).get? s.heap.objs.size=some dk:=aQ s.heap rfl
 have e2:((s.heap.push dk).push (eh C s.heap.objs.size)).get? (s.heap.objs.size+1)=some (eh C s.heap.objs.size):=by
  have:=aQ (s.heap.push dk) (o:=eh C s.heap.objs.size) rfl
  rwa [iP] at this
 have e3:(s.heap.push dk).Ns s.heap.objs.size (λ_=>none):=⟨dk,#[],_,e1,rfl,(λe he=>absurd he (by simp)),λ_=>rfl⟩
 have I1:=I.laid (a:=s.heap.objs.size) (o:=.own (s.heap.objs.size+1)) (h':=s.heap.push dk) (t':=s.toks) (λb u q=>aA _ q) (aB _) ⟨_,e1⟩
 refine I1.laid (a:=s.heap.objs.size+1) (o:=.ins C s.heap.objs.size []) (t':=s.toks) (λb u q=>aA _ q) (Nat.le_of_eq (iP _ _)) ?_
 have ne:s.heap.objs.size≠s.heap.objs.size+1:=aV (lJ _)
 refine⟨by rw[ax ne,ag],cf _,ne,e2,λ_=>none,(Heap.Ns1.of_empty e3).at λo q=>aA _ q,λ_=>True.intro,λy hy=>absurd rfl hy⟩
theorem G3{prog:Program}{w:World}{env:Env}{e:Expr}{f:Str}{pos:Pos}{s:Shared}{Q:Value->Shared->Prop}(hb:attributeBase e f env (eval e env)=eval e env)
  (h:wpAny (model prog w) A (eval e env) (λo s₁=>wpAny (model prog w) A (getAttr o f true) Q E s₁) E s):wpAny (model prog w) A (eval (.Attribute e f pos) env) Q E s:=
 Attribute_any_ h (by rw[arm_eval_Attribute,hb])
end
def pf(K:Fg)(ta:TE)(f:Str):TE:=λσ H Q=>ta σ H λx H1=>∃a C dx fs v,x=.ref a/\H1 a=some (.ins C dx fs)/\Jb K C/\jP K C f/\fs.lookup f=some v/\Q v H1
def yZ(K:Fg)(ta tv:TE)(f:Str):TS:=λD σ H=>tv σ H λy H1=>ta σ H1 λx H2=>∃a C dx fs,x=.ref a/\H2 a=some (.ins C dx fs)/\Jb K C/\jP K C f/\fs.length<1000/\
 D.nx σ (upd H2 a (.ins C dx (putF f y fs)))
section
variable{X:Cx}{o e value:Expr}{f:Str}{pos pos' tpos:Pos}{ta tv:TE}
theorem Kj(he:PE X e ta)(hb:attributeBase e f X.env (eval e X.env)=eval e X.env):PE X (.Attribute e f pos) (pf X.K ta f):=by
 intro pins s σ H Q I h
 refine G3 hb (gd (he pins s σ H _ I h) λu s1 ⟨x,H1,I1,rx,a,C,dx,fs,v,ex,ea,c,n,l,q⟩=>?_)
 subst ex
 obtain rfl:u=Value.ref a:=rx
 exact Al I1 ea c n l λu' s2 I2 ru=>⟨v,H1,I2,ru,q⟩
theorem Kx(ha:PE X o ta)(hv:PE X value tv)(hs:swapsWith value (some (.Attribute o f pos')) pos.line X.env=pure false):PS X (.Assign [.Attribute o f pos'] value pos) (yZ X.K ta tv f):=by
 intro pins s σ H D I h
 refine plainObj_wpAny_Assign_Attribute (gd (hv pins s σ H _ I h) λu s1 ⟨y,H1,I1,ry,q⟩=>gd (ha pins s1 σ H1 _ I1 q) λov s2 ⟨x,H2,I2,rx,a,C,dx,fs,ex,ea,c,n,l,q2⟩=>?_) hs
 subst ex
 obtain rfl:ov=Value.ref a:=rx
 exact AZ I2 ea c n l ry λs3 I3=>⟨σ,_,I3,q2⟩
end
section
variable{X:Cx}{pins:List (Addr×Obj)}{σ:St}{H:Hp}{s:Shared}{A:Around}{E:Value->Shared->Prop}{Q:Value->Shared->Prop}{c:Value}{b:Bool}
end
structure dh(k:Nat)(A:Around):Prop where
 hd:A.handled=none
 dp:A.depth+3*k+5<recursionLimit
 un:A.units+16*k+200<cLine
theorem dh.mono{j k:Nat}{A:Around}(r:dh k A)(h:j<=k):dh j A:=⟨r.hd,by have:=r.dp;lia,by have:=r.un;lia⟩
theorem dh.deeper{k:Nat}{A:Around}(r:dh (k+1) A)(env:Env):dh k (A.deeper env):=
 ⟨r.hd,by have:=r.dp;show A.depth+1+3*k+5<_;lia,by have:=r.un;show A.units+3+16*k+200<_;lia⟩
theorem AB{A:Around}{C:Addr}{us:List Value}{kw:List (Str×Value)}:(A.under (.builtin "type.__call__" ⟨.ref C::us,kw⟩)).depth=A.depth+1:=by
 first|rfl|simp[Around.under,Code.weight,Code.isCreation,Code.isGuard,Code.isCaller,Code.frames,Code.isFrame,guardIds]
theorem AC{A:Around}{C:Addr}{us:List Value}{kw:List (Str×Value)}:(A.under (.builtin "type.__call__" ⟨.ref C::us,kw⟩)).units=A.units+1:=by
 first|rfl|simp[Around.under,Code.cUnits,Code.frames,Code.isFrame]
theorem dh.make{k:Nat}{A:Around}(r:dh (k+1) A)(C:Addr)(us:List Value)(kw:List (Str×Value)):dh k (A.under (.builtin "type.__call__" ⟨.ref C::us,kw⟩)):=
 ⟨r.hd,by have:=r.dp;rw[AB];lia,by have:=r.un;rw[AC];lia⟩
theorem dh.depth{k:Nat}{A:Around}(r:dh k A):A.depth<recursionLimit:=by have:=r.dp;lia
theorem dh.units{k:Nat}{A:Around}(r:dh k A):A.units+64<cLine:=by have:=r.un;lia
theorem dh.units0{k:Nat}{A:Around}(r:dh k A):A.units<cLine:=by have:=r.un;lia
def aM:TA:=λ_ H Q=>Q [] H
def aj(ta:TE)(tr:TA):TA:=λσ H Q=>ta σ H λx H1=>tr σ H1 λxs H2=>Q (x::xs) H2
section
variable{X:Cx}{e:Expr}{es:List Expr}{te:TE}{t:TA}{pos:Pos}
theorem Kh:PA X [] aM:=λ_ _ _ _ H Q I h=>Calls.spliced_nil ⟨[],H,I,.nil,h⟩
theorem HN(ha:PE X e te)(hr:PA X es t)(hs:starEach (e::es) X.env=(false,eval e X.env)::starEach es X.env:=by rfl):PA X (e::es) (aj te t):=by
 intro pos pins s σ H Q I h
 rw[hs]
 show wpAny _ _ (spliced ((false,eval e X.env)::backTo pos (starEach es X.env))) _ _ s
 refine Calls.spliced_cons (gd (ha pins s σ H _ I h) λu s1 ⟨x,H1,I1,r1,q1⟩=>?_)
 exact gd (hr pos pins s1 σ H1 _ I1 q1) λus s2 ⟨xs,H2,I2,r2,q2⟩=>⟨x::xs,H2,I2,.cons r1 r2,q2⟩
def eM(t:TA):TE:=λσ H Q=>t σ H λxs H1=>xs.length<=sizeLine/\∀p,H1 p=none->Q (.ref p) (upd H1 p (.tup xs))
def kc(t:TA):TE:=λσ H Q=>t σ H λxs H1=>xs.length<=sizeLine/\∀p,H1 p=none->Q (.ref p) (upd H1 p (.lst xs))
theorem Kp{x1}(h:PA X es t):PE X (.Tuple es x1 pos) (eM t):=by
 intro pins s σ H Q I hq
 refine wpAny_Tuple_spliced (gd (h pos pins s σ H _ I hq) λus s1 ⟨xs,H1,I1,r,z,q⟩=>⟨by rw[<-r.length];exact z,?_⟩)
 have hf:H1 s1.heap.objs.size=none:=I1.hok.fresh (aB _)
 refine⟨.ref s1.heap.objs.size,upd H1 s1.heap.objs.size (.tup xs),I1.laid (t':=s1.toks) (λb u e=>aA _ e) (aB _) ?_,rfl,q _ hf⟩
 exact⟨z,us,r,⟨_,aQ _ rfl,⟨rfl,rfl⟩,_,rfl⟩⟩
theorem Km(h:PA X es t):PE X (.List es pos) (kc t):=by
 intro pins s σ H Q I hq
 refine wpAny_List_spliced (gd (h pos pins s σ H _ I hq) λus s1 ⟨xs,H1,I1,r,z,q⟩=>⟨by rw[<-r.length];exact z,?_⟩)
 have hf:H1 s1.heap.objs.size=none:=I1.hok.fresh (aB _)
 refine⟨.ref s1.heap.objs.size,upd H1 s1.heap.objs.size (.lst xs),I1.laid (t':=s1.toks) (λb u e=>aA _ e) (aB _) ?_,rfl,q _ hf⟩
 exact⟨z,us,0,r,aQ _ rfl⟩
end
abbrev Sp:=List V->Hp->VK->XK->Prop
abbrev Ed:=List Env->Hp->Shared->XK->Value->Shared->Prop
structure zT(P:Program)(w:World)(K:Fg)(mg:Str->Option Value)(base:Heap)(A:Around)(outer:List Env)(s:Shared)(H:Hp):Prop where
 frames:A.frames=some outer
 mod:Mod K mg base
 bs:∀b o,base.get? b=some o->s.heap.get? b=some o/\H b=none
 bsz:base.objs.size<=s.heap.objs.size
 funs:s.heap.FunFrames base outer
 frf:∀b∈EG outer,H b=none
 hok:pj P w H s.heap
 bare:AllBare s.gens
def CE(outer:List Env)(P:Program)(w:World)(H:Hp)(s:Shared)(Q:VK)(u:Value)(s':Shared):Prop:=
 ∃v H',s'.os=s.os/\AllBare s'.gens/\Un (EG outer) [] H H' s.heap s'.heap/\pj P w H' s'.heap/\cJ v u/\Q v H'
def CR(CX:Ed)(outer:List Env)(P:Program)(w:World)(H:Hp)(s:Shared)(Q:VK)(E:XK)(r:Result)(s':Shared):Prop:=
 match r with
 |.ok (.ret u)=>CE outer P w H s Q u s'
 |.ok _=>False
 |.error e=>CX outer H s E e s'
structure eG(P:Program)(w:World)(K:Fg)(mg:Str->Option Value)(base:Heap)(CX:Ed)(k:Nat)(f:Addr)(fd:FuncData)(ps:List Str)(sp:Sp):Prop where
 len:∀vs H Q E,sp vs H Q E->vs.length=ps.length
 run:∀(A:Around) (outer:List Env) (s:Shared) (H:Hp) (args:Args) (us:List Value) (vs:List V) (Q:VK) (E:XK),dh k A->zT P w K mg base A outer s H->BindsTo s fd args (ps.zip us)->cu vs us->sp vs H Q E->
  codeAny (model P w) A (.call (.ref f) args) (CR CX outer P w H s Q E) s
theorem zT.make{P:Program}{w:World}{K:Fg}{mg:Str->Option Value}{base:Heap}{A:Around}{outer:List Env}{s:Shared}{H:Hp}(e:zT P w K mg base A outer s H)(C:Addr)(us:List Value)(kw:List (Str×Value)) :
  zT P w K mg base (A.under (.builtin "type.__call__" ⟨.ref C::us,kw⟩)) outer s H:=⟨by first|exact e.frames|(simpa[Around.under,Code.envs,Code.isFrame,pushEnvs] using e.frames),e.mod,e.bs,e.bsz,e.funs,e.frf,e.hok,e.bare⟩
section
variable{X:Cx}{pins:List (Addr×Obj)}{σ:St}{H:Hp}{s s':Shared}
theorem bU.env0(I:bU X pins σ H s):zT X.prog X.w X.K X.mg X.base X.A X.stack s H:=
 ⟨I.ok.frames,I.ok.mod,I.bs,bx I.ok.bsz I.sz,I.stack,I.stkFree,I.hok,I.bare⟩
theorem bU.after{Q:VK}{u:Value}(I:bU X pins σ H s)(h:CE X.stack X.prog X.w H s Q u s'):EP X pins σ Q u s':=by
 obtain⟨v,H',os,bare,un,hok,r,q⟩:=h
 obtain⟨hh,g,d,t,os'⟩:=s'
 obtain rfl:os'=s.os:=os
 exact⟨v,H',I.call (h':=hh) (g':=g) (d':=d) (t':=t) (ch:=[]) un hok bare (λb z=>absurd z (by simp)),r,q⟩
end
def bL(sp:Sp)(dvs:List V)(E:XK)(t:TA):TE:=λσ H Q=>t σ H λvs H1=>sp (vs++dvs) H1 Q E
def Gp(C:Addr)(sp:Sp)(dvs:List V)(E:XK)(t:TA):TE:=λσ H Q=>t σ H λvs H1=>∀x dx,H1 x=none->H1 dx=none->dx≠x->
 sp (.ref x::(vs++dvs)) (upd (upd H1 dx (.own x)) x (.ins C dx [])) (λv H2=>v=.non/\Q (.ref x) H2) E
def nc(K:Fg)(fd:FuncData)(ps:List Str)(ds:List Value):Prop:=
 ∀(s:Shared) (us:List Value),K.In s.heap->(us++ds).length=ps.length->BindsTo s fd ⟨us,[]⟩ (ps.zip (us++ds))
theorem nc.all{K:Fg}{fd:FuncData}{ps:List Str}(h:∀us:List Value,us.length=ps.length->bindArgs fd ⟨us,[]⟩=pure (ps.zip us)):nc K fd ps []:=λs us _ hl=>by
 rw[ir] at hl ⊢
 exact .of_eq (h us hl)
def tF(CX:Ed)(X:Cx)(E:XK):Prop:=∀(pins:List (Addr×Obj)) (σ:St) (H:Hp) (s:Shared) (e:Value) (s':Shared),bU X pins σ H s->CX X.stack H s E e s'->X.xe e s'
section
variable{X:Cx}{CX:Ed}{k:Nat}{f C:Addr}{fd:FuncData}{ps:List Str}{sp:Sp}{dvs:List V}{ds:List Value}{E:XK}{x m:Str}{p pos apos:Pos}{e o:Expr}{es:List Expr}{ta:TE}{t:TA}
theorem KQ{pins:List (Addr×Obj)}{σ:St}{H:Hp}{s:Shared}{Q:VK}{us:List Value}{vs:List V}(F:eG X.prog X.w X.K X.mg X.base CX k f fd ps sp)(hr:dh k X.A)(hb:nc X.K fd ps ds)(hd:cu dvs ds)(hx:tF CX X E)
  (I:bU X pins σ H s) (r:cu vs us) (h:sp (vs++dvs) H Q E):wpAny (model X.prog X.w) X.A (call (.ref f) us) (EP X pins σ Q) X.xe s:=by
 have r2:cu (vs++dvs) (us++ds):=r.append hd
 have hl:(us++ds).length=ps.length:=by rw[<-r2.length];exact F.len _ _ _ _ h
 refine wpAny_call (codeAny_mono (F.run X.A X.stack s H ⟨us,[]⟩ (us++ds) (vs++dvs) Q E hr I.env0 (hb s us I.kIn hl) r2 h) λr s' hq=>?_)
 cases r with
 |error e=>exact hx pins σ H s e s' I hq
 |ok fl=>
  cases fl with
  |ret u=>exact I.after hq
  |next=>exact False.elim hq
  |brk=>exact False.elim hq
  |cont=>exact False.elim hq
theorem BK(F:eG X.prog X.w X.K X.mg X.base CX k f fd ps sp)(hr:dh k X.A)(hg:Gl X x)(hm:X.mg x=some (.ref f))(hk:aK X.K (.ref f)=true)(hb:nc X.K fd ps ds)(hd:cu dvs ds)(hx:tF CX X E)
  (ha:PA X (e::es) t) (hdb:(x==("__debug__":Str))=false:=by decide) (he:starEach (e::es) X.env=(false,eval e X.env)::starEach es X.env:=by rfl) (hpl:(backTo pos (starEach es X.env)).any (·.1)=false:=by rfl) :
  PE X (.Call (.Name x p) (e::es) [] pos) (bL sp dvs E t):=by
 intro pins s σ H Q I h
 refine wpAny_Call_Name_kw (BG I hg hm ?_ hdb)
 refine PySem.W.callWith_K (h₀:=X.base) I.ok.mod.kin hk (gd (ha pos pins s σ H _ I h) λus s1 ⟨vs,H1,I1,r,q⟩=>⟨I1.kIn,?_⟩) he hpl
 exact KQ F hr hb hd hx I1 r q
structure Mk(K:Fg)(C f:Addr):Prop where
 makes:mL K C=true
 init:cz K (.ref C) "__init__"=some (some (.ref f))
 fn:PySem.W.isFn K (.ref f)=true
 kp:aK K (.ref C)=true
theorem Ga{pins:List (Addr×Obj)}{σ:St}{H:Hp}{s:Shared}{Q:VK}{us:List Value}{vs:List V}(M:Mk X.K C f)(F:eG X.prog X.w X.K X.mg X.base CX k f fd ps sp)(hr:dh (k+1) X.A)(hb:nc X.K fd ps ds)(hd:cu dvs ds)
  (hx:tF CX X E) (I:bU X pins σ H s) (r:cu vs us)
  (h:∀x dx,H x=none->H dx=none->dx≠x->sp (.ref x::(vs++dvs)) (upd (upd H dx (.own x)) x (.ins C dx [])) (λv H2=>v=.non/\Q (.ref x) H2) E) :
  wpAny (model X.prog X.w) X.A (call (.ref C) us) (EP X pins σ Q) X.xe s:=by
 have hq:=h (s.heap.objs.size+1) s.heap.objs.size (I.hok.fresh (iJ _)) (I.hok.fresh (aB _)) (aV (lJ _))
 have I2:=bU.made (C:=C) I
 have r2:cu (V.ref (s.heap.objs.size+1)::(vs++dvs)) (Value.ref (s.heap.objs.size+1)::(us++ds)):=.cons rfl (r.append hd)
 have hl:(Value.ref (s.heap.objs.size+1)::us++ds).length=ps.length:=by
  have e:=r2.length
  rw[F.len _ _ _ _ hq] at e
  exact e.symm
 refine wpAny_call (E9 (f:=f) I.kIn M.makes M.init (beq_iff_eq.mp M.fn) (codeAny_mono (F.run _ X.stack _ _ ⟨Value.ref (s.heap.objs.size+1)::us,[]⟩ (Value.ref (s.heap.objs.size+1)::(us++ds)) _ _ E (hr.make C us [])
  (I2.env0.make C us []) (hb _ (Value.ref (s.heap.objs.size+1)::us) I2.kIn hl) r2 hq) λr s' hq'=>?_))
 cases r with
 |error e=>exact hx pins σ _ _ e s' I2 hq'
 |ok fl=>
  cases fl with
  |ret u=>
   obtain⟨v,H',I3,rv,ev,q3⟩:=I2.after hq'
   subst ev
   exact⟨rv,⟨V.ref (s.heap.objs.size+1),H',I3,rfl,q3⟩⟩
  |next=>exact False.elim hq'
  |brk=>exact False.elim hq'
  |cont=>exact False.elim hq'
theorem HV(M:Mk X.K C f)(F:eG X.prog X.w X.K X.mg X.base CX k f fd ps sp)(hr:dh (k+1) X.A)(hg:Gl X x)(hm:X.mg x=some (.ref C))(hb:nc X.K fd ps ds)(hd:cu dvs ds)(hx:tF CX X E)
  (ha:PA X (e::es) t) (hdb:(x==("__debug__":Str))=false:=by decide) (he:starEach (e::es) X.env=(false,eval e X.env)::starEach es X.env:=by rfl) (hpl:(backTo pos (starEach es X.env)).any (·.1)=false:=by rfl) :
  PE X (.Call (.Name x p) (e::es) [] pos) (Gp C sp dvs E t):=by
 intro pins s σ H Q I h
 refine wpAny_Call_Name_kw (BG I hg hm ?_ hdb)
 refine PySem.W.callWith_K (h₀:=X.base) I.ok.mod.kin M.kp (gd (ha pos pins s σ H _ I h) λus s1 ⟨vs,H1,I1,r,q⟩=>⟨I1.kIn,?_⟩) he hpl
 exact Ga M F hr hb hd hx I1 r q
end
section
variable{X:Cx}{CX:Ed}{k:Nat}{f C:Addr}{fd:FuncData}{ps ks:List Str}{sp:Sp}{E:XK}{x m:Str}{p pos apos kpos:Pos}{e o:Expr}{es:List Expr}{kws:List Keyword}{te ta:TE}{t tk:TA}{nm:Option Str}
variable{g:List Value->List Value->List Value}{gV:List V->List V->List V}
end
structure bX(N P:List Str)(sc:Scope):Prop where
 kind:sc.kind=.function
 co:sc.isCoroutine=false
 gen:sc.isGenerator=false
 nd:N.Nodup
 pre:N.take P.length=P
 par:∀x∈P,sc.names.lookup x=some .local\/sc.names.lookup x=some .cell
 nofree:∀y∈sc.names,y.2≠.free
theorem vE{kindOf:Str->Option NameKind}{x:Str}:∀{binds:List (Str×Value)} {m:Str->Option Value},(∀v,(x,v)∉binds)->bindL kindOf binds m x=m x
 |[],_,_=>rfl
 |(n,v)::r,m,h=>by
  unfold bindL
  rw[vE λw hw=>h w (bu _ hw)]
  split
  ·have:x≠n:=by rintro rfl;exact h v aP
   simp[this]
  ·rfl
theorem vC{kindOf:Str->Option NameKind}{x:Str}:∀{binds:List (Str×Value)} {m:Str->Option Value},(∀v,(x,v)∉binds)->bindC kindOf binds m x=m x
 |[],_,_=>rfl
 |(n,v)::r,m,h=>by
  unfold bindC
  rw[vC λw hw=>h w (bu _ hw)]
  split
  ·rfl
  ·have:x≠n:=by rintro rfl;exact h v aP
   simp[this]
theorem vD{kindOf:Str->Option NameKind}{x:Str}{v:Value}:∀{P:List Str} {vs:List Value} {i:Nat} {m:Str->Option Value},P.Nodup->P[i]?=some x->vs[i]?=some v->kindOf x=some .local->
  bindL kindOf (P.zip vs) m x=some v
 |[],_,_,_,_,h,_,_=>by simp at h
 |_::_,[],_,_,_,_,h,_=>by simp at h
 |p::P,w::vs,0,m,nd,h1,h2,hk=>by
  simp at h1 h2;subst h1;subst h2
  show bindL kindOf ((p,w)::P.zip vs) m p=_
  unfold bindL
  rw[vE λv hv=>(cK.mp nd).1 (mK hv).1,if_pos hk]
  simp
 |p::P,w::vs,i+1,m,nd,h1,h2,hk=>by
  show bindL kindOf ((p,w)::P.zip vs) m x=_
  unfold bindL
  exact vD (i:=i) (cK.mp nd).2 (by simpa using h1) (by simpa using h2) hk
theorem vB{kindOf:Str->Option NameKind}{x:Str}{v:Value}:∀{P:List Str} {vs:List Value} {i:Nat} {m:Str->Option Value},P.Nodup->P[i]?=some x->vs[i]?=some v->kindOf x≠some .local->
  bindC kindOf (P.zip vs) m x=some v
 |[],_,_,_,_,h,_,_=>by simp at h
 |_::_,[],_,_,_,_,h,_=>by simp at h
 |p::P,w::vs,0,m,nd,h1,h2,hk=>by
  simp at h1 h2;subst h1;subst h2
  show bindC kindOf ((p,w)::P.zip vs) m p=_
  unfold bindC
  rw[vC λv hv=>(cK.mp nd).1 (mK hv).1,if_neg hk]
  simp
 |p::P,w::vs,i+1,m,nd,h1,h2,hk=>by
  show bindC kindOf ((p,w)::P.zip vs) m x=_
  unfold bindC
  exact vB (i:=i) (cK.mp nd).2 (by simpa using h1) (by simpa using h2) hk
def di(N:List Str)(vs:List V):St:=vs.map some++aH (N.length-vs.length) none
def fQ(CX:Ed)(P:Program)(w:World)(K:Fg)(mg:Str->Option Value)(base:Heap)(N:List Str)(qual:Str)(scope:Scope)(f:Addr)(cd:Value)(A:Around)(outer:List Env)(s:Shared)(H:Hp)(E:XK):Cx where
 prog:=P
 w:=w
 K:=K
 mg:=mg
 base:=base
 A:=A.deeper (envOfC qual scope s.heap.objs.size f cd)
 N:=N
 s₀:=s
 H₀:=H
 env:=envOfC qual scope s.heap.objs.size f cd
 outer:=outer
 stack:=envOfC qual scope s.heap.objs.size f cd::outer
 ex:=[]
 calm:=true
 fn:=λ_=>true
 pn:=[]
 xe:=λe s'=>wpAny (model P w) (A.deeper (envOfC qual scope s.heap.objs.size f cd)) (leaving (envOfC qual scope s.heap.objs.size f cd) e) (λ_ s''=>CX outer H s E e s'') (λe' s''=>CX outer H s E e' s'') s'
theorem xY{sc:Scope}{n:Nat}{x:Str}(h:sc.names.lookup x=some .cell):∃c,(cellsFrom n sc.names []).lookup x=some c:=by
 have q:=PySem.W.cellsFrom_some sc.names n [] (.inl h)
 exact ik.mp q
theorem C1{CX:Ed}{P:Program}{w:World}{K:Fg}{mg:Str->Option Value}{base:Heap}{N ps:List Str}{qual:Str}{scope:Scope}{f:Addr}{cd:Value}{A:Around}{outer:List Env}{s s1:Shared}{H:Hp}{E:XK}{us:List Value}{vs:List V}
  (S:bX N ps scope) (hd:A.handled=none) (e0:zT P w K mg base A outer s H) (hl:vs.length=ps.length) (r:cu vs us)
  (x:InCallC s s.heap.objs.size (bindL (envOfC qual scope s.heap.objs.size f cd).kindOf (ps.zip us) λ_=>none) (cellsFrom (s.heap.objs.size+1) scope.names []) (bindC (envOfC qual scope s.heap.objs.size f cd).kindOf (ps.zip us) λ_=>none) s1) :
  bU (fQ CX P w K mg base N qual scope f cd A outer s H E) [] (di N vs) H s1:=by
 have hpl:ps.length<=N.length:=by have:=congrArg jE S.pre;rw[bg] at this;lia
 obtain⟨h1,tk,rfl,hk⟩:=x.done
 have noA:∀b:Addr,b∉(fQ CX P w K mg base N qual scope f cd A outer s H E).ex:=λb z=>absurd (show b∈([]:List Addr) from z) (by simp)
 refine⟨⟨e0.mod,S.kind,rfl,rfl,aB _,λy z c h1 h2=>?_,λy hy=>?_,λy c _ h=>?_,λ_=>hd,Around.frames_deeper e0.frames,.inr ⟨rfl,rfl⟩,λb z=>absurd z (noA b),e0.bs,e0.bsz,λb _ _=>noA b,λb z=>absurd z (noA b),e0.funs,e0.frf⟩,
  rfl,e0.bare,Un.kept hk,⟨_,x.toInCall.ns,λi y v h1 h2 h3=>?_⟩,λy c h=>⟨_,x.cell y c h⟩,e0.hok.fresh (aB _),λy c h=>?_,λp hp=>absurd (show p∈([]:List (Addr×Obj)) from hp) (by simp),e0.hok.kept hk,?_⟩
 ·exact name_of_addr x.apart (cN h1) (cN h2)
 ·have hy:scope.names.lookup y=some .cell\/scope.names.lookup y=some .free:=hy
  rcases hy with hy|hy
  ·exact xY hy
  ·exact absurd rfl (S.nofree _ (cN hy))
 ·exact dW (x.above y c (cN h))
 ·have hi:i<vs.length:=by
   unfold di at h2
   by_cases hi:i<vs.length
   ·exact hi
   ·rw[bh (by simpa using hi)] at h2
    rw[List.getElem?_replicate] at h2
    split at h2<;>cases h2
  have ha:vs[i]?=some v:=by
   unfold di at h2
   rw[bM (by simpa using hi),aD] at h2
   cases e:vs[i]? with
   |none=>rw[e] at h2;cases h2
   |some a=>rw[e] at h2;cases h2;rfl
  obtain⟨u,hu,rv⟩:=r.get ha
  have hp:ps[i]?=some y:=by
   rw[<-S.pre,ig (by lia)];exact h1
  have ndP:ps.Nodup:=by rw[<-S.pre];exact S.nd.sublist (gK _ _)
  refine⟨u,rv,?_⟩
  rcases S.par y (az hp) with k|k
  ·exact .inl ⟨k,vD ndP hp hu k⟩
  ·obtain⟨c,e⟩:=xY (n:=s.heap.objs.size+1) k
   refine .inr ⟨.inl k,c,e,?_⟩
   have q:=x.cell y c e
   rw[vB ndP hp hu (by show scope.names.lookup y≠_;rw[k];decide)] at q
   exact q
 ·exact e0.hok.fresh (dW (x.above y c (cN h)))
 ·unfold di
  show _=N.length
  rw[ay,ae,bE]
  lia
theorem Ji{CX:Ed}{P:Program}{w:World}{K:Fg}{mg:Str->Option Value}{base:Heap}{k:Nat}{f:Addr}{name qual:Str}{params:Arguments}{body:List Stmt}{scope:Scope}{dV kV doc pm cdv ct oc:Value}{an od:Option Addr}
  {osl:Array (Option Value)} {N ps:List Str} {sp:Sp} (lk:K.lookup f=some ⟨oc,od,.func (aR name qual params body scope dV kV doc pm an cdv ct),osl⟩) (hcd:aO K cdv qual=true) (S:bX N ps scope)
  (len:∀vs H Q E,sp vs H Q E->vs.length=ps.length)
  (hbody:∀(A:Around) (outer:List Env) (s:Shared) (H:Hp) (vs:List V) (Q:VK) (E:XK),dh k (A.deeper (envOfC qual scope s.heap.objs.size f cdv))->sp vs H Q E->
   ∃t,jQ (fQ CX P w K mg base N qual scope f cdv A outer s H E) body t/\t {nx:=λ_ H'=>Q .non H',rt:=Q} (di N vs) H) :
  eG P w K mg base CX (k+1) f (aR name qual params body scope dV kV doc pm an cdv ct) ps sp:=by
 refine⟨len,λA outer s H args us vs Q E hr e0 hb r hsp=>?_⟩
 have hl:=len _ _ _ _ hsp
 have KX:K.In s.heap:=e0.mod.kin.keeps λb o e=>(e0.bs b o e).1
 have lim:s.heap.NoLimit:=e0.mod.nolimit.keeps λb o e=>(e0.bs b o e).1
 have hkind:∀y∈ps.zip us,scope.names.lookup y.1=some .local\/(scope.names.lookup y.1=some .cell/\((cellsFrom (s.heap.objs.size+1) scope.names []).lookup y.1).isSome=true):=λ⟨n,v⟩ hy=>by
  rcases S.par n (mK hy).1 with q|q
  ·exact .inl q
  ·exact .inr ⟨q,PySem.W.cellsFrom_some _ _ _ (.inl q)⟩
 refine codeAny_call_function hr.depth (KX _ _ lk) rfl S.co S.gen rfl (PySem.W.codeRec_of KX hcd) (hb _ _ _ _ ?_)
 refine wpAny_newFunctionEnv_cells S.kind hkind λenv he s1 x=>?_
 subst he
 refine⟨lim.keeps x.toInCall.keep,codeAny_func ?_⟩
 obtain⟨t,ht,hq⟩:=hbody A outer s H vs Q E (hr.deeper _) hsp
 have I:bU (fQ CX P w K mg base N qual scope f cdv A outer s H E) [] (di N vs) H s1:=C1 S hr.hd e0 hl r x
 refine wpAny_mono (ht [] s1 (di N vs) H _ I hq) (λfl s' hs=>?_) λe s' hs=>hs
 have fin:∀{σ':St} {H':Hp} {v:V} {u:Value},bU (fQ CX P w K mg base N qual scope f cdv A outer s H E) [] σ' H' s'->cJ v u->Q v H'->CE outer P w H s Q u s':=
  λ{σ' H' v u} J rv q=>⟨v,H',J.os,J.bare,J.base,J.hok,rv,q⟩
 cases fl with
 |ret u=>
  obtain⟨v,σ',H',J,rv,q⟩:=hs
  exact fin J rv q
 |next=>
  obtain⟨σ',H',J,q⟩:=hs
  exact fin (v:=V.non) (u:=Value.none) J rfl q
 |brk=>
  obtain⟨_,_,_,q⟩:=hs
  exact False.elim q
 |cont=>
  obtain⟨_,_,_,q⟩:=hs
  exact False.elim q
section
variable{X:Cx}{x:Str}{p pos:Pos}{e:Expr}{es:List Expr}{t:TA}{id T:String}{r:List V->Hp->VK->Prop}
def gI(r:List V->Hp->VK->Prop)(t:TA):TE:=λσ H Q=>t σ H λvs H1=>r vs H1 Q
theorem Fn(hc:i8 X (.builtin id) r)(hg:Gl X x)(hm:X.mg x=none)(hv:bootBuiltins x=some (.builtin id))(ha:PA X (e::es) t)(hn:x≠"__name__":=by decide)(hdb:(x==("__debug__":Str))=false:=by decide)
  (he:starEach (e::es) X.env=(false,eval e X.env)::starEach es X.env:=by rfl) (hpl:(backTo pos (starEach es X.env)).any (·.1)=false:=by rfl):PE X (.Call (.Name x p) (e::es) [] pos) (gI r t):=by
 intro pins s σ H Q I h
 refine wpAny_Call_Name_kw (lB I hg hm hv ?_ hn hdb)
 exact PyProof.Rows.callWith_builtin1 (gd (ha pos pins s σ H _ I h) λus s1 ⟨vs,H1,I1,r1,q1⟩=>hc pins s1 σ H1 vs us Q I1 r1 q1) he hpl
theorem Dv(hc:i8 X (.type T) r)(hg:Gl X x)(hm:X.mg x=none)(hv:bootBuiltins x=some (.type T))(ha:PA X (e::es) t)(hn:x≠"__name__":=by decide)(hdb:(x==("__debug__":Str))=false:=by decide)
  (he:starEach (e::es) X.env=(false,eval e X.env)::starEach es X.env:=by rfl) (hpl:(backTo pos (starEach es X.env)).any (·.1)=false:=by rfl):PE X (.Call (.Name x p) (e::es) [] pos) (gI r t):=by
 intro pins s σ H Q I h
 refine wpAny_Call_Name_kw (lB I hg hm hv ?_ hn hdb)
 exact cb (gd (ha pos pins s σ H _ I h) λus s1 ⟨vs,H1,I1,r1,q1⟩=>hc pins s1 σ H1 vs us Q I1 r1 q1) he hpl
end
end L2
namespace HT
open PySem PyProof.Rows
def lexLt:List Int->List Int->Bool
 |[],[]=>false
 |[],_::_=>true
 |_::_,[]=>false
 |x::xs,y::ys=>if x=y then lexLt xs ys else decide (x<y)
theorem lexLt_cons(x y:Int)(xs ys:List Int):lexLt (x::xs) (y::ys)=if x=y then lexLt xs ys else decide (x<y):=rfl
theorem u7:lexLt [] []=false:=rfl
theorem t9(y:Int)(ys:List Int):lexLt [] (y::ys)=true:=rfl
theorem t8(x:Int)(xs:List Int):lexLt (x::xs) []=false:=rfl
theorem EA(A:Around)(s:Shared)(a:Int)(t:Tok)(c:Int)(u:Tok):∃e,SeqAt.EqAt A s (.int a t) (.int c u) e/\(e=true↔a=c):=
 ⟨(a==c),SeqAt.EqAt.int_int a t c u,by simp⟩
theorem FT(A:Around)(s:Shared)(a:Int)(t:Tok)(c:Int)(u:Tok)(prog:Program)(w:World)(E:Value->Shared->Prop)(Q:Value->Shared->Prop)(h:Q (.bool (decide (a<c))) s) :
  wpAny (model prog w) A (richCompare .Lt (.int a t) (.int c u)) Q E s:=
 (PyProof.Rows.lt_int h:wpAny (model prog w) A (compareOp .Lt (.int a t) (.int c u)) Q E s)
section
open PySem.SeqAt
open PySem.AutoSeq1 (wpAny_loadPart')
open PySem.MeetsSeq PySem.MeetsSeq2 PySem.MeetsSeq3
theorem vx(l b:Addr)(items items2:Array Value)(n n2:Nat)(dd dd2:Option Addr)(sl sl2:Array (Option Value))(ns ms:List Int)(hi:IntsAre items.toList ns)(hj:IntsAre items2.toList ms) :
  Meets (Builtin.«tuple.__lt__» ⟨[.ref l,.ref b],[]⟩)
   (λ_ R s=>s.heap.get? l=some {cls:=.type "tuple",dict:=dd,data:=.seq items n,slots:=sl}/\s.heap.get? b=some {cls:=.type "tuple",dict:=dd2,data:=.seq items2 n2,slots:=sl2}/\
    R (.ok (.ret (.bool (lexLt ns ms)))) s):=
 .of_wp λprog w A R s h=>by
  obtain⟨hp,g,d,tk,os⟩:=s;obtain⟨hl,hb,h⟩:=h
  have f2:=AutoSeq1.sub_tuple_tuple
  have z1:items.size=ns.length:=by rw[<-hi.length];simp
  have z2:items2.size=ms.length:=by rw[<-hj.length];simp
  wp_walk using wpAny_loadPart' hl,wpAny_loadPart' hb,wpAny_forIn_list _ (λrest b s'=>b.1=none/\s'=⟨hp,g,d,tk,os⟩/\∃(vs ws:List Value) (ns' ms':List Int),rest=vs.zip ws/\
   IntsAre vs ns'/\IntsAre ws ms'/\ns'.length+items2.size=ms'.length+items.size/\R (.ok (.ret (.bool (lexLt ns' ms')))) ⟨hp,g,d,tk,os⟩) _
  case turn=>
   rintro⟨y,x⟩ rest b s' ⟨hb',rfl,vs,ws,ns',ms',hz,hvi,hwi,hlen,hR⟩
   cases hvi with
   |nil=>rw[List.zip_nil_left] at hz;cases hz
   |cons a t hvi'=>
    cases hwi with
    |nil=>rw[List.zip_nil_right] at hz;cases hz
    |cons c u hwi'=>
     rw[iA] at hz
     injection hz with hyx hrest
     injection hyx with hy hx
     subst hy hx
     rw[lexLt_cons] at hR
     simp only[bG] at hlen
     obtain⟨e,he,hiff⟩:=EA A.in1 ⟨hp,g,d,tk,os⟩ a t c u
     refine wpAny_bind (he prog w _ _ ?_)
     cases e with
     |true=>
      rw[if_pos (hiff.mp rfl)] at hR
      wp_walk
      exact⟨rfl,rfl,_,_,_,_,hrest,hvi',hwi',by lia,hR⟩
     |false=>
      rw[if_neg (λq=>absurd (hiff.mpr q) Bool.false_ne_true)] at hR
      have hri:=FT A.in1 ⟨hp,g,d,tk,os⟩ a t c u prog w
      wp_walk using hri
      exact⟨_,rfl,by simpa using hR⟩
  case fin=>
   rintro⟨b1,b2⟩ s' ⟨hb',rfl,vs,ws,ns',ms',hz,hvi,hwi,hlen,hR⟩
   simp only at hb'
   subst hb'
   have hv:lexLt ns' ms'=decide (items.size<items2.size):=by
    cases hvi with
    |nil=>
     cases hwi with
     |nil=>
      simp only[ef] at hlen
      rw[u7]
      exact(decide_eq_false (by lia)).symm
     |cons c u hw=>
      simp only[ef,bG] at hlen
      rw[t9]
      exact(decide_eq_true (by lia)).symm
    |cons a t hv=>
     cases hwi with
     |nil=>
      simp only[ef,bG] at hlen
      rw[t8]
      exact(decide_eq_false (by lia)).symm
     |cons c u hw=>
      rw[iA] at hz
      cases hz
   rw[hv] at hR
   wp_walk
   exact⟨_,rfl,by simpa[Builtin.Tuple.tupleCompareSizes] using hR⟩
  case h=>
   exact⟨rfl,rfl,items.toList,items2.toList,ns,ms,rfl,hi,hj,by lia,h⟩
end
section
variable{prog:Program}{w:World}{A:Around}{E:Value->Shared->Prop}{s:Shared}
theorem lt_tupInts{l b:Addr}{items items2:Array Value}{ns ms:List Int}{Q:Value->Shared->Prop}(hl:IsTup s.heap l items)(hb:IsTup s.heap b items2)(hi:IntsAre items.toList ns)(hj:IntsAre items2.toList ms)
  (hu:A.units<cLine) (h:Q (.bool (lexLt ns ms)) s):wpAny (model prog w) A (compareOp .Lt (.ref l) (.ref b)) Q E s:=by
 obtain⟨⟨cls,dd,data,sl⟩,ho,hc,n,hd⟩:=id hl
 obtain⟨⟨cls2,dd2,data2,sl2⟩,ho2,hc2,n2,hd2⟩:=id hb
 simp only at hc hd hc2 hd2
 subst hc hd hc2 hd2
 exact richCompare_meets_room (op:=.Lt) ⟨_,ho,rfl⟩ ⟨_,ho2,rfl⟩ PySem.F.slot_tuple_lt PySem.F.entry_tuple_lt (PySem.F.args_tuple_lt_2 _ _) (vx l b items items2 n n2 dd dd2 sl sl2 ns ms hi hj)
  ⟨ho,ho2,show Value.bool (lexLt ns ms)≠Value.notImplemented/\Q (.bool (lexLt ns ms)) s from⟨(λx=>nomatch x),h⟩⟩ hu
theorem cat_tup{t b:Addr}{vs ws:List Value}{Q:Value->Shared->Prop}(ht:IsTup s.heap t vs.toArray)(hb:IsTup s.heap b ws.toArray)(hv:vs≠[])
  (h1:ws=[]->Q (.ref t) s) (h2:ws≠[]->Q (.ref s.heap.objs.size) {s with heap:=s.heap.push {cls:=.type "tuple",data:=.seq (vs++ws).toArray}})
  (hsz:vs.length+ws.length<=sizeLine):wpAny (model prog w) A (binaryOp .Add (.ref t) (.ref b)) Q E s:=by
 obtain⟨⟨cls,dd,data,sl⟩,ho,hc,n,hd⟩:=id ht
 obtain⟨⟨cls2,dd2,data2,sl2⟩,ho2,hc2,n2,hd2⟩:=id hb
 simp only at hc hd hc2 hd2
 subst hc hd hc2 hd2
 have e:vs.toArray++ws.toArray=(vs++ws).toArray:=by simp
 by_cases hw:ws=[]
 ·exact concat_meets ⟨_,ho,rfl⟩ ⟨_,ho2,rfl⟩ noFill_tuple_add seq_tuple_add PySem.F.slot_tuple_add PySem.F.entry_tuple_add (PySem.F.args_tuple_add_2 _ _)
   (tuple_addW1 t b vs.toArray ws.toArray n n2 dd dd2 sl sl2 (by simpa using hv) (by simp[hw])) ⟨ho,ho2,h1 hw⟩
 ·refine concat_meets ⟨_,ho,rfl⟩ ⟨_,ho2,rfl⟩ noFill_tuple_add seq_tuple_add PySem.F.slot_tuple_add PySem.F.entry_tuple_add (PySem.F.args_tuple_add_2 _ _)
   (tuple_addW2 t b vs.toArray ws.toArray n n2 dd dd2 sl sl2 (by simpa using hv) (by simpa using hw) (by rw[au,au];exact hsz)) ⟨ho,ho2,?_⟩
  rw[e]
  exact h2 hw
def sIx(n d:Nat):Option Int->Nat
 |none=>d
 |some v=>if v<0 then(v+(n:Int)).toNat else min v.toNat n
theorem sIx_none(n d:Nat):sIx n d none=d:=rfl
theorem sIx_nat(n d k:Nat):sIx n d (some (k:Int))=min k n:=by
 show(if(k:Int)<0 then((k:Int)+(n:Int)).toNat else min (k:Int).toNat n)=min k n
 rw[if_neg (by lia),fz]
theorem KR(n d:Nat)(hd:d<=n)(o:Option Int):sIx n d o<=n:=by
 cases o with
 |none=>exact hd
 |some v=>
  show(if v<0 then(v+(n:Int)).toNat else min v.toNat n)<=n
  by_cases hv:v<0
  ·rw[if_pos hv];lia
  ·rw[if_neg hv];exact jb _ _
theorem Bw(v:Int)(n d:Nat):(if v<0 then max (v+(n:Int)) 0 else min v (n:Int))=((sIx n d (some v):Nat):Int):=by
 show(if v<0 then max (v+(n:Int)) 0 else min v (n:Int))=(((if v<0 then(v+(n:Int)).toNat else min v.toNat n):Nat):Int)
 by_cases hv:v<0
 ·simp only[if_pos hv];lia
 ·simp only[if_neg hv];lia
theorem zY(lo hi:Option Int)(n:Nat):Builtin.Slice.sliceAdjust lo hi 1 (n:Int)=(((sIx n 0 lo:Nat):Int),((sIx n n hi:Nat):Int)):=by
 have h1:¬((1:Int)<0):=by lia
 unfold Builtin.Slice.sliceAdjust
 simp only[h1,if_false]
 refine Prod.ext ?_ ?_
 ·cases lo with
  |none=>rfl
  |some v=>exact Bw v n 0
 ·cases hi with
  |none=>rfl
  |some v=>exact Bw v n n
theorem AN(i j:Nat):Builtin.Slice.slicePlaces (i:Int) (j:Int) 1=j-i:=by
 unfold Builtin.Slice.slicePlaces
 have h1:(1:Int)>0:=by lia
 simp only[h1,if_true,Int.ediv_one]
 split<;>lia
theorem uy{v:Value}{o:Option Int}{Q:Option Int->Shared->Prop}(p:IsPart v o)(h:Q o s):wpAny (model prog w) A (Builtin.Slice.slicePartIndex v) Q E s:=by
 cases p with
 |none=>exact slicePart_none h
 |int i t=>exact slicePart_int h
theorem qU{sl:Addr}{vl vu:Value}{lo hi:Option Int}{n:Nat}{Q:Int×Int×Nat->Shared->Prop}(hs:s.heap.IsSliceOf sl vl vu .none)(pl:IsPart vl lo)(pu:IsPart vu hi)
  (h:Q (((sIx n 0 lo:Nat):Int),1,sIx n n hi-sIx n 0 lo) s):wpAny (model prog w) A (Builtin.Slice.sliceApplied (.ref sl) (pure (n:Int))) Q E s:=by
 obtain⟨os,hos,hcs,hds⟩:=id hs
 unfold Builtin.Slice.sliceApplied Builtin.Slice.sliceFields
 refine wpAny_bind (wpAny_bind (wpAny_field hos hds (x:=vl) rfl (wpAny_bind (wpAny_field hos hds (x:=vu) rfl (wpAny_bind (wpAny_field hos hds (x:=.none) rfl (wpAny_pure ?_)))))))
 refine wpAny_bind (slicePart_none ?_)
 show wpAny _ _ (if((1:Int)==0)=true then _ else _) _ _ s
 rw[if_neg (by decide)]
 refine wpAny_bind (uy pl (wpAny_bind (uy pu (wpAny_bind (wpAny_pure ?_)))))
 show wpAny _ _ (match Builtin.Slice.sliceAdjust lo hi 1 (n:Int) with|(lo,hi)=>pure (lo,(1:Int),Builtin.Slice.slicePlaces lo hi 1)) _ _ s
 rw[zY lo hi n]
 show wpAny _ _ (pure (((sIx n 0 lo:Nat):Int),(1:Int),Builtin.Slice.slicePlaces ((sIx n 0 lo:Nat):Int) ((sIx n n hi:Nat):Int) 1)) _ _ s
 rw[AN]
 exact wpAny_pure h
theorem Fw(xs:Array Value)(i k:Nat):((iz k).filterMap λ(m:Nat)=>xs[((i:Int)+(m:Int)*1).toNat]?).toArray=((xs.toList.drop i).take k).toArray:=by
 have e:(λ(m:Nat)=>xs[((i:Int)+(m:Int)*1).toNat]?)=λm=>xs[i+m]?:=by
  funext m
  have:((i:Int)+(m:Int)*1).toNat=i+m:=by lia
  rw[this]
 rw[e]
 have:=pick_run xs i k
 rw[List.filterMap_map] at this
 have e2:((λx=>xs[x]?) ∘ λx=>i+x)=λm=>xs[i+m]?:=rfl
 rw[e2] at this
 rw[this]
theorem getItem_tuple_cut{t sl:Addr}{items:Array Value}{vl vu:Value}{lo hi:Option Int}{Q:Value->Shared->Prop}(ht:IsTup s.heap t items)(hs:s.heap.IsSliceOf sl vl vu .none)(pl:IsPart vl lo)(pu:IsPart vu hi)
  (hw:¬(sIx items.size 0 lo=0/\sIx items.size items.size hi=items.size))
  (h:Q (.ref s.heap.objs.size) {s with heap:=s.heap.push {cls:=.type "tuple",data:=.seq ((items.toList.drop (sIx items.size 0 lo)).take (sIx items.size items.size hi-sIx items.size 0 lo)).toArray}})
  (hsz:items.size<=sizeLine):wpAny (model prog w) A (getItem (.ref t) (.ref sl)) Q E s:=by
 have htake:sizeOk (.seq ((items.toList.drop (sIx items.size 0 lo)).take (sIx items.size items.size hi-sIx items.size 0 lo)).toArray):=by
  show((items.toList.drop (sIx items.size 0 lo)).take (sIx items.size items.size hi-sIx items.size 0 lo)).toArray.size<=sizeLine
  rw[au,bg,dJ,dj]
  lia
 have hj:sIx items.size items.size hi<=items.size:=KR _ _ (aB _) hi
 obtain⟨os,hos,hcs,hds⟩:=id hs
 have hTs:s.TypeIs (.ref sl) "slice":=⟨os,hos,hcs⟩
 unfold getItem
 try with_reducible refine wpAny_holding ?_
 first|refine wpAny_bind (wpAny_pure ?_)|skip
 refine wpAny_bind (wpAny_sequenceKey ht.typeIs (by decide) ?_)
 refine wpAny_bind (wpAny_callSpecial?_slot (name:=Str.ofString "__getitem__") ht.typeIs PyProof.Rows.slot_tuple_getitem
  (wpAny_call_entry PyProof.Rows.slot_tuple_getitem ht.typeIs entry_tuple_getitem ?_ (args_tuple_getitem _ _)))
 show wpAny _ _ (Builtin.Tuple.tupleItemsOf (.ref t) >>= _) _ _ s
 refine wpAny_bind (tupleItemsOf_ ht ?_)
 refine wpAny_bind (wpAny_typeOf hTs ?_)
 rw[if_pos (by decide)]
 refine wpAny_bind (qU hs pl pu ?_)
 have hno:¬((((sIx items.size 0 lo:Nat):Int)==0&&(1:Int)==1&&(sIx items.size items.size hi-sIx items.size 0 lo)==items.size)=true):=by
  intro q
  rw[Bool.and_eq_true,Bool.and_eq_true] at q
  have q1:((sIx items.size 0 lo:Nat):Int)=0:=eq_of_beq q.1.1
  have q2:sIx items.size items.size hi-sIx items.size 0 lo=items.size:=eq_of_beq q.2
  exact hw ⟨by lia,by lia⟩
 show wpAny _ _ (if(((sIx items.size 0 lo:Nat):Int)==0&&(1:Int)==1&&(sIx items.size items.size hi-sIx items.size 0 lo)==items.size)=true then _ else _) _ _ s
 rw[if_neg hno,Fw]
 first
  |exact wpAny_bind (m:=Builtin.Tuple.tupleExact _) (wpAny_newObj_type (wpAny_pure ⟨_,rfl,wpAny_pure h⟩) htake)
  |exact wpAny_bind (m:=Builtin.Tuple.tupleExact _) (wpAny_newObj_type (wpAny_bind (wpAny_pure (wpAny_pure ⟨_,rfl,wpAny_pure h⟩))) htake)
  |exact wpAny_bind (wpAny_bind (m:=Builtin.Tuple.tupleExact _) (wpAny_newObj_type (wpAny_pure (wpAny_pure ⟨_,rfl,wpAny_pure h⟩)) htake))
  |exact wpAny_bind (wpAny_bind (m:=Builtin.Tuple.tupleExact _) (wpAny_newObj_type (wpAny_pure ⟨_,rfl,wpAny_pure h⟩) htake))
end
end HT
namespace L2
open PySem PySem.Spec PyProof.Rows
abbrev TO:=St->Hp->(Option Int->Hp->Prop)->Prop
def PO(X:Cx)(e:Option Expr)(t:TO):Prop:=
 ∀(pins:List (Addr×Obj)) (s:Shared) (σ:St) (H:Hp) (Q:Option Int->Hp->Prop),bU X pins σ H s->t σ H Q->
  wpAny (model X.prog X.w) X.A (evalPart e X.env) (λu s'=>∃o H',bU X pins σ H' s'/\IsPart u o/\Q o H') X.xe s
def gA:TO:=λ_ H Q=>Q none H
def kE(t:TE):TO:=λσ H Q=>t σ H λx H1=>∃i,x=.int i/\Q (some i) H1
theorem tU{ns:List Int}:∀{us:List Value},cu (ns.map V.int) us->IntsAre us ns:=by
 induction ns with
 |nil=>intro us r;rw[cy] at r;cases r;exact .nil
 |cons n ns ih=>
  intro us r
  rw[bq] at r
  cases r with
  |cons r1 r2=>
   obtain⟨t,e⟩:=r1
   subst e
   exact .cons n t (ih r2)
section
variable{X:Cx}{e:Expr}{te:TE}{lo hi:Option Expr}{tl th:TO}{pos p2:Pos}
theorem Ih:PO X none gA:=by
 intro pins s σ H Q I h
 rw[evalPart_none]
 exact wpAny_pure ⟨none,H,I,.none,h⟩
theorem Ii(h:PE X e te):PO X (some e) (kE te):=by
 intro pins s σ H Q I hw
 rw[evalPart_some]
 refine gd (h pins s σ H _ I hw) λu s1 ⟨x,H1,I1,r1,q1⟩=>?_
 obtain⟨i,rfl,q⟩:=q1
 obtain⟨t,rfl⟩:=r1
 exact⟨some i,H1,I1,.int i t,q⟩
def GZ(X:Cx)(r:V->Option Int->Option Int->Hp->VK->Prop):Prop:=
 ∀(pins:List (Addr×Obj)) (s:Shared) (σ:St) (H:Hp) (x:V) (v vl vu:Value) (lo hi:Option Int) (sl:Addr) (Q:VK),bU X pins σ H s->cJ x v->s.heap.IsSliceOf sl vl vu .none->IsPart vl lo->IsPart vu hi->r x lo hi H Q->
  ∃T id,typeLookup (.type T) "__getitem__"=pure (some (.builtin id))/\s.TypeIs v T/\wpAny (model X.prog X.w) X.A (getItem v (.ref sl)) (EP X pins σ Q) X.xe s
theorem GZ.or{r r':V->Option Int->Option Int->Hp->VK->Prop}(h:GZ X r)(h':GZ X r'):GZ X (λx lo hi H Q=>r x lo hi H Q\/r' x lo hi H Q):=by
 intro pins s σ H x v vl vu lo hi sl Q I rx hs pl pu q
 rcases q with q|q
 ·exact h pins s σ H x v vl vu lo hi sl Q I rx hs pl pu q
 ·exact h' pins s σ H x v vl vu lo hi sl Q I rx hs pl pu q
def A4(r:V->Option Int->Option Int->Hp->VK->Prop)(te:TE)(tl th:TO):TE:=λσ H Q=>te σ H λx H1=>tl σ H1 λl H2=>th σ H2 λu H3=>r x l u H3 Q
theorem Fs{r:V->Option Int->Option Int->Hp->VK->Prop}(hr:GZ X r)(he:PE X e te)(hl:PO X lo tl)(hu:PO X hi th):PE X (.Subscript e (.Slice lo hi none p2) pos) (A4 r te tl th):=by
 intro pins s σ H Q I h
 refine Subscript_ (gd (he pins s σ H _ I h) λv s1 ⟨x,H1,I1,r1,q1⟩=>?_)
 refine wpAny_Slice (gd (hl pins s1 σ H1 _ I1 q1) λvl s2 ⟨l,H2,I2,pl,q2⟩=>gd (hu pins s2 σ H2 _ I2 q2) λvu s3 ⟨u,H3,I3,pu,q3⟩=>?_)
 rw[evalPart_none]
 refine wpAny_pure ?_
 have I4:bU X pins σ H3 {s3 with heap:=s3.heap.push {cls:=.type "slice",data:=.fields #[vl,vu,.none]}}:=I3.kept (t':=s3.toks) λb ob q=>aA _ q
 obtain⟨T,id,hT,ht,hg⟩:=hr pins {s3 with heap:=s3.heap.push {cls:=.type "slice",data:=.fields #[vl,vu,.none]}} σ H3 x v vl vu l u s3.heap.objs.size Q I4 r1 (Heap.IsSliceOf.new ..) pl pu q3
 show wpAny (model X.prog X.w) X.A (subscriptTail e (.Slice lo hi none p2) v (.ref s3.heap.objs.size)) (EP X pins σ Q) X.xe {s3 with heap:=s3.heap.push {cls:=.type "slice",data:=.fields #[vl,vu,.none]}}
 exact tail_any (ops:=[.ref s3.heap.objs.size,v]) ht hT hg (by with_unfolding_all rfl)
def mh(xs:List V)(lo hi:Option Int):List V:=(xs.drop (HT.sIx xs.length 0 lo)).take (HT.sIx xs.length xs.length hi-HT.sIx xs.length 0 lo)
theorem rh(xs:List V)(lo hi:Option Int):(mh xs lo hi).length<=xs.length:=by
 unfold mh
 rw[bg,dJ]
 lia
def L4(K:Fg):V->Option Int->Option Int->Hp->VK->Prop:=λx lo hi H Q=>∃a xs,x=.ref a/\dC K H a xs/\
 ¬(HT.sIx xs.length 0 lo=0/\HT.sIx xs.length xs.length hi=xs.length)/\∀p,H p=none->Q (.ref p) (upd H p (.tup (mh xs lo hi)))
theorem KW:GZ X (L4 X.K):=by
 intro pins s σ H x v vl vu lo hi sl Q I rx hs pl pu h
 obtain⟨a,xs,rfl,hx,hw,q⟩:=h
 cases rx
 obtain⟨its,r,ht,hz⟩:=I.tuple hx
 have hlen:its.toArray.size=xs.length:=by rw[au];exact r.length.symm
 refine⟨"tuple",_,PyProof.Rows.slot_tuple_getitem.lookup,ht.typeIs,?_⟩
 refine HT.getItem_tuple_cut ht hs pl pu (by rw[hlen];exact hw) ?_ (by rw[hlen];exact hz)
 rw[hlen]
 refine⟨.ref s.heap.objs.size,_,I.laid (t':=s.toks) (o:=.tup (mh xs lo hi)) (λb ob q=>aA _ q) (aB _) ?_,rfl,q _ (I.hok.fresh (aB _))⟩
 exact⟨bx (rh xs lo hi) hz,_,(r.drop (HT.sIx xs.length 0 lo)).take (HT.sIx xs.length xs.length hi-HT.sIx xs.length 0 lo),ly.new _ _⟩
def LZ(K:Fg):R2:=λx y H Q=>∃a b ns ms,x=.ref a/\y=.ref b/\dC K H a (ns.map V.int)/\dC K H b (ms.map V.int)/\Q (.bl (HT.lexLt ns ms)) H
theorem Kc(hu:X.A.units<cLine):jX X (compareOp .Lt) (LZ X.K):=by
 intro pins s σ H x y v u Q I rx ry h
 obtain⟨a,b,ns,ms,rfl,rfl,ha,hb,q⟩:=h
 cases rx
 cases ry
 obtain⟨its,r1,p1,_⟩:=I.tuple ha
 obtain⟨its2,r2,p2,_⟩:=I.tuple hb
 have i1:IntsAre its.toArray.toList ns:=tU r1
 have i2:IntsAre its2.toArray.toList ms:=tU r2
 exact HT.lt_tupInts p1 p2 i1 i2 hu ⟨.bl (HT.lexLt ns ms),H,I,rfl,q⟩
def Jk(K:Fg):R2:=λx y H Q=>∃a b xs ys,x=.ref a/\y=.ref b/\dC K H a xs/\dC K H b ys/\xs≠[]/\xs.length+ys.length<=sizeLine/\
 (ys=[]->Q (.ref a) H)/\(ys≠[]->∀p,H p=none->Q (.ref p) (upd H p (.tup (xs++ys))))
theorem cu.nil_iff{xs:List V}{us:List Value}(r:cu xs us):us=[]↔xs=[]:=by
 cases r with
 |nil=>simp
 |cons _ _=>simp
theorem HH:jX X (binaryOp .Add) (Jk X.K):=by
 intro pins s σ H x y v u Q I rx ry h
 obtain⟨a,b,xs,ys,rfl,rfl,ha,hb,hx,hz,q1,q2⟩:=h
 cases rx
 cases ry
 obtain⟨its,r1,p1,_⟩:=I.tuple ha
 obtain⟨its2,r2,p2,_⟩:=I.tuple hb
 refine HT.cat_tup p1 p2 (λz=>hx (r1.nil_iff.mp z)) (λz=>⟨.ref a,H,I,rfl,q1 (r2.nil_iff.mp z)⟩) (λz=>?_) (by rw[<-r1.length,<-r2.length];exact hz)
 refine⟨.ref s.heap.objs.size,_,I.laid (t':=s.toks) (o:=.tup (xs++ys)) (λb ob q=>aA _ q) (aB _) ?_,rfl,q2 (λw=>z (r2.nil_iff.mpr w)) _ (I.hok.fresh (aB _))⟩
 exact⟨by rw[ay];exact hz,_,r1.append r2,ly.new _ _⟩
end
def JL(n:Nat)(i:Int):Option Nat:=if 0<=i then(if i<n then some i.toNat else none) else if -(n:Int)<=i then some (i+n).toNat else none
def Jw{α:Type}(xs:List α)(i:Int):Option α:=(JL xs.length i).bind λj=>xs[j]?
theorem BF{n:Nat}{i:Int}{j:Nat}(h:JL n i=some j):seqIndex? i n=some j/\j<n/\-(n:Int)<=i/\i<n:=by
 unfold JL at h
 by_cases h0:0<=i
 ·rw[if_pos h0] at h
  by_cases h1:i<n
  ·rw[if_pos h1] at h
   have e:i.toNat=j:=Option.some.inj h
   exact⟨by rw[seqIndex_of h0 h1,e],by lia,by lia,h1⟩
  ·rw[if_neg h1] at h;cases h
 ·rw[if_neg h0] at h
  by_cases h1:-(n:Int)<=i
  ·rw[if_pos h1] at h
   have e:(i+n).toNat=j:=Option.some.inj h
   exact⟨by rw[seqIndex_neg (by lia) h1,e],by lia,h1,by lia⟩
  ·rw[if_neg h1] at h;cases h
theorem wM{α:Type}{xs:List α}{i:Int}{v:α}(h:Jw xs i=some v):∃j,seqIndex? i xs.length=some j/\xs[j]?=some v/\j<xs.length/\-(xs.length:Int)<=i/\i<xs.length:=by
 unfold Jw at h
 cases e:JL xs.length i with
 |none=>rw[e] at h;cases h
 |some j=>
  rw[e] at h
  obtain⟨h1,h2,h3,h4⟩:=BF e
  exact⟨j,h1,h,h2,h3,h4⟩
def Br(b:Expr):Prop:=∀o i,subscripted b false o i=operate [o,i] (getItem o i)
def GO(X:Cx)(r:R2):Prop:=
 ∀(value slice:Expr) (pins:List (Addr×Obj)) (s:Shared) (σ:St) (H:Hp) (x y:V) (v u:Value) (Q:VK),bU X pins σ H s->cJ x v->cJ y u->r x y H Q->
  subscripted slice false v u=operate [v,u] (getItem v u)->wpAny (model X.prog X.w) X.A (subscriptTail value slice v u) (EP X pins σ Q) X.xe s
def K8(X:Cx)(id:String)(r:V->List V->Hp->VK->Prop):Prop:=
 ∀(pins:List (Addr×Obj)) (s:Shared) (σ:St) (H:Hp) (x:V) (xs:List V) (v:Value) (us:List Value) (Q:VK),bU X pins σ H s->cJ x v->cu xs us->r x xs H Q->
  wpAny (model X.prog X.w) X.A (call (.builtin id) (v::us)) (EP X pins σ Q) X.xe s
section
variable{X:Cx}{a b:Expr}{ta tb:TE}{pos:Pos}
theorem GO.or{r r':R2}(h:GO X r)(h':GO X r'):GO X (λx y H Q=>r x y H Q\/r' x y H Q):=by
 intro value slice pins s σ H x y v u Q I rx ry q hs
 rcases q with q|q
 ·exact h value slice pins s σ H x y v u Q I rx ry q hs
 ·exact h' value slice pins s σ H x y v u Q I rx ry q hs
theorem LN{r:R2}(hr:GO X r)(ha:PE X a ta)(hb:PE X b tb)(hs:Br b):PE X (.Subscript a b pos) (bI r ta tb):=by
 intro pins s σ H Q I h
 exact Subscript_ (Jy ha hb I h λv u s2 x y H2 I2 rx ry q=>hr a b pins s2 σ H2 x y v u Q I2 rx ry q (hs _ _))
def LW(K:Fg):R2:=λx y H Q=>∃p xs i v,x=.ref p/\y=.int i/\cq K H p xs/\Jw xs i=some v/\Q v H
def LY(K:Fg):R2:=λx y H Q=>∃p xs i v,x=.ref p/\y=.int i/\dC K H p xs/\Jw xs i=some v/\Q v H
def LX:R2:=λx y H Q=>∃z i c,x=.str z/\y=.int i/\z.length<=sizeLine/\Jw z.cps.toList i=some c/\Q (.str ⟨#[c]⟩) H
theorem Hm:GO X (LW X.K):=by
 intro value slice pins s σ H x y v u Q I rx ry h hs
 obtain⟨p,xs,i,z,rfl,rfl,hq,he,q⟩:=h
 cases rx
 obtain⟨t,rfl⟩:=ry
 obtain⟨its,r,pl,hz⟩:=I.list hq
 obtain⟨j,h1,h2,h3,h4,h5⟩:=wM he
 obtain⟨w,ew,rw'⟩:=r.get h2
 have hl:=r.length
 have hn:=ua
 have fin:EP X pins σ Q w s:=⟨z,H,I,rw',q⟩
 by_cases h0:0<=i
 ·have hj:i.toNat=j:=by
   rw[seqIndex_of h0 h5] at h1
   exact Option.some.inj h1
  exact item_listR pl.isList h0 (by lia) (by rw[hj];simpa using ew) fin hs
 ·have hj:(i+(its.toArray.size:Int)).toNat=j:=by
   rw[seqIndex_neg (by lia) h4] at h1
   rw[au,<-hl]
   exact Option.some.inj h1
  exact subscriptTail_builtinR (x:=w) pl.isList.typeIs slot_list_getitem.lookup
   (wpAny_getItem_list_neg (Q:=λr s'=>r=w/\EP X pins σ Q r s') pl.isList (by lia) (by rw[au]<;>lia) (by lia) (by rw[hj];simpa using ew) ⟨rfl,fin⟩) hs
theorem JN:GO X (LY X.K):=by
 intro value slice pins s σ H x y v u Q I rx ry h hs
 obtain⟨p,xs,i,z,rfl,rfl,hq,he,q⟩:=h
 cases rx
 obtain⟨t,rfl⟩:=ry
 obtain⟨its,r,pl,hz⟩:=I.tuple hq
 obtain⟨j,h1,h2,h3,h4,h5⟩:=wM he
 obtain⟨w,ew,rw'⟩:=r.get h2
 have hl:=r.length
 have hn:=ua
 have fin:EP X pins σ Q w s:=⟨z,H,I,rw',q⟩
 exact subscriptTail_builtinR (x:=w) pl.typeIs slot_tuple_getitem.lookup
  (getItem_tuple (j:=j) (Q:=λr s'=>r=w/\EP X pins σ Q r s') pl (by lia) (by lia) (by rw[au,<-hl];exact h1) (by simpa using ew) ⟨rfl,fin⟩) hs
theorem JM:GO X LX:=by
 intro value slice pins s σ H x y v u Q I rx ry h hs
 obtain⟨z,i,c,rfl,rfl,hz,he,q⟩:=h
 obtain⟨t,rfl⟩:=rx
 obtain⟨t',rfl⟩:=ry
 obtain⟨j,h1,h2,h3,h4,h5⟩:=wM he
 have hl:z.cps.toList.length=z.length:=by simp[Str.length]
 rw[hl] at h1 h4 h5
 have hn:=ua
 exact tail_any (typeIs_str s z t) slot_str_getitem.lookup (getItem_str (c:=c) (by
  have e1:decide (i < -(2 ^ 63:Int))=false:=decide_eq_false (by lia)
  have e2:decide (i >= 2 ^ 63)=false:=decide_eq_false (by lia)
  rw[e1,e2,Bool.or_false]) (by rw[h1];simpa using h2) ⟨.str ⟨#[c]⟩,H,I.tok _,⟨_,rfl⟩,q⟩) hs
def d5(K:Fg):R2:=λx y H Q=>LW K x y H Q\/LY K x y H Q\/LX x y H Q
theorem ba:GO X (d5 X.K):=Hm.or (JN.or JM)
theorem AD(its:List Value)(n j:Nat)(u:Value):Obj.mapSeq (·.setIfInBounds j u) {cls:=.type "list",data:=.seq its.toArray n}={cls:=.type "list",data:=.seq (its.set j u).toArray n}:=by
 simp[Obj.mapSeq]
theorem bU.lst{pins:List (Addr×Obj)}{σ:St}{H:Hp}{s:Shared}{p:Addr}{xs:List V}(I:bU X pins σ H s)(h:H p=some (.lst xs)) :
  ∃(its:List Value) (n:Nat),cu xs its/\s.heap.get? p=some {cls:=.type "list",data:=.seq its.toArray n}/\xs.length<=sizeLine:=by
 obtain⟨z,its,n,r,e⟩:=I.hok p _ h
 exact⟨its,n,r,e,z⟩
theorem bU.lstUpd{pins:List (Addr×Obj)}{σ:St}{H:Hp}{s:Shared}{p:Addr}{xs ys:List V}{its its':List Value}{n n':Nat}{f:Obj->Obj}(I:bU X pins σ H s)(h:H p=some (.lst xs))
  (ho:s.heap.get? p=some {cls:=.type "list",data:=.seq its.toArray n}) (hf:f {cls:=.type "list",data:=.seq its.toArray n}={cls:=.type "list",data:=.seq its'.toArray n'}) (r:cu ys its') (hz:ys.length<=sizeLine) (t:Nat) :
  bU X pins σ (upd H p (.lst ys)) {s with heap:=s.heap.update p f,toks:=t}:=by
 have e:(s.heap.update p f).get? p=some {cls:=.type "list",data:=.seq its'.toArray n'}:=by
  rw[fg f ho (by rw[hf]<;>rfl),hf]
 refine I.write (x:=p) (e:=p) (by rw[h];trivial) (.inl rfl) (λb u hb q=>(de _ _ (Ne.symm hb)).trans q) ⟨_,e⟩ ?_
 exact⟨hz,its',n',r,e⟩
def nC:V->V->V->Hp->(Hp->Prop)->Prop:=λo i v H Q=>∃p xs k j,o=.ref p/\i=.int k/\H p=some (.lst xs)/\JL xs.length k=some j/\Q (upd H p (.lst (xs.set j v)))
theorem jK:GW X nC:=by
 intro pins s σ H o i v ov iv u Q I ro ri rv h
 obtain⟨p,xs,k,j,rfl,rfl,hp,hj,q⟩:=h
 cases ro
 obtain⟨t,rfl⟩:=ri
 obtain⟨its,n,r,ho,hz⟩:=I.lst hp
 obtain⟨h1,h2,h3,h4⟩:=BF hj
 have hl:=r.length
 have hn:=ua
 have I':bU X pins σ (upd H p (.lst (xs.set j v))) {s with heap:=s.heap.update p (Obj.mapSeq (·.setIfInBounds j u))}:=
  I.lstUpd hp ho (AD its n j u) (r.set rv j) (by rw[cY];exact hz) s.toks
 by_cases h0:0<=k
 ·have hk:k.toNat=j:=by
   rw[seqIndex_of h0 h4] at h1
   exact Option.some.inj h1
  exact PySem.W.ki_setAt ho h0 (by lia) (by rw[au,<-hl];exact h4) (by rw[hk];exact⟨_,I',q⟩)
 ·have hk:(k+(its.toArray.size:Int)).toNat=j:=by
   rw[seqIndex_neg (by lia) h3] at h1
   rw[au,<-hl]
   exact Option.some.inj h1
  exact PySem.W.ki_setBack ho (by lia) (by rw[au,<-hl];exact h3) (by lia) (by rw[hk];exact⟨_,I',q⟩)
theorem xC(lo hi:Option Int)(n:Nat):(sliceBounds lo hi none n).1=((HT.sIx n 0 lo:Nat):Int)/\(sliceBounds lo hi none n).2.1=((HT.sIx n n hi:Nat):Int)/\(sliceBounds lo hi none n).2.2=1:=by
 refine⟨?_,?_,rfl⟩
 ·cases lo with
  |none=>simp[sliceBounds,HT.sIx]
  |some i=>
   simp only[sliceBounds,HT.sIx,Option.getD_none,show(1:Int)>0 by decide,if_true]
   by_cases h:i<0
   ·simp only[h,if_true]<;>lia
   ·simp only[h,if_false]<;>lia
 ·cases hi with
  |none=>simp[sliceBounds,HT.sIx]
  |some i=>
   simp only[sliceBounds,HT.sIx,Option.getD_none,show(1:Int)>0 by decide,if_true]
   by_cases h:i<0
   ·simp only[h,if_true]<;>lia
   ·simp only[h,if_false]<;>lia
theorem vg(its:List Value)(lo hi:Option Int):slicePick its.toArray lo hi none=((its.drop (HT.sIx its.length 0 lo)).take (HT.sIx its.length its.length hi-HT.sIx its.length 0 lo)).toArray:=by
 obtain⟨h1,h2,h3⟩:=xC lo hi its.toArray.size
 unfold slicePick
 rw[h1,h2,h3]
 simp only[sliceRange_one,pick_run,au]<;>rfl
def L3(K:Fg):V->Option Int->Option Int->Hp->VK->Prop:=λx lo hi H Q=>∃a xs,x=.ref a/\cq K H a xs/\∀p,H p=none->Q (.ref p) (upd H p (.lst (mh xs lo hi)))
theorem IR:GZ X (L3 X.K):=by
 intro pins s σ H x v vl vu lo hi sl Q I rx hs pl pu h
 obtain⟨a,xs,rfl,hx,q⟩:=h
 cases rx
 obtain⟨its,r,ht,hz⟩:=I.list hx
 have hlen:=r.length
 refine⟨"list",_,slot_list_getitem.lookup,ht.isList.typeIs,?_⟩
 refine wpAny_getItem_list_slice ht.isList hs pl pu .none (by simp) ?_ (by rw[au]<;>lia)
 rw[vg,<-hlen]
 refine⟨.ref s.heap.objs.size,_,I.laid (t':=s.toks) (o:=.lst (mh xs lo hi)) (λb ob q=>aA _ q) (aB _) ?_,rfl,q _ (I.hok.fresh (aB _))⟩
 exact⟨bx (rh xs lo hi) hz,_,0,(r.drop (HT.sIx xs.length 0 lo)).take (HT.sIx xs.length xs.length hi-HT.sIx xs.length 0 lo),aQ _ rfl⟩
def ip:V->Bool
 |.non=>true
 |.bl _=>true
 |.int _=>true
 |.str _=>true
 |_=>false
def sO:V->V->Bool
 |.non,.non=>true
 |.bl a,.bl b=>a==b
 |.bl a,.int b=>(if a then 1 else 0)==b
 |.int a,.bl b=>a==(if b then 1 else 0)
 |.int a,.int b=>a==b
 |.str a,.str b=>a==b
 |_,_=>false
theorem Af{A:Around}{s:Shared}{y x:V}{u v:Value}(ry:cJ y u)(rx:cJ x v)(fy:ip y=true)(fx:ip x=true):SeqAt.EqAt A s u v (sO y x):=by
 cases y with
 |non=>
  cases ry
  cases x with
  |non=>cases rx;exact SeqAt.EqAt.same _
  |bl b=>cases rx;exact SeqAt.EqAt.none_bool b
  |int b=>obtain⟨t,rfl⟩:=rx;exact SeqAt.EqAt.none_int b t
  |str b=>obtain⟨t,rfl⟩:=rx;exact SeqAt.EqAt.none_str b t
  |_=>exact absurd (show false=true from fx) Bool.false_ne_true
 |bl a=>
  cases ry
  cases x with
  |non=>cases rx;exact SeqAt.EqAt.bool_none a
  |bl b=>cases rx;exact SeqAt.EqAt.bool_bool a b
  |int b=>obtain⟨t,rfl⟩:=rx;exact SeqAt.EqAt.bool_int a b t
  |str b=>obtain⟨t,rfl⟩:=rx;exact SeqAt.EqAt.bool_str a b t
  |_=>exact absurd (show false=true from fx) Bool.false_ne_true
 |int a=>
  obtain⟨t',rfl⟩:=ry
  cases x with
  |non=>cases rx;exact SeqAt.EqAt.int_none a t'
  |bl b=>cases rx;exact SeqAt.EqAt.int_bool a t' b
  |int b=>obtain⟨t,rfl⟩:=rx;exact SeqAt.EqAt.int_int a t' b t
  |str b=>obtain⟨t,rfl⟩:=rx;exact SeqAt.EqAt.int_str a t' b t
  |_=>exact absurd (show false=true from fx) Bool.false_ne_true
 |str a=>
  obtain⟨t',rfl⟩:=ry
  cases x with
  |non=>cases rx;exact SeqAt.EqAt.str_none a t'
  |bl b=>cases rx;exact SeqAt.EqAt.str_bool a t' b
  |int b=>obtain⟨t,rfl⟩:=rx;exact SeqAt.EqAt.str_int a t' b t
  |str b=>obtain⟨t,rfl⟩:=rx;exact SeqAt.EqAt.str_str a t' b t
  |_=>exact absurd (show false=true from fx) Bool.false_ne_true
 |_=>exact absurd (show false=true from fy) Bool.false_ne_true
def Ag(x:V)(u:Value):Bool:=match u with
 |.none=>sO .non x
 |.bool b=>sO (.bl b) x
 |.int i _=>sO (.int i) x
 |.str z _=>sO (.str z) x
 |_=>false
theorem EB{x y:V}{u:Value}(r:cJ y u)(f:ip y=true):Ag x u=sO y x:=by
 cases y with
 |non=>cases r;rfl
 |bl b=>cases r;rfl
 |int i=>obtain⟨t,rfl⟩:=r;rfl
 |str z=>obtain⟨t,rfl⟩:=r;rfl
 |_=>exact absurd (show false=true from f) Bool.false_ne_true
theorem pI{x:V}:∀{xs:List V} {us:List Value},cu xs us->xs.all ip=true->us.any (Ag x)=xs.any λy=>sO y x
 |_,_,.nil,_=>rfl
 |y::xs,u::us,.cons r t,f=>by
  rw[List.all_cons,Bool.and_eq_true] at f
  rw[jw,jw,EB r f.1,pI t f.2]
theorem nz{A:Around}{s:Shared}{x:V}{v:Value}(rx:cJ x v)(fx:ip x=true):∀{xs:List V} {us:List Value},cu xs us->xs.all ip=true->∀u∈us,SeqAt.EqAt A s u v (Ag x u)
 |_,_,.nil,_=>λu hu=>by cases hu
 |y::xs,u::us,.cons r t,f=>λu' hu=>by
  rw[List.all_cons,Bool.and_eq_true] at f
  rcases aN.mp hu with rfl|hu
  ·rw[EB r f.1];exact Af r rx f.1 fx
  ·exact nz rx fx t f.2 u' hu
def m6(x:V)(xs:List V):Bool:=xs.any λy=>sO y x
def xQ(K:Fg)(neg:Bool):R2:=λx y H Q=>∃p xs,y=.ref p/\(cq K H p xs\/dC K H p xs)/\ip x=true/\xs.all ip=true/\Q (.bl (if neg then !m6 x xs else m6 x xs)) H
theorem gZ:jX X (compareOp .In) (xQ X.K false):=by
 intro pins s σ H x y v u Q I rx ry h
 obtain⟨p,xs,rfl,hq,fx,fs,q⟩:=h
 cases ry
 rcases hq with hq|hq
 ·obtain⟨its,r,pl,hz⟩:=I.list hq
  refine SeqAt.in_listAt (Ag x) pl.isList (λw hw=>nz rx fx r fs w (by simpa using hw)) ⟨.bl _,H,I,rfl,?_⟩
  rw[show its.toArray.any (Ag x)=its.any (Ag x) by simp,pI r fs]
  exact q
 ·obtain⟨its,r,pl,hz⟩:=I.tuple hq
  refine SeqAt.in_tupleAt (Ag x) pl (λw hw=>nz rx fx r fs w (by simpa using hw)) ⟨.bl _,H,I,rfl,?_⟩
  rw[show its.toArray.any (Ag x)=its.any (Ag x) by simp,pI r fs]
  exact q
theorem iY:jX X (compareOp .NotIn) (xQ X.K true):=by
 intro pins s σ H x y v u Q I rx ry h
 obtain⟨p,xs,rfl,hq,fx,fs,q⟩:=h
 cases ry
 rcases hq with hq|hq
 ·obtain⟨its,r,pl,hz⟩:=I.list hq
  refine SeqAt.notIn_listAt (Ag x) pl.isList (λw hw=>nz rx fx r fs w (by simpa using hw)) ⟨.bl _,H,I,rfl,?_⟩
  rw[show its.toArray.any (Ag x)=its.any (Ag x) by simp,pI r fs]
  exact q
 ·obtain⟨its,r,pl,hz⟩:=I.tuple hq
  refine SeqAt.notIn_tupleAt (Ag x) pl (λw hw=>nz rx fx r fs w (by simpa using hw)) ⟨.bl _,H,I,rfl,?_⟩
  rw[show its.toArray.any (Ag x)=its.any (Ag x) by simp,pI r fs]
  exact q
theorem j4:i8 X (.type "list") (λxs H Q=>∃p ys,xs=[.ref p]/\(cq X.K H p ys\/dC X.K H p ys)/\∀l,H l=none->Q (.ref l) (upd H l (.lst ys))):=by
 intro pins s σ H xs us Q I r h
 obtain⟨p,ys,rfl,hq,q⟩:=h
 obtain⟨u,rfl,rx⟩:=m5 r
 cases rx
 have fin:∀(its:List Value),cu ys its->ys.length<=sizeLine->∀(h':Heap) (c':Nat),(∀b o',s.heap.get? b=some o'->h'.get? b=some o')->
   h'.get? s.heap.objs.size=some {cls:=.type "list",dict:=none,data:=.seq its.toArray c',slots:=#[]}->EP X pins σ Q (.ref s.heap.objs.size) {s with heap:=h'}:=λits r' hz h' c' kp e=>
  ⟨.ref s.heap.objs.size,_,I.laid (t':=s.toks) kp (aB _) (show fH X.prog X.w _ h' _ (.lst ys) from⟨hz,its,c',r',e⟩),rfl,q _ (I.hok.fresh (aB _))⟩
 rcases hq with hq|hq
 ·obtain⟨its,r',pl,hz⟩:=I.list hq
  have hlen:=r'.length
  obtain⟨o,ho,hc,n,hd⟩:=pl.isList
  exact call_list_seq p (.inl rfl) ho hc hd (λh' c' kp e=>fin its r' hz h' c' kp e) (by simp only[au]<;>lia)
 ·obtain⟨its,r',pl,hz⟩:=I.tuple hq
  have hlen:=r'.length
  obtain⟨o,ho,hc,n,hd⟩:=pl
  exact call_list_seq p (.inr rfl) ho hc hd (λh' c' kp e=>fin its r' hz h' c' kp e) (by simp only[au]<;>lia)
theorem cH:i8 X (.type "tuple") (λxs H Q=>∃p ys,xs=[.ref p]/\((cq X.K H p ys/\∀l,H l=none->Q (.ref l) (upd H l (.tup ys)))\/(dC X.K H p ys/\Q (.ref p) H))):=by
 intro pins s σ H xs us Q I r h
 obtain⟨p,ys,rfl,h⟩:=h
 obtain⟨u,rfl,rx⟩:=m5 r
 cases rx
 rcases h with⟨hq,q⟩|⟨hq,q⟩
 ·obtain⟨its,r',pl,hz⟩:=I.list hq
  have hlen:=r'.length
  refine call_tuple_list pl.isList (λh' kp=>?_) (by simp only[au]<;>lia)
  have I1:bU X pins σ H {s with heap:=h'}:=I.kept (t':=s.toks) kp
  have I2:bU X pins σ (upd H h'.objs.size (.tup ys)) {s with heap:=h'.push {cls:=.type "tuple",data:=.seq its.toArray}}:=
   I1.laid (t':=s.toks) (λb o e=>aA _ e) (aB _) (show fH X.prog X.w _ _ _ (.tup ys) from⟨hz,its,r',ly.new _ _⟩)
  exact⟨.ref h'.objs.size,_,I2,rfl,q _ (I1.hok.fresh (aB _))⟩
 ·obtain⟨its,r',pl,hz⟩:=I.tuple hq
  exact call_tuple_same pl ⟨.ref p,H,I,rfl,q⟩
def MG(K:Fg)(T:String)(x:V)(H:Hp):Prop:=match x with
 |.str _=>T="str"
 |.int _=>T="int"
 |.ref p=>(T="list"/\∃xs,cq K H p xs)\/(T="tuple"/\∃o,K.lookup p=some o/\o.cls=.type "tuple"/\o.dict=none)\/
   (T="dict"/\((∃kvs,H p=some (.dK kvs))\/∃kvs,H p=some (.dT kvs)))\/(T="set"/\∃S n,H p=some (.set S n))
 |_=>False
theorem GI{pins:List (Addr×Obj)}{σ:St}{H:Hp}{s:Shared}{T:String}{x:V}{v:Value}(I:bU X pins σ H s)(r:cJ x v)(ty:MG X.K T x H) :
  s.TypeIs v T/\∀a,v=.ref a->∃ob,s.heap.get? a=some ob/\ob.dict=none:=by
 cases x with
 |str z=>
  obtain⟨t,rfl⟩:=r
  cases(show T="str" from ty)
  exact⟨typeIs_str s z t,λ_ e=>nomatch e⟩
 |int i=>
  obtain⟨t,rfl⟩:=r
  cases(show T="int" from ty)
  exact⟨typeIs_int s i t,λ_ e=>nomatch e⟩
 |ref p=>
  cases r
  rcases ty with⟨rfl,xs,hq⟩|⟨rfl,o,hk,hc,hd⟩|⟨rfl,hk⟩|⟨rfl,S,n,hk⟩
  ·obtain⟨its,_,pl,_⟩:=I.list hq
   refine⟨pl.isList.typeIs,λa e=>?_⟩
   cases e
   obtain⟨o,n,e,c,hd,_⟩:=pl
   exact⟨o,e,hd⟩
  ·refine⟨⟨o,I.kIn p o hk,hc⟩,λa e=>?_⟩
   cases e
   exact⟨o,I.kIn _ o hk,hd⟩
  ·have z:∃o,s.heap.get? p=some o/\o.ExactDict:=by
    rcases hk with⟨kvs,hk⟩|⟨kvs,hk⟩
    ·obtain⟨_,_,_,_,o,_,_,e,ex,_⟩:=I.hok p _ hk
     exact⟨o,e,ex⟩
    ·obtain⟨_,_,_,_,o,_,_,e,ex,_⟩:=I.hok p _ hk
     exact⟨o,e,ex⟩
   obtain⟨o,e,ex⟩:=z
   refine⟨⟨o,e,ex.1⟩,λa e2=>?_⟩
   cases e2
   exact⟨o,e,ex.2.1⟩
  ·obtain⟨o,_,_,_,e,ex,_⟩:=I.hok p _ hk
   refine⟨⟨o,e,ex.1⟩,λa e2=>?_⟩
   cases e2
   exact⟨o,e,ex.2.1⟩
 |_=>exact False.elim ty
def IV(K:Fg)(T:String)(r:V->List V->Hp->VK->Prop)(to:TE):TE:=λσ H Q=>to σ H λx H1=>MG K T x H1/\r x [] H1 Q
def DQ(K:Fg)(T:String)(r:V->List V->Hp->VK->Prop)(to:TE)(t:TA):TE:=λσ H Q=>to σ H λx H1=>MG K T x H1/\t σ H1 λxs H2=>r x xs H2 Q
variable{o e:Expr}{es:List Expr}{to:TE}{t:TA}{name:Str}{apos cpos:Pos}{T id:String}{r:V->List V->Hp->VK->Prop}
theorem Ki(pa:PlainAttrs T)(slot:Slot T name id)(hty:typeOf (.builtin id)=pure (.type "method_descriptor"))(hm:K8 X id r)(ho:PE X o to)
  (hbase:attributeBase o name X.env (eval o X.env)=eval o X.env:=by rfl) (hline:(apos.endLine==cpos.line)=true:=by rfl):PE X (.Call (.Attribute o name apos) [] [] cpos) (IV X.K T r to):=by
 intro pins s σ H Q I h
 refine wpAny_Call_method0_late hbase hline (gd (ho pins s σ H _ I h) λv s1 ⟨x,H1,I1,r1,ty,q1⟩=>?_)
 obtain⟨h1,h2⟩:=GI I1 r1 ty
 exact⟨T,id,pa,slot,hty,h1,h2,Calls.callWith_builtin rfl (PySem.evalArgs_none (hm pins s1 σ H1 x [] v [] Q I1 r1 .nil q1))⟩
theorem LL(pa:PlainAttrs T)(slot:Slot T name id)(hty:typeOf (.builtin id)=pure (.type "method_descriptor"))(hm:K8 X id r)(ho:PE X o to)(ha:PA X (e::es) t)
  (hbase:attributeBase o name X.env (eval o X.env)=eval o X.env:=by rfl)
  (hfew:((backTo cpos (starEach (e::es) X.env)).all (λx=>!x.1)&&(backToKw cpos (keywordEach [] X.env)).all (λx=>x.1.isSome)
   && decide ((e::es).length+([]:List Keyword).length+(if([]:List Keyword).isEmpty then 0 else 1)<30))=true:=by rfl)
  (hline:(apos.endLine==cpos.line)=true:=by rfl) (hs:starEach (e::es) X.env=(false,eval e X.env)::starEach es X.env:=by rfl) (hplain:(backTo cpos (starEach es X.env)).any (·.1)=false:=by rfl) :
  PE X (.Call (.Attribute o name apos) (e::es) [] cpos) (DQ X.K T r to t):=by
 intro pins s σ H Q I h
 refine wpAny_Call_method_late hbase hfew hline rfl (gd (ho pins s σ H _ I h) λv s1 ⟨x,H1,I1,r1,ty,q1⟩=>?_)
 obtain⟨h1,h2⟩:=GI I1 r1 ty
 refine⟨T,id,pa,slot,hty,h1,h2,?_⟩
 have hA:=ha cpos pins s1 σ H1 _ I1 q1
 rw[hs] at hA ⊢
 refine Calls.callWith_builtin (by show(false || (backTo cpos (starEach es X.env)).any (·.1))=false;rw[hplain]<;>rfl) (Calls.evalArgs_plain ?_)
 exact gd hA λus s2 ⟨vs,H2,I2,r2,q2⟩=>hm pins s2 σ H2 x vs v us Q I2 r1 r2 q2
/- xs.append(e),list.index on a module's tuple .. are K8 facts of 06m -/
end
def Mo(X:Cx)(id:String)(r:V->List V->Hp->VK->Prop):Prop:=
 ∀(pins:List (Addr×Obj)) (s:Shared) (σ:St) (H:Hp) (x:V) (xs:List V) (v:Value) (us:List Value) (Q:VK),bU X pins σ H s->cJ x v->cu xs us->r x xs H Q->
  wpAny (model X.prog X.w) X.A (call (.builtin id) (v::us)) (EP X pins σ Q) X.xe s
theorem cu.one:∀{x:V} {us:List Value},cu [x] us->∃u,us=[u]/\cJ x u
 |_,_,.cons r .nil=>⟨_,rfl,r⟩
theorem cu.zero:∀{us:List Value},cu [] us->us=[]
 |_,.nil=>rfl
theorem cu.dropLast{xs:List V}{us:List Value}(h:cu xs us):cu xs.dropLast us.dropLast:=by
 induction h with
 |nil=>exact .nil
 |cons r t ih=>
  cases t with
  |nil=>exact .nil
  |cons q t'=>exact .cons r ih
theorem cu.reverse{xs:List V}{us:List Value}(h:cu xs us):cu xs.reverse us.reverse:=by
 induction h with
 |nil=>exact .nil
 |cons r t ih=>rw[gJ,gJ];exact cu.append ih (.cons r .nil)
theorem cu.rep{xs:List V}{us:List Value}(h:cu xs us):∀k:Nat,cu (aH k xs).flatten (aH k us).flatten
 |0=>.nil
 |k+1=>by
  rw[cM,cM,fA,fA]
  exact cu.append h (cu.rep h k)
theorem Ah{α:Type}(l:List α):l.eraseIdx (l.length-1)=l.dropLast:=by
 induction l with
 |nil=>rfl
 |cons a r ih=>
  cases r with
  |nil=>rfl
  |cons b r=>
   have e:(a::b::r).length-1=((b::r).length-1)+1:=by
    have h1:(a::b::r).length=r.length+2:=rfl
    have h2:(b::r).length=r.length+1:=rfl
    lia
   rw[e,List.eraseIdx_cons_succ,ih]
   all_goals rfl
theorem vH(its:List Value):∀(k:Nat) (acc:List Value),
  sW (λx1 x2=>x1++x2) acc.toArray (aH k its.toArray)=(acc++(aH k its).flatten).toArray
 |0,acc=>by simp
 |k+1,acc=>by
  have e:acc.toArray++its.toArray=(acc++its).toArray:=by simp
  have e2:(acc++its)++(aH k its).flatten=acc++(aH (k+1) its).flatten:=by
   rw[cM,fA,iQ]
  rw[<-e2,<-vH its k (acc++its),<-e,cM,gB]
section
variable{X:Cx}{pins:List (Addr×Obj)}{σ:St}{H:Hp}{s:Shared}{l b:Addr}{xs ys zs:List V}
theorem bU.lset{its its':List Value}{n:Nat}{f:Array Value->Array Value}{t':Nat}(I:bU X pins σ H s)(hH:H l=some (.lst xs))
  (e:s.heap.get? l=some {cls:=.type "list",data:=.seq its.toArray n}) (hf:f its.toArray=its'.toArray) (hv:cu ys its') (hz:ys.length<=sizeLine) :
  bU X pins σ (upd H l (.lst ys)) {s with heap:=s.heap.update l (Obj.mapSeq f),toks:=t'}:=by
 have q:=PySem.IsL.update e f
 rw[hf] at q
 refine I.write (x:=l) (e:=l) (by rw[hH];exact trivial) (.inl rfl) (λb' u hb hu=>(de s.heap (Obj.mapSeq f) (Ne.symm hb)).trans hu) ⟨_,q⟩ ?_
 exact⟨hz,its',_,hv,q⟩
theorem bU.lnew{its:List Value}{t':Nat}(I:bU X pins σ H s)(hv:cu ys its)(hz:ys.length<=sizeLine) :
  bU X pins σ (upd H s.heap.objs.size (.lst ys)) {s with heap:=s.heap.push {cls:=.type "list",data:=.seq its.toArray},toks:=t'}:=
 I.laid (λ_ _ q=>aA _ q) (aB _) ⟨hz,its,0,hv,aQ _ rfl⟩
theorem bU.fresh(I:bU X pins σ H s):H s.heap.objs.size=none:=I.hok.fresh (aB _)
theorem bU.lstM(I:bU X pins σ H s)(hH:H l=some (.lst xs)):xs.length<=sizeLine/\∃(its:List Value) (n:Nat),cu xs its/\xs.length=its.length/\s.heap.get? l=some {cls:=.type "list",data:=.seq its.toArray n}:=by
 obtain⟨z,its,n,r,e⟩:=I.hok l _ hH
 exact⟨z,its,n,r,r.length,e⟩
theorem Ff{n:Nat}(h:n<=sizeLine):Builtin.List.listTooLong n=false:=by
 unfold Builtin.List.listTooLong
 exact decide_eq_false (by lia)
end
section
variable{X:Cx}
def iy:V->List V->Hp->VK->Prop:=λx vs H Q=>∃l xs y,x=.ref l/\vs=[y]/\H l=some (.lst xs)/\xs.length<sizeLine/\Q .non (upd H l (.lst (xs++[y])))
theorem gF:Mo X "list.append" iy:=by
 intro pins s σ H x vs v us Q I rx rv h
 obtain⟨l,xs,y,rfl,rfl,hH,hz,q⟩:=h
 cases rx
 obtain⟨u,rfl,ru⟩:=rv.one
 obtain⟨z,its,n,r,hl,e⟩:=I.lstM hH
 refine call_meets F.slot_list_append ⟨_,e,rfl⟩ F.entry_list_append (F.args_list_append_2 _ _) (PySem.list_append l its.toArray n u (by rw[au];lia)) ⟨e,?_⟩
 refine⟨.non,_,I.lset (its':=its++[u]) hH e (by simp) (r.append (.cons ru .nil)) ?_,rfl,q⟩
 rw[ay,bo]
 lia
def BN:V->List V->Hp->VK->Prop:=λx vs H Q=>∃l b xs zs,x=.ref l/\vs=[.ref b]/\H l=some (.lst xs)/\H b=some (.lst zs)/\xs.length+zs.length<=sizeLine/\Q .non (upd H l (.lst (xs++zs)))
theorem Dn:Mo X "list.extend" BN:=by
 intro pins s σ H x vs v us Q I rx rv h
 obtain⟨l,b,xs,zs,rfl,rfl,hH,hB,hz,q⟩:=h
 cases rx
 obtain⟨u,rfl,ru⟩:=rv.one
 cases ru
 obtain⟨z,its,n,r,hl,e⟩:=I.lstM hH
 obtain⟨z2,its2,n2,r2,hl2,e2⟩:=I.lstM hB
 have hsz:its.toArray.size+its2.toArray.size<=sizeLine:=by rw[au,au];lia
 have hlong:¬(!its.toArray.isEmpty&&Builtin.List.listTooLong (its.toArray.size+its2.toArray.size))=true:=by
  rw[Ff hsz,Bool.and_false]
  exact Bool.false_ne_true
 refine call_meets F.slot_list_extend ⟨_,e,rfl⟩ F.entry_list_extend (F.args_list_extend_2 _ _)
  (AutoSeq1.list_extend_list_list_0 l its.toArray n b its2.toArray n2 hlong (by rw[au];lia) (by lia)) ⟨e,e2,?_⟩
 refine⟨.non,_,I.lset (its':=its++its2) hH e (by simp) (r.append r2) ?_,rfl,q⟩
 rw[ay]
 lia
def KI:V->List V->Hp->VK->Prop:=λx vs H Q=>∃l xs y,x=.ref l/\vs=[]/\H l=some (.lst xs)/\xs[xs.length-1]?=some y/\Q y (upd H l (.lst xs.dropLast))
theorem Fc:Mo X "list.pop" KI:=by
 intro pins s σ H x vs v us Q I rx rv h
 obtain⟨l,xs,y,rfl,rfl,hH,hy,q⟩:=h
 cases rx
 have hus:=rv.zero
 subst hus
 obtain⟨z,its,n,r,hl,e⟩:=I.lstM hH
 obtain⟨u,hu,ru⟩:=r.get hy
 have hy':its.toArray[its.toArray.size-1]?=some u:=by
  show its.toArray[its.length-1]?=some u
  rw[<-ff,<-hl]
  exact hu
 refine call_meets F.slot_list_pop ⟨_,e,rfl⟩ F.entry_list_pop (F.args_list_pop_1 _) (MeetsSeq.list_pop_last l its.toArray n u hy' (by rw[au];lia)) ⟨e,?_⟩
 refine⟨y,_,I.lset (its':=its.dropLast) hH e ?_ r.dropLast ?_,ru,q⟩
 ·show its.toArray.eraseIdxIfInBounds (its.toArray.size-1)=its.dropLast.toArray
  rw[au,List.eraseIdxIfInBounds_toArray,Ah]
 ·rw[List.length_dropLast]
  lia
def LV:R2:=λx y H Q=>∃l b xs zs,x=.ref l/\y=.ref b/\H l=some (.lst xs)/\H b=some (.lst zs)/\xs.length+zs.length<=sizeLine/\∀p,H p=none->Q (.ref p) (upd H p (.lst (xs++zs)))
theorem J7:jX X (binaryOp .Add) LV:=by
 intro pins s σ H x y v u Q I rx ry h
 obtain⟨l,b,xs,zs,rfl,rfl,hH,hB,hz,q⟩:=h
 cases rx
 cases ry
 obtain⟨z,its,n,r,hl,e⟩:=I.lstM hH
 obtain⟨z2,its2,n2,r2,hl2,e2⟩:=I.lstM hB
 refine PySem.P.add_list e e2 ?_ (by rw[au,au];lia)
 have ea:its.toArray++its2.toArray=(its++its2).toArray:=by simp
 rw[ea]
 exact⟨.ref _,_,I.lnew (t':=s.toks) (r.append r2) (by rw[ay];lia),rfl,q _ I.fresh⟩
theorem Hu{α:Type}(xs:List α)(k:Nat):(aH k xs).flatten.length=k*xs.length:=by
 induction k with
 |zero=>simp
 |succ k ih=>rw[cM,fA,ay,ih,Nat.succ_mul,Nat.add_comm]
end
section
variable{prog:Program}{w:World}{A:Around}{E:Value->Shared->Prop}{s:Shared}
set_option maxRecDepth 100000 in
end
section
variable{X:Cx}
end
end L2
namespace Att
open PySem PySem.W PySem.Calls PyProof.Rows
theorem sr{P:Params}{h:Heap}:∀(ns:List Int) (vs:List Value),WellAll P h vs (ns.map WData.int)->IntsAre vs ns:=by
 intro ns
 induction ns with
 |nil=>
  intro vs w
  rw[cy] at w
  cases w
  exact .nil
 |cons n ns ih=>
  intro vs w
  rw[bq] at w
  cases w with
  |cons a b=>
   cases a
   exact .cons _ _ (ih _ b)
theorem DK{l:OpenLaw}{n:Nat}(hn:l.most=some n){P:Params}{h:Heap}{args:List WData}{vals:List Value}
  (hpre:l.row.toRowW.claim.pre args=true) (hwl:WellAll P h vals args) :
  ∃a vs ns,vals=[Value.ref a]/\args=[WData.list (ns.map WData.int)]/\h.get? a=some {cls:=.type "list",data:=.seq vs.toArray}/\IntsAre vs ns/\ns.length<=n:=by
 have hsh:WShape.hasAll [] args [.list .int]=true:=(pre_splitW hpre).1
 have hc:l.pre.holds [] {args:=args}=true:=(pre_splitW hpre).2
 obtain⟨d,r,rfl,h1,h2⟩:=hasAllW_cons hsh
 obtain rfl:=hasAllW_nil h2
 obtain⟨xs,rfl,h3⟩:=hasW_list h1
 obtain⟨ns,rfl⟩:=items_int h3
 have hlen:ns.length<=n:=by
  unfold OpenLaw.pre at hc
  have h4:(WTm.not (.lt (.lit (.int (n:Int))) (.len (.arg 0)))).holds [] {args:=[.list (ns.map .int)]}=true:=by
   have h4:=(holds_andW hc).1
   rw[hn] at h4
   exact h4
  have h5:=condW_of h4 (w_not (w_lt w_lit (w_len_list (w_arg rfl))))
  rw[ae] at h5
  refine Nat.le_of_not_lt λq=>?_
  have q':(n:Int)<((ns.length:Nat):Int):=by lia
  first
   |(rw[decide_eq_true q'] at h5;exact absurd h5 (by decide))
   |(simp at h5;lia)
 cases hwl with
 |cons w1 w2=>
  cases w2
  cases w1 with
  |list ho hall=>exact⟨_,_,ns,rfl,rfl,ho,sr ns _ hall,hlen⟩
theorem DA(l:OpenLaw)(args:List WData):l.row.toRowW.claim.post args (.bool true) args=true:=
 postW_of (r:=l.row.toRowW) (X:=(true==true))
  (show WShape.has [] (.bool true) .bool=true by first|rfl|decide|simp[WShape.has,WShape.arms,WShape.armsAll])
  (show(WTm.eq .res (.lit (.bool true))).value [] {args:=args,res:=some (.bool true),after:=args}=some (.bool (true==true)) from w_eq_bool (w_res rfl) w_lit) rfl
theorem attach_call{l:OpenLaw}{n:Nat}{q:Program}{loose:List Str}{XP:(Str->Option Value)->Heap->Prop}{YP:World->Heap->Prop}{d:DefRec}
  (hn:l.most=some n) (hdf:d.params.defaults=[])
  (call:∀(w:World) (s₀ s₁:Shared) (mg mb:Str->Option Value) (fa:Addr) (o:Obj) (pm cd doc:Value) (a:Addr) (vs:List Value) (ns:List Int),
   Ground q loose [] XP w s₀ mg mb s₁.heap->YP w s₁.heap->
   s₁.heap.get? fa=some o->o.data=.func (docDef d.name d.params d.body d.scope pm cd doc)->s₁.heap.CodeRec cd d.name->mg d.name=some (.ref fa)->
   s₁.heap.get? a=some {cls:=.type "list",data:=.seq vs.toArray}->IntsAre vs ns->ns.length<=n->s₁.gens=#[]->
   codeAny (model l.prog w) callerA (.call (.ref fa) ⟨[.ref a],[]⟩) (λr s'=>r=.ok (.ret (.bool true))/\OldK s₁.heap s'.heap/\s'.os=s₁.os/\AllBare s'.gens) s₁) :
  WalkO q loose XP YP l.row.toRowW d [] (λf vs=>sX f vs):=by
 intro w s₀ s₁ mg mb G Y fa o pm cd doc dV kV ho hd hcd hD hmg hg args vals as hpre hlay hrd hwl hlo
 obtain rfl:dV=.none:=Dflts.none hD hdf
 obtain rfl:kV=.none:=Dflts.noKw hD
 obtain⟨a,vs,ns,rfl,rfl,hobj,hints,hlen⟩:=DK hn hpre hwl
 refine enter_call (codeAny_mono (call w s₀ s₁ mg mb fa o pm cd doc a vs ns G Y ho (fd_plain hd) hcd hmg hobj hints hlen hg) λr s' hq=>?_)
 obtain⟨rfl,h2,h3,h4⟩:=hq
 exact⟨.inl ⟨.bool true,.bool true,[],rfl,λ_=>rfl,.bool true,DA l _,λ_=>⟨List.Pairwise.nil,λ_ hm=>(nomatch hm)⟩⟩,h2,h3,h4⟩
section
variable{prog:Program}{w:World}{A:Around}{E:Value->Shared->Prop}{s:Shared}{K:Frag}
end
end Att
namespace L2
open PySem PySem.Spec PyProof.Rows
theorem wo:∀{vs:List Value} {ns:List Int},IntsAre vs ns->cu (ns.map V.int) vs
 |_,_,.nil=>.nil
 |_,_,.cons n t h=>.cons ⟨t,rfl⟩ (wo h)
def GV(H:Hp):Prop:=∀b,H b=none\/∃o xs,H b=some (.frz o (.lst xs))
theorem EZ{P:Program}{w:World}{K:Fg}{mg mb:Str->Option Value}{CX:Ed}{k:Nat}{fa a:Addr}{fd:FuncData}{x:Str}{sp:Sp}{s₁:Shared}{vs:List Value}{ns:List Int}
  (KX:K.In s₁.heap) (hns:s₁.heap.Ns mainGlobals mg) (hb:s₁.heap.Ns builtinsNs mb) (hbb:∀x:Str,x≠"__name__"->mb x=bootBuiltins x) (hlim:s₁.heap.NoLimit) (hg:s₁.gens=#[])
  (ha:s₁.heap.get? a=some {cls:=.type "list",data:=.seq vs.toArray}) (hi:IntsAre vs ns) (hl:ns.length<=sizeLine) (hr:dh k callerA)
  (F:∀base:Heap,K.In base->base.Ns mainGlobals mg->eG P w K mg base CX k fa fd [x] sp) (hbind:∀(s:Shared) (u:Value),BindsTo s fd ⟨[u],[]⟩ [(x,u)])
  (hsp:∀H:Hp,GV H->cq K H a (ns.map V.int)->sp [.ref a] H (λv _=>v=.bl true) λ_ _ _=>False)
  (hCX:∀H e s',CX [] H s₁ (λ_ _ _=>False) e s'->False) :
  codeAny (model P w) callerA (.call (.ref fa) ⟨[.ref a],[]⟩) (λr s'=>r=.ok (.ret (.bool true))/\OldK s₁.heap s'.heap/\s'.os=s₁.os/\AllBare s'.gens) s₁:=by
 have rv:=wo hi
 have lenV:=hi.length
 have core:∀H:Hp,GV H->cq K H a (ns.map V.int)->pj P w H s₁.heap->(∀b,H b≠none->b=a)->(H a≠none->K.lookup a=none)->
   codeAny (model P w) callerA (.call (.ref fa) ⟨[.ref a],[]⟩) (λr s'=>r=.ok (.ret (.bool true))/\OldK s₁.heap s'.heap/\s'.os=s₁.os/\AllBare s'.gens) s₁:=by
  intro H hO hS hok hA hK
  have base_of:∀{b:Addr} {o:Obj},s₁.heap.get? b=some o->H b=none->(wX s₁.heap H).get? b=some o:=λe n=>EJ e n
  have noA:∀{b:Addr} {o:Obj} {es:Array DictEntry} {ep:Nat},s₁.heap.get? b=some o->o.data=.dict es ep->H b=none:=λ{b o es ep} e d=>by
   cases q:H b with
   |none=>rfl
   |some u=>
    have e':b=a:=hA b (by rw[q];simp)
    subst e'
    rw[ha] at e;cases e
    have d':Data.seq vs.toArray _=Data.dict es ep:=d
    cases d'
  have nsK:∀{b:Addr} {m:Str->Option Value},s₁.heap.Ns b m->(wX s₁.heap H).Ns b m:=λ{b m} ⟨o,es,ep,e,d,r⟩=>⟨o,es,ep,base_of e (noA e d),d,r⟩
  have hKb:K.In (wX s₁.heap H):=λb o e=>base_of (KX b o e) (by
   cases q:H b with
   |none=>rfl
   |some u=>
    have e':b=a:=hA b (by rw[q];simp)
    subst e'
    rw[hK (by rw[q];simp)] at e;cases e)
  have hM:Mod K mg (wX s₁.heap H):=⟨hKb,nsK hns,⟨mb,nsK hb,hbb⟩,let⟨mc,h1,h2⟩:=hlim;⟨mc,nsK h1,h2⟩⟩
  have e0:zT P w K mg (wX s₁.heap H) callerA [] s₁ H:=⟨rfl,hM,λb o e=>Hz e,Nat.le_of_eq (CW _ _),trivial,λb hb=>absurd (show b∈([]:List Addr) from hb) (by simp),hok,.of_eq hg⟩
  refine codeAny_mono ((F _ hKb (nsK hns)).run callerA [] s₁ H ⟨[.ref a],[]⟩ [.ref a] [.ref a] _ _ hr e0 (hbind s₁ (.ref a)) (.cons rfl .nil) (hsp H hO hS)) λr s' h=>?_
  cases r with
  |error e=>exact(hCX H e s' h).elim
  |ok fl=>
   cases fl with
   |next=>exact False.elim h
   |brk=>exact False.elim h
   |cont=>exact False.elim h
   |ret u=>
    obtain⟨v,H',os,bare,un,hok',r',q⟩:=h
    have q':v=.bl true:=q
    subst q'
    obtain rfl:u=Value.bool true:=r'
    refine⟨rfl,OldK.of_keep λb o e=>?_,os,bare⟩
    cases q:H b with
    |none=>exact un.keep b o e q (by intro z;exact absurd (show b∈([]:List Addr) from z) (by simp)) (by simp)
    |some u=>
     rcases hO b with z|⟨ob,xs,z⟩
     ·rw[q] at z;cases z
     ·have z2:=un.frzs b ob _ z
      obtain⟨e1,_⟩:=hok b _ z
      obtain⟨e2,_⟩:=hok' b _ z2
      rw[e] at e1;cases e1
      exact e2
 cases hk:K.lookup a with
 |some o=>
  have e:=KX a o hk
  rw[ha] at e
  cases e
  refine core (λ_=>none) (λ_=>.inl rfl) (.inr ⟨_,vs.toArray,_,hk,rfl,rfl,rfl,by rw[au,lenV];exact hl,by simpa using rv⟩) (λb u z=>by have z':(none:Option HO)=some u:=z;cases z') (λb z=>absurd rfl z) λz=>absurd rfl z
 |none=>
  refine core (λb=>if b=a then some (.frz {cls:=.type "list",data:=.seq vs.toArray} (.lst (ns.map V.int))) else none) (λb=>?_) (.inl (.inr ⟨{cls:=.type "list",data:=.seq vs.toArray},if_pos rfl⟩)) (λb u z=>?_) (λb z=>?_) λ_=>hk
  ·by_cases hb:b=a
   ·exact .inr ⟨_,_,if_pos hb⟩
   ·exact .inl (if_neg hb)
  ·by_cases hb:b=a
   ·have z':=(if_pos hb).symm.trans z
    cases z'
    subst hb
    exact⟨ha,by rw[ae];exact hl,vs,_,rv,ha⟩
   ·have z':=(if_neg hb).symm.trans z
    cases z'
  ·by_cases hb:b=a
   ·exact hb
   ·exact absurd (if_neg hb) z
theorem walk_of{l:PySem.W.OpenLaw}{n k:Nat}{q:Program}{loose:List Str}{XP:(Str->Option Value)->Heap->Prop}{YP:World->Heap->Prop}{d:DefRec}{K:Params->Fg}{CX:World->Ed}{sp:World->Sp}{x:Str}
  (hn:l.most=some n) (hn2:n<=sizeLine) (hdf:d.params.defaults=[]) (hr:dh k callerA)
  (hY:∀(w:World) (h:Heap),YP w h->(K w.params).In h)
  (F:∀(w:World) (mg:Str->Option Value) (fa:Addr) (h:Heap),(K w.params).In h->h.Ns mainGlobals mg->mg d.name=some (.ref fa)->
   ∃fd:FuncData,(∀(s:Shared) (u:Value),BindsTo s fd ⟨[u],[]⟩ [(x,u)])/\
    ∀base:Heap,(K w.params).In base->base.Ns mainGlobals mg->eG l.prog w (K w.params) mg base (CX w) k fa fd [x] (sp w))
  (hsp:∀(w:World) (H:Hp) (a:Addr) (ns:List Int),ns.length<=n->GV H->cq (K w.params) H a (ns.map V.int)->sp w [.ref a] H (λv _=>v=.bl true) λ_ _ _=>False)
  (hCX:∀(w:World) (H:Hp) (s:Shared) (e:Value) (s':Shared),CX w [] H s (λ_ _ _=>False) e s'->False) :
  PySem.W.WalkO q loose XP YP l.row.toRowW d [] (λf vs=>sX f vs):=by
 refine Att.attach_call hn hdf λw s₀ s₁ mg mb fa o pm cd doc a vs ns G Y ho hd hcd hmg hobj hints hlen hg=>?_
 have KX:=hY w _ Y
 obtain⟨fd,hb,hF⟩:=F w mg fa _ KX G.T.g hmg
 exact EZ KX G.T.g G.T.b G.T.builtins G.T.nolimit hg hobj hints (bx hlen hn2) hr hF hb (λH hO hS=>hsp w H a ns hlen hO hS) λH e s'=>hCX w H s₁ e s'
end L2
/- THE LAST THEOREM (shape;LID,My.* are yours):
  My.Adr: a structure of the addresses that your layer names (classes,functions);My.Txt K t: a structure (Prop) of the equations over K;
  My.txt_mk:{K} {implicit addresses ..} (e1:nsIn K mainGlobals "law"=some (some (.ref f))) (e2:K.lookup f=some ⟨oc,od,.func (fnOf "law" "law" params body scope dV kV doc pm an cdv ct),sl⟩) (e3:codeIn K cdv "law"=true) ..:∃t,My.Txt K t
set_option maxRecDepth 100000 in
set_option maxHeartbeats 0 in
theorem PySem.Challenge.cw_LID_holds : PySem.Challenge.rw_LID.Holds := by
 w_on;o_law;k_head;(case hw=>w_witness2)
 k_fill
 refine L2.walk_of (l:=PySem.Challenge.rw_LID) (n:=63) (k:=40) (x:="script") (CX:=λw=>..) (sp:=λ_=>My.sp_law) rfl (by decide) rfl ⟨rfl,by decide,by decide⟩ (λw h Y=>PySem.W.kIn_of Y) ?F ?S ?C
 case F=>
  intro w mg fa h KX G hmg
  have T:∃t,My.Txt (L2.KOf KX) t:=by
   dsimp only[L2.KOf] -- K must stand as «<heap const> w.params» for k_is
   refine' My.txt_mk ?e1 ?e2 ?e3 ..
   (case e1=>PySem.W.k_is) -- in the order: a name -> its address -> its object -> its parts
   (case e2=>PySem.W.k_is)
   ..
  obtain⟨t,T⟩:=T
  have e0:=hmg.symm.trans (aY KX G T.law)
  cases e0 -- fa is the law's own address
  exact⟨_,λs u=>.of_eq rfl,λbase kb nb=>My.law_fn T kb nb⟩ -- if «.of_eq rfl» comes too early: refine' ⟨_,?b,λbase kb nb=>My.law_fn T kb nb⟩;exact λs u=>.of_eq rfl
 case S=>exact λw H a ns hl hO hS=>..
 case C=>exact ..
(the tactic k_is has no namespace: write k_is) -/
namespace L2
open PySem PySem.Spec PyProof.Rows
def bT(s:Stmt):Arguments:=match s with
 |.FunctionDef _ a _ _ _ _ _ _ _ _=>a
 |_=>{posonlyargs:=[],args:=[],vararg:=none,kwonlyargs:=[],kw_defaults:=[],kwarg:=none,defaults:=[]}
def aW(s:Stmt):List Stmt:=match s with
 |.FunctionDef _ _ b _ _ _ _ _ _ _=>b
 |_=>[]
def ao(s:Stmt):Scope:=match s with
 |.FunctionDef _ _ _ _ _ _ sc _ _ _=>sc
 |_=>{kind:=.function,names:=[],isGenerator:=false,isCoroutine:=false}
abbrev fY:Ed:=λ_ _ _ _ _ _=>False
abbrev E0:XK:=λ_ _ _=>False
theorem Fm{X:Cx}:tF fY X E0:=λ_ _ _ _ _ _ _ h=>h.elim
structure lX(K:Fg)(x qual:Str)(st:Stmt)(f:Addr)(fd:FuncData):Prop where
 ex:∃(oc:Value) (od:Option Addr) (kV doc pm:Value) (an:Option Addr) (cdv ct:Value) (osl:Array (Option Value)),
  fd=aR x qual (bT st) (aW st) (ao st) .none kV doc pm an cdv ct/\K.lookup f=some ⟨oc,od,.func fd,osl⟩/\aO K cdv qual=true
 kp:aK K (.ref f)=true
section
variable{P:Program}{w:World}{K:Fg}{mg:Str->Option Value}{base:Heap}
theorem lX.ok{x qual:Str}{st:Stmt}{f:Addr}{fd:FuncData}{N ps:List Str}{k:Nat}{sp:Sp}(F:lX K x qual st f fd)(S:bX N ps (ao st))(len:∀vs H Q E,sp vs H Q E->vs.length=ps.length)
  (hbody:∀(cdv:Value) (A:Around) (outer:List Env) (s:Shared) (H:Hp) (vs:List V) (Q:VK) (E:XK),dh k (A.deeper (envOfC qual (ao st) s.heap.objs.size f cdv))->sp vs H Q E->
   ∃t,jQ (fQ fY P w K mg base N qual (ao st) f cdv A outer s H E).nox (aW st) t/\t {nx:=λ_ H'=>Q .non H',rt:=Q} (di N vs) H):eG P w K mg base fY (k+1) f fd ps sp:=by
 obtain⟨oc,od,kV,doc,pm,an,cdv,ct,osl,rfl,lk,hcd⟩:=F.ex
 refine Ji lk hcd S len λA outer s H vs Q E hr hsp=>?_
 obtain⟨t,h,q⟩:=hbody cdv A outer s H vs Q E hr hsp
 exact⟨t,h.nox,q⟩
theorem lX.binds{x qual:Str}{st:Stmt}{f:Addr}{fd:FuncData}{ps:List Str}(F:lX K x qual st f fd)
  (h:∀(kV doc pm:Value) (an:Option Addr) (cdv ct:Value) (us:List Value),us.length=ps.length->bindArgs (aR x qual (bT st) (aW st) (ao st) .none kV doc pm an cdv ct) ⟨us,[]⟩=pure (ps.zip us)):nc K fd ps []:=by
 obtain⟨oc,od,kV,doc,pm,an,cdv,ct,osl,rfl,lk,hcd⟩:=F.ex
 exact .all (h kV doc pm an cdv ct)
theorem cW{x qual:Str}{st:Stmt}{f:Addr}{oc:Value}{od an:Option Addr}{osl:Array (Option Value)}{kV doc pm cdv ct:Value}(l:K.lookup f=some ⟨oc,od,.func (aR x qual (bT st) (aW st) (ao st) .none kV doc pm an cdv ct),osl⟩)
  (c:aO K cdv qual=true) (k:aK K (.ref f)=true):lX K x qual st f (aR x qual (bT st) (aW st) (ao st) .none kV doc pm an cdv ct):=⟨⟨oc,od,kV,doc,pm,an,cdv,ct,osl,rfl,l,c⟩,k⟩
end
theorem dU{A:Around}{k:Nat}(hr:dh k A):A.units+1<cLine:=kq (Nat.add_le_add_left (by decide:1<=64) _) hr.units
section
variable{X:Cx}
theorem pv(i:Nat){x:Str}{pos:Pos}(hN:X.N[i]?=some x:=by rfl)(hv:Mf X.env.scope x:=by first|exact Or.inl rfl|exact Or.inr (Or.inl rfl)|exact Or.inr (Or.inr rfl))(hd:(x==("__debug__":Str))=false:=by decide)
  (hcd:(x==("__classdict__":Str))=false:=by decide):PE X (.Name x pos) (ar i):=Kq hN hv hd hcd
end
theorem j5{A B:Prop}(h:B):if false=true then A else B:=by
 rw[if_neg Bool.false_ne_true]
 exact h
theorem uY{A B:Prop}(h:A):if true=true then A else B:=by
 rw[if_pos rfl]
 exact h
def aT(H H':Hp):Prop:=∀b o,H b=some o->H' b=some o
theorem aT.refl(H:Hp):aT H H:=λ_ _ h=>h
theorem aT.trans{H H1 H2:Hp}(a:aT H H1)(b:aT H1 H2):aT H H2:=λc o h=>b c o (a c o h)
theorem aT.free{H H':Hp}(e:aT H H'){l:Addr}(h:H' l=Option.none):H l=Option.none:=by
 cases q:H l with
 |none=>rfl
 |some o=>
  rw[e l o q] at h
  cases h
section
variable{prog:Program}{w:World}{A:Around}{R:Result->Shared->Prop}{s:Shared}
theorem wU{elt target iter:Expr}{ifs:List Expr}{scope:Scope}{pos:Pos}{it acc:Value}{env:Env}(I:Nat->Shared->Prop)
  (turn:∀n s,I n s->wpAny (model prog w) A (pyNext it) (λr s₁=>match r with
   |none=>R (.ok .next) s₁
   |some v=>wpAny (model prog w) A (letOwnedTupleGo target it v) (λ_ s₁=>wpAny (model prog w) A (assign target env v) (λ_ s₂=>
     wpAny (model prog w) A (forIn ifs true λc r=>if r=true then do let ok <-isTrue c env (eval c env);pure (ForInStep.yield ok) else pure (ForInStep.yield r)) (λok s₃=>
      if ok=true then wpAny (model prog w) A (eval elt env) (λx s₄=>
       wpAny (model prog w) A (call (.builtin "list.append") [acc,x]) (λ_ s₅=>∃m,m<n/\I m s₅) (λ_ _=>False) s₄) (λ_ _=>False) s₃
      else ∃m,m<n/\I m s₃) (λ_ _=>False) s₂) (λ_ _=>False) s₁) (λ_ _=>False) s₁) (λ_ _=>False) s)
  (n:Nat) (h:I n s) :
  codeAny (model prog w) A (.compLoop (.ListComp elt [⟨target,iter,ifs,0⟩] scope pos) 0 it acc env) R s:=by
 refine codeAny_loop rfl I (λn s hI=>?_) n h
 show wpAny _ A ((compTurn (.ListComp elt [⟨target,iter,ifs,0⟩] scope pos) 0 it acc env).onRaise (λx=>do noteFrame x env;theTreesLotGoes x)) _ _ s
 refine wpAny_noted ?_
 rw[compTurn_list]
 refine wpAny_bind (wpAny_standAt (wpAny_bind (wpAny_mono (turn n s hI) (λr s₁ h₁=>?_) λ_ _ h'=>h'.elim)))
 cases r with
 |none=>exact wpAny_pure h₁
 |some v=>
  refine wpAny_bind (wpAny_mono h₁ (λ_ s₁' h₁'=>?_) λ_ _ h'=>h'.elim)
  refine wpAny_bind (wpAny_mono h₁' (λ_ s₂ h₂=>wpAny_bind (wpAny_mono h₂ (λok s₃ h₃=>?_) λ_ _ h'=>h'.elim)) λ_ _ h'=>h'.elim)
  cases ok with
  |false=>exact wpAny_pure ⟨rfl,h₃⟩
  |true=>
   exact wpAny_bind (wpAny_bind (wpAny_mono h₃ (λx s₄ h₄=>wpAny_bind (wpAny_mono h₄ (λ_ s₅ h₅=>wpAny_pure (wpAny_pure ⟨rfl,h₅⟩)) λ_ _ h'=>h'.elim)) λ_ _ h'=>h'.elim))
end
theorem oU{env:Env}{f:Str×NameKind->List (Str×Addr)->Sem (ForInStep (List (Str×Addr)))}
  (hf:∀n k cs,f (n,k) cs=if(k==NameKind.free)=true then(do let c <-cellOf env n;pure (.yield ((n,c)::cs))) else pure (.yield cs)) :
  ∀(names:List (Str×NameKind)) (cs:List (Str×Addr)),(∀x∈names,x.2=NameKind.free->∃c,env.cells.lookup x.1=some c)->(∀n c,cs.lookup n=some c->env.cells.lookup n=some c)->
   ∃cl,(forIn names cs f:Sem (List (Str×Addr)))=pure cl/\(∀n c,cl.lookup n=some c->env.cells.lookup n=some c)/\(∀n,(cs.lookup n).isSome=true->(cl.lookup n).isSome=true)/\∀x∈names,x.2=NameKind.free->(cl.lookup x.1).isSome=true
 |[],cs,_,h2=>⟨cs,rfl,h2,λ_ h=>h,λ_ h=>nomatch h⟩
 |(n,k)::r,cs,h1,h2=>by
  have h1r:∀x∈r,x.2=NameKind.free->∃c,env.cells.lookup x.1=some c:=λx hx=>h1 x (bu _ hx)
  rw[List.forIn_cons,hf]
  by_cases hk:k=NameKind.free
  ·subst hk
   obtain⟨c,hc⟩:=h1 (n,NameKind.free) aP rfl
   have h2':∀m d,((n,c)::cs).lookup m=some d->env.cells.lookup m=some d:=λm d hd=>by
    rw[eW] at hd
    cases e:(m==n) with
    |true=>
     rw[e] at hd
     have:m=n:=by simpa using e
     rw[this];cases hd;exact hc
    |false=>rw[e] at hd;exact h2 m d hd
   obtain⟨cl,e1,e2,e3,e4⟩:=oU hf r ((n,c)::cs) h1r h2'
   refine⟨cl,?_,e2,λm hm=>e3 m ?_,λx hx hk=>?_⟩
   ·rw[<-e1]
    have ec:cellOf env n=pure c:=by unfold cellOf;rw[hc]
    rw[ec]
    rfl
   ·rw[eW]
    cases e:(m==n) with
    |true=>rfl
    |false=>exact hm
   ·rcases aN.mp hx with rfl|hx
    ·exact e3 n (by rw[eW,beq_self_eq_true];rfl)
    ·exact e4 x hx hk
  ·have hb:(k==NameKind.free)=false:=by simpa using hk
   obtain⟨cl,e1,e2,e3,e4⟩:=oU hf r cs h1r h2
   refine⟨cl,?_,e2,e3,λx hx hk'=>?_⟩
   ·rw[<-e1,hb]
    rfl
   ·rcases aN.mp hx with rfl|hx
    ·exact absurd hk' hk
    ·exact e4 x hx hk'
theorem tL{scope:Scope}{env:Env}(h1:∀x∈scope.names,x.2=NameKind.free->∃c,env.cells.lookup x.1=some c) :
  ∃cl,closureFor scope env=pure cl/\(∀n c,cl.lookup n=some c->env.cells.lookup n=some c)/\∀x∈scope.names,x.2=NameKind.free->(cl.lookup x.1).isSome=true:=by
 obtain⟨cl,e1,e2,_,e4⟩:=oU (env:=env) (f:=λ(x:Str×NameKind) cs=>if(x.2==NameKind.free)=true then(do let c <-cellOf env x.1;pure (.yield ((x.1,c)::cs))) else pure (.yield cs)) (λ_ _ _=>rfl) scope.names [] h1 (λ_ _ h=>nomatch h)
 refine⟨cl,Eq.trans (show closureFor scope env=((forIn scope.names ([]:List (Str×Addr)) λ(x:Str×NameKind) cs=>if(x.2==NameKind.free)=true then(do let c <-cellOf env x.1;pure (.yield ((x.1,c)::cs))) else pure (.yield cs)) >>= λcs=>pure cs) from rfl) ?_,e2,e4⟩
 rw[e1]
 all_goals rfl
theorem iX{env:Env}{x:Str}:∀(names:List (Str×NameKind)),
  (names.map λ(n,k)=>if(k==NameKind.free&&env.scope.kind==.function&&env.kindOf n==some .cell) then(n,NameKind.cell) else(n,k)).lookup x =
   (names.lookup x).map λk=>if(k==NameKind.free&&env.scope.kind==.function&&env.kindOf x==some .cell) then NameKind.cell else k
 |[]=>rfl
 |(n,k)::r=>by
  have ih:=iX (env:=env) (x:=x) r
  show gN x ((if(k==NameKind.free&&env.scope.kind==.function&&env.kindOf n==some .cell)=true then(n,NameKind.cell) else(n,k))::_)=_
  cases hx:x==n with
  |true=>
   have e:x=n:=by simpa using hx
   subst e
   by_cases hc:(k==NameKind.free&&env.scope.kind==.function&&env.kindOf x==some .cell)=true
   ·rw[if_pos hc];simp only[eW,hx,cZ,if_pos hc]
   ·rw[if_neg hc];simp only[eW,hx,cZ,if_neg hc]
  |false=>
   by_cases hc:(k==NameKind.free&&env.scope.kind==.function&&env.kindOf n==some .cell)=true
   ·rw[if_pos hc];simp only[eW,hx];exact ih
   ·rw[if_neg hc];simp only[eW,hx];exact ih
theorem FU{scope:Scope}{env:Env}{x:Str}(hcell:∀y∈scope.names,y.2≠NameKind.cell)(h:(relabel scope env).names.lookup x=some .cell\/(relabel scope env).names.lookup x=some .free):scope.names.lookup x=some .free:=by
 have e:(relabel scope env).names.lookup x=_:=iX (env:=env) (x:=x) scope.names
 rw[e] at h
 cases q:scope.names.lookup x with
 |none=>rw[q] at h;rcases h with h|h<;>cases h
 |some k=>
  rw[q] at h
  by_cases hk:k=NameKind.free
  ·rw[hk]
  ·have hb:(k==NameKind.free)=false:=by simpa using hk
   simp only[cZ,hb,Bool.false_and,Bool.false_eq_true,if_false] at h
   rcases h with h|h
   ·cases h;exact absurd rfl (hcell _ (cN q))
   ·exact h
theorem II{scope:Scope}{env:Env}{x:Str}(h:(relabel scope env).names.lookup x≠none):scope.names.lookup x≠none:=by
 have e:(relabel scope env).names.lookup x=_:=iX (env:=env) (x:=x) scope.names
 intro q
 rw[e,q] at h
 exact h rfl
structure sY(sc:Scope)(N:List Str)(scope:Scope)(NY:List Str)(js:List Nat):Prop where
 kind:scope.kind=.function
 cell:∀y∈scope.names,y.2≠NameKind.cell
 names:∀x∈scope.names,x.2=NameKind.local->scope.names.lookup x.1=some .local
 free:∀x∈scope.names,x.2=NameKind.free->sc.names.lookup x.1=some .cell\/sc.names.lookup x.1=some .free
 pre:NY.take N.length=N
 cap:∀p∈N.zipIdx,js.contains p.2=true\/scope.names.lookup p.1=none\/scope.names.lookup p.1=some .free
def xP(js:List Nat)(k:Nat)(σ:St):St:=js.foldl (λs j=>s.set j none) σ++aH k none
theorem nU:∀(js:List Nat) (σ:St),(js.foldl (λs j=>s.set j none) σ).length=σ.length
 |[],_=>rfl
 |j::r,σ=>by rw[gB,nU r,cY]
theorem vF:∀(js:List Nat) (σ:St) (i:Nat) (v:V),(js.foldl (λs j=>s.set j none) σ)[i]?=some (some v)->σ[i]?=some (some v)/\js.contains i=false
 |[],σ,i,v,h=>⟨h,rfl⟩
 |j::r,σ,i,v,h=>by
  rw[gB] at h
  obtain⟨h1,h2⟩:=vF r _ i v h
  by_cases e:j=i
  ·subst e
   by_cases hj:j<σ.length
   ·rw[bj hj] at h1;cases h1
   ·rw[fh (by rw[cY];lia)] at h1;cases h1
  ·rw[bJ e] at h1
   refine⟨h1,?_⟩
   rw[List.contains_cons,h2]
   have:(i==j)=false:=by simpa using λz=>e z.symm
   rw[this];rfl
theorem G9{js:List Nat}{k:Nat}{σ:St}{i:Nat}{v:V}(h:(xP js k σ)[i]?=some (some v)):σ[i]?=some (some v)/\js.contains i=false:=by
 unfold xP at h
 by_cases hi:i<σ.length
 ·rw[bM (by rw[nU];exact hi)] at h
  exact vF js σ i v h
 ·rw[bh (by rw[nU];lia),List.getElem?_replicate] at h
  split at h<;>cases h
theorem Ha{js:List Nat}{k:Nat}{σ:St}:(xP js k σ).length=σ.length+k:=by
 unfold xP
 rw[ay,nU,bE]
def eL(X:Cx)(NY:List Str)(scope:Scope)(cl:List (Str×Addr))(C:Addr)(s₀:Shared)(H₀:Hp)(fp:List Addr):Cx:=
 {X with N:=NY,s₀:=s₀,H₀:=H₀,env:=compEnvC scope cl C X.env,outer:=X.stack,ex:=fp,fn:=λ_=>false,pn:=[],xe:=λ_ _=>False}
def CB(X:Cx)(ifs:List Expr)(t:TT):Prop:=
 ∀(pins:List (Addr×Obj)) (s:Shared) (σ:St) (H:Hp) (Q:Bool->Hp->Prop),bU X pins σ H s->t σ H Q->
  wpAny (model X.prog X.w) X.A (forIn ifs true λc r=>if r=true then do let ok <-isTrue c X.env (eval c X.env);pure (ForInStep.yield ok) else pure (ForInStep.yield r)) (TP X pins σ Q) X.xe s
def qZ:TT:=λ_ H Q=>Q true H
theorem Ie{X:Cx}:CB X [] qZ:=λ_ _ _ H _ I h=>wpAny_tests_nil ⟨H,I,h⟩
theorem Ig{X:Cx}{c:Expr}{t:TT}(h:PT X c t):CB X [c] t:=λpins s σ H Q I q=>wpAny_tests_one (h pins s σ H Q I q)
def p0(D:Addr)(tc:TT)(te:TE):TS:=λE σ H=>tc σ H λb H1=>if b=true then te σ H1 λy H2=>∃ys,H2 D=some (.lst ys)/\ys.length<sizeLine/\E.nx σ (upd H2 D (.lst (ys++[y]))) else E.nx σ H1
def iM(js:List Nat)(k:Nat)(wi:TI)(g:TG)(tc:TT)(te:TE):TE:=λσ H Q=>wi σ H λJ H1=>∀D,H1 D=none->
 ∃W:Nat->Nat->St->Hp->Prop,(∃m,W 0 m (xP js k σ) (upd H1 D (.lst [])))/\∀i m σ H,W i m σ H->
  (J.stop i H/\Q (.ref D) H)\/(J.go i H/\∃N:St->Hp->Prop,(∀σ' H',N σ' H'->∃m',m'<m/\W (i+1) m' σ' H')/\∀x H',J.yld i H x H'->g x σ H' λσ2 H2=>p0 D tc te {nx:=N,rt:=λ_ _=>False,ct:=N,bk:=λ_ H'=>Q (.ref D) H'} σ2 H2)
section
variable{X:Cx}{pins:List (Addr×Obj)}{σ:St}{H2:Hp}{s₂:Shared}{N NY:List Str}{sc scope:Scope}{cl:List (Str×Addr)}{C:Addr}{fp:List Addr}{js:List Nat}{k:Nat}
theorem G4(I2:bU X pins σ H2 s₂)(hf:∀b∈fp,oJ X pins H2 b)(hfl:∀b∈fp,∃o,s₂.heap.get? b=some o)(hkind:scope.kind=.function)(hcell:∀y∈scope.names,y.2≠NameKind.cell)
  (hcl1:∀n c,cl.lookup n=some c->X.env.cells.lookup n=some c) (hcl2:∀x∈scope.names,x.2=NameKind.free->(cl.lookup x.1).isSome=true) (hC:s₂.heap.objs.size<=C) :
  (eL X NY scope cl C s₂ H2 fp).Ok where
 mod:=I2.ok.mod
 kind:=hkind
 glob:=I2.ok.glob
 blt:=I2.ok.blt
 above:=hC
 inj:=λx y c h1 h2=>I2.ok.inj x y c (hcl1 x c h1) (hcl1 y c h2)
 has:=λx hx=>by
  have e:scope.names.lookup x=some .free:=FU (env:=X.env) hcell hx
  exact ik.mp (hcl2 (x,.free) (cN e) rfl)
 cab:=λ_ _ h _=>nomatch h
 hd:=I2.ok.hd
 frames:=I2.ok.frames
 stk:=.inl rfl
 exf:=λb hb=>by
  obtain⟨o,ho⟩:=hfl b hb
  exact⟨aV (bw (aJ ho) hC),λx c h=>(hf b hb).2.2.2.2.1 x c (hcl1 x c h)⟩
 bs:=I2.bs
 bsz:=bx I2.ok.bsz I2.sz
 noex:=λb o e hb=>by
  rcases(hf b hb).2.2.2.1 with z|z
  ·exact I2.ok.noex b o e z
  ·exact absurd (bw (aJ e) (bx I2.ok.bsz z)) (eN _)
 exfs:=λb hb z=>by
  rcases aN.mp (I2.stkSub b z) with e|e
  ·exact(hf b hb).2.1 e
  ·exact(hf b hb).2.2.1 e
 funs:=I2.stack
 frf:=I2.stkFree
variable{elt iter target:Expr}{ifs:List Expr}{pos:Pos}{it:Addr}{tn:Nat->Heap->Prop}{J:It}{g:TG}{tc:TT}{te:TE}{Q:VK}{RR:Value->Addr->Result->Shared->Prop}{E:Value->Shared->Prop}
theorem tM(ok:sY sc N scope NY js)(hsc:X.env.scope=sc)(hN:X.N=N)(hk:NY.length=N.length+k)(hc:X.calm=true)(I2:bU X pins σ H2 s₂)(T:uV X.prog X.w X.K target J fp it tn)(st2:tn 0 s₂.heap)(f2:∀b∈fp,oJ X pins H2 b)
  (hcl1:∀n c,cl.lookup n=some c->X.env.cells.lookup n=some c) (hcl2:∀x∈scope.names,x.2=NameKind.free->(cl.lookup x.1).isSome=true)
  (hg:∀cl C s₀ H₀ fp,PG (eL X NY scope cl C s₀ H₀ fp) target g) (hi:∀cl C s₀ H₀ fp,CB (eL X NY scope cl C s₀ H₀ fp) ifs tc) (he:∀cl C s₀ H₀ fp,PE (eL X NY scope cl C s₀ H₀ fp) elt te)
  (loop:∀D,H2 D=none->
   ∃W:Nat->Nat->St->Hp->Prop,(∃m,W 0 m (xP js k σ) (upd H2 D (.lst [])))/\∀i m σ H,W i m σ H->
    (J.stop i H/\Q (.ref D) H)\/(J.go i H/\∃N:St->Hp->Prop,(∀σ' H',N σ' H'->∃m',m'<m/\W (i+1) m' σ' H')/\∀x H',J.yld i H x H'->g x σ H' λσ2 H2=>p0 D tc te {nx:=N,rt:=λ_ _=>False,ct:=N,bk:=λ_ H'=>Q (.ref D) H'} σ2 H2))
  (hRR:∀D C H' s' m,s'.heap.Ns C m->bU X pins σ H' s'->H' C=none->C≠X.env.locals->X.s₀.heap.objs.size<=C->(∀x c,X.env.cells.lookup x=some c->c≠C)->(∀p∈X.pn++pins,p.1≠C)->D≠C->Q (.ref D) H'->RR (.ref D) C (.ok .next) s') :
  wpAny (model X.prog X.w) X.A (newList []) (λacc s₃=>wpAny (model X.prog X.w) X.A (newFunctionEnv scope X.env.globals cl [] X.env.qual none .none (some X.env)) (λcenv s₄=>
   codeAny (model X.prog X.w) X.A (.compStart (.ListComp elt [⟨target,iter,ifs,0⟩] scope pos) 0 (.ref it) acc {cenv with scope:=relabel scope X.env}) (RR acc cenv.locals) s₄) E s₃) E s₂:=by
 refine wpAny_newObj_type (wpAny_newFunctionEnv ok.cell (by intro y hy;simp at hy) (λh₁ hns₁ hsb₁=>?_) ok.kind)
 dsimp only at hns₁ hsb₁ ⊢
 generalize hG:s₂.heap.push {cls:=.type "list",dict:=none,data:=.seq ([]:List Value).toArray}=G at hns₁ hsb₁ ⊢
 have hC:G.objs.size=s₂.heap.objs.size+1:=by rw[<-hG,iP]
 have hDC:s₂.heap.objs.size≠G.objs.size:=by rw[hC];exact aV (lJ _)
 have hCle:s₂.heap.objs.size<=G.objs.size:=by rw[hC];exact iJ _
 have below:∀b,b<s₂.heap.objs.size->b≠G.objs.size:=λb hb=>by rw[hC];exact aV (kG hb)
 have old:∀b o,s₂.heap.get? b=some o->h₁.get? b=some o:=λb o e=>hsb₁.extBut b o (below b (aJ e)) (aA _ (hG ▸ aA _ e))
 have hacc:h₁.get? s₂.heap.objs.size=some {cls:=.type "list",dict:=none,data:=.seq ([]:List Value).toArray}:=hsb₁.extBut _ _ hDC (aA _ (hG ▸ aQ _ rfl))
 have hfl:∀b∈fp,∃o,s₂.heap.get? b=some o:=λb hb=>let⟨o,ho,_⟩:=T.obj 0 _ st2 b hb;⟨o,ho⟩
 have fD:H2 s₂.heap.objs.size=none:=I2.hok.fresh (aB _)
 have fC:H2 G.objs.size=none:=I2.hok.fresh hCle
 have I4:bU (eL X NY scope cl G.objs.size s₂ H2 fp) [] (xP js k σ) (upd H2 s₂.heap.objs.size (.lst [])) {s₂ with heap:=h₁,toks:=s₂.toks+([]:List (Str×Value)).length}:=by
  refine⟨G4 I2 f2 hfl ok.kind ok.cell hcl1 hcl2 hCle,rfl,I2.bare,Un.laid old (aB _) fD,⟨_,hns₁,λi y v h1 h2 h3=>?_⟩,λx c h=>?_,?_,λx c h=>?_,λp hp=>absurd (show p∈([]:List (Addr×Obj)) from hp) (by simp),I2.hok.laid old (aB _) ⟨cf _,[],0,.nil,hacc⟩,?_⟩
  ·obtain⟨e1,e2⟩:=G9 h2
   have hi:i<N.length:=by
    have:=(af.mp e1).1
    rw[I2.len,hN] at this;exact this
   have hy:N[i]?=some y:=by
    rw[<-ok.pre,ig hi];exact h1
   have hz:(y,i)∈N.zipIdx:=by
    rw[List.mem_zipIdx_iff_getElem?];exact hy
   have nn:scope.names.lookup y≠none:=II (env:=X.env) (x:=y) (by
    rcases h3 with z|z|z
    ·intro q;rw[show(relabel scope X.env).names.lookup y=_ from z] at q;cases q
    ·intro q;rw[show(relabel scope X.env).names.lookup y=_ from z] at q;cases q
    ·intro q;rw[show(relabel scope X.env).names.lookup y=_ from z] at q;cases q)
   have hfr:scope.names.lookup y=some .free:=by
    rcases ok.cap (y,i) hz with z|z|z
    ·rw[e2] at z;cases z
    ·exact absurd z nn
    ·exact z
   have hX:=ok.free (y,.free) (cN hfr) rfl
   rw[<-hsc] at hX
   obtain⟨m,hn,hl⟩:=I2.loc
   obtain⟨u,ru,lk⟩:=hl i y v (by rw[hN];exact hy) e1 (by
    rcases hX with z|z
    ·exact .inr (.inl z)
    ·exact .inr (.inr z))
   refine⟨u,ru,?_⟩
   rcases lk with⟨lk,_⟩|⟨_,c,hc1,hc2⟩
   ·have lk:X.env.scope.names.lookup y=some .local:=lk
    rcases hX with z|z<;>· rw[z] at lk;cases lk
   ·have hs:=hcl2 (y,.free) (cN hfr) rfl
    obtain⟨c',hc'⟩:=ik.mp hs
    have e3:=hcl1 y c' hc'
    rw[hc1] at e3;cases e3
    refine .inr ⟨?_,c,hc',hc2.keeps old⟩
    show(relabel scope X.env).names.lookup y=some .cell\/(relabel scope X.env).names.lookup y=some .free
    have e:(relabel scope X.env).names.lookup y=_:=iX (env:=X.env) (x:=y) scope.names
    rw[e,hfr,cZ]
    split
    ·exact .inl rfl
    ·exact .inr rfl
  ·obtain⟨v,q⟩:=I2.cell x c (hcl1 x c h)
   exact⟨v,q.keeps old⟩
  ·show upd H2 s₂.heap.objs.size (.lst []) G.objs.size=none
   rw[ax (Ne.symm hDC)];exact fC
  ·have q:=I2.freeC x c (hcl1 x c h)
   obtain⟨v,o,ho,_⟩:=I2.cell x c (hcl1 x c h)
   show upd H2 s₂.heap.objs.size (.lst []) c=none
   rw[ax (aV (aJ ho))];exact q
  ·show(xP js k σ).length=NY.length
   rw[Ha,I2.len,hN,hk]
 have st4:tn 0 h₁:=T.keep _ _ _ st2 λb _ o e=>old b o e
 obtain⟨W,⟨m0,w0⟩,turn⟩:=loop s₂.heap.objs.size fD
 have stat:∀{H':Hp},(∀b∈fp,H' b=none)->∀b∈fp,oJ (eL X NY scope cl G.objs.size s₂ H2 fp) [] H' b:=λhn b hb=>by
  obtain⟨o,ho⟩:=hfl b hb
  refine⟨hn b hb,below b (aJ ho),λz=>?_,.inl hb,λx c h=>(f2 b hb).2.2.2.2.1 x c (hcl1 x c h),λp hp=>absurd (show p∈([]:List (Addr×Obj)) from hp) (by simp)⟩
  rcases aN.mp (I2.stkSub b z) with e|e
  ·exact(f2 b hb).2.1 e
  ·exact(f2 b hb).2.2.1 e
 have go:∀s₄:Shared,s₄={s₂ with heap:=h₁,toks:=s₂.toks+([]:List (Str×Value)).length}->
   codeAny (model X.prog X.w) X.A (.compLoop (.ListComp elt [⟨target,iter,ifs,0⟩] scope pos) 0 (.ref it) (.ref s₂.heap.objs.size) (compEnvC scope cl G.objs.size X.env)) (RR (.ref s₂.heap.objs.size) G.objs.size) s₄:=by
  rintro s₄ rfl
  refine wU (λn s'=>∃i σ' H',bU (eL X NY scope cl G.objs.size s₂ H2 fp) [] σ' H' s'/\tn i s'.heap/\(∀b∈fp,H' b=none)/\W i n σ' H') ?_ m0
   ⟨0,_,_,I4,st4,λb hb=>by
    obtain⟨o,ho⟩:=hfl b hb
    rw[ax (aV (aJ ho))];exact(f2 b hb).1,w0⟩
  rintro n s3 ⟨i,σ3,H3,I3,st3,fr3,w3⟩
  rcases turn i n σ3 H3 w3 with⟨stop,qn⟩|⟨go,Nx,hNx,step⟩
  ·refine gd (T.done (eL X NY scope cl G.objs.size s₂ H2 fp) rfl rfl rfl hc i [] s3 σ3 H3 _ I3 (stat fr3) st3 stop) λr s5 ⟨hr,I5⟩=>?_
   subst hr
   have IX:bU X pins σ H3 s5:=I2.call' (ch:=fp) I5.os I5.base I5.hok I5.bare λb hb=>⟨(f2 b hb).2.2.2.1,(f2 b hb).2.1,(f2 b hb).2.2.2.2.1,(f2 b hb).2.2.2.2.2⟩
   obtain⟨m,hm,_⟩:=I5.loc
   refine hRR _ _ H3 s5 m hm IX I5.free (λz=>?_) (bx I2.sz hCle) (λx c h z=>?_) (λp hp z=>?_) hDC qn
   ·have:=I2.lt;rw[<-z] at this;exact eN _ (bw this hCle)
   ·obtain⟨v,o,ho,_⟩:=I2.cell x c h
    have:=aJ ho;rw[z] at this;exact eN _ (bw this hCle)
   ·have:=aJ (I2.pin p hp).1;rw[z] at this;exact eN _ (bw this hCle)
  ·refine gd (T.item (eL X NY scope cl G.objs.size s₂ H2 fp) rfl rfl rfl hc i [] s3 σ3 H3 _ I3 (stat fr3) st3 go) λr s5 ⟨u,hr,h5⟩=>?_
   subst hr
   refine gd h5 λ_ s6 ⟨x,H6,I6,r6,y6,st6,fr6⟩=>?_
   have I6':=I6.pinned (stat fr6) (T.obj _ _ st6)
   have again:∀{σ7:St} {H7:Hp} {s7:Shared},bU (eL X NY scope cl G.objs.size s₂ H2 fp) ([]++ug fp s6.heap) σ7 H7 s7->Nx σ7 H7->∃m,m<n/\∃i σ' H',bU (eL X NY scope cl G.objs.size s₂ H2 fp) [] σ' H' s7/\tn i s7.heap/\(∀b∈fp,H' b=none)/\W i m σ' H':=λ{σ7 H7 s7} I7 n7=>by
    obtain⟨m',hm,w7⟩:=hNx σ7 H7 n7
    refine⟨m',hm,i+1,σ7,H7,I7.unpinned,T.keep _ _ _ st6 λb hb o e=>(I7.pin (b,o) (aS _ (aS _ (mq hb e)))).1,λb hb=>?_,w7⟩
    obtain⟨o,e,d⟩:=T.obj _ _ st6 b hb
    exact(I7.pin (b,o) (aS _ (aS _ (mq hb e)))).2.1
   refine gd (hg cl G.objs.size s₂ H2 fp _ s6 σ3 H6 x u _ I6' r6 (step x H6 y6)) λ_ s7 ⟨σ7,H7,I7,q7⟩=>?_
   refine gd (hi cl G.objs.size s₂ H2 fp _ s7 σ7 H7 _ I7 q7) λok s8 ⟨H8,I8,q8⟩=>?_
   cases ok with
   |false=>
    rw[if_neg Bool.false_ne_true] at q8 ⊢
    exact again I8 q8
   |true=>
    rw[if_pos rfl] at q8 ⊢
    refine gd (he cl G.objs.size s₂ H2 fp _ s8 σ7 H8 _ I8 q8) λy s9 ⟨z,H9,I9,r9,ys,hD,hz,n9⟩=>?_
    refine gd (gF (X:=eL X NY scope cl G.objs.size s₂ H2 fp) _ s9 σ7 H9 (.ref s₂.heap.objs.size) [z] (.ref s₂.heap.objs.size) [y] (λ_ H'=>H'=upd H9 s₂.heap.objs.size (.lst (ys++[z]))) I9 rfl (.cons r9 .nil) ⟨_,ys,z,rfl,rfl,hD,hz,rfl⟩) λ_ s10 ⟨_,H10,I10,_,q10⟩=>?_
    subst q10
    exact again I10 n9
 exact codeAny_compStart_list (go _ rfl) (T.self _ 0 _ _ _ st4 (go _ rfl))
theorem HR{wi:TI}(ok:sY sc N scope NY js)(hsc:X.env.scope=sc)(hN:X.N=N)(hk:NY.length=N.length+k)(hc:X.calm=true)(hit:PI X target iter wi)
  (hg:∀cl C s₀ H₀ fp,PG (eL X NY scope cl C s₀ H₀ fp) target g) (hi:∀cl C s₀ H₀ fp,CB (eL X NY scope cl C s₀ H₀ fp) ifs tc) (he:∀cl C s₀ H₀ fp,PE (eL X NY scope cl C s₀ H₀ fp) elt te)
  (hs:∀x,foldedSetIterable iter X.env x=pure x:=by intro _;rfl):PE X (.ListComp elt [⟨target,iter,ifs,0⟩] scope pos) (iM js k wi g tc te):=by
 intro pins s σ H Q I h
 obtain⟨cl,hclos,hcl1,hcl2⟩:=tL (scope:=scope) (env:=X.env) λx hx hf=>I.ok.has x.1 (by
  have:=ok.free x hx hf
  rw[<-hsc] at this
  exact this)
 rw[eval_ListComp]
 refine wpAny_comprehension_free (use:=none) rfl hs hclos ok.kind ok.names (gd (hit pins s σ H _ I h) λxv s₁ h₁=>gd h₁ λitv s₂ h₂=>?_)
 obtain⟨it,fp,tn,J,H2,rfl,I2,T,st2,f2,loop⟩:=h₂
 refine tM (RR:=λacc C=>compPost (model X.prog X.w) X.A X.xe none (EP X pins σ Q) acc C) (Q:=Q) ok hsc hN hk hc I2 T st2 f2 hcl1 hcl2 hg hi he loop ?_
 intro D C H' s' m hm IX fC c1 c2 c3 c4 _ q
 exact⟨m,hm,λh' hs'=>⟨.ref D,H',IX.turned (t':=s'.toks) (λb o hb e=>(hs'.2 b hb).trans e) fC c1 (.inr c2) c3 c4,rfl,q⟩⟩
theorem Ik{wi:TI}{i:Nat}{y:Str}{py spos:Pos}(ok:sY sc N scope NY js)(hsc:X.env.scope=sc)(hN:X.N=N)(hk:NY.length=N.length+k)(hc:X.calm=true)(hit:PI X target iter wi)
  (hg:∀cl C s₀ H₀ fp,PG (eL X NY scope cl C s₀ H₀ fp) target g) (hi:∀cl C s₀ H₀ fp,CB (eL X NY scope cl C s₀ H₀ fp) ifs tc) (he:∀cl C s₀ H₀ fp,PE (eL X NY scope cl C s₀ H₀ fp) elt te)
  (nd:X.N.Nodup) (hy:X.N[i]?=some y) (hl:Jf X.env.scope y) (hsw:swapsWith (.ListComp elt [⟨target,iter,ifs,0⟩] scope pos) (some (.Name y py)) spos.line X.env=pure true)
  (hs:∀x,foldedSetIterable iter X.env x=pure x:=by intro _;rfl) (hf:X.fn y=true\/X.env.scope.names.lookup y=some .local:=by first|exact .inl rfl|exact .inr rfl|assumption) :
  PS X (.Assign [.Name y py] (.ListComp elt [⟨target,iter,ifs,0⟩] scope pos) spos) (bZ (iM js k wi g tc te) (aX i)):=by
 intro pins s σ H D I h
 obtain⟨cl,hclos,hcl1,hcl2⟩:=tL (scope:=scope) (env:=X.env) λx hx hf=>I.ok.has x.1 (by
  have:=ok.free x hx hf
  rw[<-hsc] at this
  exact this)
 rw[exec_Assign_Name_used _ _ _ _ hsw]
 refine wpAny_bind (wpAny_standAt (wpAny_bind ?_))
 show wpAny _ X.A (do let _ <-comprehension (.ListComp elt [⟨target,iter,ifs,0⟩] scope pos) scope X.env _ (newList []) false (eval iter X.env) (some (assign (.Name y py) X.env))) _ _ s
 refine wpAny_bind (wpAny_mono (wpAny_comprehension_free (use:=some (assign (.Name y py) X.env)) (Q:=λ_ s'=>SP X pins D .next s') rfl hs hclos ok.kind ok.names
  (gd (hit pins s σ H _ I h) λxv s₁ h₁=>gd h₁ λitv s₂ h₂=>?_)) (λ_ s' hq=>wpAny_pure (wpAny_pure hq)) λ_ _ e=>e)
 obtain⟨it,fp,tn,J,H2,rfl,I2,T,st2,f2,loop⟩:=h₂
 refine tM (RR:=λacc C=>compPost (model X.prog X.w) X.A X.xe (some (assign (.Name y py) X.env)) (λ_ s'=>SP X pins D .next s') acc C) (Q:=λx H1=>aX i x σ H1 D.nx) ok hsc hN hk hc I2 T st2 f2 hcl1 hcl2 hg hi he loop ?_
 intro Da C H' s' m hm IX fC c1 c2 c3 c4 _ q
 show wpAny _ X.A (assign (.Name y py) X.env (.ref Da)) _ _ _
 refine wpAny_assign_Name (vZ IX nd hy hl (v:=.ref Da) rfl (λs2 IY ⟨a,sb,ha⟩=>?_) hf)
 have hne:C≠a:=by
  rcases ha with rfl|ha
  ·exact c1
  ·exact λz=>c3 y a ha z.symm
 exact⟨m,hm.sameBut sb hne,λh' hs'=>⟨_,H',IY.turned (t':=s2.toks) (λb o hb e=>(hs'.2 b hb).trans e) fC c1 (.inr c2) c3 c4,q⟩⟩
end
section
variable{X:Cx}{pins:List (Addr×Obj)}{σ:St}{H:Hp}{s:Shared}{h':Heap}
theorem bU.turnedL{t':Nat}{ch:List Addr}(I:bU X pins σ H s)(k:∀b o,b∉ch->s.heap.get? b=some o->h'.get? b=some o)(hf:∀b∈ch,oJ X pins H b) :
  bU X pins σ H {s with heap:=h',toks:=t'}:=by
 have nit:∀b u,H b=some u->b∉ch:=λb u e z=>by rw[(hf b z).1] at e;cases e
 refine I.step (g':=s.gens) (d':=s.drawn) (ch:=ch) (λb hb=>⟨(hf b hb).2.2.2.1,(hf b hb).2.1,(hf b hb).2.2.2.2.1,(hf b hb).2.2.2.2.2⟩) (λb o _ _ hc e _=>k b o hc e) (λb o _ _ hc e _=>⟨o.slots,k b o hc e⟩) (λ_ _ _ _ n=>n)
  (λb o hc e=>⟨o,k b o hc e⟩) (λ_ _ e=>e) (λ_ _ _ e=>e) (λb ps e=>⟨#[],by rw[e];simp⟩) (λm hm=>?_) (λb u e=>?_) I.bare
 ·obtain⟨o,es,ep,ho,r⟩:=hm
  exact⟨o,es,ep,k _ o (λz=>(hf _ z).2.1 rfl) ho,r⟩
 ·refine(I.hok b u e).stay (λc v hc q=>k c v ?_ q) (λ_ q=>q) λ_ _ q=>q
  rcases hc with z|z
  ·rw[z];exact nit b u e
  ·exact nit c _ z
theorem bU.adopt{T:Addr}{o:HO}(I:bU X pins σ H s)(hf:oJ X pins H T)(new:fH X.prog X.w (upd H T o) s.heap T o):bU X pins σ (upd H T o) s:=by
 have nT:∀b u,H b=some u->b≠T:=λb u e z=>by rw[z,hf.1] at e;cases e
 refine I.step (h':=s.heap) (H':=upd H T o) (g':=s.gens) (d':=s.drawn) (t':=s.toks) (ch:=[T]) (λb hb=>?_) (λb _ _ _ _ e _=>e) (λb ob _ _ _ e _=>⟨ob.slots,e⟩) (λb ob hb _ n=>?_)
  (λb ob _ e=>⟨ob,e⟩) (λb xs e=>?_) (λb ob u e=>?_) (λb ps e=>⟨#[],?_⟩) (λm hm=>hm) (λb u e=>?_) I.bare
 ·have e:b=T:=by simpa using hb
  subst e
  exact⟨hf.2.2.2.1,hf.2.1,hf.2.2.2.2.1,hf.2.2.2.2.2⟩
 ·rw[ax (λz=>hb (by simp[z]))];exact n
 ·rw[ax (nT b _ e)];exact e
 ·rw[ax (nT b _ e)];exact e
 ·rw[ax (nT b _ e),e];simp
 ·by_cases hb:b=T
  ·subst hb;rw[ag] at e;cases e;exact new
  ·rw[ax hb] at e
   exact(I.hok b u e).stay (λc v _ q=>q) (λc q=>by rw[ax (nT c _ q)];exact q) λc xs q=>by rw[ax (nT c _ q)];exact q
end
def Lf(K:Fg)(a:Addr):It:=
 ⟨λi H=>∃xs x,cq K H a xs/\xs[i]?=some x,λi H x H'=>∃p v,H p=none/\x=.ref p/\H'=upd H p (.tup [.int (i:Nat),v])/\∀xs,cq K H a xs->xs[i]?=some v,λi H=>∃xs,cq K H a xs/\xs.length<=i⟩
def Li(K:Fg)(a b:Addr):It:=
 ⟨λi H=>∃xs x ys y,cq K H a xs/\xs[i]?=some x/\cq K H b ys/\ys[i]?=some y,
  λi H x H'=>∃p v u,H p=none/\x=.ref p/\H'=upd H p (.tup [v,u])/\(∀xs,cq K H a xs->xs[i]?=some v)/\∀ys,cq K H b ys->ys[i]?=some u,
  λi H=>∃xs ys,cq K H a xs/\cq K H b ys/\(xs.length<=i\/ys.length<=i)⟩
theorem sV{X:Cx}{H:Hp}{h:Heap}{T:Addr}{x y:V}{u v:Value}{n:Nat}(e:h.get? T=some {cls:=.type "tuple",data:=.seq #[u,v] n})(r1:cJ x u)(r2:cJ y v):fH X.prog X.w H h T (.tup [x,y]):=
 ⟨show 2<=sizeLine by decide,[u,v],.cons r1 (.cons r2 .nil),⟨_,e,⟨rfl,rfl⟩,_,rfl⟩⟩
theorem Hx{h:Heap}{it a:Addr}{i:Nat}{l:Addr}{items:Array Value}(p:h.IsList a items)(q:h.IsListIter it l i):a≠it:=by
 intro e;subst e
 obtain⟨o,e1,c1,_⟩:=p
 obtain⟨o',e2,c2,_⟩:=q
 rw[e1] at e2;cases e2;rw[c1] at c2
 injection c2 with c3
 exact absurd c3 (by decide)
theorem D2{P:Program}{w:World}{K:Fg}{elts:List Expr}{k:Nat}{pos:Pos}(a e it:Addr)(hne:e≠it) :
  uV P w K (.Tuple elts k pos) (Lf K a) [e,it] e (λi h=>(∃old,IsEnum h e it (i:Nat) old)/\h.IsListIter it a i) where
 mem:=by simp
 obj:=λi h st b hb=>by
  obtain⟨⟨old,he⟩,⟨o,ho,c,d⟩⟩:=st
  rcases aN.mp hb with rfl|hb
  ·exact⟨_,he,λv z=>by have z':Data.fields _=Data.cell v:=z;cases z'⟩
  ·rw[ai.mp hb]
   exact⟨o,ho,λv z=>by rw[d] at z;cases z⟩
 keep:=λi h h' st k=>⟨let⟨old,he⟩:=st.1;⟨old,k e (by simp) _ he⟩,st.2.at λo q=>k it (by simp) o q⟩
 item:=by
  intro X hP hw hK hc i pins s σ H E I hf st hg
  subst hP hw hK
  obtain⟨⟨old,he⟩,hit⟩:=st
  obtain⟨xs,x,hq,hx⟩:=hg
  obtain⟨its,rv,p,hz⟩:=I.list hq
  obtain⟨u,hu,ru⟩:=rv.get hx
  have hlt:i<its.toArray.size:=by have:=(af.mp hu).1;simpa using this
  have na:a≠it:=Hx p.isList hit
  have nb:e≠a:=by
   intro z;subst z
   obtain⟨o,n,e1,c1,_⟩:=p
   rw[he] at e1;cases e1
   injection c1 with c3
   exact absurd c3 (by decide)
  have Dw:=Draws.list (prog:=X.prog) (w:=X.w) (A:=X.A.in1) (show X.A.in1.handled=none from I.ok.hd hc) it a na its.toArray
  refine wpAny_pyNext_enum_itemD Dw he ⟨hit,p.isList⟩ hlt hne (by simp[hne,nb]) λy h1 tk hP ho st1 hT hsz hk=>?_
  have ey:y=u:=by
   have h1:its.toArray[i]?=some y:=hP
   have h2:its[i]?=some y:=by simpa using h1
   rw[hu] at h2;exact(Option.some.inj h2).symm
  subst ey
  refine⟨_,rfl,?_⟩
  have fT:oJ X pins H s.heap.objs.size:=I.fpOk (aB _) (I.hok.fresh (aB _))
  refine wpAny_letOwnedTupleGo_enum ho λh2 he2 hs2=>?_
  have helt:e<s.heap.objs.size:=aJ he
  have I1:bU X pins σ H {s with heap:=h2,toks:=tk+1}:=I.turnedL (t':=tk+1) (ch:=[e,it]) (λb o hb q=>by
   have b1:b≠e:=λz=>hb (by simp[z])
   have b2:b≠it:=λz=>hb (by simp[z])
   exact(hs2.2 b b1).trans (hk b o b1 b2 q)) hf
  have gT:h2.get? s.heap.objs.size=some {cls:=.type "tuple",data:=.seq #[.int i tk,y]}:=(hs2.2 _ (fG helt)).trans hT
  have I2:=I1.adopt (T:=s.heap.objs.size) (o:=.tup [.int (i:Nat),x]) fT (sV (X:=X) gT ⟨tk,rfl⟩ ru)
  refine⟨.ref s.heap.objs.size,_,I2,rfl,⟨s.heap.objs.size,x,fT.1,rfl,rfl,λys hy=>by rw[I.list_inj hy hq];exact hx⟩,⟨⟨y,?_⟩,?_⟩,λb hb=>?_⟩
  ·have e2:(((i+1:Nat):Nat):Int)=(i:Int)+1:=by lia
   show IsEnum h2 e it (((i+1:Nat):Nat):Int) y
   rw[e2];exact he2
  ·obtain⟨o,q1,q2⟩:=st1.1
   exact⟨o,(hs2.2 it (Ne.symm hne)).trans q1,q2⟩
  ·have nT:b≠s.heap.objs.size:=by
    rcases aN.mp hb with rfl|hb
    ·exact aV helt
    ·rw[ai.mp hb]
     obtain⟨o,ho,_⟩:=hit
     exact aV (aJ ho)
   rw[ax nT];exact(hf b hb).1
 done:=by
  intro X hP hw hK hc i pins s σ H E I hf st hg
  subst hP hw hK
  obtain⟨⟨old,he⟩,hit⟩:=st
  obtain⟨xs,hq,hx⟩:=hg
  obtain⟨its,rv,p,hz⟩:=I.list hq
  have hl:=rv.length
  have hT:s.TypeIs (.ref e) "enumerate":=⟨_,he,rfl⟩
  unfold pyNext
  refine wpAny_bind (wpAny_attempt (wpAny_callSpecial?_slot (name:=Str.ofString "__next__") hT F.slot_enumerate_next
   (wpAny_call_entry F.slot_enumerate_next hT F.entry_enumerate_next ?_ (F.args_enumerate_next_1 _))))
  show wpAny _ _ (field (.ref e) 2 >>= _) _ _ _
  refine wpAny_bind (wpAny_field he rfl (x:=.ref it) rfl ?_)
  refine wpAny_bind (wpAny_nextOf_list_end (show X.A.in1.handled=none from I.ok.hd hc) hit p.isList (by simp;lia) λh1 x1 eb hx1=>?_)
  obtain⟨o,ho,hcl⟩:=hx1
  refine wpAny_bind (wpAny_isInstance (T:="StopIteration") (b:=true) ⟨o,ho,hcl⟩ isSubtype_stop ?_)
  exact wpAny_pure ⟨rfl,I.turnedL (t':=s.toks) (ch:=[e,it]) (λb ob hb q=>eb b ob (λz=>hb (by simp[z])) q) hf⟩
 self:=λ_ _ _ _ _ st h=>let⟨_,he⟩:=st.1;wpAny_pyIter_enum he h
section
variable{X:Cx}{elts:List Expr}{k:Nat}{tpos:Pos}
def EM(K:Fg)(tl:TA):TI:=λσ H R=>tl σ H λvs H1=>∃a,vs=[.ref a]/\(∃xs,cq K H1 a xs)/\R (Lf K a) H1
theorem Ia{a:Expr}{ta:TA}{p pos:Pos}(hg:Gl X "enumerate")(hm:X.mg "enumerate"=none)(ha:PA X [a] ta)(hs:starEach [a] X.env=[(false,eval a X.env)]:=by rfl) :
  PI X (.Tuple elts k tpos) (.Call (.Name "enumerate" p) [a] [] pos) (EM X.K ta):=by
 intro pins s σ H R I h
 refine Call_ (lB I hg hm boot_enumerate (cb (gd (ha pos pins s σ H _ I h) λus s1 ⟨vs,H1,I1,r1,q1⟩=>?_) hs rfl))
 obtain⟨l,e,⟨xs,hq⟩,q⟩:=q1
 subst e
 cases r1 with
 |cons r rr=>
  cases rr
  cases r
  obtain⟨its,rv,pl,hz⟩:=I1.list hq
  refine call_enumerate_list pl.isList λh1 he hit hsz hk=>?_
  refine wpAny_pyIter_enum he ?_
  have I2:bU X pins σ H1 {s1 with heap:=h1}:=I1.kept (t':=s1.toks) hk
  refine⟨s1.heap.objs.size+1,[s1.heap.objs.size+1,s1.heap.objs.size],_,_,H1,rfl,I2,D2 l _ _ (Nat.succ_ne_self _),⟨⟨.none,he⟩,hit⟩,λb hb=>?_,q⟩
  have hb':s1.heap.objs.size<=b:=by
   rcases aN.mp hb with rfl|hb
   ·lia
   ·rw[ai.mp hb];exact aB _
  exact I1.fpOk hb' (I1.hok.fresh hb')
end
theorem GH{P:Program}{w:World}{K:Fg}{elts:List Expr}{k:Nat}{pos:Pos}(z TI TO i1 i2 l1 l2:Addr)(D:ZipApart z TI TO i1 i2 l1 l2) :
  uV P w K (.Tuple elts k pos) (Li K l1 l2) [z,TI,TO,i1,i2] z (λi h=>IsZip h z TI TO .none/\IsPair h TI (.ref i1) (.ref i2)/\(∃a b,IsPair h TO a b)/\h.IsListIter i1 l1 i/\h.IsListIter i2 l2 i) where
 mem:=by simp
 obj:=λi h st b hb=>by
  obtain⟨hz,hTI,⟨a',b',hTO⟩,⟨o1,e1,c1,d1⟩,⟨o2,e2,c2,d2⟩⟩:=st
  simp only[aN,dN,or_false] at hb
  rcases hb with rfl|rfl|rfl|rfl|rfl
  ·exact⟨_,hz,λv q=>by have q':Data.fields _=Data.cell v:=q;cases q'⟩
  ·exact⟨_,hTI,λv q=>by have q':Data.seq _ _=Data.cell v:=q;cases q'⟩
  ·exact⟨_,hTO,λv q=>by have q':Data.seq _ _=Data.cell v:=q;cases q'⟩
  ·exact⟨o1,e1,λv q=>by rw[d1] at q;cases q⟩
  ·exact⟨o2,e2,λv q=>by rw[d2] at q;cases q⟩
 keep:=λi h h' st k=>by
  obtain⟨hz,hTI,⟨a',b',hTO⟩,h1,h2⟩:=st
  exact⟨k z (by simp) _ hz,k TI (by simp) _ hTI,⟨a',b',k TO (by simp) _ hTO⟩,h1.at λo q=>k i1 (by simp) o q,h2.at λo q=>k i2 (by simp) o q⟩
 item:=by
  intro X hP hw hK hc i pins s σ H E I hf st hg
  subst hP hw hK
  obtain⟨hz,hTI,⟨a',b',hTO⟩,h1,h2⟩:=st
  obtain⟨xs,x,ys,y,hq1,hx,hq2,hy⟩:=hg
  obtain⟨its1,rv1,p1,_⟩:=I.list hq1
  obtain⟨its2,rv2,p2,_⟩:=I.list hq2
  obtain⟨u,hu,ru⟩:=rv1.get hx
  obtain⟨v,hv,rv⟩:=rv2.get hy
  refine wpAny_pyNext_zip_item D hz hTI hTO h1 h2 p1.isList p2.isList (x:=u) (y:=v) (by simpa using hu) (by simpa using hv) λh3 a1 a2 a3 a4 a5 a6 hk=>?_
  refine⟨_,rfl,?_⟩
  have fT:oJ X pins H s.heap.objs.size:=I.fpOk (aB _) (I.hok.fresh (aB _))
  have lt:∀{c o},s.heap.get? c=some o->c≠s.heap.objs.size:=λe=>aV (aJ e)
  refine wpAny_letOwnedTupleGo_zip a1 λh4 hz4 hs4=>?_
  have I1:bU X pins σ H {s with heap:=h4,toks:=s.toks}:=I.turnedL (t':=s.toks) (ch:=[z,TI,TO,i1,i2]) (λb o hb q=>by
   have b1:b≠z:=λe=>hb (by simp[e])
   exact(hs4.2 b b1).trans (hk b o b1 (λe=>hb (by simp[e])) (λe=>hb (by simp[e])) (λe=>hb (by simp[e])) q)) hf
  have gT:h4.get? s.heap.objs.size=some {cls:=.type "tuple",data:=.seq #[u,v]}:=(hs4.2 _ (Ne.symm (lt hz))).trans a5
  have I2:=I1.adopt (T:=s.heap.objs.size) (o:=.tup [x,y]) fT (sV (X:=X) gT ru rv)
  have ext:∀c o,c≠z->h3.get? c=some o->h4.get? c=some o:=λc o hc q=>(hs4.2 c hc).trans q
  refine⟨.ref s.heap.objs.size,_,I2,rfl,⟨s.heap.objs.size,x,y,fT.1,rfl,rfl,λzs hz=>by rw[I.list_inj hz hq1];exact hx,λzs hz=>by rw[I.list_inj hz hq2];exact hy⟩,
   ⟨hz4,ext _ _ D.TIz (hk _ _ D.TIz D.TITO D.TIi1 D.TIi2 hTI),⟨_,_,ext _ _ D.TOz a2⟩,a3.at λo q=>ext _ o D.i1z q,a4.at λo q=>ext _ o D.i2z q⟩,λb hb=>?_⟩
  have nT:b≠s.heap.objs.size:=by
   obtain⟨o1,e1,_⟩:=h1
   obtain⟨o2,e2,_⟩:=h2
   simp only[aN,dN,or_false] at hb
   rcases hb with rfl|rfl|rfl|rfl|rfl
   ·exact lt hz
   ·exact lt hTI
   ·exact lt hTO
   ·exact lt e1
   ·exact lt e2
  rw[ax nT];exact(hf b hb).1
 done:=by
  intro X hP hw hK hc i pins s σ H E I hf st hg
  subst hP hw hK
  obtain⟨hz,hTI,⟨a',b',hTO⟩,h1,h2⟩:=st
  obtain⟨xs,ys,hq1,hq2,hend⟩:=hg
  obtain⟨its1,rv1,p1,_⟩:=I.list hq1
  obtain⟨its2,rv2,p2,_⟩:=I.list hq2
  have l1':=rv1.length
  have l2':=rv2.length
  refine wpAny_pyNext_zip_end (I.ok.hd hc) D hz hTI hTO h1 h2 p1.isList p2.isList (hend.imp (λh=>by simp;lia) λh=>by simp;lia) λh3 hk=>⟨rfl,?_⟩
  exact I.turnedL (t':=s.toks) (ch:=[z,TI,TO,i1,i2]) (λb o hb q=>hk b o (λe=>hb (by simp[e])) (λe=>hb (by simp[e])) (λe=>hb (by simp[e])) (λe=>hb (by simp[e])) q) hf
 self:=λ_ _ _ _ _ st h=>wpAny_pyIter_zip st.1 h
section
variable{X:Cx}{elts:List Expr}{k:Nat}{tpos:Pos}
def JI(K:Fg)(tl:TA):TI:=λσ H R=>tl σ H λvs H1=>∃a b,vs=[.ref a,.ref b]/\(∃xs,cq K H1 a xs)/\(∃xs,cq K H1 b xs)/\R (Li K a b) H1
theorem Kv{a b:Expr}{ta:TA}{p pos:Pos}(hg:Gl X "zip")(hm:X.mg "zip"=none)(ha:PA X [a,b] ta)(hs:starEach [a,b] X.env=[(false,eval a X.env),(false,eval b X.env)]:=by rfl)(hs2:starEach [b] X.env=[(false,eval b X.env)]:=by rfl) :
  PI X (.Tuple elts k tpos) (.Call (.Name "zip" p) [a,b] [] pos) (JI X.K ta):=by
 intro pins s σ H R I h
 refine Call_ (lB I hg hm boot_zip (cb (gd (ha pos pins s σ H _ I h) λus s1 ⟨vs,H1,I1,r1,q1⟩=>?_) (by rw[hs,hs2]) (by rw[hs2];rfl)))
 obtain⟨l1,l2,e,⟨xs,hq1⟩,⟨ys,hq2⟩,q⟩:=q1
 subst e
 cases r1 with
 |cons r rr=>
  cases rr with
  |cons r' rr=>
   cases rr
   cases r
   cases r'
   obtain⟨its1,rv1,p1,_⟩:=I1.list hq1
   obtain⟨its2,rv2,p2,_⟩:=I1.list hq2
   have b1:l1<s1.heap.objs.size:=by obtain⟨o,e,_⟩:=p1.isList;exact aJ e
   have b2:l2<s1.heap.objs.size:=by obtain⟨o,e,_⟩:=p2.isList;exact aJ e
   refine call_zip_2 p1.isList p2.isList λh1 hz hTI hTO hi1 hi2 hsz hk=>?_
   refine wpAny_pyIter_zip hz ?_
   have I2:bU X pins σ H1 {s1 with heap:=h1}:=I1.kept (t':=s1.toks) hk
   refine⟨_,_,_,_,H1,rfl,I2,GH _ _ _ _ _ l1 l2 (zipApart_new b1 b2),⟨hz,hTI,⟨_,_,hTO⟩,hi1,hi2⟩,λb hb=>?_,q⟩
   have hb':s1.heap.objs.size<=b:=by
    simp only[aN,dN,or_false] at hb
    rcases hb with rfl|rfl|rfl|rfl|rfl<;>lia
   exact I1.fpOk hb' (I1.hok.fresh hb')
end
theorem EF{K:Fg}{a:Addr}{xs:List V}{g:TG}{tb:TS}{D:nh}{σ:St}{H:Hp}(Pv:Nat->St->Hp->Prop)(h0:Pv 0 σ H)(hl:∀i σ H,i<=xs.length->Pv i σ H->cq K H a xs)
  (hs:∀i x σ H p,xs[i]?=some x->H p=none->Pv i σ H->g (.ref p) σ (upd H p (.tup [.int (i:Nat),x])) λσ2 H2=>tb {D with nx:=Pv (i+1),ct:=Pv (i+1),bk:=D.nx} σ2 H2) (hd:∀σ H,Pv xs.length σ H->D.nx σ H) :
  ∃W:Nat->Nat->St->Hp->Prop,(∃m,W 0 m σ H)/\∀i m σ H,W i m σ H->
   ((Lf K a).stop i H/\D.nx σ H)\/((Lf K a).go i H/\∃N:St->Hp->Prop,(∀σ' H',N σ' H'->∃m',m'<m/\W (i+1) m' σ' H')/\∀x H',(Lf K a).yld i H x H'->g x σ H' λσ2 H2=>tb {D with nx:=N,ct:=N,bk:=D.nx} σ2 H2):=by
 refine⟨λi m σ H=>m=xs.length-i/\i<=xs.length/\Pv i σ H,⟨xs.length,by simp,cf _,h0⟩,?_⟩
 rintro i m σ H ⟨rfl,hi,p⟩
 have q:=hl i σ H hi p
 by_cases hlt:i<xs.length
 ·refine .inr ⟨⟨xs,xs[i],q,by simp[hlt]⟩,Pv (i+1),λσ' H' p'=>⟨xs.length-(i+1),by lia,rfl,hlt,p'⟩,λx H' y=>?_⟩
  obtain⟨pp,v,e1,rfl,rfl,y⟩:=y
  exact hs i v σ H pp (y xs q) e1 p
 ·have e:i=xs.length:=by lia
  subst e
  exact .inl ⟨⟨xs,q,aB _⟩,hd σ H p⟩
theorem Hh{K:Fg}{a b:Addr}{xs ys:List V}{g:TG}{tb:TS}{D:nh}{σ:St}{H:Hp}(el:xs.length=ys.length)(Pv:Nat->St->Hp->Prop)(h0:Pv 0 σ H)(hl:∀i σ H,i<=xs.length->Pv i σ H->cq K H a xs/\cq K H b ys)
  (hs:∀i x y σ H p,xs[i]?=some x->ys[i]?=some y->H p=none->Pv i σ H->g (.ref p) σ (upd H p (.tup [x,y])) λσ2 H2=>tb {D with nx:=Pv (i+1),ct:=Pv (i+1),bk:=D.nx} σ2 H2) (hd:∀σ H,Pv xs.length σ H->D.nx σ H) :
  ∃W:Nat->Nat->St->Hp->Prop,(∃m,W 0 m σ H)/\∀i m σ H,W i m σ H->
   ((Li K a b).stop i H/\D.nx σ H)\/((Li K a b).go i H/\∃N:St->Hp->Prop,(∀σ' H',N σ' H'->∃m',m'<m/\W (i+1) m' σ' H')/\∀x H',(Li K a b).yld i H x H'->g x σ H' λσ2 H2=>tb {D with nx:=N,ct:=N,bk:=D.nx} σ2 H2):=by
 refine⟨λi m σ H=>m=xs.length-i/\i<=xs.length/\Pv i σ H,⟨xs.length,by simp,cf _,h0⟩,?_⟩
 rintro i m σ H ⟨rfl,hi,p⟩
 obtain⟨q1,q2⟩:=hl i σ H hi p
 by_cases hlt:i<xs.length
 ·have hlt2:i<ys.length:=by lia
  refine .inr ⟨⟨xs,xs[i],ys,ys[i],q1,by simp[hlt],q2,by simp[hlt2]⟩,Pv (i+1),λσ' H' p'=>⟨xs.length-(i+1),by lia,rfl,hlt,p'⟩,λx H' y=>?_⟩
  obtain⟨pp,v,u,e1,rfl,rfl,y1,y2⟩:=y
  exact hs i v u σ H pp (y1 xs q1) (y2 ys q2) e1 p
 ·have e:i=xs.length:=by lia
  subst e
  exact .inl ⟨⟨xs,ys,q1,q2,.inl (aB _)⟩,hd σ H p⟩
end L2
namespace PySem
open Sem (wp)
open Builtin MeetsSeq MeetsSeq2 MeetsSeq3
theorem qQ:fillsNumberSlot (.type "tuple") "mul"=pure false:=
 fillsNumberSlot_seq (id:="tuple.__mul__") (r:=some (.builtin "tuple.__rmul__")) F.slot_tuple_mul.lookup (by decide +kernel) F.slot_tuple_rmul.lookup (by decide +kernel)
theorem xw:seqRepeat? (.type "tuple")=pure (some (.builtin "tuple.__mul__")):=by
 unfold seqRepeat?
 rw[seqSlot_of (T:="tuple") (name:="__mul__") (id:="tuple.__mul__") F.slot_tuple_mul.lookup (by decide +kernel),seqSlot_of (T:="tuple") (name:="__rmul__") (id:="tuple.__rmul__") F.slot_tuple_rmul.lookup (by decide +kernel)]
 rfl
theorem tT(a:Int)(t:Tok)(l:Addr)(items:Array Value)(n:Nat)(dd:Option Addr)(sl:Array (Option Value)) :
  Meets (Builtin.«int.__rmul__» ⟨[.int a t,.ref l],[]⟩) (λ_ R s=>s.heap.get? l=some {cls:=.type "tuple",dict:=dd,data:=.seq items n,slots:=sl}/\R (.ok (.ret Value.notImplemented)) s):=
 .of_wp λprog w A R s h=>by obtain⟨hp,g,d,tk,os⟩:=s;obtain⟨hl,h⟩:=h;wp_walk;exact⟨_,rfl,h⟩
theorem uQ(l:Addr)(items:Array Value)(n:Nat)(dd:Option Addr)(sl:Array (Option Value))(x:Int)(u:Tok)(hlo:-(2 ^ 63)<=x)(hhi:x<2 ^ 63)(he:items.isEmpty=false)(h1:¬x=1)(hp:0<x)(hsz:items.size*x.toNat<=sizeLine) :
  Meets (Builtin.«tuple.__mul__» ⟨[.ref l,.int x u],[]⟩) (λ_ R s=>s.heap.get? l=some {cls:=.type "tuple",dict:=dd,data:=.seq items n,slots:=sl}/\
   R (.ok (.ret (Value.ref s.heap.objs.size))) {s with heap:=s.heap.push {cls:=Value.type "tuple",data:=Data.seq (sW (λx1 x2=>x1++x2) #[] (aH x.toNat items))},toks:=s.toks}):=
 .of_wp λprog w A R s h=>by
  obtain⟨hp,g,d,tk,os⟩:=s;obtain⟨hl,h⟩:=h
  have z1:(decide (x < -(2 ^ 63)) || decide (x >= 2 ^ 63))=false:=by simp;lia
  have z2:(items.isEmpty || x==1)=false:=by simp[he,h1]
  have z3:(decide (x<=0) || items.isEmpty)=false:=by simp[he];lia
  have ex:(items.size:Int)*x=((items.size*x.toNat:Nat):Int):=by
   rw[Int.natCast_mul];congr 1;lia
  have z4:¬((items.size:Int)*x>(2 ^ 63-1) / 8):=by
   rw[ex]
   have:(sizeLine:Nat)<=(2 ^ 63-1) / 8:=by decide
   lia
  have z5:Tuple.tupleTooMany ((items.size:Int)*x)=false:=by
   unfold Tuple.tupleTooMany
   rw[ex]
   exact decide_eq_false (by lia)
  have z6:(sW (λ(x1 x2:Array Value)=>x1++x2) #[] (aH x.toNat items)).size<=sizeLine:=by
   have e:=AutoListH.size_joined items x.toNat #[]
   rw[e,Nat.mul_comm]
   simpa using hsz
  wp_walk
  refine wpAny_ite_false (by rw[z1];rfl) ?_
  wp_walk using AutoSeq1.wpAny_loadPart' hl
  refine wpAny_ite_false (decide_eq_false z4) ?_
  wp_walk
  refine wpAny_ite_false (by rw[z5];rfl) ?_
  wp_walk
  exact⟨_,rfl,h⟩
theorem vy(l:Addr)(items:Array Value)(n:Nat)(dd:Option Addr)(sl:Array (Option Value))(u:Tok) :
  Meets (Builtin.«tuple.__mul__» ⟨[.ref l,.int 1 u],[]⟩) (λ_ R s=>s.heap.get? l=some {cls:=.type "tuple",dict:=dd,data:=.seq items n,slots:=sl}/\R (.ok (.ret (Value.ref l))) s):=
 .of_wp λprog w A R s h=>by
  obtain⟨hp,g,d,tk,os⟩:=s;obtain⟨hl,h⟩:=h
  have z2:(items.isEmpty || (1:Int)==1)=true:=by simp
  wp_walk using AutoSeq1.wpAny_loadPart' hl
  first|exact⟨_,rfl,h⟩|trace_state
theorem uR(l:Addr)(items:Array Value)(n:Nat)(dd:Option Addr)(sl:Array (Option Value))(u:Tok)(he:items.isEmpty=false) :
  Meets (Builtin.«tuple.__mul__» ⟨[.ref l,.int 0 u],[]⟩) (λ_ R s=>s.heap.get? l=some {cls:=.type "tuple",dict:=dd,data:=.seq items n,slots:=sl}/\
   R (.ok (.ret (Value.ref s.heap.objs.size))) {s with heap:=s.heap.push {cls:=Value.type "tuple",data:=Data.seq #[]},toks:=s.toks}):=
 .of_wp λprog w A R s h=>by
  obtain⟨hp,g,d,tk,os⟩:=s;obtain⟨hl,h⟩:=h
  have z2:(items.isEmpty || (0:Int)==1)=false:=by simp[he]
  have z3:(decide ((0:Int)<=0) || items.isEmpty)=true:=by simp
  wp_walk using AutoSeq1.wpAny_loadPart' hl
  first|exact⟨_,rfl,h⟩|trace_state
end PySem
namespace L2
open PySem PySem.Spec PyProof.Rows
section
variable{X:Cx}
def Jn(K:Fg):R2:=λx y H Q=>∃(l:Addr) (k:Nat) (xs:List V),x=.ref l/\y=.int (k:Nat)/\dC K H l xs/\xs≠[]/\xs.length*k<=sizeLine/\(k=1->Q (.ref l) H)/\
 (k≠1->∀p,H p=none->Q (.ref p) (upd H p (.tup (aH k xs).flatten)))
theorem HM:jX X (binaryOp .Mult) (Jn X.K):=by
 intro pins s σ H x y v u Q I rx ry h
 obtain⟨l,k,xs,rfl,rfl,hq,hne,hz,q1,q2⟩:=h
 cases rx
 obtain⟨t,rfl⟩:=ry
 obtain⟨its,r,⟨⟨cls,dd,data,sl⟩,e,hc,n,hd⟩,hl⟩:=I.tuple hq
 simp only at hc hd
 subst hc hd
 have hlen:=r.length
 have he:its.toArray.isEmpty=false:=by
  cases its with
  |nil=>simp at hlen;exact absurd hlen hne
  |cons a r'=>rfl
 have hs:its.toArray.size*k<=sizeLine:=by rw[au,<-hlen];exact hz
 have road:wpAny (model X.prog X.w) X.A (call (.builtin "tuple.__mul__") [.ref l,.int (k:Nat) t]) (EP X pins σ Q) X.xe s->wpAny (model X.prog X.w) X.A (binaryOp .Mult (.ref l) (.int (k:Nat) t)) (EP X pins σ Q) X.xe s:=λhcall=>
  wpAny_binaryOp_repeat_ref (T:="tuple") (U:="int") (by decide) ⟨_,e,rfl⟩ (λs'=>typeIs_int s' k t) qQ F.fills_int_mul F.slot_int_rmul xw F.slot_int_index.lookup
   (call_meets F.slot_int_rmul (typeIs_int s k t) F.entry_int_rmul (F.args_int_rmul_2 _ _) (tT k t l its.toArray n dd sl) ⟨e,rfl,⟨_,e,rfl⟩,hcall⟩)
 refine road ?_
 by_cases h1:k=1
 ·subst h1
  exact call_meets F.slot_tuple_mul ⟨_,e,rfl⟩ F.entry_tuple_mul (F.args_tuple_mul_2 _ _) (vy l its.toArray n dd sl t) ⟨e,⟨.ref l,H,I,rfl,q1 rfl⟩⟩
 ·have hn:H s.heap.objs.size=none:=I.hok.fresh (aB _)
  by_cases h0:k=0
  ·subst h0
   refine call_meets F.slot_tuple_mul ⟨_,e,rfl⟩ F.entry_tuple_mul (F.args_tuple_mul_2 _ _) (uR l its.toArray n dd sl t he) ⟨e,⟨.ref s.heap.objs.size,_,?_,rfl,q2 h1 _ hn⟩⟩
   exact I.laid (t':=s.toks) (λb o e=>aA _ e) (aB _) ⟨cf _,[],.nil,⟨_,aQ _ rfl,⟨rfl,rfl⟩,_,rfl⟩⟩
  ·have hk64:(k:Int)<2 ^ 63:=by
    have h3:1<=its.toArray.size:=by
     cases its with
     |nil=>simp at he
     |cons a r'=>simp
    have h4:k<=its.toArray.size*k:=Nat.le_mul_of_pos_left k h3
    have h5:(sizeLine:Nat)<2 ^ 63:=by decide
    lia
   refine call_meets F.slot_tuple_mul ⟨_,e,rfl⟩ F.entry_tuple_mul (F.args_tuple_mul_2 _ _) (uQ l its.toArray n dd sl k t (by lia) hk64 he (by lia) (by lia) (by simpa using hs)) ⟨e,?_⟩
   have f0:=vH its k []
   rw[mJ] at f0
   have ek:((k:Nat):Int).toNat=k:=by simp
   rw[ek,f0]
   refine⟨.ref s.heap.objs.size,_,?_,rfl,q2 h1 _ hn⟩
   refine I.laid (t':=s.toks) (λb o e=>aA _ e) (aB _) ⟨?_,(aH k its).flatten,r.rep k,⟨_,aQ _ rfl,⟨rfl,rfl⟩,_,rfl⟩⟩
   rw[Hu,Nat.mul_comm];exact hz
theorem wQ:i8 X (.builtin "divmod") (λxs H Q=>∃i j,xs=[.int i,.int j]/\(0<j/\j<2 ^ 64)/\∀p,H p=none->Q (.ref p) (upd H p (.tup [.int (i / j),.int (i % j)]))):=by
 intro pins s σ H xs us Q I r h
 obtain⟨i,j,rfl,⟨h1,h2⟩,q⟩:=h
 obtain⟨u,w',rfl,⟨t,rfl⟩,⟨t',rfl⟩⟩:=zO r
 have hb:j.natAbs.log2<9000:=by
  have h3:j.natAbs.log2<64:=(Nat.log2_lt (by lia)).mpr (by lia)
  lia
 refine divmod_int (by lia) ?_ (.inl (PyProof.noPylong_of_log2 hb))
 rw[Int.fdiv_eq_ediv_of_nonneg i (by lia),Int.fmod_eq_emod_of_nonneg i (by lia)]
 have hn:H s.heap.objs.size=none:=I.hok.fresh (aB _)
 refine⟨.ref s.heap.objs.size,_,?_,rfl,q _ hn⟩
 refine I.laid (λb o e=>aA _ e) (aB _) ⟨by simp only[bG,ef];rw[sizeLine_eq];decide,[.int (i / j) s.toks,.int (i % j) (s.toks+1)],.cons ⟨_,rfl⟩ (.cons ⟨_,rfl⟩ .nil),?_⟩
 exact⟨_,aQ s.heap rfl,⟨rfl,rfl⟩,0,rfl⟩
inductive uU(K:Fg)(H:Hp):V->String->Bool->Prop where
 |int_int (i:Int):uU K H (.int i) "int" true
 |int_bool (i:Int):uU K H (.int i) "bool" false
 |int_tuple (i:Int):uU K H (.int i) "tuple" false
 |str_tuple (x:Str):uU K H (.str x) "tuple" false
 |tup_tuple {a:Addr} {xs:List V} (h:dC K H a xs):uU K H (.ref a) "tuple" true
 |lst_list {a:Addr} {xs:List V} (h:cq K H a xs):uU K H (.ref a) "list" true
 |str_str (x:Str):uU K H (.str x) "str" true
 |bl_bool (b:Bool):uU K H (.bl b) "bool" true
theorem Eo:i8 X (.builtin "isinstance") (λxs H Q=>∃x T b,xs=[x,.ty T]/\uU X.K H x T b/\Q (.bl b) H):=by
 intro pins s σ H xs us Q I r h
 obtain⟨x,T,b,rfl,hi,q⟩:=h
 obtain⟨u,w',rfl,r1,r2⟩:=zO r
 cases r2
 cases hi with
 |int_int i=>obtain⟨t,rfl⟩:=r1;exact IsiPair.int_int ⟨.bl true,H,I,rfl,q⟩
 |int_bool i=>obtain⟨t,rfl⟩:=r1;exact IsiPair.int_bool ⟨.bl false,H,I.tok _,rfl,q⟩
 |int_tuple i=>obtain⟨t,rfl⟩:=r1;exact IsiPair.int_tuple ⟨.bl false,H,I.tok _,rfl,q⟩
 |str_tuple z=>obtain⟨t,rfl⟩:=r1;exact IsiPair.str_tuple ⟨.bl false,H,I.tok _,rfl,q⟩
 |tup_tuple hs=>
  cases r1
  obtain⟨its,rv,⟨o,e,hc,_⟩,hz⟩:=I.tuple hs
  exact IsiPair.tuple_tuple e hc ⟨.bl true,H,I,rfl,q⟩
 |lst_list hs=>
  cases r1
  obtain⟨its,rv,pl,hz⟩:=I.list hs
  obtain⟨o,e,hc,_⟩:=pl.isList
  exact IsiPair.list_list e hc ⟨.bl true,H,I,rfl,q⟩
 |str_str z=>obtain⟨t,rfl⟩:=r1;exact IsiPair.str_str ⟨.bl true,H,I,rfl,q⟩
 |bl_bool z=>cases r1;exact IsiPair.bool_bool ⟨.bl true,H,I,rfl,q⟩
theorem Em(bs:List Bool):(iz bs.length).all (λi=>(bs[i]?).getD false)=bs.all id:=by
 rw[Bool.eq_iff_iff,dI,dI]
 constructor
 ·intro h b hb
  obtain⟨i,hi,e⟩:=fB.mp hb
  have:=h i (ko.mpr hi)
  rw[aa hi,gY,e] at this
  exact this
 ·intro h i hi
  have hi:=ko.mp hi
  rw[aa hi,gY]
  exact h _ (fW hi)
theorem wR(hc:X.calm=true):i8 X (.builtin "sum") (λxs H Q=>∃(p:Addr) (ns:List Int),xs=[.ref p]/\cq X.K H p (ns.map V.int)/\∀z:Int,Q (.int z) H):=by
 intro pins s σ H xs us Q I r h
 obtain⟨p,ns,rfl,hq,q⟩:=h
 obtain⟨u,rfl,rx⟩:=m5 r
 cases rx
 obtain⟨its,rv,pl,hz⟩:=I.list hq
 have intsOf:∀(ns:List Int) (its:List Value),cu (ns.map V.int) its->∃xs:List (Int×Tok),its=xs.map λp=>Value.int p.1 p.2:=by
  intro ns
  induction ns with
  |nil=>intro its r;cases r;exact⟨[],rfl⟩
  |cons n ns ih=>
   intro its r
   cases r with
   |cons r rr=>
    obtain⟨xs,rfl⟩:=ih _ rr
    obtain⟨t,rfl⟩:=r
    exact⟨(n,t)::xs,rfl⟩
 obtain⟨xs,rfl⟩:=intsOf ns its rv
 refine sum_intListG (xs:=xs.toArray) (I.ok.hd hc) ?_ λh' tk t' hk=>⟨.int _,H,I.kept hk,⟨t',rfl⟩,q _⟩
 have e:=pl.isList
 simpa[intItems] using e
end
section
variable{X:Cx}
theorem qi:∀{ys:List Str} {us:List Value},cu (ys.map V.str) us->StrsAre us ys
 |[],_,r=>by cases r;exact .nil
 |y::ys,_,r=>by
  cases r with
  |cons r rr=>
   obtain⟨t,rfl⟩:=r
   exact .cons _ _ (qi rr)
def Jm(K:Fg):V->List V->Hp->VK->Prop:=λx vs H Q=>∃(sep:Str) (p:Addr) (ys:List Str),x=.str sep/\vs=[.ref p]/\cq K H p (ys.map V.str)/\(ys.map (·.length)).sum+ys.length*sep.length<=16777216/\Q (.str (Txt.join sep ys)) H
theorem Hw:K8 X "str.join" (Jm X.K):=by
 intro pins s σ H x vs v us Q I rx rv h
 obtain⟨sep,p,ys,rfl,rfl,hq,hz,q⟩:=h
 obtain⟨t,rfl⟩:=rx
 obtain⟨u,rfl,ru⟩:=rv.one
 cases ru
 obtain⟨its,r,pl,_⟩:=I.list hq
 exact join_list pl.isList (by simpa using qi r) hz λt' k=>⟨.str _,H,I.tok k,⟨t',rfl⟩,q⟩
end
section
variable{X:Cx}
def oi(xs ys:List V):Bool:=(iz (min xs.length ys.length)).all (λj=>sO ((xs[j]?).getD .non) ((ys[j]?).getD .non))&&xs.length==ys.length
def ID(K:Fg)(neg:Bool):R2:=λx y H Q=>∃p q xs ys,x=.ref p/\y=.ref q/\dC K H p xs/\dC K H q ys/\xs.all ip=true/\ys.all ip=true/\Q (.bl (if neg then !oi xs ys else oi xs ys)) H
theorem Bu{A:Around}{s:Shared}{xs ys:List V}{us vs:List Value}(r1:cu xs us)(r2:cu ys vs)(f1:xs.all ip=true)(f2:ys.all ip=true) :
  ∀j (h1:j<us.toArray.size) (h2:j<vs.toArray.size),SeqAt.EqAt A s us.toArray[j] vs.toArray[j] (sO ((xs[j]?).getD .non) ((ys[j]?).getD .non)):=by
 intro j h1 h2
 have l1:=r1.length
 have l2:=r2.length
 rw[au] at h1 h2
 have j1:j<xs.length:=by lia
 have j2:j<ys.length:=by lia
 obtain⟨u,hu,ru⟩:=r1.get (aa j1)
 obtain⟨v,hv,rv⟩:=r2.get (aa j2)
 have eu:us.toArray[j]=u:=by
  have:=aa h1
  rw[hu] at this
  simpa using(Option.some.inj this).symm
 have ev:vs.toArray[j]=v:=by
  have:=aa h2
  rw[hv] at this
  simpa using(Option.some.inj this).symm
 rw[eu,ev,aa j1,aa j2,gY,gY]
 exact Af ru rv (dI.mp f1 _ (fW j1)) (dI.mp f2 _ (fW j2))
theorem Ka(hu:X.A.units<cLine):jX X (compareOp .Eq) (ID X.K false):=by
 intro pins s σ H x y v u Q I rx ry h
 obtain⟨p,q,xs,ys,rfl,rfl,h1,h2,f1,f2,qq⟩:=h
 cases rx
 cases ry
 obtain⟨us,r1,t1,_⟩:=I.tuple h1
 obtain⟨vs,r2,t2,_⟩:=I.tuple h2
 refine SeqAt.eq_tupleAt (show s.heap.IsTuple p us.toArray from t1) (show s.heap.IsTuple q vs.toArray from t2) hu (Bu r1 r2 f1 f2) ⟨.bl (oi xs ys),H,I,?_,qq⟩
 show Value.bool _=Value.bool _
 unfold oi
 rw[au,au,r1.length,r2.length]
def Jl(K:Fg):R2:=λx y H Q=>∃p xs z,x=.ref p/\y=.str z/\dC K H p xs/\Q (.bl false) H
theorem HJ(hu:X.A.units<cLine):jX X (compareOp .Eq) (Jl X.K):=by
 intro pins s σ H x y v u Q I rx ry h
 obtain⟨p,xs,z,rfl,rfl,h1,qq⟩:=h
 cases rx
 obtain⟨t,rfl⟩:=ry
 obtain⟨us,r1,t1,_⟩:=I.tuple h1
 exact SeqAt.RcAt.tuple_str z t (show s.heap.IsTuple p us.toArray from t1) hu X.prog X.w X.xe _ ⟨.bl false,H,I,rfl,qq⟩
theorem Kg(hu:X.A.units<cLine):jX X (compareOp .NotEq) (ID X.K true):=by
 intro pins s σ H x y v u Q I rx ry h
 obtain⟨p,q,xs,ys,rfl,rfl,h1,h2,f1,f2,qq⟩:=h
 cases rx
 cases ry
 obtain⟨us,r1,t1,_⟩:=I.tuple h1
 obtain⟨vs,r2,t2,_⟩:=I.tuple h2
 refine SeqAt.RcNeAt.tuples (show s.heap.IsTuple p us.toArray from t1) (show s.heap.IsTuple q vs.toArray from t2) hu (Bu r1 r2 f1 f2) X.prog X.w X.xe _ ⟨.bl (!oi xs ys),H,I,?_,qq⟩
 show Value.bool _=Value.bool _
 unfold oi
 rw[au,au,r1.length,r2.length]
end
section
variable{X:Cx}
def IC(K:Fg)(neg:Bool):R2:=λx y H Q=>∃p q xs ys,x=.ref p/\y=.ref q/\cq K H p xs/\cq K H q ys/\xs.all ip=true/\ys.all ip=true/\Q (.bl (if neg then !oi xs ys else oi xs ys)) H
theorem yg{xs ys:List V}(h:xs.length=ys.length):oi xs ys=(iz xs.length).all (λj=>sO ((xs[j]?).getD .non) ((ys[j]?).getD .non)):=by
 unfold oi;rw[<-h,iT];simp
theorem BA{xs ys:List V}(h:¬xs.length=ys.length):oi xs ys=false:=by
 unfold oi;rw[Bool.and_eq_false_iff];right;simpa using h
theorem J8(hu:X.A.units<cLine):jX X (compareOp .Eq) (IC X.K false):=by
 intro pins s σ H x y v u Q I rx ry h
 obtain⟨p,q,xs,ys,rfl,rfl,h1,h2,f1,f2,qq⟩:=h
 cases rx
 cases ry
 obtain⟨us,r1,t1,_⟩:=I.list h1
 obtain⟨vs,r2,t2,_⟩:=I.list h2
 have l1:=r1.length
 have l2:=r2.length
 by_cases c:xs.length=ys.length
 ·refine SeqAt.eq_listAt t1.isList t2.isList (by rw[au,au];lia) hu (Bu r1 r2 f1 f2) ⟨.bl (oi xs ys),H,I,?_,qq⟩
  show Value.bool _=Value.bool _
  rw[yg c,au,l1]
 ·refine SeqAt.eq_list_lengthsAt t1.isList t2.isList (by rw[au,au];simp;lia) hu ⟨.bl (oi xs ys),H,I,?_,qq⟩
  show Value.bool _=Value.bool _
  rw[BA c]
theorem Ke(hu:X.A.units<cLine):jX X (compareOp .NotEq) (IC X.K true):=by
 intro pins s σ H x y v u Q I rx ry h
 obtain⟨p,q,xs,ys,rfl,rfl,h1,h2,f1,f2,qq⟩:=h
 cases rx
 cases ry
 obtain⟨us,r1,t1,_⟩:=I.list h1
 obtain⟨vs,r2,t2,_⟩:=I.list h2
 have l1:=r1.length
 have l2:=r2.length
 by_cases c:xs.length=ys.length
 ·refine SeqAt.RcNeAt.lists t1.isList t2.isList (by rw[au,au];lia) hu (Bu r1 r2 f1 f2) X.prog X.w X.xe _ ⟨.bl (!oi xs ys),H,I,?_,qq⟩
  show Value.bool _=Value.bool _
  rw[yg c,au,l1]
 ·refine SeqAt.RcNeAt.lists_lengths t1.isList t2.isList (by rw[au,au];simp;lia) hu X.prog X.w X.xe _ ⟨.bl (!oi xs ys),H,I,?_,qq⟩
  show Value.bool _=Value.bool _
  rw[BA c];rfl
end
section
variable{prog:Program}{w:World}{A:Around}{E:Value->Shared->Prop}
theorem tQ{it t:Addr}{items:Array Value}(hne:t≠it):∀(n i:Nat) (s:Shared) (Q:List Value->Shared->Prop),s.heap.IsListIter it t i->s.heap.IsList t items->i+n<=items.size->
  (∀h':Heap,h'.IsListIter it t (i+n)->Heap.SameBut it s.heap h'->Q ((items.toList.drop i).take n) {s with heap:=h'})->wpAny (model prog w) A (draw (.ref it) n) Q E s
 |0,i,s,Q,hit,_,_,hQ=>by
  show wpAny _ _ (pure []) Q E s
  exact wpAny_pure (by simpa using hQ s.heap hit (Heap.SameBut.refl ..))
 |n+1,i,s,Q,hit,ht,hle,hQ=>by
  have hlt:i<items.size:=by lia
  show wpAny _ _ (pyNext (.ref it) >>= _) Q E s
  refine wpAny_bind (wpAny_pyNext_list_item hit ht (x:=items[i]) (by simp[hlt]) λh₁ hit₁ hs₁=>?_)
  refine wpAny_bind (wpAny_holding (tQ hne n (i+1) _ _ hit₁ (ht.extBut hs₁.extBut hne) (by lia) λh₂ hit₂ hs₂=>wpAny_pure ?_))
  have hd:items.toList.drop i=items[i]::items.toList.drop (i+1):=by simp[ia,hlt]
  have:=hQ h₂ (by rw[show i+(n+1)=i+1+n by lia];exact hit₂) (hs₁.trans hs₂)
  rw[hd,jW] at this
  exact this
theorem qB{s:Shared}{t:Addr}{items:Array Value}{Q:List Value->Shared->Prop}(hh:A.handled=none)(ht:s.heap.IsList t items)
  (hQ:∀h':Heap,Heap.ExtBut s.heap.objs.size s.heap h'->Q items.toList {s with heap:=h'}):wpAny (model prog w) A (unpackItems (.ref t) items.size none) Q E s:=by
 have hlt:t≠s.heap.objs.size:=by obtain⟨o,ho,_⟩:=ht;exact aV (aJ ho)
 unfold unpackItems
 refine wpAny_bind ?_
 ·unfold notIterableAtAll
  refine wpAny_bind (wpAny_specialOf ht.typeIs slot_list_iter.lookup ?_)
  refine wpAny_pure ?_
  simp only[Bool.false_eq_true,if_false]
  refine wpAny_bind (wpAny_holding (wpAny_pyIter_list ht ?_))
  refine wpAny_bind (wpAny_holding (tQ hlt items.size 0 _ _ ⟨_,aQ _ rfl,rfl,rfl⟩ (ht.push _) (by lia) λh₁ hit₁ hs₁=>?_))
  have hall:List.take items.size (List.drop 0 items.toList)=items.toList:=by
   rw[m8];exact eJ (by simp)
  rw[hall]
  rw[if_neg (by simp)]
  have ht₁:h₁.IsList t items:=(ht.push _).extBut hs₁.extBut hlt
  refine wpAny_bind (wpAny_holding (wpAny_pyNext_list_end hh hit₁ ht₁ (by simp) λh₂ he₂=>?_))
  simp only[Option.isSome_none,Bool.false_eq_true,if_false]
  refine wpAny_pure (hQ h₂ λb o hb e=>he₂ b o hb (hs₁.extBut b o hb (aA _ e)))
end
section
variable{X:Cx}{pos:Pos}
def EH(K:Fg)(n:Nat)(t:CC):TG:=λv σ H Q=>∃a xs,v=.ref a/\cq K H a xs/\xs.length=n/\t xs σ H Q
theorem HY{es:List Expr}{k:Nat}{t:CC}{n:Nat}(hc:X.calm=true)(h:K9 X es t)
  (hn:(assignEach es X.env).length=n:=by rfl) (hst:(assignEach es X.env).findIdx? (·.1)=none:=by rfl):PG X (.Tuple es k pos) (EH X.K n t):=by
 intro pins s σ H v u Q I r hw
 obtain⟨a,xs,e1,hq,hl,hw⟩:=hw
 subst e1
 cases r
 obtain⟨its,rv,ht,hz⟩:=I.list hq
 rw[assign_Tuple]
 refine wpAny_bind (wpAny_standAt ?_)
 unfold unpack
 have e:(assignEach es X.env).length=its.toArray.size:=by simp[hn,<-hl,rv.length]
 rw[e,hst]
 refine wpAny_bind (wpAny_holding (qB (I.ok.hd hc) ht.isList λh' hx=>?_))
 have I1:bU X pins σ H {s with heap:=h'}:=I.kept (t':=s.toks) λb o e=>hx b o (aV (aJ e)) e
 exact h pins _ σ H xs _ Q I1 (by simpa using rv) hw
end
def L5:R2:=λx y H Q=>∃i j,x=.str i/\y=.str j/\i.length+j.length<=sizeLine/\Q (.str (i++j)) H
def dA(K:Fg):R2:=λx y H Q=>Eb (λi j=>.int (i+j)) x y H Q\/(L5 x y H Q\/(LV x y H Q\/Jk K x y H Q))
def uj:R2:=Eb λi j=>.int (i-j)
def jo(K:Fg):R2:=λx y H Q=>rI GS (λi j=>.int (i*j)) x y H Q\/Jn K x y H Q
def lh:R2:=rI (λ_ j=>0<j) λi j=>.int (i % j)
def AR:R2:=rI Lc λi j=>.int (i / j)
def BO:R2:=rI Le λi j=>.int (i ^ j.toNat)
def i7(K:Fg):R2:=λx y H Q=>MR x y H Q\/(ID K false x y H Q\/(Jl K x y H Q\/IC K false x y H Q))
def xt(K:Fg):R2:=λx y H Q=>MS x y H Q\/(ID K true x y H Q\/IC K true x y H Q)
def xr:R2:=Eb λi j=>.bl (decide (i<j))
def u9:R2:=Eb λi j=>.bl (decide (j<i))
def Mx:R2:=Eb λi j=>.bl (decide (j<=i))
def KH:R2:=λx y H Q=>y=.non/\Q (.bl (decide (x=.non))) H
def yQ:R2:=λx y H Q=>y=.non/\Q (.bl (!decide (x=.non))) H
def MA:V->Hp->VK->Prop:=rU λi=>.int (-i)
def zS(K:Fg):V->Option Int->Option Int->Hp->VK->Prop:=λx lo hi H Q=>L3 K x lo hi H Q\/L4 K x lo hi H Q
def iO(K:Fg):List V->Hp->VK->Prop:=λxs H Q=>∃x n,xs=[x]/\Lj K x H n/\Q (.int n) H
def IB:List V->Hp->VK->Prop:=λxs H Q=>∃i j,xs=[.int i,.int j]/\(0<j/\j<2 ^ 64)/\∀p,H p=none->Q (.ref p) (upd H p (.tup [.int (i / j),.int (i % j)]))
def L0:List V->Hp->VK->Prop:=λxs H Q=>∃i j,xs=[.int i,.int j]/\Q (.int (if j>i then j else i)) H
def L1:List V->Hp->VK->Prop:=λxs H Q=>∃i j,xs=[.int i,.int j]/\Q (.int (if j<i then j else i)) H
def MB(K:Fg):List V->Hp->VK->Prop:=λxs H Q=>∃(p:Addr) (ns:List Int),xs=[.ref p]/\cq K H p (ns.map V.int)/\∀z:Int,Q (.int z) H
def Mz(K:Fg):List V->Hp->VK->Prop:=λxs H Q=>∃x T b,xs=[x,.ty T]/\uU K H x T b/\Q (.bl b) H
def FL:List V->Hp->VK->Prop:=λxs H Q=>(∃i,xs=[.int i]/\Q (.int i) H)\/∃k,xs=[.bl k]/\Q (.int (if k then 1 else 0)) H
def sT(K:Fg):List V->Hp->VK->Prop:=λxs H Q=>∃p ys,xs=[.ref p]/\(cq K H p ys\/dC K H p ys)/\∀l,H l=none->Q (.ref l) (upd H l (.lst ys))
def e7(K:Fg):List V->Hp->VK->Prop:=λxs H Q=>∃p ys,xs=[.ref p]/\((cq K H p ys/\∀l,H l=none->Q (.ref l) (upd H l (.tup ys)))\/(dC K H p ys/\Q (.ref p) H))
def iN(K:Fg)(tl:TE):TI:=λσ H R=>Jj K tl σ H R\/Lw K tl σ H R
section
variable{X:Cx}
theorem cv:jX X (binaryOp .Add) (dA X.K):=J6.or (AK.or (J7.or HH))
theorem gC:jX X (binaryOp .Mult) (jo X.K):=Kd.or HM
theorem dP(hu:X.A.units<cLine):jX X (compareOp .Eq) (i7 X.K):=LH.or ((Ka hu).or ((HJ hu).or (J8 hu)))
theorem nA(hu:X.A.units<cLine):jX X (compareOp .NotEq) (xt X.K):=LJ.or ((Kg hu).or (Ke hu))
theorem jq:GZ X (zS X.K):=IR.or KW
theorem Kt{tg l:Expr}{tl:TE}(hl:PE X l tl):PI X tg l (iN X.K tl):=by
 intro pins s σ H R I h
 rcases h with h|h
 ·exact Ic hl pins s σ H R I h
 ·exact Ku hl pins s σ H R I h
end
structure aI(P:Program)(w:World)(K:Fg)(mg:Str->Option Value)(base:Heap)(x:Str)(ps:List Str)(k:Nat)(sp:Sp):Prop where
 ex:∃(f:Addr) (fd:FuncData),mg x=some (.ref f)/\aK K (.ref f)=true/\nc K fd ps []/\eG P w K mg base fY k f fd ps sp
theorem LM{X:Cx}{x:Str}{ps:List Str}{k:Nat}{sp:Sp}{e:Expr}{es:List Expr}{t:TA}{p pos:Pos}(c:aI X.prog X.w X.K X.mg X.base x ps k sp)(hr:dh k X.A)(hg:Gl X x)(ha:PA X (e::es) t)
  (hdb:(x==("__debug__":Str))=false:=by decide) (he:starEach (e::es) X.env=(false,eval e X.env)::starEach es X.env:=by rfl) (hpl:(backTo pos (starEach es X.env)).any (·.1)=false:=by rfl) :
  PE X (.Call (.Name x p) (e::es) [] pos) (bL sp [] E0 t):=by
 obtain⟨f,fd,hm,hk,hb,F⟩:=c.ex
 exact BK F hr hg hm hk hb .nil Fm ha hdb he hpl
structure gL(mg:Str->Option Value):Prop where
 len_:mg "len"=none
 range_:mg "range"=none
 divmod_:mg "divmod"=none
 max_:mg "max"=none
 min_:mg "min"=none
 sum_:mg "sum"=none
 all_:mg "all"=none
 isinstance_:mg "isinstance"=none
 int_:mg "int"=none
 bool_:mg "bool"=none
 list_:mg "list"=none
 tuple_:mg "tuple"=none
 enumerate_:mg "enumerate"=none
 zip_:mg "zip"=none
 sorted_:mg "sorted"=none
 set_:mg "set"=none
 dict_:mg "dict"=none
 str_:mg "str"=none
 any_:mg "any"=none
 reversed_:mg "reversed"=none
 abs_:mg "abs"=none
def fP(a:Addr)(H H':Hp):Prop:=∀b o,b≠a->H b=some o->H' b=some o
theorem fP.refl(a:Addr)(H:Hp):fP a H H:=λ_ _ _ h=>h
theorem fP.trans{a:Addr}{H H1 H2:Hp}(x:fP a H H1)(y:fP a H1 H2):fP a H H2:=λc o n h=>y c o n (x c o n h)
theorem aT.but{a:Addr}{H H':Hp}(x:aT H H'):fP a H H':=λb o _ h=>x b o h
theorem fP.upd_at{a:Addr}{H:Hp}{o:HO}:fP a H (upd H a o):=λb u n h=>by rw[ax n];exact h
theorem fP.new{a p:Addr}{H H1:Hp}{o:HO}(x:fP a H H1)(hp:H1 p=none):fP a H (upd H1 p o):=λb u n h=>by
 rw[ax (ak (x b u n h) hp)];exact x b u n h
theorem aT.new{p:Addr}{H H1:Hp}{o:HO}(x:aT H H1)(hp:H1 p=none):aT H (upd H1 p o):=λb u h=>by
 rw[ax (ak (x b u h) hp)];exact x b u h
theorem fP.free{a p:Addr}{H H':Hp}(x:fP a H H')(n:p≠a)(h:H' p=none):H p=none:=by
 cases q:H p with
 |none=>rfl
 |some o=>rw[x p o n q] at h;cases h
theorem tN{js:List Nat}{k:Nat}{lo:Int}{n:Nat}{g:TG}{tc:TT}{te:TE}{R:Hp->Prop}{σ:St}{H:Hp}{D:Addr}(Pv:Nat->St->Hp->Prop)(h0:Pv 0 (xP js k σ) (upd H D (.lst [])))
  (hs:∀i σ H,i<n->Pv i σ H->g (.int (lo+i)) σ H λσ2 H2=>p0 D tc te {nx:=Pv (i+1),rt:=λ_ _=>False,ct:=Pv (i+1),bk:=λ_ H'=>R H'} σ2 H2) (hd:∀σ H,Pv n σ H->R H) :
  ∃W:Nat->Nat->St->Hp->Prop,(∃m,W 0 m (xP js k σ) (upd H D (.lst [])))/\∀i m σ H,W i m σ H->
   ((GN lo n).stop i H/\R H)\/((GN lo n).go i H/\∃N:St->Hp->Prop,(∀σ' H',N σ' H'->∃m',m'<m/\W (i+1) m' σ' H')/\∀x H',(GN lo n).yld i H x H'->g x σ H' λσ2 H2=>p0 D tc te {nx:=N,rt:=λ_ _=>False,ct:=N,bk:=λ_ H'=>R H'} σ2 H2):=
 kf (D:={nx:=λ_ H'=>R H',rt:=λ_ _=>False}) Pv h0 hs hd
theorem iK{js:List Nat}{k:Nat}{K:Fg}{a:Addr}{xs:List V}{g:TG}{tc:TT}{te:TE}{R:Hp->Prop}{σ:St}{H:Hp}{D:Addr}(Pv:Nat->St->Hp->Prop)(h0:Pv 0 (xP js k σ) (upd H D (.lst [])))(hl:∀i σ H,i<=xs.length->Pv i σ H->cq K H a xs)
  (hs:∀i x σ H,xs[i]?=some x->Pv i σ H->g x σ H λσ2 H2=>p0 D tc te {nx:=Pv (i+1),rt:=λ_ _=>False,ct:=Pv (i+1),bk:=λ_ H'=>R H'} σ2 H2) (hd:∀σ H,Pv xs.length σ H->R H) :
  ∃W:Nat->Nat->St->Hp->Prop,(∃m,W 0 m (xP js k σ) (upd H D (.lst [])))/\∀i m σ H,W i m σ H->
   ((Jd K a).stop i H/\R H)\/((Jd K a).go i H/\∃N:St->Hp->Prop,(∀σ' H',N σ' H'->∃m',m'<m/\W (i+1) m' σ' H')/\∀x H',(Jd K a).yld i H x H'->g x σ H' λσ2 H2=>p0 D tc te {nx:=N,rt:=λ_ _=>False,ct:=N,bk:=λ_ H'=>R H'} σ2 H2):=
 gQ (D:={nx:=λ_ H'=>R H',rt:=λ_ _=>False}) Pv h0 hl hs hd
theorem pJ{js:List Nat}{k:Nat}{K:Fg}{a:Addr}{xs:List V}{g:TG}{tc:TT}{te:TE}{R:Hp->Prop}{σ:St}{H:Hp}{D:Addr}(Pv:Nat->St->Hp->Prop)(h0:Pv 0 (xP js k σ) (upd H D (.lst [])))(hl:∀i σ H,i<=xs.length->Pv i σ H->dC K H a xs)
  (hs:∀i x σ H,xs[i]?=some x->Pv i σ H->g x σ H λσ2 H2=>p0 D tc te {nx:=Pv (i+1),rt:=λ_ _=>False,ct:=Pv (i+1),bk:=λ_ H'=>R H'} σ2 H2) (hd:∀σ H,Pv xs.length σ H->R H) :
  ∃W:Nat->Nat->St->Hp->Prop,(∃m,W 0 m (xP js k σ) (upd H D (.lst [])))/\∀i m σ H,W i m σ H->
   ((Je K a).stop i H/\R H)\/((Je K a).go i H/\∃N:St->Hp->Prop,(∀σ' H',N σ' H'->∃m',m'<m/\W (i+1) m' σ' H')/\∀x H',(Je K a).yld i H x H'->g x σ H' λσ2 H2=>p0 D tc te {nx:=N,rt:=λ_ _=>False,ct:=N,bk:=λ_ H'=>R H'} σ2 H2):=
 mi (D:={nx:=λ_ H'=>R H',rt:=λ_ _=>False}) Pv h0 hl hs hd
theorem fP.through{a l:Addr}{H H1 H2:Hp}{o:HO}(x:fP a H H1)(hl:H1 l=none)(y:fP l (upd H1 l o) H2):fP a H H2:=λb u n h=>by
 have h1:=x b u n h
 have nl:b≠l:=ak h1 hl
 exact y b u nl (by rw[ax nl];exact h1)
section
variable{κ:Type}[DecidableEq κ]
def gM(kvs:List (κ×V))(k:κ):Option V:=(kvs.find? λkv=>decide (kv.1=k)).map (·.2)
def iF(kvs:List (κ×V))(k:κ)(v:V):List (κ×V):=
 if(kvs.any λkv=>decide (kv.1=k))=true then kvs.map (λkv=>if kv.1=k then(kv.1,v) else kv) else kvs++[(k,v)]
theorem GL{k:κ}:gM ([]:List (κ×V)) k=none:=rfl
theorem qD{p:κ×V}{r:List (κ×V)}{k:κ}(e:p.1=k):gM (p::r) k=some p.2:=by simp[gM,fk,e]
theorem nM{p:κ×V}{r:List (κ×V)}{k:κ}(e:¬p.1=k):gM (p::r) k=gM r k:=by simp[gM,fk,e]
theorem qC(k:κ):∀kvs:List (κ×V),(kvs.any λkv=>decide (kv.1=k))=(gM kvs k).isSome
 |[]=>rfl
 |p::r=>by
  rw[jw]
  by_cases e:p.1=k
  ·simp only[qD e,decide_eq_true e,Bool.true_or,Option.isSome_some]
  ·rw[nM e,decide_eq_false e,Bool.false_or];exact qC k r
theorem lg(kvs:List (κ×V))(k:κ)(v:V):(iF kvs k v).length<=kvs.length+1:=by
 unfold iF
 split
 ·rw[ae];lia
 ·rw[ay,bG,ef];lia
theorem pV{kvs:List (κ×V)}{k:κ}(v:V)(h:gM kvs k=none):iF kvs k v=kvs++[(k,v)]:=by
 unfold iF
 rw[qC,h]
 exact if_neg (by decide)
theorem pG.isSome_eq{o:Option V}{u:Option Value}(r:pG o u):o.isSome=u.isSome:=by
 cases o with
 |none=>cases u with
  |none=>rfl
  |some _=>exact(show False from r).elim
 |some _=>cases u with
  |none=>exact(show False from r).elim
  |some _=>rfl
theorem KV.val{kvs:List (κ×V)}{vs:List (κ×Value)}(r:KV kvs vs)(k:κ):pG (gM kvs k) (valueAt vs k):=by
 unfold KV at r
 induction r with
 |nil=>exact True.intro
 |@cons p q ps qs h t ih=>
  obtain⟨h1,h2⟩:=h
  by_cases e:p.1=k
  ·have e':q.1=k:=h1.symm.trans e
   have b:valueAt (q::qs) k=some q.2:=by simp[valueAt,fk,e']
   rw[qD e,b];exact h2
  ·have e':¬q.1=k:=λz=>e (h1.trans z)
   have b:valueAt (q::qs) k=valueAt qs k:=by simp[valueAt,fk,e']
   rw[nM e,b];exact ih
theorem KV.any{kvs:List (κ×V)}{vs:List (κ×Value)}(r:KV kvs vs)(k:κ):(kvs.any λkv=>decide (kv.1=k))=vs.any λkv=>decide (kv.1=k):=by
 unfold KV at r
 induction r with
 |nil=>rfl
 |cons h t ih=>rw[jw,jw,ih,h.1]
theorem KV.repl{kvs:List (κ×V)}{vs:List (κ×Value)}(r:KV kvs vs)(k:κ){y:V}{u:Value}(ry:cJ y u) :
  KV (kvs.map λkv=>if kv.1=k then(kv.1,y) else kv) (vs.map λkv=>if kv.1=k then(kv.1,u) else kv):=by
 unfold KV at r ⊢
 induction r with
 |nil=>exact .nil
 |@cons p q ps qs h t ih=>
  rw[bq,bq]
  refine .cons ?_ ih
  obtain⟨h1,h2⟩:=h
  by_cases e:p.1=k
  ·rw[if_pos e,if_pos (h1.symm.trans e)];exact⟨h1,ry⟩
  ·rw[if_neg e,if_neg (λz=>e (h1.trans z))];exact⟨h1,h2⟩
theorem KV.put{kvs:List (κ×V)}{vs:List (κ×Value)}(r:KV kvs vs)(k:κ){y:V}{u:Value}(ry:cJ y u):KV (iF kvs k y) (stored vs k u):=by
 unfold iF stored
 rw[r.any k]
 by_cases e:(vs.any λkv=>decide (kv.1=k))=true
 ·rw[if_pos e,if_pos e];exact r.repl k ry
 ·rw[if_neg e,if_neg e];exact Paired.snoc r ⟨rfl,ry⟩
theorem KV.keys{kvs:List (κ×V)}{vs:List (κ×Value)}(r:KV kvs vs):kvs.map (·.1)=vs.map (·.1):=by
 unfold KV at r
 induction r with
 |nil=>rfl
 |cons h t ih=>rw[bq,bq,ih,h.1]
theorem KV.length{kvs:List (κ×V)}{vs:List (κ×Value)}(r:KV kvs vs):kvs.length=vs.length:=Paired.length r
end
theorem rp{P:Program}{w:World}{k:dS}{u:Value}(r:cJ (kV k) u):(dq P w).is k u=true:=by
 cases k with
 |inl i=>obtain⟨t,e⟩:=(show ∃t,u=Value.int i t from r);subst e;exact yC P w i t
 |inr x=>obtain⟨t,e⟩:=(show ∃t,u=Value.str x t from r);subst e;exact yD P w x t
theorem vL{P:Program}{w:World}:∀{ks:List dS} {us:List Value},cu (ks.map kV) us->ItemsAre (dq P w) ks us
 |[],_,r=>by rw[cy] at r;cases r;exact .nil
 |k::ks,_,r=>by
  rw[bq] at r
  cases r with
  |cons h t=>exact .cons (rp h) (vL t)
abbrev KT(H:Hp):List (List dS×V)->List (List dS×Addr×Value)->Prop:=Paired λp q=>p.1=q.1/\H q.2.1=some (.tup (p.1.map kV))/\cJ p.2 q.2.2
theorem KT.val{H:Hp}{kvs:List (List dS×V)}{xs:List (List dS×Addr×Value)}(r:KT H kvs xs)(k:List dS):pG (gM kvs k) ((atKey xs k).map (·.2)):=by
 induction r with
 |nil=>exact True.intro
 |@cons p q ps qs h t ih=>
  obtain⟨h1,_,h2⟩:=h
  by_cases e:p.1=k
  ·have e':q.1=k:=h1.symm.trans e
   have b:atKey (q::qs) k=some q.2:=by simp[atKey,fk,e']
   rw[qD e,b];exact h2
  ·have e':¬q.1=k:=λz=>e (h1.trans z)
   have b:atKey (q::qs) k=atKey qs k:=by simp[atKey,fk,e']
   rw[nM e,b];exact ih
theorem KT.repl{H:Hp}{kvs:List (List dS×V)}{xs:List (List dS×Addr×Value)}(r:KT H kvs xs)(k:List dS){y:V}{u:Value}(ry:cJ y u) :
  KT H (kvs.map λkv=>if kv.1=k then(kv.1,y) else kv) (xs.map (putAt k u)):=by
 induction r with
 |nil=>exact .nil
 |@cons p q ps qs h t ih=>
  rw[bq,bq]
  refine .cons ?_ ih
  obtain⟨h1,h2,h3⟩:=h
  unfold putAt
  by_cases e:p.1=k
  ·rw[if_pos e,if_pos (h1.symm.trans e)];exact⟨h1,h2,ry⟩
  ·rw[if_neg e,if_neg (λz=>e (h1.trans z))];exact⟨h1,h2,h3⟩
theorem KT.put{H:Hp}{kvs:List (List dS×V)}{xs:List (List dS×Addr×Value)}(r:KT H kvs xs)(k:List dS){b:Addr}{y:V}{u:Value}(hb:H b=some (.tup (k.map kV)))(ry:cJ y u) :
  KT H (iF kvs k y) (storedH xs k b u):=by
 have e:(kvs.any λkv=>decide (kv.1=k))=(atKey xs k).isSome:=by
  rw[qC,(r.val k).isSome_eq,kH]
 unfold iF storedH
 rw[e]
 by_cases q:(atKey xs k).isSome=true
 ·rw[if_pos q,if_pos q];exact r.repl k ry
 ·rw[if_neg q,if_neg q];exact Paired.snoc r ⟨rfl,hb,ry⟩
theorem KT.keeps{H H':Hp}{kvs:List (List dS×V)}{xs:List (List dS×Addr×Value)}(r:KT H kvs xs)(ht:∀b ys,H b=some (.tup ys)->H' b=some (.tup ys)):KT H' kvs xs:=
 Paired.mapP r λ_ _ z=>⟨z.1,ht _ _ z.2.1,z.2.2⟩
section
variable{P:Program}{w:World}{H:Hp}{h:Heap}{a:Addr}
theorem Jo{u:HO}(ok:pj P w H h)(e:Rd H a u):fH P w H h a u:=e.ok ok
theorem rj{kvs:List (dS×V)}(ok:pj P w H h)(e:Rd H a (.dK kvs)):kvs.length<=sizeLine/\(a==sysModules)=false/\∃vs,KV kvs vs/\h.DictOf (dq P w) a vs:=
 show fH P w H h a (.dK kvs) from Jo ok e
theorem pL{kvs:List (dS×V)}(ok:pj P w H h)(e:H a=some (.dK kvs)):kvs.length<=sizeLine/\(a==sysModules)=false/\∃vs,KV kvs vs/\h.DictOf (dq P w) a vs:=rj ok (.inl e)
theorem tZ{ks:List dS}(ok:pj P w H h)(e:H a=some (.tup (ks.map kV))):(tupleKind (dq P w)).is h ks a:=by
 obtain⟨_,its,r,o,h1,h2,n,h3⟩:=(show fH P w H h a (.tup (ks.map kV)) from ok a _ e)
 exact⟨o,its.toArray,n,h1,h2.1,h3,by simpa using vL r⟩
theorem vG{kvs:List (List dS×V)}(ok:pj P w H h)(e:Rd H a (.dT kvs)):kvs.length<=sizeLine/\(a==sysModules)=false/\
  ∃xs,KT H kvs xs/\h.DictOfH (tupleKind (dq P w)) a xs:=by
 obtain⟨z,y,xs,r,o,es,ep,h1,h2,h3,h4,h5⟩:=(show fH P w H h a (.dT kvs) from Jo ok e)
 refine⟨z,y,xs,r,o,es,ep,h1,h2,h3,h4,λx hx=>?_,h5⟩
 have all:∀{l:List (List dS×V)} {m:List (List dS×Addr×Value)},KT H l m->∀x∈m,(tupleKind (dq P w)).is h x.1 x.2.1:=by
  intro l m q
  induction q with
  |nil=>intro x hx;exact nomatch hx
  |@cons p q ps qs hq t ih=>
   intro x hx
   rcases aN.mp hx with e|hx
   ·subst e
    exact tZ ok (by rw[<-hq.1];exact hq.2.1)
   ·exact ih x hx
 exact all r x hx
theorem Lv{kvs:List (List dS×V)}(ok:pj P w H h)(e:H a=some (.dT kvs)):kvs.length<=sizeLine/\(a==sysModules)=false/\
  ∃xs,KT H kvs xs/\h.DictOfH (tupleKind (dq P w)) a xs:=vG ok (.inl e)
end
def ng(H:Hp)(a:Addr)(y:V)(r:Option V):Prop:=
 (∃kvs k,Rd H a (.dK kvs)/\y=kV k/\r=gM kvs k)\/∃kvs k b,Rd H a (.dT kvs)/\y=.ref b/\H b=some (.tup (k.map kV))/\r=gM kvs k
def xR(H:Hp)(a:Addr)(y v:V)(H':Hp):Prop:=
 (∃kvs k,H a=some (.dK kvs)/\y=kV k/\kvs.length<sizeLine/\H'=upd H a (.dK (iF kvs k v)))\/
 ∃kvs k b,H a=some (.dT kvs)/\y=.ref b/\H b=some (.tup (k.map kV))/\kvs.length<sizeLine/\H'=upd H a (.dT (iF kvs k v))
theorem ng.k{H:Hp}{a:Addr}{kvs:List (dS×V)}{k:dS}(e:H a=some (.dK kvs)):ng H a (kV k) (gM kvs k):=.inl ⟨kvs,k,.inl e,rfl,rfl⟩
theorem xR.k{H:Hp}{a:Addr}{kvs:List (dS×V)}{k:dS}{v:V}(e:H a=some (.dK kvs))(hl:kvs.length<sizeLine):xR H a (kV k) v (upd H a (.dK (iF kvs k v))):=.inl ⟨kvs,k,e,rfl,hl,rfl⟩
section
variable{X:Cx}{pins:List (Addr×Obj)}{σ:St}{H:Hp}{s:Shared}{a:Addr}{y v:V}{u r:Value}{o:Option V}{A:Around}{E:Value->Shared->Prop}
theorem bU.big(I:bU X pins σ H s):sysModules<s.heap.objs.size:=by
 have h:mainGlobals<s.heap.objs.size:=(I.mod.glob.keeps I.bk).lt
 exact px (by decide) h
theorem CJ{Q:Value->Shared->Prop}(hu:A.units+1<cLine)(I:bU X pins σ H s)(g:ng H a y (some v))(ry:cJ y u)(h:∀w' s',bU X pins σ H s'->cJ v w'->Q w' s') :
  wpAny (model X.prog X.w) A (getItem (.ref a) u) Q E s:=by
 rcases g with⟨kvs,k,e,ey,l⟩|⟨kvs,k,b,e,ey,eb,l⟩
 ·subst ey
  obtain⟨z,hd,vs,rel,dd⟩:=rj I.hok e
  obtain⟨w',hw,rw'⟩:=pG.some_of (v:=v) (o:=valueAt vs k) (by rw[l];exact rel.val k)
  exact wpAny_getItem_of (rp ry) dd.mapOf hw (h w' _ (I.tok _) rw')
 ·subst ey
  cases(show u=Value.ref b from ry)
  obtain⟨z,hd,xs,rel,dd⟩:=vG I.hok e
  obtain⟨w',hw,rw'⟩:=pG.some_of (v:=v) (o:=(atKey xs k).map (·.2)) (by rw[l];exact rel.val k)
  obtain⟨p,hp,hp2⟩:=Option.map_eq_some_iff.mp hw
  refine wpAny_getItem_heap (tupleKind_room_in1 hu) (tZ I.hok eb) dd hp ?_
  rw[hp2]
  exact h w' _ (I.tok _) rw'
theorem Mt{Q:Value->Shared->Prop}(hu:A.units+1<cLine)(I:bU X pins σ H s)(g:ng H a y o)(ry:cJ y u)(h:∀s',bU X pins σ H s'->Q (.bool o.isSome) s') :
  wpAny (model X.prog X.w) A (compareOp .In u (.ref a)) Q E s:=by
 rcases g with⟨kvs,k,e,ey,l⟩|⟨kvs,k,b,e,ey,eb,l⟩
 ·subst ey
  obtain⟨z,hd,vs,rel,dd⟩:=rj I.hok e
  refine wpAny_in_of (rp ry) hd dd.mapOf ?_
  rw[<-(rel.val k).isSome_eq,<-l]
  exact h _ (I.tok _)
 ·subst ey
  cases(show u=Value.ref b from ry)
  obtain⟨z,hd,xs,rel,dd⟩:=vG I.hok e
  refine wpAny_in_heap (tupleKind_room_in1 hu) (tZ I.hok eb) hd dd ?_
  have q:=(rel.val k).isSome_eq
  rw[kH] at q
  rw[<-q,<-l]
  exact h _ (I.tok _)
theorem G7{Q:Value->Shared->Prop}(hu:A.units+1<cLine)(I:bU X pins σ H s)(g:ng H a y o)(ry:cJ y u)(h:∀s',bU X pins σ H s'->Q (.bool (!o.isSome)) s') :
  wpAny (model X.prog X.w) A (compareOp .NotIn u (.ref a)) Q E s:=by
 rcases g with⟨kvs,k,e,ey,l⟩|⟨kvs,k,b,e,ey,eb,l⟩
 ·subst ey
  obtain⟨z,hd,vs,rel,dd⟩:=rj I.hok e
  refine wpAny_notIn_of (rp ry) hd dd.mapOf ?_
  rw[<-(rel.val k).isSome_eq,<-l]
  exact h _ (I.tok _)
 ·subst ey
  cases(show u=Value.ref b from ry)
  obtain⟨z,hd,xs,rel,dd⟩:=vG I.hok e
  refine wpAny_notIn_heap (tupleKind_room_in1 hu) (tZ I.hok eb) hd dd ?_
  have q:=(rel.val k).isSome_eq
  rw[kH] at q
  rw[<-q,<-l]
  exact h _ (I.tok _)
theorem sM{h':Heap}{t':Nat}{ob:HO}(I:bU X pins σ H s)(mu:Lk (H a))(hs:Heap.SameBut a s.heap h')(he:∃q,h'.get? a=some q)(new:fH X.prog X.w (upd H a ob) h' a ob) :
  bU X pins σ (upd H a ob) {s with heap:=h',toks:=t'}:=
 I.write (x:=a) (e:=a) mu (.inl rfl) (λb q hb z=>(hs.2 b hb).trans z) he new
theorem wW{P:Program}{w:World}{H':Hp}{h':Heap}{kvs:List (dS×V)}{vs:List (dS×Value)}(z:kvs.length<=sizeLine)(hd:(a==sysModules)=false)(rel:KV kvs vs)(dd:h'.DictOf (dq P w) a vs) :
  fH P w H' h' a (.dK kvs):=⟨z,hd,vs,rel,dd⟩
theorem CP{H':Hp}{Q:Unit->Shared->Prop}(hu:A.units+1<cLine)(I:bU X pins σ H s)(g:xR H a y v H')(ry:cJ y u)(rv:cJ v r)(h:∀s',bU X pins σ H' s'->Q () s') :
  wpAny (model X.prog X.w) A (setItem (.ref a) u r) Q E s:=by
 rcases g with⟨kvs,k,e,ey,l,eH⟩|⟨kvs,k,b,e,ey,eb,l,eH⟩
 ·subst ey eH
  obtain⟨z,hd,vs,rel,dd⟩:=pL I.hok e
  have hz:vs.length<=sizeLine:=by rw[<-rel.length];exact z
  have hl:(iF kvs k v).length<=sizeLine:=by have:=lg kvs k v;lia
  refine wpAny_setItem_pairs (hsz:=hz) (rp ry) dd λh' dd' hs=>h _ ?_
  have he:∃q,h'.get? a=some q:=let⟨q,_,_,hq,_⟩:=dd';⟨q,hq⟩
  exact sM I (by rw[e];exact True.intro) hs he (wW hl hd (rel.put k rv) dd')
 ·subst ey eH
  cases(show u=Value.ref b from ry)
  obtain⟨z,hd,xs,rel,dd⟩:=Lv I.hok e
  have hz:xs.length<=sizeLine:=by rw[<-Paired.length rel];exact z
  have hl:(iF kvs k v).length<=sizeLine:=by have:=lg kvs k v;lia
  refine wpAny_setItem_heap (hsz:=hz) (tupleKind_room_in1 hu) (tZ I.hok eb) dd λh' dd' hs=>h _ ?_
  obtain⟨q,es,ep,hq,h2,h3,h4,_,h5⟩:=dd'
  refine sM I (by rw[e];exact True.intro) hs ⟨q,hq⟩ ⟨hl,hd,_,(rel.put k eb rv).keeps λc ys ec=>?_,q,es,ep,hq,h2,h3,h4,h5⟩
  rw[ax (iL ec e (λz=>nomatch z))]
  exact ec
end
section
variable{X:Cx}{pins:List (Addr×Obj)}{σ:St}{H:Hp}{s:Shared}{a:Addr}{kvs:List (dS×V)}{k:dS}{u:Value}{A:Around}{E:Value->Shared->Prop}
end
def Ju(i:Expr):Prop:=∀ov iv,subscripted i false ov iv=operate [ov,iv] (getItem ov iv)
theorem IU{prog:Program}{w:World}{A:Around}{E:Value->Shared->Prop}{s:Shared}{env:Env}{value slice:Expr}{pos:Pos}{T id:String}{Q:Value->Shared->Prop}
  (hl:typeLookup (.type T) "__getitem__"=pure (some (.builtin id))) (hs:Ju slice)
  (h:wpAny (model prog w) A (eval value env) (λo s₁=>wpAny (model prog w) A (eval slice env) (λi s₂=>s₂.TypeIs o T/\wpAny (model prog w) A (getItem o i) Q E s₂) E s₁) E s) :
  wpAny (model prog w) A (eval (.Subscript value slice pos) env) Q E s:=by
 refine Subscript_ (wpAny_mono h (λo s₁ h₁=>wpAny_mono h₁ (λi s₂ h₂=>?_) λ_ _ x=>x) λ_ _ x=>x)
 obtain⟨hT,h₂⟩:=h₂
 unfold subscriptTail
 refine wpAny_bind ?_
 rw[getitemInPython_of_ne hT.not_modules]
 refine wpAny_bind (wpAny_specialOf hT hl ?_)
 have fin:wpAny (model prog w) A (subscripted slice false o i) (λr s₃=>wpAny (model prog w) A (letTemporaryGo value o r >>= λ_=>pure r) Q E s₃) E s₂:=by
  rw[hs o i]
  exact wpAny_operating (wpAny_mono h₂ (λr s₃ h₃=>wpAny_bind (wpAny_letTemporaryGo (wpAny_pure h₃))) λ_ _ x=>x)
 first
  |exact wpAny_pure (wpAny_bind fin)
  |exact wpAny_bind (wpAny_pure (wpAny_bind fin))
  |exact wpAny_bind fin
theorem ye{X:Cx}{pins:List (Addr×Obj)}{σ:St}{H:Hp}{s:Shared}{a:Addr}{y:V}{o:Option V}(I:bU X pins σ H s)(g:ng H a y o):s.TypeIs (.ref a) "dict":=by
 rcases g with⟨kvs,k,e,_,_⟩|⟨kvs,k,b,e,_,_,_⟩
 ·obtain⟨_,_,vs,_,dd⟩:=rj I.hok e
  exact dd.typeIs
 ·obtain⟨_,_,xs,_,dd⟩:=vG I.hok e
  exact dd.typeIs
def mR(td ty:TE):TE:=λσ H Q=>td σ H λx H1=>ty σ H1 λy H2=>∃a v,x=.ref a/\ng H2 a y (some v)/\Q v H2
section
variable{X:Cx}{o i e value:Expr}{pos pos' tpos:Pos}{td ty tv:TE}
theorem HS(hu:X.A.units+1<cLine)(ho:PE X o td)(hi:PE X i ty)(hs:Ju i):PE X (.Subscript o i pos) (mR td ty):=by
 intro pins s σ H Q I h
 refine IU PySem.F.slot_dict_getitem.lookup hs (gd (ho pins s σ H _ I h) λu s1 ⟨x,H1,I1,rx,q1⟩=>gd (hi pins s1 σ H1 _ I1 q1) λiv s2 ⟨y,H2,I2,ry,a,v,ex,g,q2⟩=>?_)
 subst ex
 obtain rfl:u=Value.ref a:=rx
 exact⟨ye I2 g,CJ hu I2 g ry λw' s3 I3 rw'=>⟨v,H2,I3,rw',q2⟩⟩
end
theorem yf{P:Program}{w:World}{H:Hp}(h:Heap)(hb:sysModules<h.objs.size):fH P w H (h.push {cls:=.type "dict",data:=.dict #[]}) h.objs.size (.dK []):=
 ⟨cf _,beq_eq_false_iff_ne.mpr (Ne.symm (aV hb)),[],.nil,Heap.DictOf.new h⟩
def uz:TE:=λ_ H Q=>∀p,H p=none->Q (.ref p) (upd H p (.dK []))
section
variable{X:Cx}{pos:Pos}
theorem Fo:PE X (.Dict [] [] pos) uz:=λpins s σ H Q I h=>
 wpAny_Dict_empty ⟨.ref s.heap.objs.size,_,I.laid (a:=s.heap.objs.size) (o:=.dK []) (t':=s.toks) (λ_ _ q=>aA _ q) (aB _) (yf s.heap I.big),rfl,h _ (I.hok.fresh (aB _))⟩
end
def A3:List (TE×TE)->St->Hp->(List (V×V)->Hp->Prop)->Prop
 |[],_,H,Q=>Q [] H
 |(tk,tv)::r,σ,H,Q=>tk σ H λx H1=>tv σ H1 λy H2=>A3 r σ H2 λps H3=>Q ((x,y)::ps) H3
abbrev VV:List (V×V)->List (Value×Value)->Prop:=Paired λp q=>cJ p.1 q.1/\cJ p.2 q.2
def Lm(X:Cx)(pos:Pos)(keys:List (Option Expr))(values:List Expr)(trs:List (TE×TE)):Prop:=
 ∀(pins:List (Addr×Obj)) (s:Shared) (σ:St) (H:Hp) (Q:List (V×V)->Hp->Prop),bU X pins σ H s->A3 trs σ H Q->
  wpAny (model X.prog X.w) X.A (evalPairs (pairTrees keys values X.env pos)) (λvs s'=>∃ps H',bU X pins σ H' s'/\VV ps vs/\Q ps H') X.xe s
theorem Ij{X:Cx}{pos:Pos}:Lm X pos [] [] []:=λpins s σ H Q I h=>pairTrees_nil_walk ⟨[],H,I,.nil,h⟩
theorem Fx{X:Cx}{pos:Pos}{k v:Expr}{ks:List (Option Expr)}{vs:List Expr}{tk tv:TE}{trs:List (TE×TE)}(hk:PE X k tk)(hv:PE X v tv)(hr:Lm X pos ks vs trs) :
  Lm X pos (some k::ks) (v::vs) ((tk,tv)::trs):=λpins s σ H Q I h=>
 pairTrees_cons_walk (gd (hk pins s σ H _ I h) λu s1 ⟨x,H1,I1,rx,q1⟩=>gd (hv pins s1 σ H1 _ I1 q1) λw2 s2 ⟨y,H2,I2,ry,q2⟩=>
  gd (hr pins s2 σ H2 _ I2 q2) λws s3 ⟨ps,H3,I3,rel,q3⟩=>⟨(x,y)::ps,H3,I3,.cons ⟨rx,ry⟩ rel,q3⟩)
def gq(kvs more:List (dS×V)):List (dS×V):=more.foldl (λacc kv=>iF acc kv.1 kv.2) kvs
theorem KV.merge:∀{more:List (dS×V)} {rs:List (dS×Value)} {kvs:List (dS×V)} {vs:List (dS×Value)},KV more rs->KV kvs vs->KV (gq kvs more) (merged vs rs):=by
 intro more rs kvs vs r
 unfold KV at r
 induction r generalizing kvs vs with
 |nil=>intro q;exact q
 |@cons p q ps qs h t ih=>
  intro r0
  have e:KV (iF kvs p.1 p.2) (stored vs q.1 q.2):=by
   have:=r0.put p.1 h.2
   rw[<-h.1];exact this
  exact ih e
theorem lC:∀(more kvs:List (dS×V)),(gq kvs more).length<=kvs.length+more.length
 |[],kvs=>by show kvs.length<=kvs.length+0;lia
 |p::r,kvs=>by
  have h1:=lC r (iF kvs p.1 p.2)
  have h2:=lg kvs p.1 p.2
  show(gq (iF kvs p.1 p.2) r).length<=_
  rw[bG];lia
theorem tK{P:Program}{w:World}:∀{kvs:List (dS×V)} {ws:List (Value×Value)},VV (kvs.map λkv=>(kV kv.1,kv.2)) ws->∃rs,Carries (dq P w) ws rs/\KV kvs rs
 |[],_,r=>by rw[cy] at r;cases r;exact⟨[],True.intro,.nil⟩
 |p::kvs,_,r=>by
  rw[bq] at r
  cases r with
  |@cons a b as bs h t=>
   obtain⟨rs,c,q⟩:=tK (P:=P) (w:=w) t
   obtain⟨b1,b2⟩:=b
   exact⟨(p.1,b2)::rs,⟨rp h.1,rfl,c⟩,.cons ⟨rfl,h.2⟩ q⟩
def Gn(trs:List (TE×TE)):TE:=λσ H Q=>∀p,H p=none->A3 trs σ (upd H p (.dK [])) λps H2=>H2 p=some (.dK [])/\∃kvs:List (dS×V),ps=kvs.map (λkv=>(kV kv.1,kv.2))/\kvs.length<=15/\Q (.ref p) (upd H2 p (.dK (gq [] kvs)))
theorem HU{X:Cx}{pos:Pos}{keys:List (Option Expr)}{values:List Expr}{trs:List (TE×TE)}(h:Lm X pos keys values trs)(hall:keys.all (·.isSome)=true)(hl:keys.length=values.length)(h0:keys≠[])
  (h15:keys.length<=15):PE X (.Dict keys values pos) (Gn trs):=by
 intro pins s σ H Q I q
 have hn:=I.hok.fresh (aB s.heap.objs.size)
 have I1:=I.laid (a:=s.heap.objs.size) (o:=.dK []) (h':=s.heap.push {cls:=.type "dict",data:=.dict #[]}) (t':=s.toks) (λ_ _ q=>aA _ q) (aB _) (yf s.heap I.big)
 refine wpAny_Dict_walk (knd:=dq X.prog X.w) hall hl h0 h15 (gd (h pins _ σ _ _ I1 (q _ hn)) λws s2 ⟨ps,H2,I2,rel,e,kvs,ep,lk,q2⟩=>?_)
 subst ep
 obtain⟨rs,c,rk⟩:=tK (P:=X.prog) (w:=X.w) rel
 obtain⟨z,hd,vs0,r0,dd⟩:=pL I2.hok e
 cases r0
 refine⟨rs,c,dd,λh' dd' hs=>⟨.ref s.heap.objs.size,_,?_,rfl,q2⟩⟩
 have hz:(gq [] kvs).length<=sizeLine:=by
  have h1:=lC kvs []
  rw[ef] at h1
  rw[sizeLine_eq];lia
 have he:∃q,h'.get? s.heap.objs.size=some q:=let⟨q,_,_,hq,_⟩:=dd';⟨q,hq⟩
 exact sM I2 (by rw[e];exact True.intro) hs he (wW hz hd (rk.merge .nil) dd')
structure M2(X:Cx)(o:Expr)(m:Str)(apos:Pos)(e f:Expr)(cpos:Pos):Prop where
 base:attributeBase o m X.env (eval o X.env)=eval o X.env
 few:((backTo cpos (starEach [e,f] X.env)).all (λx=>!x.1)&&(backToKw cpos (keywordEach [] X.env)).all (λx=>x.1.isSome)
  && decide (([e,f]:List Expr).length+([]:List Keyword).length+(if([]:List Keyword).isEmpty then 0 else 1)<30))=true
 line:(apos.endLine==cpos.line)=true
 trees:backTo cpos (starEach [e,f] X.env)=[(false,eval e X.env),(false,eval f X.env)]
def MI(H:Hp)(a:Addr):Prop:=(∃kvs,Rd H a (.dK kvs))\/∃kvs,Rd H a (.dT kvs)
theorem ET{X:Cx}{pins:List (Addr×Obj)}{σ:St}{H:Hp}{s:Shared}{a:Addr}(I:bU X pins σ H s)(d:MI H a) :
  s.TypeIs (.ref a) "dict"/\(∀b,Value.ref a=.ref b->∃ob,s.heap.get? b=some ob/\ob.dict=none)/\(a==sysModules)=false:=by
 rcases d with⟨kvs,e⟩|⟨kvs,e⟩
 ·obtain⟨_,hd,vs,_,dd⟩:=rj I.hok e
  refine⟨dd.typeIs,λb q=>?_,hd⟩
  cases q
  obtain⟨ob,_,_,h1,h2,_⟩:=dd
  exact⟨ob,h1,h2.2.1⟩
 ·obtain⟨_,hd,xs,_,dd⟩:=vG I.hok e
  refine⟨dd.typeIs,λb q=>?_,hd⟩
  cases q
  obtain⟨ob,_,_,h1,h2,_⟩:=dd
  exact⟨ob,h1,h2.2.1⟩
section
variable{X:Cx}{pins:List (Addr×Obj)}{σ:St}{H:Hp}{s:Shared}{a:Addr}{y d:V}{u r:Value}{o:Option V}{A:Around}{E:Value->Shared->Prop}
end
section
variable{X:Cx}{o e f:Expr}{apos cpos:Pos}{td ty tx:TE}
end
section
variable{X:Cx}{pins:List (Addr×Obj)}{σ:St}{H:Hp}{s:Shared}{a:Addr}{kvs:List (dS×V)}{A:Around}{E:Value->Shared->Prop}
end
section
variable{X:Cx}{pins:List (Addr×Obj)}{σ:St}{H:Hp}{s:Shared}{a:Addr}{y:V}{u:Value}{A:Around}{E:Value->Shared->Prop}
end
section
variable{X:Cx}
end
section
variable{κ:Type}[DecidableEq κ]
theorem Ja{kvs:List (κ×V)}{k:κ}{v:V}(h:gM kvs k=some v):k∈kvs.map (·.1):=by
 have q:(kvs.any λkv=>decide (kv.1=k))=true:=by
  rw[qC,h]
  all_goals rfl
 obtain⟨p,hp,e⟩:=gU.mp q
 exact cQ.mpr ⟨p,hp,of_decide_eq_true e⟩
theorem pT:∀{l:List κ} {k:κ},l.Nodup->¬k∈l->(l++[k]).Nodup
 |[],k,_,_=>by simp
 |a::r,k,h,hk=>by
  obtain⟨h1,h2⟩:=cK.mp h
  show(a::(r++[k])).Nodup
  refine cK.mpr ⟨λm=>?_,pT h2 λm=>hk (aN.mpr (Or.inr m))⟩
  rcases aE.mp m with q|q
  ·exact h1 q
  ·exact hk (aN.mpr (Or.inl (ai.mp q).symm))
end
def FK(neg:Bool):R2:=λx y H Q=>∃a o,y=.ref a/\ng H a x o/\Q (.bl (if neg then !o.isSome else o.isSome)) H
def vQ:V->V->V->Hp->(Hp->Prop)->Prop:=λo i v H Q=>∃a H',o=.ref a/\xR H a i v H'/\Q H'
section
variable{X:Cx}
theorem Kb(hu:X.A.units+1<cLine):jX X (compareOp .In) (FK false):=by
 intro pins s σ H x y v u Q I rx ry h
 obtain⟨a,o,rfl,g,q⟩:=h
 cases ry
 exact Mt hu I g rx λs' I'=>⟨.bl o.isSome,H,I',rfl,q⟩
theorem vO(hu:X.A.units+1<cLine):jX X (compareOp .NotIn) (FK true):=by
 intro pins s σ H x y v u Q I rx ry h
 obtain⟨a,o,rfl,g,q⟩:=h
 cases ry
 exact G7 hu I g rx λs' I'=>⟨.bl (!o.isSome),H,I',rfl,q⟩
theorem qh(hu:X.A.units+1<cLine):GW X vQ:=by
 intro pins s σ H o i v ov iv u Q I ro ri rv h
 obtain⟨a,H',rfl,g,q⟩:=h
 cases ro
 exact CP hu I g ri rv λs' I'=>⟨H',I',q⟩
theorem xN:∀{us:List Value} {ns:List Int},IntsAre us ns->cu (ns.map V.int) us:=by
 intro us ns h
 induction h with
 |nil=>exact .nil
 |cons n t _ ih=>exact .cons ⟨t,rfl⟩ ih
theorem tX{prog:Program}{w:World}:∀{ns:List Int} {vs:List (dS×Value)} {us:List Value},vs.map (·.1)=ns.map Sum.inl->us.length=vs.length->(∀(j:Nat) v,us[j]?=some v->∃k x,vs[j]?=some (k,x)/\(dq prog w).is k v=true)->IntsAre us ns
 |[],vs,us,h1,h2,_=>by
  have:vs=[]:=by cases vs with|nil=>rfl|cons a r=>cases h1
  subst this
  have:us=[]:=dv.mp h2
  subst this
  exact .nil
 |n::ns,vs,us,h1,h2,h3=>by
  cases vs with
  |nil=>cases h1
  |cons a vs=>
   cases us with
   |nil=>cases h2
   |cons u us=>
    obtain⟨k,x,e,hk⟩:=h3 0 u rfl
    have e':a=(k,x):=Option.some.inj e
    subst e'
    injection h1 with h1 h1'
    have h1:k=Sum.inl n:=h1
    subst h1
    obtain⟨t,rfl⟩:=Value.isInt_shape (k:=n) (v:=u) hk
    refine .cons n t (tX (prog:=prog) (w:=w) h1' (by simpa using h2) λj v e=>?_)
    exact h3 (j+1) v (by simpa using e)
def xu:List V->Hp->VK->Prop:=λxs H Q=>∃(d:Addr) (kvs:List (dS×V)) (ns:List Int),xs=[.ref d]/\H d=some (.dK kvs)/\kvs.map (·.1)=ns.map Sum.inl/\ns.length<64/\∀(l:Addr) (ns':List Int),H l=none->ns'.Perm ns->ns'.Pairwise (·<=·)->Q (.ref l) (upd H l (.lst (ns'.map V.int)))
theorem oT(hc:X.calm=true):i8 X (.builtin "sorted") xu:=by
 intro pins s σ H xs us Q I r h
 obtain⟨d,kvs,ns,rfl,hd,hk,h64,q⟩:=h
 obtain⟨u,rfl,rx⟩:=m5 r
 cases rx
 obtain⟨z,lo,vs,rel,dd⟩:=pL I.hok hd
 obtain⟨ep,hat⟩:=dd.dictAt
 have hh:X.A.handled=none:=I.ok.hd hc
 have kl:=rel.length
 have hv:vs.map (·.1)=ns.map Sum.inl:=by rw[<-rel.keys];exact hk
 have vl:vs.length=ns.length:=by have:=congrArg jE hv;simpa using this
 refine Calls.call_function_entry kind_sorted plain_sorted entry_sorted (args_sorted1 _) ?_
 unfold Builtin.«sorted»
 refine wpAny_bind (m:=checkCount "sorted" 1 1 _) (wpAny_pure ?_)
 refine wpAny_bind (PySem.W.kdu_collect (A:=X.A.in1) (lK (knd:=dq X.prog X.w) (kvs:=vs) (ep:=ep) lo) hh hat (by rw[<-kl];exact z) λh' tk acc hkp hacc=>?_)
 have hl:acc.toList.length=vs.length:=by rw[dj];exact hacc.1
 have hI:IntsAre acc.toList ns:=tX (prog:=X.prog) (w:=X.w) hv hl λj v e=>hacc.2 j v (by rw[<-ff];exact e)
 refine wpAny_bind (wpAny_newList ?_ (by rw[hl,<-kl];exact z))
 have hoL:(h'.push (seqObj "list" acc.toList.toArray 0)).get? h'.objs.size=some (seqObj "list" acc.toList.toArray 0):=aQ _ rfl
 show wpAny _ _ _ _ _ {s with heap:=h'.push (seqObj "list" acc.toList.toArray 0),toks:=tk}
 refine wpAny_bind (wpAny_holding (wpAny_call_entry slot_list_sort ⟨_,hoL,rfl⟩ entry_list_sort (list_sort_tree hoL hI (by rw[hl,vl];exact h64) λout ns' a1 a2 a3=>⟨_,rfl,?_⟩) (args_list_sort _)))
 refine wpAny_pure ⟨_,rfl,?_⟩
 obtain⟨e,he⟩:=sortedHeap_at (n:=0) (out:=out) hoL
 have hn:=xN a1
 have hlen:ns'.length=ns.length:=a2.length_eq
 have I1:bU X pins σ H {s with heap:=h',toks:=tk}:=I.kept hkp
 refine⟨.ref h'.objs.size,_,I1.laid (t':=tk) (λb u q1=>?_) (aB _) (show fH X.prog X.w _ _ _ (.lst (ns'.map V.int)) from⟨?_,out.toList,e,hn,?_⟩),rfl,q _ _ (I1.hok.fresh (aB _)) a2 a3⟩
 ·have lt:=aJ q1
  rw[sortedHeap_old (aV lt) (by rw[size_push'];exact kG lt)]
  exact aA _ q1
 ·rw[ae,hlen];exact bx (dW h64) (by decide)
 ·rw[fu];exact he
end
structure GU(K:Fg)(x qual:Str)(st:Stmt)(dV:Value)(f:Addr)(fd:FuncData):Prop where
 ex:∃(oc:Value) (od:Option Addr) (kV doc pm:Value) (an:Option Addr) (cdv ct:Value) (osl:Array (Option Value)),
  fd=aR x qual (bT st) (aW st) (ao st) dV kV doc pm an cdv ct/\K.lookup f=some ⟨oc,od,.func fd,osl⟩/\aO K cdv qual=true
 kp:aK K (.ref f)=true
section
variable{P:Program}{w:World}{K:Fg}{mg:Str->Option Value}{base:Heap}
theorem GU.ok{x qual:Str}{st:Stmt}{dV:Value}{f:Addr}{fd:FuncData}{N ps:List Str}{k:Nat}{sp:Sp}(F:GU K x qual st dV f fd)(S:bX N ps (ao st))(len:∀vs H Q E,sp vs H Q E->vs.length=ps.length)
  (hbody:∀(cdv:Value) (A:Around) (outer:List Env) (s:Shared) (H:Hp) (vs:List V) (Q:VK) (E:XK),dh k (A.deeper (envOfC qual (ao st) s.heap.objs.size f cdv))->sp vs H Q E->
   ∃t,jQ (fQ fY P w K mg base N qual (ao st) f cdv A outer s H E).nox (aW st) t/\t {nx:=λ_ H'=>Q .non H',rt:=Q} (di N vs) H):eG P w K mg base fY (k+1) f fd ps sp:=by
 obtain⟨oc,od,kV,doc,pm,an,cdv,ct,osl,rfl,lk,hcd⟩:=F.ex
 refine Ji lk hcd S len λA outer s H vs Q E hr hsp=>?_
 obtain⟨t,h,q⟩:=hbody cdv A outer s H vs Q E hr hsp
 exact⟨t,h.nox,q⟩
theorem Hi{x qual:Str}{st:Stmt}{dV:Value}{f:Addr}{oc:Value}{od an:Option Addr}{osl:Array (Option Value)}{kV doc pm cdv ct:Value}(l:K.lookup f=some ⟨oc,od,.func (aR x qual (bT st) (aW st) (ao st) dV kV doc pm an cdv ct),osl⟩)
  (c:aO K cdv qual=true) (k:aK K (.ref f)=true):GU K x qual st dV f (aR x qual (bT st) (aW st) (ao st) dV kV doc pm an cdv ct):=⟨⟨oc,od,kV,doc,pm,an,cdv,ct,osl,rfl,l,c⟩,k⟩
end
structure pz(P:Program)(w:World)(K:Fg)(mg:Str->Option Value)(base:Heap)(x:Str)(ps:List Str)(k:Nat)(dvs:List V)(sp:Sp):Prop where
 ex:∃(f:Addr) (fd:FuncData) (ds:List Value),mg x=some (.ref f)/\aK K (.ref f)=true/\nc K fd ps ds/\cu dvs ds/\eG P w K mg base fY k f fd ps sp
theorem Kk{X:Cx}{x:Str}{ps:List Str}{k:Nat}{dvs:List V}{sp:Sp}{e:Expr}{es:List Expr}{t:TA}{p pos:Pos}(c:pz X.prog X.w X.K X.mg X.base x ps k dvs sp)(hr:dh k X.A)(hg:Gl X x)(ha:PA X (e::es) t)
  (hdb:(x==("__debug__":Str))=false:=by decide) (he:starEach (e::es) X.env=(false,eval e X.env)::starEach es X.env:=by rfl) (hpl:(backTo pos (starEach es X.env)).any (·.1)=false:=by rfl) :
  PE X (.Call (.Name x p) (e::es) [] pos) (bL sp dvs E0 t):=by
 obtain⟨f,fd,ds,hm,hk,hb,hd,F⟩:=c.ex
 exact BK F hr hg hm hk hb hd Fm ha hdb he hpl
end L2
end
section
namespace Bg
open PySem L2
inductive aZ where
 |num (x:Str) (z:Int)
 |op (x s a b:Str)
 |call (x:Str) (k:Nat) (as:List Str)
 |say (a:Str)
 |jump (to:Nat)
 |test (a:Str) (to:Nat)
 |give (a:Str)
structure ic where
 name:Str
 params:List Str
 rows:List aZ
def oo:aZ->Str
 |.num _ _=>"num"|.op _ _ _ _=>"op"|.call _ _ _=>"call"|.say _=>"say"|.jump _=>"jump"|.test _ _=>"test"|.give _=>"give"
def dD(H:Hp)(v:V):aZ->Prop
 |.num x z=>∃p,v=.ref p/\H p=some (.tup [.str "num",.str x,.int z])
 |.op x s a b=>∃p,v=.ref p/\H p=some (.tup [.str "op",.str x,.str s,.str a,.str b])
 |.call x k as=>∃p q,v=.ref p/\H p=some (.tup [.str "call",.str x,.int (k:Nat),.ref q])/\H q=some (.tup (as.map V.str))
 |.say a=>∃p,v=.ref p/\H p=some (.tup [.str "say",.str a])
 |.jump to=>∃p,v=.ref p/\H p=some (.tup [.str "jump",.int (to:Nat)])
 |.test a to=>∃p,v=.ref p/\H p=some (.tup [.str "test",.str a,.int (to:Nat)])
 |.give a=>∃p,v=.ref p/\H p=some (.tup [.str "give",.str a])
def Tp(H H':Hp):Prop:=∀p xs,H p=some (.tup xs)->H' p=some (.tup xs)
theorem Tp.refl(H:Hp):Tp H H:=λ_ _ h=>h
theorem Tp.trans{H H1 H2:Hp}(x:Tp H H1)(y:Tp H1 H2):Tp H H2:=λp xs h=>y p xs (x p xs h)
theorem Tp.of_same{H H':Hp}(x:aT H H'):Tp H H':=λp xs h=>x p _ h
theorem Tp.of_but{a:Addr}{ys:List V}{H H':Hp}(x:fP a H H')(ha:H a=some (.lst ys)):Tp H H':=λp xs h=>x p _ (by rintro rfl;rw[h] at ha;cases ha) h
theorem Tp.new{p:Addr}{H H1:Hp}{o:HO}(x:Tp H H1)(hp:H1 p=none):Tp H (upd H1 p o):=λb xs h=>by
 rw[ax (ak (x b xs h) hp)];exact x b xs h
theorem Tp.lst{p:Addr}{H H1:Hp}{ys:List V}{o:HO}(x:Tp H H1)(hp:H1 p=some (.lst ys)):Tp H (upd H1 p o):=λb xs h=>by
 have h1:=x b xs h
 rw[ax (by rintro rfl;rw[h1] at hp;cases hp)];exact h1
theorem dD.mono{H H':Hp}{v:V}{r:aZ}(h:dD H v r)(t:Tp H H'):dD H' v r:=by
 cases r with
 |num x z=>obtain⟨p,e,h⟩:=h;exact⟨p,e,t _ _ h⟩
 |op x s a b=>obtain⟨p,e,h⟩:=h;exact⟨p,e,t _ _ h⟩
 |call x k as=>obtain⟨p,q,e,h,h'⟩:=h;exact⟨p,q,e,t _ _ h,t _ _ h'⟩
 |say a=>obtain⟨p,e,h⟩:=h;exact⟨p,e,t _ _ h⟩
 |jump to=>obtain⟨p,e,h⟩:=h;exact⟨p,e,t _ _ h⟩
 |test a to=>obtain⟨p,e,h⟩:=h;exact⟨p,e,t _ _ h⟩
 |give a=>obtain⟨p,e,h⟩:=h;exact⟨p,e,t _ _ h⟩
theorem dD.ref{H:Hp}{v:V}{r:aZ}(h:dD H v r):∃p xs,v=.ref p/\H p=some (.tup (.str (oo r)::xs)):=by
 cases r with
 |num x z=>obtain⟨p,e,h⟩:=h;exact⟨p,_,e,h⟩
 |op x s a b=>obtain⟨p,e,h⟩:=h;exact⟨p,_,e,h⟩
 |call x k as=>obtain⟨p,q,e,h,h'⟩:=h;exact⟨p,_,e,h⟩
 |say a=>obtain⟨p,e,h⟩:=h;exact⟨p,_,e,h⟩
 |jump to=>obtain⟨p,e,h⟩:=h;exact⟨p,_,e,h⟩
 |test a to=>obtain⟨p,e,h⟩:=h;exact⟨p,_,e,h⟩
 |give a=>obtain⟨p,e,h⟩:=h;exact⟨p,_,e,h⟩
structure cT{α:Type}(R:V->α->Prop)(vs:List V)(rs:List α):Prop where
 len:vs.length=rs.length
 at_:∀(i:Nat) v r,vs[i]?=some v->rs[i]?=some r->R v r
theorem cT.nil{α:Type}{R:V->α->Prop}:cT R [] []:=⟨rfl,λi v r h=>by simp at h⟩
theorem cT.imp{α:Type}{R R':V->α->Prop}{vs:List V}{rs:List α}(h:cT R vs rs)(f:∀v r,R v r->R' v r):cT R' vs rs:=⟨h.len,λi v r a b=>f v r (h.at_ i v r a b)⟩
theorem cT.snoc{α:Type}{R:V->α->Prop}{vs:List V}{rs:List α}{v:V}{r:α}(h:cT R vs rs)(q:R v r):cT R (vs++[v]) (rs++[r]):=by
 refine⟨by simp[h.len],λi w t a b=>?_⟩
 by_cases hi:i<vs.length
 ·rw[bM hi] at a
  rw[bM (by rw[<-h.len];exact hi)] at b
  exact h.at_ i w t a b
 ·rw[bh (by omega)] at a
  rw[bh (by rw[<-h.len];omega)] at b
  have e:i-vs.length=0:=by
   have:=(af.mp a).1
   simp at this;omega
  rw[e] at a
  rw[<-h.len,e] at b
  simp at a b
  rw[<-a,<-b];exact q
theorem cT.set{α:Type}{R:V->α->Prop}{vs:List V}{rs:List α}{j:Nat}{v:V}{r:α}(h:cT R vs rs)(q:R v r):cT R (vs.set j v) (rs.set j r):=by
 refine⟨by simp[h.len],λi w t a b=>?_⟩
 by_cases e:j=i
 ·subst e
  have hj:j<vs.length:=by have:=(af.mp a).1;rw[cY] at this;exact this
  rw[bj hj] at a
  rw[bj (by rw[<-h.len];exact hj)] at b
  cases a;cases b;exact q
 ·rw[bJ e] at a b
  exact h.at_ i w t a b
theorem cT.get{α:Type}{R:V->α->Prop}{vs:List V}{rs:List α}(h:cT R vs rs){i:Nat}(hi:i<rs.length):∃v r,vs[i]?=some v/\rs[i]?=some r/\R v r:=by
 have h1:i<vs.length:=by rw[h.len];exact hi
 exact⟨vs[i],rs[i],aa h1,aa hi,h.at_ i _ _ (aa h1) (aa hi)⟩
theorem cT.of_v{α:Type}{R:V->α->Prop}{vs:List V}{rs:List α}(h:cT R vs rs){i:Nat}{v:V}(e:vs[i]?=some v):∃r,rs[i]?=some r/\R v r:=by
 have h1:=(af.mp e).1
 obtain⟨v',r,e1,e2,q⟩:=h.get (i:=i) (by rw[<-h.len];exact h1)
 rw[e] at e1;cases e1
 exact⟨r,e2,q⟩
def nq(H:Hp)(v:V)(b:ic):Prop:=∃p q r rs,v=.ref p/\H p=some (.tup [.str b.name,.ref q,.ref r])/\H q=some (.tup (b.params.map V.str))/\H r=some (.tup rs)/\cT (dD H) rs b.rows
theorem nq.mono{H H':Hp}{v:V}{b:ic}(h:nq H v b)(t:Tp H H'):nq H' v b:=by
 obtain⟨p,q,r,rs,e,h1,h2,h3,h4⟩:=h
 exact⟨p,q,r,rs,e,t _ _ h1,t _ _ h2,t _ _ h3,h4.imp λ_ _ z=>z.mono t⟩
def kU(K:Fg)(H:Hp)(a:Addr)(ns:List Int):Prop:=
 (∃o,H a=some (.frz o (.lst (ns.map V.int))))\/∃(o:Obj) (its:Array Value) (n:Nat),K.lookup a=some o/\o.cls=.type "list"/\o.dict=none/\o.data=.seq its n/\its.size<=sizeLine/\cu (ns.map V.int) its.toList
theorem kU.sq{K:Fg}{H:Hp}{a:Addr}{ns:List Int}(h:kU K H a ns):cq K H a (ns.map V.int):=by
 rcases h with⟨o,h⟩|h
 ·exact .inl (.inr ⟨o,h⟩)
 ·exact .inr h
def Fz(H H':Hp):Prop:=∀p o u,H p=some (.frz o u)->H' p=some (.frz o u)
theorem Fz.of_but{a:Addr}{ys:List V}{H H':Hp}(x:fP a H H')(ha:H a=some (.lst ys)):Fz H H':=λp o u h=>x p _ (by rintro rfl;rw[h] at ha;cases ha) h
theorem Fz.of_same{H H':Hp}(x:aT H H'):Fz H H':=λp o u h=>x p _ h
theorem kU.mono{K:Fg}{H H':Hp}{a:Addr}{ns:List Int}(h:kU K H a ns)(f:Fz H H'):kU K H' a ns:=by
 rcases h with⟨o,h⟩|h
 ·exact .inl ⟨o,f _ _ _ h⟩
 ·exact .inr h
def kW(K:Fg)(H:Hp)(st:Addr)(k:Nat):Prop:=∃scr ns c,H st=some (.lst [.ref scr,.int (k:Nat),.int c])/\kU K H scr ns/\ns.length<=63
theorem kW.lst{K:Fg}{H:Hp}{st:Addr}{k:Nat}(h:kW K H st k):∃ys,H st=some (.lst ys):=by
 obtain⟨scr,ns,c,e,_⟩:=h;exact⟨_,e⟩
theorem kW.mono{K:Fg}{H H':Hp}{a st:Addr}{k:Nat}{ys:List V}(h:kW K H st k)(x:fP a H H')(ha:H a=some (.lst ys))(n:st≠a):kW K H' st k:=by
 obtain⟨scr,ns,c,e,q,l⟩:=h
 exact⟨scr,ns,c,x _ _ n e,q.mono (.of_but x ha),l⟩
theorem kW.same{K:Fg}{H H':Hp}{st:Addr}{k:Nat}(h:kW K H st k)(x:aT H H'):kW K H' st k:=by
 obtain⟨scr,ns,c,e,q,l⟩:=h
 exact⟨scr,ns,c,x _ _ e,q.mono (.of_same x),l⟩
theorem kW.new{K:Fg}{H:Hp}{st p:Addr}{o:HO}{k:Nat}(h:kW K H st k)(hp:H p=none):kW K (upd H p o) st k:=h.same ((aT.refl H).new hp)
def bY(K:Fg):Sp:=λvs H Q _=>∃(st:Addr) (m:Int) (k:Nat),vs=[.ref st,.int m]/\kW K H st k/\k<=1000000/\0<m/\m<2 ^ 64/\
 ∀(d:Int) (H':Hp),0<=d->d<m->kW K H' st (k+1)->fP st H H'->Q (.int d) H'
def FV:List Str:=["part","call","say","jump","test","give"]
structure Nm(y:Str):Prop where
 l1:1<=y.length
 l8:y.length<=8
 G2:∀c∈y.cps.toList,97<=c/\c<=122
 no:y∉FV
theorem Nm.ne{y:Str}(h:Nm y):y≠"":=by
 rintro rfl
 exact absurd h.l1 (by decide +kernel)
def jL(K:Fg):Sp:=λvs H Q _=>∃(st:Addr) (n k:Nat),vs=[.ref st,.int (n:Nat)]/\kW K H st k/\k<=900000/\n<=20/\
 ∀(l:Addr) (ys:List Str) (k':Nat) (H':Hp),H l=none->ys.length=n->ys.Nodup->(∀y∈ys,Nm y)->H' l=some (.lst (ys.map V.str))->kW K H' st k'->k'<=k+11->fP st H H'->Q (.ref l) H'
def kD(K:Fg):Sp:=λvs H Q _=>∃(st:Addr) (k:Nat),vs=[.ref st]/\kW K H st k/\k<=900000/\
 ∀(z:Int) (k':Nat) (H':Hp),0<=z->z<2 ^ 64->kW K H' st k'->k'<=k+4->fP st H H'->Q (.int z) H'
def BY:List Str:=["+","-","*","<","="]
def tG(ys:List Str)(cs:List Nat)(n:Nat):aZ->Prop
 |.num x z=>x∈ys/\0<=z/\z<2 ^ 64
 |.op x s a b=>x∈ys/\s∈BY/\a=""/\b=""
 |.call x k as=>x∈ys/\∃c,cs[k]?=some c/\as=aH c ("":Str)
 |.say a=>a=""
 |.jump to=>to<n
 |.test a to=>a=""/\to<n
 |.give a=>a=""
def aU(ns:List Nat):List V:=ns.map λn=>V.int (n:Nat)
def gy(K:Fg):Sp:=λvs H Q _=>∃(st nm cn:Addr) (n k:Nat) (ys:List Str) (cs:List Nat),vs=[.ref st,.ref nm,.int (n:Nat),.ref cn]/\kW K H st k/\k<=800000/\H nm=some (.lst (ys.map V.str))/\ys≠[]/\ys.length<=100/\
 1<=n/\n<=1000/\H cn=some (.lst (aU cs))/\cs≠[]/\cs.length<=100/\(∀c∈cs,c<=4)/\nm≠st/\cn≠st/\
 ∀(v:V) (r:aZ) (k':Nat) (H':Hp),dD H' v r->tG ys cs n r->kW K H' st k'->k'<=k+8->fP st H H'->Q v H'
def cc(n:Nat):aZ->List Nat
 |.jump to=>[to]
 |.test _ to=>[n+1,to]
 |.give _=>[]
 |_=>[n+1]
def kC(K:Fg):Sp:=λvs H Q _=>∃(rl:Addr) (n:Nat) (rvs:List V) (v:V) (r:aZ),vs=[.ref rl,.int (n:Nat)]/\(H rl=some (.lst rvs)\/H rl=some (.tup rvs))/\rvs[n]?=some v/\dD H v r/\∀l,H l=none->Q (.ref l) (upd H l (.lst (aU (cc n r))))
def gv:aZ->V
 |.num x _=>.str x
 |.op x _ _ _=>.str x
 |.call x _ _=>.str x
 |_=>.non
def jY:aZ->Bool
 |.jump _=>true
 |.give _=>true
 |_=>false
def tW:aZ->Bool
 |.num _ _=>true
 |_=>false
structure tH(ys:List Str)(cs:List Nat)(rs:List aZ):Prop where
 pos:rs≠[]
 few:rs.length<=100
 rough:∀r∈rs,tG ys cs rs.length r
def stp(rs:List aZ)(n:Nat):Nat:=match rs[n]? with
 |some (.jump t)=>t
 |_=>n
def runJ(rs:List aZ):Nat->Nat->Nat
 |0,n=>n
 |k+1,n=>runJ rs k (stp rs n)
def gH:aZ->Bool
 |.jump _=>true
 |_=>false
def tq(rs:List aZ):Prop:=∀n,n<rs.length->∀r,rs[runJ rs rs.length n]?=some r->gH r=false
def jt(K:Fg):Sp:=λvs H Q _=>∃(rl nm:Addr) (bare:Bool) (rvs:List V) (rs:List aZ) (ys:List Str) (R:aZ->Prop),vs=[.ref rl,.ref nm,.bl bare]/\H rl=some (.lst rvs)/\cT (dD H) rvs rs/\rs≠[]/\rs.length<=100/\(∀r∈rs,R r)/\R (.say "")/\R (.give "")/\(∀t,R (.jump t)->t<rs.length)/\H nm=some (.lst (ys.map V.str))/\ys≠[]/\(∀y∈ys,bare=true->R (.num y 3))/\nm≠rl/\
 (bare=true->2<=rs.length)/\∀(rvs':List V) (rs':List aZ) (H':Hp),H' rl=some (.lst rvs')->cT (dD H') rvs' rs'->rs'.length=rs.length->(∀r∈rs',R r)->(rs'.getLast?.map jY=some true)->(bare=true->rs'.head?.map tW=some true)->tq rs'->fP rl H H'->Q (.ref rl) H'
def wJ(H:Hp)(v:V)(ks:List Str):Prop:=∃a,v=.ref a/\H a=some (.lst (ks.map V.str))
structure Bq(ps:List Str)(rs:List aZ)(kss:List (List Str)):Prop where
 zero:∀ks,kss[0]?=some ks->∀y∈ks,y∈ps
 on:∀(n m:Nat) r ks km,rs[n]?=some r->m∈cc n r->kss[n]?=some ks->kss[m]?=some km->∀y∈km,y∈ks\/gv r=.str y
def gz(K:Fg):Sp:=λvs H Q _=>∃(rl nm pr:Addr) (rvs:List V) (rs:List aZ) (ys ps:List Str) (cs:List Nat),vs=[.ref rl,.ref nm,.ref pr]/\H rl=some (.lst rvs)/\cT (dD H) rvs rs/\tH ys cs rs/\(rs.getLast?.map jY=some true)/\
 H nm=some (.lst (ys.map V.str))/\ys.length<=100/\H pr=some (.lst (ps.map V.str))/\ps.length<=100/\(∀y∈ps,y∈ys)/\(ps=[]->rs.head?.map tW=some true)/\
 ∀(kl:Addr) (refs:List V) (kss:List (List Str)) (H':Hp),H kl=none->H' kl=some (.lst refs)->cT (wJ H') refs kss->kss.length=rs.length->(∀(i:Nat) ks,kss[i]?=some ks->ks.length<=100/\(∀y∈ks,y∈ys)/\(ks≠[]\/(i=0/\ps=[])))->Bq ps rs kss->aT H H'->Q (.ref kl) H'
def jN(ks:List Str):aZ->aZ->Prop
 |.num x z,r=>r=.num x z
 |.op x s _ _,r=>∃a b,r=.op x s a b/\a∈ks/\b∈ks
 |.call x k as,r=>∃bs:List Str,r=.call x k bs/\bs.length=as.length/\∀b∈bs,b∈ks
 |.say _,r=>∃a,r=.say a/\a∈ks
 |.jump to,r=>r=.jump to
 |.test _ to,r=>∃a,r=.test a to/\a∈ks
 |.give _,r=>∃a,r=.give a/\a∈ks
def jr(K:Fg):Sp:=λvs H Q _=>∃(st rl kl:Addr) (k:Nat) (rvs refs:List V) (rs:List aZ) (kss:List (List Str)) (ys:List Str) (cs:List Nat),vs=[.ref st,.ref rl,.ref kl]/\kW K H st k/\k<=700000/\H rl=some (.lst rvs)/\cT (dD H) rvs rs/\tH ys cs rs/\(∀y∈ys,y≠"")/\(∀c∈cs,c<=4)/\
 H kl=some (.lst refs)/\cT (wJ H) refs kss/\kss.length=rs.length/\(∀(i:Nat) ks,kss[i]?=some ks->ks.length<=100)/\(∀(i:Nat) ks r,kss[i]?=some ks->rs[i]?=some r->ks≠[]\/tW r=true)/\(∀a∈refs,a≠.ref st)/\rl≠st/\kl≠st/\
 ∀(p:Addr) (rvs':List V) (rs':List aZ) (k':Nat) (H':Hp),H' p=some (.tup rvs')->cT (dD H') rvs' rs'->rs'.length=rs.length->(∀(i:Nat) ks r r',kss[i]?=some ks->rs[i]?=some r->rs'[i]?=some r'->jN ks r r')->kW K H' st k'->k'<=k+5*rs.length->fP st H H'->Q (.ref p) H'
def d8:aZ->List Str
 |.op _ _ a b=>[a,b]
 |.call _ _ as=>as
 |.say a=>[a]
 |.test a _=>[a]
 |.give a=>[a]
 |_=>[]
def Ej(ys:List Str)(cs:List Nat)(n:Nat):aZ->Prop
 |.num x z=>x∈ys/\0<=z/\z<2 ^ 64
 |.op x s a b=>x∈ys/\s∈BY/\a∈ys/\b∈ys
 |.call x k as=>x∈ys/\cs[k]?=some as.length/\∀a∈as,a∈ys
 |.say a=>a∈ys
 |.jump to=>to<n
 |.test a to=>a∈ys/\to<n
 |.give a=>a∈ys
structure oR(ys:List Str)(cs:List Nat)(b:ic):Prop where
 pnd:b.params.Nodup
 pin:∀y∈b.params,y∈ys
 pos:b.rows≠[]
 few:b.rows.length<=60
 rows:∀r∈b.rows,Ej ys cs b.rows.length r
 last:b.rows.getLast?.map jY=some true
 ring:tq b.rows
 known:∃kss,kss.length=b.rows.length/\Bq b.params b.rows kss/\∀(n:Nat) r ks,b.rows[n]?=some r->kss[n]?=some ks->∀y∈d8 r,y∈ks
structure qI(ys:List Str)(cs:List Nat)(bs:List ic):Prop where
 ynd:ys.Nodup
 ynm:∀y∈ys,Nm y
 y2:2<=ys.length
 y6:ys.length<=6
 pos:1<=bs.length
 few:bs.length<=5
 nnd:(bs.map (·.name)).Nodup
 nnm:∀b∈bs,Nm b.name
 cnt:bs.map (·.params.length)=cs
 c4:∀c∈cs,c<=4
 part:∀b∈bs,oR ys cs b
def mE(K:Fg):Sp:=λvs H Q _=>∃(st nm pr cn:Addr) (wd:Str) (m k:Nat) (ys ps:List Str) (cs:List Nat),vs=[.ref st,.str wd,.ref nm,.ref pr,.ref cn,.int (m:Nat)]/\kW K H st k/\k<=600000/\H nm=some (.lst (ys.map V.str))/\ys≠[]/\ys.length<=100/\(∀y∈ys,y≠"")/\
 H pr=some (.lst (ps.map V.str))/\ps.length<=100/\ps.Nodup/\(∀y∈ps,y∈ys)/\H cn=some (.lst (aU cs))/\cs≠[]/\cs.length<=100/\(∀c∈cs,c<=4)/\1<=m/\m<=50/\nm≠st/\pr≠st/\cn≠st/\
 ∀(v:V) (b:ic) (k':Nat) (H':Hp),nq H' v b->b.name=wd->b.params=ps->oR ys cs b->b.rows.length<=m+1->kW K H' st k'->k'<=k+1000->fP st H H'->Q v H'
def iI(K:Fg):Sp:=λvs H Q _=>∃(st:Addr) (m k:Nat),vs=[.ref st,.int (m:Nat)]/\kW K H st k/\k<=500000/\1<=m/\m<=50/\
 ∀(p:Addr) (pvs:List V) (bs:List ic) (ys:List Str) (cs:List Nat) (k':Nat) (H':Hp),H' p=some (.tup pvs)->cT (nq H') pvs bs->qI ys cs bs->(∀b∈bs,b.rows.length<=m+1)->kW K H' st k'->k'<=k+10000->fP st H H'->Q (.ref p) H'
def EI:aZ->V
 |.jump to=>.int (to:Nat)
 |.test _ to=>.int (to:Nat)
 |_=>.non
def IS:Sp:=λvs H Q _=>∃v r,vs=[v]/\dD H v r/\∀(p:Addr) (H':Hp),H' p=some (.tup ((d8 r).map V.str))->aT H H'->Q (.ref p) H'
abbrev iH(_:Fg):Sp:=IS
def eX(_:Fg):Sp:=λvs H Q _=>∃v r,vs=[v]/\dD H v r/\∀(H':Hp),aT H H'->Q (gv r) H'
def d9(_:Fg):Sp:=λvs H Q _=>∃v r,vs=[v]/\dD H v r/\Q (EI r) H
def KY:Sp:=λvs H Q _=>∃(rt:Addr) (n:Nat) (rvs:List V) (v:V) (r:aZ),vs=[.ref rt,.int (n:Nat)]/\H rt=some (.tup rvs)/\rvs[n]?=some v/\dD H v r/\∀(p:Addr) (H':Hp),H' p=some (.tup (aU (cc n r)))->aT H H'->Q (.ref p) H'
abbrev fb(_:Fg):Sp:=KY
def sp_law(K:Fg):Sp:=λvs H Q _=>∃(scr:Addr) (ns:List Int),vs=[.ref scr]/\kU K H scr ns/\ns.length<=63/\∀H',Q (.bl true) H'
abbrev JO:Nat:=0
abbrev iW:Nat:=1
abbrev Ho:Nat:=1
abbrev sH:Nat:=2
abbrev Hq:Nat:=1
abbrev sI:Nat:=2
abbrev yo:Nat:=2
abbrev kN:Nat:=3
abbrev Hn:Nat:=0
abbrev sG:Nat:=1
abbrev EV:Nat:=0
abbrev pB:Nat:=1
abbrev yq:Nat:=1
abbrev kO:Nat:=2
abbrev EU:Nat:=1
abbrev pA:Nat:=2
abbrev JS:Nat:=3
abbrev wA:Nat:=4
abbrev C9:Nat:=4
abbrev nR:Nat:=5
abbrev C6:Nat:=0
abbrev nO:Nat:=1
abbrev EY:Nat:=0
abbrev jH:Nat:=1
abbrev EW:Nat:=0
abbrev jG:Nat:=1
abbrev C4:Nat:=1
abbrev ke:Nat:=2
theorem cA{c:Prop}[Decidable c]{A B:Prop}(h1:c->A)(h2:¬c->B):if decide c=true then A else B:=by
 by_cases h:c
 ·rw[decide_eq_true h];exact uY (h1 h)
 ·rw[decide_eq_false h];exact j5 (h2 h)
theorem fR{c:Prop}[Decidable c]{A B:Prop}(h1:¬c->A)(h2:c->B):if(!decide c)=true then A else B:=by
 by_cases h:c
 ·rw[decide_eq_true h];exact j5 (h2 h)
 ·rw[decide_eq_false h];exact uY (h1 h)
theorem vJ{b:Bool}{A B:Prop}(h1:b=true->A)(h2:b=false->B):if b=true then A else B:=by
 cases b with
 |true=>exact uY (h1 rfl)
 |false=>exact j5 (h2 rfl)
theorem wN{α:Type}{xs:List α}{i:Int}{v:α}(h0:0<=i)(e:xs[i.toNat]?=some v):Jw xs i=some v:=by
 have h1:=(af.mp e).1
 unfold Jw JL
 rw[if_pos h0,if_pos (by lia)]
 exact e
theorem om{K:Fg}{p:Addr}{xs:List V}{i:Int}{v:V}{H:Hp}{Q:VK}(h:cq K H p xs)(h0:0<=i)(e:xs[i.toNat]?=some v)(q:Q v H):d5 K (.ref p) (.int i) H Q:=
 .inl ⟨p,xs,i,v,rfl,rfl,h,wN h0 e,q⟩
theorem dE{K:Fg}{p:Addr}{xs:List V}{i:Int}{v:V}{H:Hp}{Q:VK}(h:H p=some (.tup xs))(h0:0<=i)(e:xs[i.toNat]?=some v)(q:Q v H):d5 K (.ref p) (.int i) H Q:=
 .inr (.inl ⟨p,xs,i,v,rfl,rfl,dC.of h,wN h0 e,q⟩)
theorem Mv{K:Fg}{z:Str}{i:Int}{c:Nat}{H:Hp}{Q:VK}(hz:z.length<=sizeLine)(h0:0<=i)(e:z.cps.toList[i.toNat]?=some c)(q:Q (.str ⟨#[c]⟩) H):d5 K (.str z) (.int i) H Q:=
 .inr (.inr ⟨z,i,c,rfl,rfl,hz,wN h0 e,q⟩)
theorem y8{p:Addr}{xs:List V}{i:Int}{v:V}{H:Hp}{Q:Hp->Prop}(h:H p=some (.lst xs))(h0:0<=i)(h1:i.toNat<xs.length)(q:Q (upd H p (.lst (xs.set i.toNat v)))):nC (.ref p) (.int i) v H Q:=by
 refine⟨p,xs,i,i.toNat,rfl,rfl,h,?_,q⟩
 unfold JL
 rw[if_pos h0,if_pos (by lia)]
theorem cF{n:Nat}(h:n<=100000):n<sizeLine:=kq h (by decide)
theorem vK{ns:List Nat}{i:Nat}{n:Nat}(h:ns[i]?=some n):(aU ns)[i]?=some (.int (n:Nat)):=by
 unfold aU;rw[aD,h];rfl
theorem bV(ns:List Nat):(aU ns).length=ns.length:=by unfold aU;rw[ae]
theorem zb{ys:List Str}{i:Nat}{y:Str}(h:ys[i]?=some y):(ys.map V.str)[i]?=some (.str y):=by rw[aD,h];rfl
theorem mr{H:Hp}{a b:Addr}{xs ys:List V}(h:H a=some (.lst xs))(h':H b=some (.tup ys)):a≠b:=iL h h' (by intro z;cases z)
theorem jZ{D:Addr}{te:TE}{E:nh}{σ:St}{H:Hp}(h:te σ H λy H2=>∃ys,H2 D=some (.lst ys)/\ys.length<sizeLine/\E.nx σ (upd H2 D (.lst (ys++[y])))):p0 D qZ te E σ H:=by
 unfold p0 qZ
 dsimp only
 rw[if_pos rfl]
 exact h
theorem no{x y:V}{A B:Prop}(h:¬x=y)(q:B):if decide (x=y)=true then A else B:=cA (λz=>absurd z h) λ_=>q
theorem GR{x:V}{A B:Prop}(q:A):if decide (x=x)=true then A else B:=cA (λ_=>q) λz=>absurd rfl z
theorem CZ{b:Bool}{A B:Prop}(e:b=true)(q:A):if b=true then A else B:=by rw[e];exact uY q
theorem CY{b:Bool}{A B:Prop}(e:b=false)(q:B):if b=true then A else B:=by rw[e];exact j5 q
theorem jJ(xs:List V)(c:Nat):mh xs none (some (c:Int))=xs.take c:=by
 unfold mh
 rw[HT.sIx_none,HT.sIx_nat,m8,Nat.sub_zero,<-List.take_eq_take_min]
theorem x6(xs:List V)(c:Nat):mh xs (some (c:Int)) none=xs.drop c:=by
 unfold mh
 rw[HT.sIx_none,HT.sIx_nat]
 by_cases h:c<=xs.length
 ·rw[Nat.min_eq_left h];exact eJ (by rw[dJ];lia)
 ·rw[Nat.min_eq_right (by lia),gW,List.drop_of_length_le (by lia),List.take_nil]
theorem qM(ys:List Str):(ys.map V.str).all ip=true:=by
 rw[dI]
 intro v hv
 obtain⟨y,_,rfl⟩:=cQ.mp hv
 rfl
theorem tS(y:Str)(ls:List Str):m6 (.str y) (ls.map V.str)=decide (y∈ls):=by
 unfold m6
 rw[pq,Bool.eq_iff_iff,gU,decide_eq_true_eq]
 constructor
 ·rintro⟨z,hz,e⟩
  have e':(z==y)=true:=e
  have:z=y:=by simpa using e'
  rw[<-this];exact hz
 ·intro h
  exact⟨y,h,by show(y==y)=true;simp⟩
theorem fP.past{a l:Addr}{H H1 H2:Hp}(x:fP a H H1)(hl:H l=none)(y:fP l H1 H2):fP a H H2:=λc u n h=>y c u (ak h hl) (x c u n h)
end Bg
end
section
namespace Bg
open PySem PySem.Spec PyProof.Rows L2
abbrev fI:List Str:=["_law_state","_law_many"]
abbrev zV:List Str:=["_law_state","_law_many","_law_script","_law_k","_law_digit","_law_cell"]
def Gr(K:Fg):TS:=(cR (bI (lh) (bI (lh) (bI (jo K) (ar 5) (ar 5)) (tC (.int 1999999973))) (ar 1)))
def Gs(K:Fg):TS:=(bB (bZ (bI (lh) (bI (jo K) (ar 5) (ar 5)) (tC (.int 2147483587))) (aX 5)) (Gr K))
def zd(K:Fg):TS:=(bB (bZ (bI (lh) (bI (jo K) (bI (lh) (ar 5) (tC (.int 2147483629))) (bI (dA K) (ar 3) (tC (.int 3)))) (tC (.int 2147483629))) (aX 5)) (Gs K))
def Gu(K:Fg):TS:=(bB (dG (bP (bI (u9) (gI (iO K) (aj (ar 2) aM)) (tC (.int 0)))) (bZ (bI (dA K) (ar 5) (bI (jo K) (bI (d5 K) (ar 2) (bI (lh) (bI (jo K) (ar 3) (tC (.int 7))) (gI (iO K) (aj (ar 2) aM)))) (bI (dA K) (tC (.int 48271)) (ar 3)))) (aX 5)) cG) (zd K))
def qk(K:Fg):TS:=(bB (bZ (bI (dA K) (bI (jo K) (ar 3) (tC (.int 7919))) (tC (.int 5))) (aX 5)) (Gu K))
def Gv(K:Fg):TS:=(cR (ar 4))
def ze(K:Fg):TS:=(dG (bP (bI ((xQ K true)) (bI (d5 K) (ar 0) (tC (.int 2))) (eM (aj (tC (.int 0)) (aj (MF MA (tC (.int 1))) aM))))) (bB (bZ (gI (IB) (aj (bI (d5 K) (ar 0) (tC (.int 2))) (aj (ar 1) aM))) (Ak K 2 (kZ (oj (ar 0) (tC (.int 2)) nC) (kZ (aX 4) yi)))) (Gv K)) cG)
def zf(K:Fg):TS:=(bB (dG (qj (bP (bI (xr) (bI (dA K) (bI (AR) (ar 3) (tC (.int 12))) (tC (.int 1))) (gI (iO K) (aj (ar 2) aM)))) (bP (bI (i7 K) (bI (lh) (bI (d5 K) (ar 2) (tC (.int 0))) (tC (.int 2))) (tC (.int 1))))) (bB (dG (bP (bI (i7 K) (bI (lh) (ar 3) (tC (.int 12))) (tC (.int 0)))) (bZ (bI (d5 K) (ar 2) (bI (dA K) (bI (AR) (ar 3) (tC (.int 12))) (tC (.int 1)))) (oj (ar 0) (tC (.int 2)) nC)) cG) (ze K)) (dG (bP (bI (xr) (ar 3) (gI (iO K) (aj (ar 2) aM)))) (cR (bI (lh) (bI (d5 K) (ar 2) (ar 3)) (ar 1))) cG)) (qk K))
def Gw(K:Fg):TS:=(bB (bZ (bI (dA K) (ar 3) (tC (.int 1))) (oj (ar 0) (tC (.int 1)) nC)) (zf K))
def Gq(K:Fg):TS:=(bB (bZ (A4 (zS K) (ar 0) gA (kE (tC (.int 2)))) (EH K 2 (kZ (aX 2) (kZ (aX 3) yi)))) (Gw K))
abbrev kz:List Str:=["_law_state","_law_many"]
abbrev sJ:List Str:=["_law_state","_law_many","_law_letters","_law_size","_law_at","_law_first","_law_base","_law_found","_law_k","_law_some","_law_name"]
def v7(K:Fg):TS:=(cR (ar 7))
def v8(K:Fg):TS:=(mS (DQ K "list" iy (ar 7) (aj (ar 10) aM)))
def v9(K:Fg):TS:=(bB (dG (Mb (bP (bI ((xQ K false)) (ar 10) (eM (aj (tC (.str "part")) (aj (tC (.str "call")) (aj (tC (.str "say")) (aj (tC (.str "jump")) (aj (tC (.str "test")) (aj (tC (.str "give")) aM))))))))) (qj (bP (bI (xr) (ar 3) (tC (.int 8)))) (bP (bI (i7 K) (bI (lh) (bI (dA K) (ar 3) (ar 8)) (tC (.int 3))) (tC (.int 1)))))) (bZ (bI (dA K) (ar 10) (tC (.str "x"))) (aX 10)) cG) (v8 K))
def DU(K:Fg):TS:=(bB (bZ (DQ K "str" (Jm K) (tC (.str "")) (aj (ar 9) aM)) (aX 10)) (v9 K))
def DV(K:Fg):TS:=(bB (bZ (bI (dA K) (bI (dA K) (A4 (zS K) (ar 6) gA (kE (ar 4))) (kc (aj (bI (d5 K) (ar 2) (bI (lh) (bI (dA K) (ar 5) (bI (jo K) (tC (.int 5)) (ar 8))) (tC (.int 26)))) aM))) (A4 (zS K) (ar 6) (kE (bI (dA K) (ar 4) (tC (.int 1)))) gA)) (aX 9)) (DU K))
def wa(K:Fg):TS:=(bB (jM (rn (aj (ar 1) aM)) (aX 8) (DV K)) (v7 K))
def DW(K:Fg):TS:=(bB (bZ (kc aM) (aX 7)) (wa K))
def DX(K:Fg):TS:=(bB (bZ (iM [] 1 (rn (aj (ar 3) aM)) (aX 11) qZ (bI (d5 K) (ar 2) (bI (lh) (bI (dA K) (ar 5) (bI (jo K) (bI (jo K) (tC (.int 7)) (ar 11)) (bL (bY K) [] E0 (aj (ar 0) (aj (tC (.int 4)) aM))))) (tC (.int 26))))) (aX 6)) (DW K))
def DY(K:Fg):TS:=(bB (bZ (bL (bY K) [] E0 (aj (ar 0) (aj (tC (.int 26)) aM))) (aX 5)) (DX K))
def uJ(K:Fg):TS:=(bB (bZ (bL (bY K) [] E0 (aj (ar 0) (aj (ar 3) aM))) (aX 4)) (DY K))
def Ba(K:Fg):TS:=(bB (bZ (bI (dA K) (tC (.int 1)) (bL (bY K) [] E0 (aj (ar 0) (aj (tC (.int 8)) aM)))) (aX 3)) (uJ K))
def Cn(K:Fg):TS:=(bB (bZ (tC (.str "abcdefghijklmnopqrstuvwxyz")) (aX 2)) (Ba K))
abbrev kA:List Str:=["_law_state"]
abbrev wH:List Str:=["_law_state"]
def DZ(K:Fg):TS:=(cR (bI (d5 K) (kc (aj (tC (.int 0)) (aj (tC (.int 1)) (aj (bI (uj) (bI (uj) (bI (BO) (tC (.int 2)) (tC (.int 64))) (tC (.int 1))) (bL (bY K) [] E0 (aj (ar 0) (aj (tC (.int 3)) aM)))) (aj (bL (bY K) [] E0 (aj (ar 0) (aj (tC (.int 12)) aM))) aM))))) (bL (bY K) [] E0 (aj (ar 0) (aj (tC (.int 4)) aM)))))
def Cw(K:Fg):TS:=(bB (dG (bP (bI (i7 K) (bL (bY K) [] E0 (aj (ar 0) (aj (tC (.int 2)) aM))) (tC (.int 0)))) (cR (bI (dA K) (bI (jo K) (bL (bY K) [] E0 (aj (ar 0) (aj (bI (BO) (tC (.int 2)) (tC (.int 31))) aM))) (bI (BO) (tC (.int 2)) (tC (.int 33)))) (bL (bY K) [] E0 (aj (ar 0) (aj (bI (BO) (tC (.int 2)) (tC (.int 31))) aM))))) cG) (DZ K))
abbrev gm:List Str:=["_law_state","_law_names_here","_law_many","_law_counts"]
abbrev ni:List Str:=["_law_state","_law_names_here","_law_many","_law_counts","_law_x","_law_sort","_law_k"]
def vi(K:Fg):TS:=(cR (bI (d5 K) (kc (aj (eM (aj (tC (.str "jump")) (aj (bL (bY K) [] E0 (aj (ar 0) (aj (ar 2) aM))) aM))) (aj (eM (aj (tC (.str "give")) (aj (tC (.str "")) aM))) aM))) (bI (uj) (ar 5) (tC (.int 10)))))
def vj(K:Fg):TS:=(bB (dG (bP (bI (xr) (ar 5) (tC (.int 10)))) (cR (eM (aj (tC (.str "test")) (aj (tC (.str "")) (aj (bL (bY K) [] E0 (aj (ar 0) (aj (ar 2) aM))) aM))))) cG) (vi K))
def vk(K:Fg):TS:=(bB (dG (bP (bI (xr) (ar 5) (tC (.int 8)))) (cR (eM (aj (tC (.str "say")) (aj (tC (.str "")) aM)))) cG) (vj K))
def vm(K:Fg):TS:=(cR (eM (aj (tC (.str "call")) (aj (ar 4) (aj (ar 6) (aj (bI (jo K) (eM (aj (tC (.str "")) aM)) (bI (d5 K) (ar 3) (ar 6))) aM))))))
def vn(K:Fg):TS:=(bB (dG (bP (bI (i7 K) (ar 5) (tC (.int 6)))) (bB (bZ (bL (bY K) [] E0 (aj (ar 0) (aj (gI (iO K) (aj (ar 3) aM)) aM))) (aX 6)) (vm K)) cG) (vk K))
def vo(K:Fg):TS:=(bB (dG (bP (bI (xr) (ar 5) (tC (.int 6)))) (cR (eM (aj (tC (.str "op")) (aj (ar 4) (aj (bI (d5 K) (tC (.str "+-*<=")) (bL (bY K) [] E0 (aj (ar 0) (aj (tC (.int 5)) aM)))) (aj (tC (.str "")) (aj (tC (.str "")) aM))))))) cG) (vn K))
def vp(K:Fg):TS:=(bB (dG (bP (bI (xr) (ar 5) (tC (.int 2)))) (cR (eM (aj (tC (.str "num")) (aj (ar 4) (aj (bL (kD K) [] E0 (aj (ar 0) aM)) aM))))) cG) (vo K))
def vq(K:Fg):TS:=(bB (bZ (bL (bY K) [] E0 (aj (ar 0) (aj (tC (.int 12)) aM))) (aX 5)) (vp K))
def si(K:Fg):TS:=(bB (bZ (bI (d5 K) (ar 1) (bL (bY K) [] E0 (aj (ar 0) (aj (gI (iO K) (aj (ar 1) aM)) aM)))) (aX 4)) (vq K))
abbrev ky:List Str:=["_law_rows","_law_n"]
abbrev wC:List Str:=["_law_rows","_law_n"]
def DR(K:Fg):TS:=(cR (kc (aj (bI (dA K) (ar 1) (tC (.int 1))) aM)))
def DS(K:Fg):TS:=(bB (dG (bP (bI (i7 K) (bI (d5 K) (bI (d5 K) (ar 0) (ar 1)) (tC (.int 0))) (tC (.str "give")))) (cR (kc aM)) cG) (DR K))
def DT(K:Fg):TS:=(bB (dG (bP (bI (i7 K) (bI (d5 K) (bI (d5 K) (ar 0) (ar 1)) (tC (.int 0))) (tC (.str "test")))) (cR (kc (aj (bI (dA K) (ar 1) (tC (.int 1))) (aj (bI (d5 K) (bI (d5 K) (ar 0) (ar 1)) (tC (.int 2))) aM)))) cG) (DS K))
def Cm(K:Fg):TS:=(bB (dG (bP (bI (i7 K) (bI (d5 K) (bI (d5 K) (ar 0) (ar 1)) (tC (.int 0))) (tC (.str "jump")))) (cR (kc (aj (bI (d5 K) (bI (d5 K) (ar 0) (ar 1)) (tC (.int 1))) aM))) cG) (DT K))
abbrev jg:List Str:=["_law_rows","_law_names_here","_law_bare"]
abbrev sZ:List Str:=["_law_rows","_law_names_here","_law_bare","_law_last","_law_n","_law_to","_law_turn"]
def A7(K:Fg):TS:=(cR (ar 0))
def A8(K:Fg):TS:=(dG (bP (bI (i7 K) (bI (d5 K) (bI (d5 K) (ar 0) (ar 5)) (tC (.int 0))) (tC (.str "jump")))) (bZ (bI (d5 K) (kc (aj (eM (aj (tC (.str "say")) (aj (tC (.str "")) aM))) (aj (eM (aj (tC (.str "give")) (aj (tC (.str "")) aM))) aM))) (gI (FL) (aj (bI (i7 K) (ar 4) (ar 3)) aM))) (oj (ar 0) (ar 4) nC)) cG)
def A9(K:Fg):TS:=(dG (bP (bI (i7 K) (bI (d5 K) (bI (d5 K) (ar 0) (ar 5)) (tC (.int 0))) (tC (.str "jump")))) (bZ (bI (d5 K) (bI (d5 K) (ar 0) (ar 5)) (tC (.int 1))) (aX 5)) cG)
def uE(K:Fg):TS:=(bB (jM (iN K (ar 0)) (aX 6) (A9 K)) (A8 K))
def uF(K:Fg):TS:=(bB (bZ (ar 4) (aX 5)) (uE K))
def uG(K:Fg):TS:=(bB (jM (rn (aj (gI (iO K) (aj (ar 0) aM)) aM)) (aX 4) (uF K)) (A7 K))
def uH(K:Fg):TS:=(bB (dG (qj (tB (ar 2)) (qj (bP (bI (xt K) (bI (d5 K) (bI (d5 K) (ar 0) (tC (.int 0))) (tC (.int 0))) (tC (.str "num")))) (bP (bI (u9) (ar 3) (tC (.int 0)))))) (bZ (eM (aj (tC (.str "num")) (aj (bI (d5 K) (ar 1) (tC (.int 0))) (aj (tC (.int 3)) aM)))) (oj (ar 0) (tC (.int 0)) nC)) cG) (uG K))
def uI(K:Fg):TS:=(bB (dG (bP (bI ((xQ K true)) (bI (d5 K) (bI (d5 K) (ar 0) (ar 3)) (tC (.int 0))) (eM (aj (tC (.str "jump")) (aj (tC (.str "give")) aM))))) (bZ (eM (aj (tC (.str "give")) (aj (tC (.str "")) aM))) (oj (ar 0) (ar 3) nC)) cG) (uH K))
def zh(K:Fg):TS:=(bB (bZ (bI (uj) (gI (iO K) (aj (ar 0) aM)) (tC (.int 1))) (aX 3)) (uI K))
abbrev gp:List Str:=["_law_rows","_law_names_here","_law_params"]
abbrev jI:List Str:=["_law_rows","_law_names_here","_law_params","_law_known","_law_more","_law_n","_law_left","_law_m","_law_kept"]
def vt(K:Fg):TS:=(cR (ar 3))
def vv(K:Fg):TS:=(bZ (tC (.bl true)) (aX 4))
def oE(K:Fg):TS:=(dG (bP (bI (xr) (gI (iO K) (aj (ar 8) aM)) (gI (iO K) (aj (bI (d5 K) (ar 3) (ar 7)) aM)))) (bB (bZ (ar 8) (oj (ar 3) (ar 7) nC)) (vv K)) cG)
def oF(K:Fg):TS:=(bB (bZ (iM [] 1 (iN K (bI (d5 K) (ar 3) (ar 7))) (aX 9) (bP (bI ((xQ K false)) (ar 9) (ar 6))) (ar 9)) (aX 8)) (oE K))
def oG(K:Fg):TS:=(jM (iN K (bL (kC K) [] E0 (aj (ar 0) (aj (ar 5) aM)))) (aX 7) (oF K))
def oH(K:Fg):TS:=(bB (dG (bP (bI ((xQ K false)) (bI (d5 K) (bI (d5 K) (ar 0) (ar 5)) (tC (.int 0))) (eM (aj (tC (.str "num")) (aj (tC (.str "op")) (aj (tC (.str "call")) aM)))))) (bZ (bI (dA K) (ar 6) (kc (aj (bI (d5 K) (bI (d5 K) (ar 0) (ar 5)) (tC (.int 1))) aM))) (aX 6)) cG) (oG K))
def lI(K:Fg):TS:=(bB (bZ (bI (d5 K) (ar 3) (ar 5)) (aX 6)) (oH K))
def oI(K:Fg):TS:=(jM (rn (aj (gI (iO K) (aj (ar 0) aM)) aM)) (aX 5) (lI K))
def vw(K:Fg):TS:=(bB (bZ (tC (.bl false)) (aX 4)) (oI K))
def nI(K:Fg):TS:=(bB (qY (tB (ar 4)) (vw K)) (vt K))
def nJ(K:Fg):TS:=(bB (bZ (tC (.bl true)) (aX 4)) (nI K))
def nK(K:Fg):TS:=(bB (bZ (gI (sT K) (aj (ar 2) aM)) (oj (ar 3) (tC (.int 0)) nC)) (nJ K))
def sj(K:Fg):TS:=(bB (bZ (iM [] 1 (iN K (ar 0)) (aX 9) qZ (gI (sT K) (aj (ar 1) aM))) (aX 3)) (nK K))
abbrev jf:List Str:=["_law_state","_law_rows","_law_known"]
abbrev pE:List Str:=["_law_state","_law_rows","_law_known","_law_found","_law_n","_law_row","_law_some","_law_thing"]
def A5(K:Fg):TS:=(cR (gI (e7 K) (aj (ar 3) aM)))
def A6(K:Fg):TS:=(mS (DQ K "list" iy (ar 3) (aj (bI (dA K) (eM (aj (bI (d5 K) (ar 5) (tC (.int 0))) aM)) (gI (e7 K) (aj (ar 6) aM))) aM)))
def uA(K:Fg):TS:=(mS (DQ K "list" iy (ar 6) (aj (ar 7) aM)))
def uB(K:Fg):TS:=(bB (dG (bP (bI (i7 K) (ar 7) (tC (.str "")))) (bZ (bI (d5 K) (bI (d5 K) (ar 2) (ar 4)) (bL (bY K) [] E0 (aj (ar 0) (aj (gI (iO K) (aj (bI (d5 K) (ar 2) (ar 4)) aM)) aM)))) (aX 7)) (dG (tB (gI (Mz K) (aj (ar 7) (aj (tC (.ty "tuple")) aM)))) (bZ (gI (e7 K) (aj (iM [] 1 (iN K (ar 7)) (aX 8) qZ (bI (d5 K) (bI (d5 K) (ar 2) (ar 4)) (bL (bY K) [] E0 (aj (ar 0) (aj (gI (iO K) (aj (bI (d5 K) (ar 2) (ar 4)) aM)) aM))))) aM)) (aX 7)) cG)) (uA K))
def uC(K:Fg):TS:=(bB (jM (iN K (A4 (zS K) (ar 5) (kE (tC (.int 1))) gA)) (aX 7) (uB K)) (A6 K))
def ph(K:Fg):TS:=(bB (bZ (kc aM) (aX 6)) (uC K))
def uD(K:Fg):TS:=(bB (jM (EM K (aj (ar 1) aM)) (Ak K 2 (kZ (aX 4) (kZ (aX 5) yi))) (ph K)) (A5 K))
def zg(K:Fg):TS:=(bB (bZ (kc aM) (aX 3)) (uD K))
abbrev mf:List Str:=["_law_state","_law_word","_law_names_here","_law_params","_law_counts","_law_most"]
abbrev wG:List Str:=["_law_state","_law_word","_law_names_here","_law_params","_law_counts","_law_most","_law_many","_law_rows","_law_known"]
def zI(K:Fg):TS:=(cR (eM (aj (ar 1) (aj (gI (e7 K) (aj (ar 3) aM)) (aj (bL (jr K) [] E0 (aj (ar 0) (aj (ar 7) (aj (ar 8) aM)))) aM)))))
def zJ(K:Fg):TS:=(bB (bZ (bL (gz K) [] E0 (aj (ar 7) (aj (ar 2) (aj (ar 3) aM)))) (aX 8)) (zI K))
def zK(K:Fg):TS:=(bB (bZ (bL (jt K) [] E0 (aj (ar 7) (aj (ar 2) (aj (bI (i7 K) (gI (iO K) (aj (ar 3) aM)) (tC (.int 0))) aM)))) (aX 7)) (zJ K))
def zL(K:Fg):TS:=(bB (bZ (iM [] 1 (rn (aj (ar 6) aM)) (aX 9) qZ (bL (gy K) [] E0 (aj (ar 0) (aj (ar 2) (aj (ar 6) (aj (ar 4) aM)))))) (aX 7)) (zK K))
def GG(K:Fg):TS:=(bB (bZ (gI (L0) (aj (bI (dA K) (tC (.int 1)) (gI (FL) (aj (bI (i7 K) (gI (iO K) (aj (ar 3) aM)) (tC (.int 0))) aM))) (aj (bI (dA K) (tC (.int 1)) (bL (bY K) [] E0 (aj (ar 0) (aj (ar 5) aM)))) aM))) (aX 6)) (zL K))
abbrev iE:List Str:=["_law_state","_law_most"]
abbrev nS:List Str:=["_law_state","_law_most","_law_five","_law_words","_law_names_here","_law_counts","_law_found","_law_word","_law_many","_law_turn","_law_params"]
def zM(K:Fg):TS:=(cR (gI (e7 K) (aj (ar 6) aM)))
def rY(K:Fg):TS:=(mS (DQ K "list" iy (ar 6) (aj (bL (mE K) [] E0 (aj (ar 0) (aj (ar 7) (aj (ar 4) (aj (ar 10) (aj (ar 5) (aj (ar 1) aM))))))) aM)))
def rZ(K:Fg):TS:=(bB (bZ (A4 (zS K) (bI (dA K) (A4 (zS K) (ar 4) (kE (ar 9)) gA) (A4 (zS K) (ar 4) gA (kE (ar 9)))) gA (kE (ar 8))) (aX 10)) (rY K))
def r8(K:Fg):TS:=(bB (bZ (bL (bY K) [] E0 (aj (ar 0) (aj (gI (iO K) (aj (ar 4) aM)) aM))) (aX 9)) (rZ K))
def sd(K:Fg):TS:=(bB (jM (JI K (aj (ar 3) (aj (ar 5) aM))) (Ak K 2 (kZ (aX 7) (kZ (aX 8) yi))) (r8 K)) (zM K))
def se(K:Fg):TS:=(bB (bZ (kc aM) (aX 6)) (sd K))
def sf(K:Fg):TS:=(bB (bZ (iM [7] 0 (iN K (ar 3)) (aX 7) qZ (bL (bY K) [] E0 (aj (ar 0) (aj (bI (dA K) (gI (L1) (aj (tC (.int 4)) (aj (gI (iO K) (aj (ar 4) aM)) aM))) (tC (.int 1))) aM)))) (aX 5)) (se K))
def sg(K:Fg):TS:=(bB (bZ (bL (jL K) [] E0 (aj (ar 0) (aj (bI (dA K) (tC (.int 2)) (bL (bY K) [] E0 (aj (ar 0) (aj (tC (.int 5)) aM)))) aM))) (aX 4)) (sf K))
def sh(K:Fg):TS:=(bB (bZ (A4 (zS K) (bL (jL K) [] E0 (aj (ar 0) (aj (tC (.int 5)) aM))) gA (kE (bI (d5 K) (kc (aj (bI (dA K) (tC (.int 1)) (bL (bY K) [] E0 (aj (ar 0) (aj (tC (.int 3)) aM)))) (aj (tC (.int 5)) aM))) (ar 2)))) (aX 3)) (sg K))
def wk(K:Fg):TS:=(bB (bZ (gI (FL) (aj (bI (i7 K) (bI (lh) (bI (AR) (gI (MB K) (aj (A4 (zS K) (bI (d5 K) (ar 0) (tC (.int 0))) gA (kE (tC (.int 1)))) aM)) (tC (.int 4))) (tC (.int 16))) (tC (.int 5))) aM)) (aX 2)) (sh K))
end Bg
end
section
namespace Bg
open PySem L2
abbrev G2:Str:="abcdefghijklmnopqrstuvwxyz"
theorem Bt:G2.length<=sizeLine:=by decide +kernel
def one(c:Nat):Str:=⟨#[c]⟩
theorem xZ:∀cs:List Nat,(Txt.join "" (cs.map one)).cps.toList=cs
 |[]=>by decide +kernel
 |c::r=>by
  unfold Txt.join
  rw[StrLaws.glued_eq_join]
  induction r generalizing c with
  |nil=>rfl
  |cons d r ih=>
   show(one c++("":Str)++Str.join "" ((d::r).map one)).cps.toList=_
   have e:(one c++("":Str)++Str.join "" ((d::r).map one)).cps.toList=(one c).cps.toList++("":Str).cps.toList++(Str.join "" ((d::r).map one)).cps.toList:=by
    show((one c).cps++("":Str).cps++(Str.join "" ((d::r).map one)).cps).toList=_
    rw[jU,jU]
   rw[e,ih d]
   rfl
theorem lO(y:Str):y.length=y.cps.toList.length:=by
 show y.cps.size=_
 rw[dj]
theorem xW:∀j:Nat,j<26->G2.cps.toList[j]?=some (97+j):=by decide +kernel
theorem FW:∀y∈FV,y.length<=4:=by decide +kernel
theorem DI:∀y∈FV,y.cps.toList.getLast?≠some 120:=by decide +kernel
theorem Bx(y:Str):(y++"x").cps.toList=y.cps.toList++[120]:=by
 show(y.cps++("x":Str).cps).toList=_
 rw[jU]
 rfl
theorem yF{y:Str}{cs:List Nat}(h:y.cps.toList=cs)(l1:1<=cs.length)(l8:cs.length<=8)(a:∀c∈cs,97<=c/\c<=122)(n:y∉FV):Nm y:=
 ⟨by rw[lO,h];exact l1,by rw[lO,h];exact l8,by rw[h];exact a,n⟩
theorem LF{y:Str}{cs:List Nat}(h:y.cps.toList=cs)(l8:cs.length<=7)(a:∀c∈cs,97<=c/\c<=122):Nm (y++"x"):=by
 have e:=Bx y
 rw[h] at e
 refine⟨by rw[lO,e,ay];simp,by rw[lO,e,ay];simp;lia,λc hc=>?_,λhm=>?_⟩
 ·rw[e] at hc
  rcases aE.mp hc with z|z
  ·exact a c z
  ·rw[ai.mp z];decide
 ·have:=DI _ hm
  rw[e,List.getLast?_append] at this
  exact this rfl
def Mp(st b l:Addr)(n sz at':Nat)(f:Int)(H4:Hp)(i:Nat):St->Hp->Prop:=λσ' H'=>∃(ys:List Str) (o1 o2 o3:Option V),σ'=[some (.ref st),some (.int (n:Nat)),some (.str G2),some (.int (sz:Nat)),some (.int (at':Nat)),some (.int f),some (.ref b),some (.ref l),o1,o2,o3]/\H' l=some (.lst (ys.map V.str))/\ys.length=i/\(∀y∈ys,Nm y)/\(∀(j:Nat) y,ys[j]?=some y->y.cps.toList[at']?=some (97+((f+5*(j:Int)) % 26).toNat))/\fP l (upd H4 l (.lst [])) H'
theorem IG{K:Fg}{vs:List V}{H:Hp}{Q:VK}{E:XK}(h:jL K vs H Q E):Cn K {nx:=λ_ H'=>Q .non H',rt:=Q} (di sJ vs) H:=by
 obtain⟨st,n,k,rfl,S,hk,hn,q⟩:=h
 refine⟨_,rfl,st,8,k,rfl,S,by lia,by decide,by decide,λd H1 d0 d1 S1 B1=>.inl ⟨_,_,rfl,rfl,?_⟩⟩
 obtain⟨sz,hsz,z1,z8⟩:∃sz:Nat,(1:Int)+d=(sz:Int)/\1<=sz/\sz<=8:=⟨(1+d).toNat,by lia,by lia,by lia⟩
 show uJ K _ [some (.ref st),some (.int (n:Nat)),some (.str G2),some (.int ((1:Int)+d)),none,none,none,none,none,none,none] H1
 rw[hsz]
 refine⟨_,rfl,_,rfl,st,_,k+1,rfl,S1,by lia,by lia,by lia,λa H2 a0 a1 S2 B2'=>?_⟩
 obtain⟨at',rfl⟩:∃j:Nat,a=(j:Int):=⟨a.toNat,by lia⟩
 have B2:=B1.trans B2'
 refine⟨_,rfl,st,26,k+2,rfl,S2,by lia,by decide,by decide,λf H3 f0 f1 S3 B3'=>?_⟩
 have B3:=B2.trans B3'
 refine⟨_,rfl,_,rfl,by lia,by lia,λb hb=>?_⟩
 obtain⟨ys3,hs3⟩:=S3.lst
 have nb:b≠st:=λz=>by rw[z,hs3] at hb;cases hb
 refine tN (λi σ' H'=>∃(bc:List Nat) (kk:Nat) (o:Option V),σ'=[some (.ref st),some (.int (n:Nat)),some (.str G2),some (.int (sz:Nat)),some (.int (at':Nat)),some (.int f),none,none,none,none,none,o]/\
  H' b=some (.lst ((bc.map one).map V.str))/\bc.length=i/\(∀c∈bc,97<=c/\c<=122)/\kW K H' st kk/\kk<=k+3+i/\fP st H H') ?_ ?_ ?_
 ·exact⟨[],k+3,none,rfl,ag,rfl,by simp,S3.new hb,by lia,B3.new hb⟩
 ·rintro i σ' H' hi ⟨bs,kk,o,rfl,hbl,hlen,hone,S4,hkk,B4⟩
  have hi:i<sz:=by simpa using hi
  refine jZ ?_
  refine⟨_,rfl,_,rfl,_,rfl,.inl ⟨_,_,rfl,rfl,.inl ⟨by decide,by decide⟩,_,rfl,st,4,kk,rfl,S4,by lia,by decide,by decide,λe H5 e0 e1 S5 B5=>.inl ⟨_,_,rfl,rfl,.inr ⟨by lia,by lia⟩,.inl ⟨_,_,rfl,rfl,_,_,rfl,rfl,(by show(0:Int)<26;decide),?_⟩⟩⟩⟩
  have x0:0<=(f+7*(0+(i:Int))*e) % 26:=cX _ (by decide)
  have x1:(f+7*(0+(i:Int))*e) % 26<26:=cS _ (by decide)
  refine Mv Bt x0 (xW _ (by lia)) ?_
  have x2:((f+7*(0+(i:Int))*e) % 26).toNat<26:=by lia
  generalize ((f+7*(0+(i:Int))*e) % 26).toNat=x at x2
  have h5:=B5 b _ nb hbl
  refine⟨_,h5,cF (by rw[ae,ae];lia),bs++[97+x],kk+1,_,rfl,?_,by simp[hlen],?_,?_,by lia,?_⟩
  ·rw[ag,aL,aL];rfl
  ·intro y hy
   rcases aE.mp hy with z|z
   ·exact hone y z
   ·rw[ai.mp z];lia
  ·exact S5.mono .upd_at h5 (Ne.symm nb)
  ·exact λc' u n' h'=>by
    have w:=(B4.trans B5) c' u n' h'
    have ncb:c'≠b:=λz=>by
     have:H c'=none:=(B3.free (λz'=>n' z') (by rw[z];exact hb))
     rw[this] at h';cases h'
    rw[ax ncb];exact w
 ·rintro σ' H4 ⟨bs,kk,o,rfl,hbl,hlen,hone,S4,hkk,B4⟩
  have hlen:bs.length=sz:=by simpa using hlen
  have hkk:kk<=k+3+sz:=by simpa using hkk
  refine⟨(by show 0<=sizeLine;decide),λl hl=>?_⟩
  have nlb:b≠l:=ak hbl hl
  obtain⟨ys4,hs4⟩:=S4.lst
  have nls:st≠l:=ak hs4 hl
  have Hl:H l=none:=B4.free (Ne.symm nls) hl
  show wa K _ [some (.ref st),some (.int (n:Nat)),some (.str G2),some (.int (sz:Nat)),some (.int (at':Nat)),some (.int f),some (.ref b),some (.ref l),none,none,none] (upd H4 l (.lst []))
  refine⟨_,rfl,_,rfl,by lia,by lia,kf (Mp st b l n sz at' f H4) ⟨[],none,none,none,rfl,ag,rfl,by simp,by simp,.refl _ _⟩ ?_ ?_⟩
  ·rintro i σ' H5 hi ⟨ys,o1,o2,o3,rfl,hyl,ylen,yok,ycd,B5⟩
   have hi:i<n:=by simpa using hi
   have hb5:H5 b=some (.lst ((bs.map one).map V.str)):=B5 b _ nlb (by rw[ax nlb];exact hbl)
   refine⟨_,rfl,_,rfl,_,rfl,.inl ⟨b,_,rfl,cq.of hb5,λp1 hp1=>?_⟩⟩
   rw[jJ,<-dw,<-dw]
   have np1b:b≠p1:=ak hb5 hp1
   have np1l:l≠p1:=ak hyl hp1
   refine⟨_,rfl,_,rfl,_,rfl,.inl ⟨_,_,rfl,rfl,.inl ⟨by decide,by decide⟩,.inl ⟨_,_,rfl,rfl,_,_,rfl,rfl,(by show(0:Int)<26;decide),?_⟩⟩⟩
   have e00:(0:Int)+(i:Int)=(i:Int):=by lia
   rw[e00]
   have x0:0<=(f+5*(i:Int)) % 26:=cX _ (by decide)
   have x1:(f+5*(i:Int)) % 26<26:=cS _ (by decide)
   obtain⟨c,hc⟩:∃c,c=97+((f+5*(i:Int)) % 26).toNat:=⟨_,rfl⟩
   refine Mv Bt x0 (by rw[xW _ (by lia),<-hc]) ⟨(by show 1<=sizeLine;decide),λp2 hp2=>?_⟩
   have np12:p1≠p2:=ak ag hp2
   have np2b:b≠p2:=ak (by rw[ax np1b];exact hb5) hp2
   have np2l:l≠p2:=ak (by rw[ax np1l];exact hyl) hp2
   refine .inr (.inr (.inl ⟨p1,p2,_,_,rfl,rfl,by rw[ax np12,ag],ag,?_,λp3 hp3=>?_⟩))
   ·have:=cF (n:=9) (by decide)
    rw[ae,ae,bg]
    show min at' bs.length+1<=sizeLine
    lia
   have np13:p1≠p3:=ak (by rw[ax np12];exact ag) hp3
   have np3b:b≠p3:=ak (by rw[ax np2b,ax np1b];exact hb5) hp3
   have np3l:l≠p3:=ak (by rw[ax np2l,ax np1l];exact hyl) hp3
   refine⟨_,rfl,_,rfl,.inl ⟨_,_,rfl,rfl,_,rfl,.inl ⟨b,_,rfl,cq.of (by rw[ax np3b,ax np2b,ax np1b];exact hb5),λp4 hp4=>?_⟩⟩⟩
   rw[show((at':Int)+1)=((at'+1:Nat):Int) by lia,x6,<-oq,<-oq]
   have np34:p3≠p4:=ak ag hp4
   have np4l:l≠p4:=ak (by rw[ax np3l,ax np2l,ax np1l];exact hyl) hp4
   refine .inr (.inr (.inl ⟨p3,p4,_,_,rfl,rfl,by rw[ax np34,ag],ag,?_,λp5 hp5=>?_⟩))
   ·have:=cF (n:=100) (by decide)
    rw[ay,ae,ae,ae,ae,bg,dJ]
    show min at' bs.length+1+(bs.length-(at'+1))<=sizeLine
    lia
   have np5l:l≠p5:=ak (by rw[ax np4l,ax np3l,ax np2l,ax np1l];exact hyl) hp5
   have ew:((bs.take at').map one).map V.str++[V.str ⟨#[c]⟩]++((bs.drop (at'+1)).map one).map V.str=((bs.take at'++[c]++bs.drop (at'+1)).map one).map V.str:=by rw[aL,aL,aL,aL];rfl
   rw[ew]
   have wl:(bs.take at'++[c]++bs.drop (at'+1)).length=sz:=by rw[ay,ay,bg,dJ,bo];lia
   have wone:∀y∈bs.take at'++[c]++bs.drop (at'+1),97<=y/\y<=122:=λy hy=>by
    rcases aE.mp hy with z|z
    ·rcases aE.mp z with z|z
     ·exact hone y (dZ z)
     ·rw[ai.mp z];lia
    ·exact hone y (List.mem_of_mem_drop z)
   have wat:(bs.take at'++[c]++bs.drop (at'+1))[at']?=some c:=by
    have tl:(bs.take at').length=at':=by rw[bg];lia
    rw[iQ,bh (by lia),tl,eK]
    rfl
   generalize bs.take at'++[c]++bs.drop (at'+1)=w at wl wone wat ⊢
   have B6:=((((B5.new (o:=.lst (((bs.take at').map one).map V.str)) hp1).new (o:=.lst [V.str ⟨#[c]⟩]) hp2).new (o:=.lst (((bs.take at').map one).map V.str++[V.str ⟨#[c]⟩])) hp3).new (o:=.lst (((bs.drop (at'+1)).map one).map V.str)) hp4).new (o:=.lst ((w.map one).map V.str)) hp5
   have h6:(upd (upd (upd (upd (upd H5 p1 (.lst (((bs.take at').map one).map V.str))) p2 (.lst [V.str ⟨#[c]⟩])) p3 (.lst (((bs.take at').map one).map V.str++[V.str ⟨#[c]⟩]))) p4 (.lst (((bs.drop (at'+1)).map one).map V.str))) p5 (.lst ((w.map one).map V.str))) l=some (.lst (ys.map V.str)):=by
    rw[ax np5l,ax np4l,ax np3l,ax np2l,ax np1l];exact hyl
   have g6:(upd (upd (upd (upd (upd H5 p1 (.lst (((bs.take at').map one).map V.str))) p2 (.lst [V.str ⟨#[c]⟩])) p3 (.lst (((bs.take at').map one).map V.str++[V.str ⟨#[c]⟩]))) p4 (.lst (((bs.drop (at'+1)).map one).map V.str))) p5 (.lst ((w.map one).map V.str))) p5=some (.lst ((w.map one).map V.str)):=ag
   generalize (upd (upd (upd (upd (upd H5 p1 (.lst (((bs.take at').map one).map V.str))) p2 (.lst [V.str ⟨#[c]⟩])) p3 (.lst (((bs.take at').map one).map V.str++[V.str ⟨#[c]⟩]))) p4 (.lst (((bs.drop (at'+1)).map one).map V.str))) p5 (.lst ((w.map one).map V.str)))=H6 at B6 h6 g6 ⊢
   have wsum:((w.map one).map (·.length)).sum=w.length:=by
    rw[cP,show((λx:Str=>x.length) ∘ one)=λ_=>1 from rfl,List.map_const',List.sum_replicate_nat,Nat.mul_one]
   refine⟨rfl,_,rfl,"",p5,w.map one,rfl,rfl,cq.of g6,?_,?_⟩
   ·have e:("":Str).length=0:=by decide +kernel
    rw[wsum,e,Nat.mul_zero];lia
   have jl:=xZ w
   generalize Txt.join "" (w.map one)=nmw at jl ⊢
   show v9 K _ [some (.ref st),some (.int (n:Nat)),some (.str G2),some (.int (sz:Nat)),some (.int (at':Nat)),some (.int f),some (.ref b),some (.ref l),some (.int (i:Int)),some (.ref p5),some (.str nmw)] H6
   have nl:nmw.length=sz:=by rw[lO,jl,wl]
   have app:∀(nw:Str) (H7:Hp),Nm nw->nw.cps.toList[at']?=some c->fP l (upd H4 l (.lst [])) H7->H7 l=some (.lst (ys.map V.str))->v8 K {nx:=Mp st b l n sz at' f H4 (i+1),rt:=Q,ct:=Mp st b l n sz at' f H4 (i+1),bk:=v7 K {nx:=λ_ H'=>Q .non H',rt:=Q}} [some (.ref st),some (.int (n:Nat)),some (.str G2),some (.int (sz:Nat)),some (.int (at':Nat)),some (.int f),some (.ref b),some (.ref l),some (.int (i:Int)),some (.ref p5),some (.str nw)] H7:=λnw H7 w1 w2 B7 h7=>by
    refine⟨_,rfl,.inl ⟨rfl,_,cq.of h7⟩,_,rfl,l,_,_,rfl,rfl,h7,cF (by rw[ae];lia),?_⟩
    refine⟨ys++[nw],_,_,_,rfl,?_,by simp[ylen],?_,?_,B7.trans .upd_at⟩
    ·rw[ag,aL];rfl
    ·intro y hy
     rcases aE.mp hy with z|z
     ·exact yok y z
     ·rw[ai.mp z];exact w1
    ·intro j y hy
     by_cases cj:j<ys.length
     ·rw[bM cj] at hy;exact ycd j y hy
     ·have cj2:j=i:=by
       have:=(af.mp hy).1
       rw[ay,bo] at this
       lia
      subst cj2
      rw[bh (by lia),ylen,eK] at hy
      cases hy
      rw[<-hc];exact w2
   refine⟨_,rfl,(by show 6<=sizeLine;decide),λt ht=>⟨t,_,rfl,.inr (dC.of ag),rfl,rfl,_,rfl,?_⟩⟩
   have ntl:l≠t:=ak h6 ht
   have B7:=B6.new (o:=.tup [V.str "part",V.str "call",V.str "say",V.str "jump",V.str "test",V.str "give"]) ht
   have h7:(upd H6 t (.tup [V.str "part",V.str "call",V.str "say",V.str "jump",V.str "test",V.str "give"])) l=some (.lst (ys.map V.str)):=by rw[ax ntl];exact h6
   have xl:("x":Str).length=1:=by decide +kernel
   have xat:(nmw++"x").cps.toList[at']?=some c:=by
    rw[Bx,jl,bM (by rw[wl];lia)];exact wat
   show if m6 (.str nmw) (FV.map V.str)=true then _ else _
   rw[tS]
   refine cA (λhin=>?_) (λhin=>?_)
   ·refine⟨_,rfl,.inr (.inl ⟨_,_,rfl,rfl,by rw[xl];have:=cF (n:=100) (by decide);lia,?_⟩)⟩
    have z4:=FW _ hin
    exact app _ _ (LF jl (by rw[wl];lia) wone) xat B7 h7
   ·refine⟨_,rfl,_,_,rfl,rfl,_,rfl,cA (λh8=>?_) (λ_=>?_)⟩
    ·refine⟨_,rfl,_,rfl,.inl ⟨_,_,rfl,rfl,_,_,rfl,rfl,(by show(0:Int)<3;decide),.inl ⟨rfl,_,rfl,cA (λ_=>?_) (λ_=>?_)⟩⟩⟩
     ·refine⟨_,rfl,.inr (.inl ⟨_,_,rfl,rfl,by rw[xl];have:=cF (n:=100) (by decide);lia,?_⟩)⟩
      exact app _ _ (LF jl (by rw[wl];lia) wone) xat B7 h7
     ·exact app _ _ (yF jl (by lia) (by lia) wone hin) (by rw[jl];exact wat) B7 h7
    ·exact j5 (app _ _ (yF jl (by lia) (by lia) wone hin) (by rw[jl];exact wat) B7 h7)
  ·rintro σ' H5 ⟨ys,o1,o2,o3,rfl,hyl,ylen,yok,ycd,B5⟩
   have ylen:ys.length=n:=by simpa using ylen
   have nd:ys.Nodup:=by
    rw[List.Nodup,List.pairwise_iff_getElem]
    intro i j hi hj lt e
    have e1:=ycd i _ (aa hi)
    have e2:=ycd j _ (aa hj)
    rw[e,e2] at e1
    have e3:=Option.some.inj e1
    have a1:0<=(f+5*(i:Int)) % 26:=cX _ (by decide)
    have a2:0<=(f+5*(j:Int)) % 26:=cX _ (by decide)
    lia
   refine⟨_,rfl,q l ys kk H5 Hl ylen nd yok hyl ((S4.new hl).mono B5 ag nls) (by lia) (B4.through hl B5)⟩
structure MJ(rl:Addr)(H:Hp)(R:aZ->Prop)(n:Nat)(H':Hp)(rvs:List V)(rs:List aZ):Prop where
 at_:H' rl=some (.lst rvs)
 all:cT (dD H') rvs rs
 len:rs.length=n
 rough:∀r∈rs,R r
 but:fP rl H H'
theorem MJ.vlen{rl:Addr}{H H':Hp}{R:aZ->Prop}{n:Nat}{rvs:List V}{rs:List aZ}(m:MJ rl H R n H' rvs rs):rvs.length=n:=m.all.len.trans m.len
theorem MJ.grown{rl:Addr}{H H' H2:Hp}{R:aZ->Prop}{n:Nat}{rvs:List V}{rs:List aZ}(m:MJ rl H R n H' rvs rs)(s:aT H' H2):MJ rl H R n H2 rvs rs:=
 ⟨s _ _ m.at_,m.all.imp λ_ _ z=>z.mono (.of_same s),m.len,m.rough,λb o nb h=>s _ _ (m.but b o nb h)⟩
theorem MJ.set{rl:Addr}{H H':Hp}{R:aZ->Prop}{n:Nat}{rvs:List V}{rs:List aZ}{v:V}{r:aZ}(j:Nat)(m:MJ rl H R n H' rvs rs)(q:dD H' v r)(ro:R r) :
  MJ rl H R n (upd H' rl (.lst (rvs.set j v))) (rvs.set j v) (rs.set j r):=by
 have t:Tp H' (upd H' rl (.lst (rvs.set j v))):=(Tp.refl H').lst m.at_
 refine⟨ag,(m.all.set q).imp λ_ _ z=>z.mono t,by rw[cY];exact m.len,λr' hr'=>?_,m.but.trans .upd_at⟩
 rcases List.mem_or_eq_of_mem_set hr' with z|z
 ·exact m.rough r' z
 ·rw[z];exact ro
theorem MJ.get{rl:Addr}{H H':Hp}{R:aZ->Prop}{n:Nat}{rvs:List V}{rs:List aZ}(m:MJ rl H R n H' rvs rs){j:Nat}(hj:j<n):∃p xs r,rvs[j]?=some (.ref p)/\rs[j]?=some r/\H' p=some (.tup (.str (oo r)::xs))/\dD H' (.ref p) r/\R r:=by
 obtain⟨v,r,e1,e2,q⟩:=m.all.get (i:=j) (by rw[m.len];exact hj)
 obtain⟨p,xs,rfl,hp⟩:=q.ref
 exact⟨p,xs,r,e1,e2,hp,q,m.rough r (az e2)⟩
def Jc(n:Nat)(rs:List aZ):Prop:=∃r,rs[n-1]?=some r/\jY r=true
def Ll(bare:Bool)(rs:List aZ):Prop:=bare=true->∃r,rs[0]?=some r/\tW r=true
theorem oh{r:aZ}(h:oo r="jump"):∃to,r=.jump to:=by
 cases r with
 |jump to=>exact⟨to,rfl⟩
 |num x z=>exact absurd h (by show ¬("num":Str)="jump";decide +kernel)
 |op x s a b=>exact absurd h (by show ¬("op":Str)="jump";decide +kernel)
 |call x k as=>exact absurd h (by show ¬("call":Str)="jump";decide +kernel)
 |say a=>exact absurd h (by show ¬("say":Str)="jump";decide +kernel)
 |test a to=>exact absurd h (by show ¬("test":Str)="jump";decide +kernel)
 |give a=>exact absurd h (by show ¬("give":Str)="jump";decide +kernel)
theorem JK{r:aZ}(h:oo r="num"):tW r=true:=by
 cases r with
 |num x z=>rfl
 |jump to=>exact absurd h (by show ¬("jump":Str)="num";decide +kernel)
 |op x s a b=>exact absurd h (by show ¬("op":Str)="num";decide +kernel)
 |call x k as=>exact absurd h (by show ¬("call":Str)="num";decide +kernel)
 |say a=>exact absurd h (by show ¬("say":Str)="num";decide +kernel)
 |test a to=>exact absurd h (by show ¬("test":Str)="num";decide +kernel)
 |give a=>exact absurd h (by show ¬("give":Str)="num";decide +kernel)
theorem JJ{r:aZ}(h:m6 (.str (oo r)) [V.str "jump",V.str "give"]=true):jY r=true:=by
 cases r with
 |jump to=>rfl
 |give a=>rfl
 |num x z=>exact absurd h (by show ¬m6 (.str "num") [V.str "jump",V.str "give"]=true;decide +kernel)
 |op x s a b=>exact absurd h (by show ¬m6 (.str "op") [V.str "jump",V.str "give"]=true;decide +kernel)
 |call x k as=>exact absurd h (by show ¬m6 (.str "call") [V.str "jump",V.str "give"]=true;decide +kernel)
 |say a=>exact absurd h (by show ¬m6 (.str "say") [V.str "jump",V.str "give"]=true;decide +kernel)
 |test a to=>exact absurd h (by show ¬m6 (.str "test") [V.str "jump",V.str "give"]=true;decide +kernel)
theorem mF{a b:Str}(h:V.str a=V.str b):a=b:=by cases h;rfl
theorem za{rs:List aZ}{n:Nat}(h:∀r,rs[n]?=some r->gH r=false):stp rs n=n:=by
 unfold stp
 cases e:rs[n]? with
 |none=>rfl
 |some r=>cases r with
  |jump t=>exact absurd (h _ e) (by show ¬true=false;decide)
  |_=>rfl
theorem oa{rs:List aZ}{n:Nat}(h:∀r,rs[n]?=some r->gH r=false):∀k,runJ rs k n=n
 |0=>rfl
 |k+1=>by
  show runJ rs k (stp rs n)=n
  rw[za h];exact oa h k
theorem oe(rs:List aZ):∀(k n:Nat),runJ rs (k+1) n=stp rs (runJ rs k n)
 |0,n=>rfl
 |k+1,n=>by
  show runJ rs (k+1) (stp rs n)=stp rs (runJ rs k (stp rs n))
  exact oe rs k (stp rs n)
theorem FZ{rs:List aZ}{j:Nat}{r':aZ}(hr:gH r'=false)(hj:j<rs.length):∀(k m:Nat),(∀r,rs[runJ rs k m]?=some r->gH r=false)->∀r,(rs.set j r')[runJ (rs.set j r') k m]?=some r->gH r=false:=by
 have at_j:∀r,(rs.set j r')[j]?=some r->gH r=false:=λr e=>by
  rw[bj hj] at e;cases e;exact hr
 intro k
 induction k with
 |zero=>
  intro m h r e
  by_cases c:j=m
  ·subst c;exact at_j r e
  ·have e':(rs.set j r')[m]?=some r:=e
   rw[bJ c] at e';exact h r e'
 |succ k ih=>
  intro m h r e
  by_cases c:j=m
  ·subst c
   rw[oa at_j] at e;exact at_j r e
  ·have es:stp (rs.set j r') m=stp rs m:=by unfold stp;rw[bJ c]
   have e':(rs.set j r')[runJ (rs.set j r') k (stp (rs.set j r') m)]?=some r:=e
   rw[es] at e'
   exact ih (stp rs m) h r e'
theorem ud{r:aZ}(h:¬oo r="jump"):gH r=false:=by
 cases r<;>first|rfl|exact absurd rfl h
def Mn(rl nm:Addr)(bare:Bool)(H:Hp)(R:aZ->Prop)(n i:Nat):St->Hp->Prop:=λσ' H'=>∃(rvs:List V) (rs:List aZ) (o4 o5 o6:Option V),σ'=[some (.ref rl),some (.ref nm),some (.bl bare),some (.int ((n-1:Nat):Nat)),o4,o5,o6]/\MJ rl H R n H' rvs rs/\Jc n rs/\Ll bare rs/\∀m,m<i->∀r,rs[runJ rs n m]?=some r->gH r=false
theorem FP{K:Fg}{vs:List V}{H:Hp}{Q:VK}{E:XK}(h:jt K vs H Q E):zh K {nx:=λ_ H'=>Q .non H',rt:=Q} (di sZ vs) H:=by
 obtain⟨rl,nm,bare,rvs,rs,ys,R,rfl,hrl,hA,hpos,hfew,hR,rSay,rGive,rJump,hnm,ysne,rNum,nnr,hbare,q⟩:=h
 obtain⟨n,hn⟩:∃n,n=rs.length:=⟨_,rfl⟩
 have n1:1<=n:=by rw[hn];exact eF.mpr hpos
 have n100:n<=100:=by rw[hn];exact hfew
 have M0:MJ rl H R n H rvs rs:=⟨hrl,hA,hn.symm,hR,.refl _ _⟩
 refine⟨_,rfl,_,_,rfl,.inl ⟨_,cq.of hrl,rfl⟩,_,_,rfl,rfl,?_⟩
 show uI K _ [some (.ref rl),some (.ref nm),some (.bl bare),some (.int (((rvs.length:Nat):Int)-1)),none,none,none] H
 rw[show((rvs.length:Nat):Int)-1=((n-1:Nat):Nat) by rw[M0.vlen];lia]
 have loop:∀H',Mn rl nm bare H R n 0 [some (.ref rl),some (.ref nm),some (.bl bare),some (.int ((n-1:Nat):Nat)),none,none,none] H'->uG K {nx:=λ_ H'=>Q .non H',rt:=Q} [some (.ref rl),some (.ref nm),some (.bl bare),some (.int ((n-1:Nat):Nat)),none,none,none] H':=λH' P0=>by
  obtain⟨rvs0,rs0,_,_,_,_,MM,_,_,_⟩:=id P0
  refine⟨_,rfl,_,_,rfl,.inl ⟨_,cq.of MM.at_,rfl⟩,_,rfl,by lia,by rw[MM.vlen];lia,kf (λi=>Mn rl nm bare H R n i) P0 ?_ ?_⟩
  ·rintro i σ' H1 hi ⟨rvs,rs,o4,o5,o6,rfl,M,hE,hN,hJ⟩
   have hi:i<n:=by rw[MM.vlen] at hi;simpa using hi
   have e0:(0:Int)+(i:Int)=((i:Nat):Int):=by lia
   show uF K _ [some (.ref rl),some (.ref nm),some (.bl bare),some (.int ((n-1:Nat):Nat)),some (.int ((0:Int)+(i:Int))),o5,o6] H1
   rw[e0]
   refine⟨_,rfl,?_⟩
   show uE K _ [some (.ref rl),some (.ref nm),some (.bl bare),some (.int ((n-1:Nat):Nat)),some (.int (i:Nat)),some (.int (i:Nat)),o6] H1
   refine .inl ⟨_,rfl,rl,rfl,⟨_,cq.of M.at_⟩,gQ (xs:=rvs) (λj σ H'=>∃(to:Nat) (o:Option V),σ=[some (.ref rl),some (.ref nm),some (.bl bare),some (.int ((n-1:Nat):Nat)),some (.int (i:Nat)),some (.int (to:Nat)),o]/\H'=H1/\to<n/\(∀r,rs[i]?=some r->tW r=true->to=i)/\to=runJ rs j i)
    ⟨i,o6,rfl,rfl,hi,λ_ _ _=>rfl,rfl⟩ (λ_ _ _ _ ⟨_,_,_,e,_⟩=>by rw[e];exact cq.of M.at_) ?_ ?_⟩
   ·rintro j x σ' H2 hx ⟨to,o,rfl,rfl,hto,hk,hrun⟩
    obtain⟨p,xs,r,e1,e2,hp,hra,hro⟩:=M.get hto
    have e1':rvs[((to:Nat):Int).toNat]?=some (.ref p):=by simpa using e1
    refine⟨_,rfl,_,rfl,om (cq.of M.at_) (by lia) e1' (dE hp (by decide) rfl (.inl ⟨rfl,_,rfl,cA (λhw=>?_) (λhw=>?_)⟩))⟩
    ·obtain⟨t',rfl⟩:=oh (mF hw)
     obtain⟨p',e3,hp'⟩:=hra
     cases e3
     refine⟨_,rfl,_,rfl,om (cq.of M.at_) (by lia) e1' (dE hp' (by decide) rfl ?_)⟩
     refine⟨t',_,rfl,rfl,by rw[hn];exact rJump _ hro,λr hr hnum=>?_,?_⟩
     ·have:=hk r hr hnum
      rw[this] at e2
      rw[e2] at hr;cases hr;cases hnum
     ·rw[oe,<-hrun];unfold stp;rw[e2]
    ·refine⟨to,_,rfl,rfl,hto,hk,?_⟩
     rw[oe,<-hrun,za]
     intro r' hr'
     rw[e2] at hr';cases hr'
     exact ud λz=>hw (by rw[z])
   ·rintro σ' H2 ⟨to,o,rfl,rfl,hto,hk,hrun⟩
    rw[M.vlen] at hrun
    obtain⟨p,xs,r,e1,e2,hp,hra,hro⟩:=M.get hto
    have e1':rvs[((to:Nat):Int).toNat]?=some (.ref p):=by simpa using e1
    refine⟨_,rfl,_,rfl,om (cq.of M.at_) (by lia) e1' (dE hp (by decide) rfl (.inl ⟨rfl,_,rfl,cA (λhw=>?_) (λhw=>⟨rvs,rs,_,_,_,rfl,M,hE,hN,λm hm=>?_⟩)⟩))⟩
    rotate_left
    ·by_cases cm:m<i
     ·exact hJ m cm
     ·have:m=i:=by lia
      subst this
      intro r' hr'
      rw[<-hrun,e2] at hr';cases hr'
      exact ud λz=>hw (by rw[z])
    obtain⟨t',rfl⟩:=oh (mF hw)
    refine⟨(by show 2<=sizeLine;decide),λp1 hp1=>⟨(by show 2<=sizeLine;decide),λp2 hp2=>⟨(by show 2<=sizeLine;decide),λl hl=>?_⟩⟩⟩
    have n12:p1≠p2:=ak ag hp2
    have n1l:p1≠l:=ak (by rw[ax n12];exact ag) hl
    have n2l:p2≠l:=ak ag hl
    have sm:aT H2 (upd (upd (upd H2 p1 (.tup [V.str "say",V.str ""])) p2 (.tup [V.str "give",V.str ""])) l (.lst [V.ref p1,V.ref p2])):=(((aT.refl H2).new hp1).new hp2).new hl
    have M2:=M.grown sm
    have hl2:(upd (upd (upd H2 p1 (.tup [V.str "say",V.str ""])) p2 (.tup [V.str "give",V.str ""])) l (.lst [V.ref p1,V.ref p2])) l=some (.lst [V.ref p1,V.ref p2]):=ag
    have h1:(upd (upd (upd H2 p1 (.tup [V.str "say",V.str ""])) p2 (.tup [V.str "give",V.str ""])) l (.lst [V.ref p1,V.ref p2])) p1=some (.tup [V.str "say",V.str ""]):=by rw[ax n1l,ax n12,ag]
    have h2:(upd (upd (upd H2 p1 (.tup [V.str "say",V.str ""])) p2 (.tup [V.str "give",V.str ""])) l (.lst [V.ref p1,V.ref p2])) p2=some (.tup [V.str "give",V.str ""]):=by rw[ax n2l,ag]
    generalize (upd (upd (upd H2 p1 (.tup [V.str "say",V.str ""])) p2 (.tup [V.str "give",V.str ""])) l (.lst [V.ref p1,V.ref p2]))=H3 at M2 hl2 h1 h2 ⊢
    have fin:∀(v:V) (r:aZ),dD H3 v r->R r->gH r=false->(i=n-1->jY r=true)->oj (ar 0) (ar 4) nC v [some (.ref rl),some (.ref nm),some (.bl bare),some (.int ((n-1:Nat):Nat)),some (.int (i:Nat)),some (.int (to:Nat)),o] H3 (Mn rl nm bare H R n (i+1)):=λv r hv hr hj he=>by
     refine⟨_,rfl,_,rfl,y8 M2.at_ (by lia) (by rw[M2.vlen];simpa using hi) ?_⟩
     have ei:((i:Nat):Int).toNat=i:=by simp
     rw[ei]
     refine⟨_,rs.set i r,_,_,_,rfl,M2.set i hv hr,?_,λhb=>?_,λm hm=>?_⟩
     ·obtain⟨r1,a1,a2⟩:=hE
      by_cases c:i=n-1
      ·exact⟨r,by rw[<-c,bj (by rw[M2.len];exact hi)],he c⟩
      ·exact⟨r1,by rw[bJ c];exact a1,a2⟩
     ·obtain⟨r0,a1,a2⟩:=hN hb
      have c:i≠0:=λc=>by
       subst c
       have:=hk r0 a1 a2
       subst this
       rw[e2] at a1;cases a1;cases a2
      exact⟨r0,by rw[bJ c];exact a1,a2⟩
     ·have il:i<rs.length:=by rw[M2.len];exact hi
      by_cases cm:m<i
      ·exact FZ hj il n m (hJ m cm)
      ·have:m=i:=by lia
       subst this
       have atm:∀r',(rs.set m r)[m]?=some r'->gH r'=false:=λr' e=>by rw[bj il] at e;cases e;exact hj
       intro r' hr'
       rw[oa atm] at hr'
       exact atm r' hr'
    refine⟨_,rfl,_,rfl,.inl ⟨rfl,?_⟩⟩
    refine .inr ⟨_,rfl,?_⟩
    by_cases c:i=n-1
    ·have ec:decide (V.int (i:Nat)=V.int ((n-1:Nat):Nat))=true:=by rw[c];exact decide_eq_true rfl
     rw[ec]
     exact om (cq.of hl2) (by decide) rfl (fin _ (.give "") ⟨p2,rfl,h2⟩ rGive rfl λ_=>rfl)
    ·have ec:decide (V.int (i:Nat)=V.int ((n-1:Nat):Nat))=false:=decide_eq_false (λz=>c (by injection z with z;lia))
     rw[ec]
     exact om (cq.of hl2) (by decide) rfl (fin _ (.say "") ⟨p1,rfl,h1⟩ rSay rfl λz=>absurd z c)
  ·rintro σ' H1 ⟨rvs,rs',o4,o5,o6,rfl,M,hE,hN,hJ⟩
   rw[MM.vlen,fz] at hJ
   refine⟨_,rfl,q rvs rs' H1 M.at_ M.all (M.len.trans hn) M.rough ?_ ?_ (by intro m hm;rw[M.len] at hm ⊢;exact hJ m hm) M.but⟩
   ·obtain⟨r,a1,a2⟩:=hE
    rw[dH,M.len,a1,cZ,a2]
   ·intro hb
    obtain⟨r,a1,a2⟩:=hN hb
    rw[iS,a1,cZ,a2]
 have second:∀(H':Hp) (rvs:List V) (rs:List aZ),MJ rl H R n H' rvs rs->Jc n rs->uH K {nx:=λ_ H'=>Q .non H',rt:=Q} [some (.ref rl),some (.ref nm),some (.bl bare),some (.int ((n-1:Nat):Nat)),none,none,none] H':=λH' rvs rs M hE=>by
  refine⟨_,rfl,bare,rfl,vJ (λhb=>?_) (λhb=>?_)⟩
  ·have n2:2<=n:=by rw[hn];exact hbare hb
   obtain⟨p,xs,r,e1,e2,hp,hra,hro⟩:=M.get (j:=0) (by lia)
   refine⟨_,rfl,om (cq.of M.at_) (by decide) e1 (dE hp (by decide) rfl (.inl ⟨rfl,_,rfl,fR (λhw=>?_) (λhw=>?_)⟩))⟩
   ·refine⟨_,rfl,_,_,rfl,rfl,_,rfl,cA (λ_=>?_) (λhz=>absurd (show(0:Int)<((n-1:Nat):Nat) by lia) hz)⟩
    have hnm':=M.but nm _ nnr hnm
    obtain⟨y,yr,rfl⟩:∃y yr,ys=y::yr:=List.exists_cons_of_ne_nil ysne
    refine⟨_,rfl,om (cq.of hnm') (by decide) rfl ⟨(by show 3<=sizeLine;decide),λp2 hp2=>?_⟩⟩
    have M2:=M.grown ((aT.refl H').new (o:=.tup [V.str "num",V.str y,V.int 3]) hp2)
    refine⟨_,rfl,y8 M2.at_ (by decide) (by rw[M2.vlen];exact n1) (loop _ ⟨_,rs.set 0 (.num y 3),_,_,_,rfl,M2.set 0 ⟨p2,rfl,ag⟩ (rNum y aP hb),?_,λ_=>⟨.num y 3,bj (by rw[M.len];exact n1),rfl⟩,λ_ z=>absurd z (fq _)⟩)⟩
    obtain⟨r1,a1,a2⟩:=hE
    exact⟨r1,by rw[bJ (by lia)];exact a1,a2⟩
   ·exact j5 (loop _ ⟨rvs,rs,_,_,_,rfl,M,hE,λ_=>⟨r,e2,JK (mF hw)⟩,λ_ z=>absurd z (fq _)⟩)
  ·exact j5 (loop _ ⟨rvs,rs,_,_,_,rfl,M,hE,λhb'=>(by rw[hb] at hb';cases hb'),λ_ z=>absurd z (fq _)⟩)
 obtain⟨p,xs,r,e1,e2,hp,hra,hro⟩:=M0.get (j:=n-1) (by lia)
 have e1':rvs[((n-1:Nat):Int).toNat]?=some (.ref p):=by simpa using e1
 refine⟨_,rfl,_,rfl,om (cq.of hrl) (by lia) e1' (dE hp (by decide) rfl ⟨(by show 2<=sizeLine;decide),λt ht=>⟨t,_,rfl,.inr (dC.of ag),rfl,rfl,_,rfl,?_⟩⟩)⟩
 have M1:=M0.grown ((aT.refl H).new (o:=.tup [V.str "jump",V.str "give"]) ht)
 refine vJ (λhb=>?_) (λhb=>?_)
 ·refine⟨(by show 2<=sizeLine;decide),λp2 hp2=>?_⟩
  have M2:=M1.grown ((aT.refl _).new (o:=.tup [V.str "give",V.str ""]) hp2)
  refine⟨_,rfl,_,rfl,y8 M2.at_ (by lia) (by rw[M2.vlen];lia) ?_⟩
  have ei:((n-1:Nat):Int).toNat=n-1:=by simp
  rw[ei]
  exact second _ _ _ (M2.set (n-1) (r:=.give "") ⟨p2,rfl,ag⟩ rGive) ⟨.give "",bj (by rw[M0.len];lia),rfl⟩
 ·refine second _ _ _ M1 ⟨r,e2,JJ ?_⟩
  have hb':(!m6 (.str (oo r)) [V.str "jump",V.str "give"])=false:=hb
  simpa using hb'
def Jg(kl:Addr)(H:Hp)(v:V)(ks:List Str):Prop:=∃a,v=.ref a/\a≠kl/\H a=some (.lst (ks.map V.str))
theorem Jg.same{kl:Addr}{H H':Hp}{v:V}{ks:List Str}(h:Jg kl H v ks)(s:aT H H'):Jg kl H' v ks:=by
 obtain⟨a,e,n,h⟩:=h;exact⟨a,e,n,s _ _ h⟩
theorem Jg.upd{kl:Addr}{H:Hp}{v:V}{ks:List Str}{o:HO}(h:Jg kl H v ks):Jg kl (upd H kl o) v ks:=by
 obtain⟨a,e,n,h⟩:=h;exact⟨a,e,n,by rw[ax n];exact h⟩
def qW(kss:List (List Str)):Nat:=(kss.map jE).sum
theorem zc:∀{kss:List (List Str)} {m:Nat} {ks kp:List Str},kss[m]?=some ks->qW (kss.set m kp)+ks.length=qW kss+kp.length
 |[],m,ks,kp,h=>by simp at h
 |a::r,0,ks,kp,h=>by
  simp at h;subst h
  show kp.length+qW r+a.length=a.length+qW r+kp.length
  lia
 |a::r,m+1,ks,kp,h=>by
  have ih:=zc (kss:=r) (m:=m) (ks:=ks) (kp:=kp) (by simpa using h)
  show a.length+qW (r.set m kp)+ks.length=a.length+qW r+kp.length
  lia
structure KJ(kl:Addr)(H:Hp)(ys ps:List Str)(w:Str)(n:Nat)(H':Hp)(refs:List V)(kss:List (List Str)):Prop where
 at_:H' kl=some (.lst refs)
 all:cT (Jg kl H') refs kss
 len:kss.length=n
 wit:∀(i:Nat) ks,kss[i]?=some ks->ks.length<=100/\(∀y∈ks,y∈ys)/\(w∈ks\/(i=0/\ps=[]))
 same:aT H H'
theorem KJ.grown{kl:Addr}{H H' H2:Hp}{ys ps:List Str}{w:Str}{n:Nat}{refs:List V}{kss:List (List Str)}(k:KJ kl H ys ps w n H' refs kss)(s:aT H' H2):KJ kl H ys ps w n H2 refs kss:=
 ⟨s _ _ k.at_,k.all.imp λ_ _ z=>z.same s,k.len,k.wit,k.same.trans s⟩
theorem KJ.vlen{kl:Addr}{H H':Hp}{ys ps:List Str}{w:Str}{n:Nat}{refs:List V}{kss:List (List Str)}(k:KJ kl H ys ps w n H' refs kss):refs.length=n:=k.all.len.trans k.len
theorem KJ.get{kl:Addr}{H H':Hp}{ys ps:List Str}{w:Str}{n:Nat}{refs:List V}{kss:List (List Str)}(k:KJ kl H ys ps w n H' refs kss){j:Nat}(hj:j<n):∃a ks,refs[j]?=some (.ref a)/\kss[j]?=some ks/\a≠kl/\H' a=some (.lst (ks.map V.str)):=by
 obtain⟨v,ks,e1,e2,a,rfl,n1,h1⟩:=k.all.get (i:=j) (by rw[k.len];exact hj)
 exact⟨a,ks,e1,e2,n1,h1⟩
theorem KJ.set{kl a:Addr}{H H':Hp}{ys ps:List Str}{w:Str}{n m:Nat}{refs:List V}{kss:List (List Str)}{kp:List Str}(k:KJ kl H ys ps w n H' refs kss)(hkl:H kl=none)(na:a≠kl)(ha:H' a=some (.lst (kp.map V.str)))
  (hw:kp.length<=100/\(∀y∈kp,y∈ys)/\(w∈kp\/(m=0/\ps=[]))):KJ kl H ys ps w n (upd H' kl (.lst (refs.set m (.ref a)))) (refs.set m (.ref a)) (kss.set m kp):=by
 refine⟨ag,cT.set (k.all.imp λ_ _ z=>z.upd) ⟨a,rfl,na,by rw[ax na];exact ha⟩,by rw[cY];exact k.len,λi ks e=>?_,λb o h=>?_⟩
 ·by_cases c:m=i
  ·subst c
   have hi:m<kss.length:=by have:=(af.mp e).1;rw[cY] at this;exact this
   rw[bj hi] at e;cases e;exact hw
  ·rw[bJ c] at e;exact k.wit i ks e
 ·rw[ax (ak h hkl)];exact k.same _ _ h
theorem rm{α:Type}(p:α->Bool)(l:List α)(i:Nat)(v:α)(h:l[i]?=some v):(l.take (i+1)).filter p=(l.take i).filter p++(if p v=true then[v] else[]):=by
 rw[fF,h,kh]
 cases hp:p v<;>simp[hp]
theorem Hk{r:aZ}(h:m6 (.str (oo r)) [V.str "num",V.str "op",V.str "call"]=true):∃x,gv r=.str x:=by
 cases r with
 |num x z=>exact⟨x,rfl⟩
 |op x s a b=>exact⟨x,rfl⟩
 |call x k as=>exact⟨x,rfl⟩
 |jump to=>exact absurd h (by show ¬m6 (.str "jump") [V.str "num",V.str "op",V.str "call"]=true;decide +kernel)
 |say a=>exact absurd h (by show ¬m6 (.str "say") [V.str "num",V.str "op",V.str "call"]=true;decide +kernel)
 |test a to=>exact absurd h (by show ¬m6 (.str "test") [V.str "num",V.str "op",V.str "call"]=true;decide +kernel)
 |give a=>exact absurd h (by show ¬m6 (.str "give") [V.str "num",V.str "op",V.str "call"]=true;decide +kernel)
theorem IP{H:Hp}{p:Addr}{r:aZ}{x:Str}(h:dD H (.ref p) r)(e:gv r=.str x):∃xs,H p=some (.tup (.str (oo r)::.str x::xs)):=by
 cases r with
 |num y z=>cases e;obtain⟨p',e',h⟩:=h;cases e';exact⟨_,h⟩
 |op y s a b=>cases e;obtain⟨p',e',h⟩:=h;cases e';exact⟨_,h⟩
 |call y k as=>cases e;obtain⟨p',q,e',h,_⟩:=h;cases e';exact⟨_,h⟩
 |jump to=>cases e
 |say a=>cases e
 |test a to=>cases e
 |give a=>cases e
theorem E3{ys:List Str}{cs:List Nat}{rs:List aZ}{i m j:Nat}{r:aZ}(hr:rs[i]?=some r)(ro:tG ys cs rs.length r)(hE:rs.getLast?.map jY=some true)(hm:(cc i r)[j]?=some m):m<rs.length:=by
 have hi:i<rs.length:=(af.mp hr).1
 have nx:jY r=false->i+1<rs.length:=λhe=>by
  by_cases c:i+1<rs.length
  ·exact c
  ·have ei:i=rs.length-1:=by lia
   rw[dH,<-ei,hr,cZ,he] at hE
   cases hE
 have mem:=az hm
 cases r with
 |jump to=>rw[ai.mp mem];exact ro
 |test a to=>
  rcases aN.mp mem with e|e
  ·rw[e];exact nx rfl
  ·rw[ai.mp e];exact ro.2
 |give a=>cases mem
 |num x z=>rw[ai.mp mem];exact nx rfl
 |op x s a b=>rw[ai.mp mem];exact nx rfl
 |call x k as=>rw[ai.mp mem];exact nx rfl
 |say a=>rw[ai.mp mem];exact nx rfl
def tE(rs:List aZ)(i:Nat)(kss:List (List Str)):Prop:=∀(n m:Nat) r ks km,n<i->rs[n]?=some r->m∈cc n r->kss[n]?=some ks->kss[m]?=some km->∀y∈km,y∈ks\/gv r=.str y
def wK(ps:List Str)(kss:List (List Str)):Prop:=∀ks,kss[0]?=some ks->∀y∈ks,y∈ps
theorem wK.set{ps:List Str}{kss:List (List Str)}{m:Nat}{km kp:List Str}(h:wK ps kss)(e:kss[m]?=some km)(s:∀y∈kp,y∈km):wK ps (kss.set m kp):=by
 intro ks e0 y hy
 by_cases c:m=0
 ·subst c
  have hl:0<kss.length:=(af.mp e).1
  rw[bj hl] at e0;cases e0
  exact h km e y (s y hy)
 ·rw[bJ c] at e0;exact h ks e0 y hy
def La(rl nm pr kl:Addr)(H:Hp)(ys ps:List Str)(w:Str)(rs:List aZ)(B i:Nat):St->Hp->Prop:=λσ' H'=>∃(refs:List V) (kss:List (List Str)) (more:Bool) (o5 o6 o7 o8:Option V),σ'=[some (.ref rl),some (.ref nm),some (.ref pr),some (.ref kl),some (.bl more),o5,o6,o7,o8]/\KJ kl H ys ps w rs.length H' refs kss/\2*qW kss+more.toNat<=B/\wK ps kss/\(more=false->tE rs i kss)
def Mq(rl nm pr kl:Addr)(H:Hp)(ys ps:List Str)(w:Str)(rs:List aZ)(B i:Nat)(la l:Addr)(ls:List Str)(ms:List Nat)(kss0:List (List Str))(j:Nat):St->Hp->Prop:=λσ' H'=>∃(refs:List V) (kss:List (List Str)) (more:Bool) (o7 o8:Option V),σ'=[some (.ref rl),some (.ref nm),some (.ref pr),some (.ref kl),some (.bl more),some (.int (i:Nat)),some (.ref la),o7,o8]/\KJ kl H ys ps w rs.length H' refs kss/\2*qW kss+more.toNat<=B/\H' la=some (.lst (ls.map V.str))/\H' l=some (.lst (aU ms))/\wK ps kss/\
 (more=false->kss=kss0/\tE rs i kss0/\∀j',j'<j->∀m km,ms[j']?=some m->kss0[m]?=some km->∀y∈km,y∈ls)
def uT(a b:Addr)(H H':Hp):Prop:=∀c o,c≠a->c≠b->H c=some o->H' c=some o
theorem uT.refl(a b:Addr)(H:Hp):uT a b H H:=λ_ _ _ _ h=>h
theorem uT.trans{a b:Addr}{H H1 H2:Hp}(x:uT a b H H1)(y:uT a b H1 H2):uT a b H H2:=λc o n m h=>y c o n m (x c o n m h)
theorem uT.of_l{a b:Addr}{H H':Hp}(x:fP a H H'):uT a b H H':=λc o n _ h=>x c o n h
theorem uT.of_r{a b:Addr}{H H':Hp}(x:fP b H H'):uT a b H H':=λc o _ m h=>x c o m h
theorem uT.upd_r{a b:Addr}{H:Hp}{o:HO}:uT a b H (upd H b o):=.of_r .upd_at
theorem uT.tp{a b:Addr}{H H':Hp}{xs ys:List V}(x:uT a b H H')(ha:H a=some (.lst xs))(hb:H b=some (.lst ys)):Tp H H':=λp zs h=>
 x p _ (by rintro rfl;rw[h] at ha;cases ha) (by rintro rfl;rw[h] at hb;cases hb) h
theorem uT.but{a b:Addr}{H H1 H2:Hp}(x:fP a H H1)(hb:H b=none)(y:uT a b H1 H2):fP a H H2:=λc o n h=>y c o n (ak h hb) (x c o n h)
def wV:V->Nat
 |.str s=>if s="" then 1 else 0
 |.ref _=>4
 |_=>0
def CD(ks:List Str)(H:Hp):V->Prop
 |.str s=>s=""->ks≠[]
 |.int _=>True
 |.ref q=>∃as:List Str,H q=some (.tup (as.map V.str))/\as.length<=4/\ks≠[]
 |_=>False
theorem CD.mono{ks:List Str}{H H':Hp}{x:V}(h:CD ks H x)(t:Tp H H'):CD ks H' x:=by
 cases x with
 |str s=>exact h
 |int i=>exact h
 |ref q=>obtain⟨as,h1,h2⟩:=h;exact⟨as,t _ _ h1,h2⟩
 |_=>exact h.elim
def Ef(ks:List Str)(H:Hp)(y x:V):Prop:=match x with
 |.str s=>(s=""->∃z∈ks,y=.str z)/\(s≠""->y=.str s)
 |.int i=>y=.int i
 |.ref q=>∃(as bs:List Str) (q':Addr),H q=some (.tup (as.map V.str))/\y=.ref q'/\H q'=some (.tup (bs.map V.str))/\bs.length=as.length/\∀b∈bs,b∈ks
 |_=>False
theorem Ef.mono{ks:List Str}{H H':Hp}{x y:V}(h:Ef ks H y x)(t:Tp H H'):Ef ks H' y x:=by
 cases x with
 |str s=>exact h
 |int i=>exact h
 |ref q=>obtain⟨as,bs,q',h1,h2,h3,h4⟩:=h;exact⟨as,bs,q',t _ _ h1,h2,t _ _ h3,h4⟩
 |_=>exact h.elim
theorem BB{K:Fg}{σ:St}{st kl a:Addr}{i k:Nat}{refs:List V}{ks:List Str}{H:Hp}{Q:VK}(h0:σ[0]?=some (some (.ref st)))(h2:σ[2]?=some (some (.ref kl)))(h4:σ[4]?=some (some (.int (i:Nat))))
  (hkl:H kl=some (.lst refs)) (hr:refs[i]?=some (.ref a)) (ha:H a=some (.lst (ks.map V.str))) (ne:ks≠[]) (len:ks.length<=100) (S:kW K H st k) (hk:k<=900000) (na:a≠st)
  (q:∀(y:Str) (H':Hp),y∈ks->kW K H' st (k+1)->fP st H H'->Q (.str y) H') :
  bI (d5 K) (bI (d5 K) (ar 2) (ar 4)) (bL (bY K) [] E0 (aj (ar 0) (aj (gI (iO K) (aj (bI (d5 K) (ar 2) (ar 4)) aM)) aM))) σ H Q:=by
 have hl:0<ks.length:=eF.mpr ne
 have hr':refs[((i:Nat):Int).toNat]?=some (.ref a):=by simpa using hr
 refine⟨_,h2,_,h4,om (cq.of hkl) (by lia) hr' ⟨_,h0,_,h2,_,h4,om (cq.of hkl) (by lia) hr' ⟨_,_,rfl,.inl ⟨_,cq.of ha,rfl⟩,st,_,k,rfl,S,by lia,by rw[ae];lia,by rw[ae];lia,λd H1 d0 d1 S1 B1=>?_⟩⟩⟩
 rw[ae] at d1
 have dl:d.toNat<ks.length:=by lia
 exact om (cq.of (B1 a _ na ha)) d0 (zb (aa dl)) (q _ H1 (fW dl) S1 B1)
theorem ED{K:Fg}{st rl kl fd p sm a:Addr}{i k:Nat}{refs vs:List V}{ks:List Str}{x:V}{H:Hp}{D:nh}(hkl:H kl=some (.lst refs))(hr:refs[i]?=some (.ref a))(ha:H a=some (.lst (ks.map V.str)))(len:ks.length<=100)(S:kW K H st k)(hk:k<=800000)(na:a≠st)(nk:kl≠st)
  (hsm:H sm=some (.lst vs)) (vl:vs.length<=100) (ns:sm≠st) (ok:CD ks H x)
  (q:∀(y:V) (k':Nat) (H':Hp),Ef ks H' y x->H' sm=some (.lst (vs++[y]))->kW K H' st k'->k'<=k+wV x->uT st sm H H'->D.nx [some (.ref st),some (.ref rl),some (.ref kl),some (.ref fd),some (.int (i:Nat)),some (.ref p),some (.ref sm),some y] H') :
  uB K D [some (.ref st),some (.ref rl),some (.ref kl),some (.ref fd),some (.int (i:Nat)),some (.ref p),some (.ref sm),some x] H:=by
 have app:∀(y:V) (k':Nat) (H1:Hp),Ef ks H1 y x->kW K H1 st k'->k'<=k+wV x->fP st H H1->uA K D [some (.ref st),some (.ref rl),some (.ref kl),some (.ref fd),some (.int (i:Nat)),some (.ref p),some (.ref sm),some y] H1:=λy k' H1 f S1 l1 B1=>by
  have h1:=B1 sm _ ns hsm
  refine⟨_,rfl,.inl ⟨rfl,_,cq.of h1⟩,_,rfl,sm,_,_,rfl,rfl,h1,cF (by lia),?_⟩
  exact q y k' _ (f.mono ((Tp.refl H1).lst h1)) ag (S1.mono .upd_at h1 (Ne.symm ns)) l1 ((uT.of_l B1).trans .upd_r)
 cases x with
 |str s=>
  refine⟨_,rfl,.inl ⟨rfl,_,rfl,cA (λe=>?_) (λe=>?_)⟩⟩
  ·have e':s="":=by cases e;rfl
   refine BB rfl rfl rfl hkl hr ha (ok e') len S (by lia) na λy H' hy S' B'=>?_
   refine app (.str y) _ H' ⟨λ_=>⟨y,hy,rfl⟩,λz=>absurd e' z⟩ S' ?_ B'
   show k+1<=k+(if s="" then 1 else 0)
   rw[if_pos e'];exact aB _
  ·refine⟨_,rfl,_,_,_,rfl,.str_tuple _,_,rfl,j5 ?_⟩
   exact app (.str s) k H ⟨λz=>absurd (by rw[z]) e,λ_=>rfl⟩ S (by lia) (.refl _ _)
 |int j=>
  refine⟨_,rfl,.inl ⟨rfl,_,rfl,no (λz=>by cases z) ?_⟩⟩
  refine⟨_,rfl,_,_,_,rfl,.int_tuple _,_,rfl,j5 ?_⟩
  exact app (.int j) k H rfl S (by lia) (.refl _ _)
 |ref t=>
  obtain⟨as,ht,l4,ne⟩:=ok
  obtain⟨ys0,hst⟩:=S.lst
  have nt:t≠st:=Ne.symm (mr hst ht)
  refine⟨_,rfl,.inr (.inr (.inl ⟨t,_,_,rfl,rfl,dC.of ht,_,rfl,j5 ?_⟩))⟩
  refine⟨_,rfl,_,_,_,rfl,.tup_tuple (dC.of ht),_,rfl,uY ?_⟩
  refine .inr ⟨_,rfl,t,rfl,⟨_,dC.of ht⟩,λL hL=>?_⟩
  have nL:L≠st:=λz=>by rw[z,hst] at hL;cases hL
  refine pJ (xs:=as.map V.str) (λj σ' H'=>∃(bs:List Str) (k':Nat) (o:Option V),σ'=[some (.ref st),some (.ref rl),some (.ref kl),some (.ref fd),some (.int (i:Nat)),some (.ref p),some (.ref sm),some (.ref t),o]/\H' L=some (.lst (bs.map V.str))/\bs.length=j/\(∀b∈bs,b∈ks)/\kW K H' st k'/\k'<=k+j/\fP st H H') ?_ ?_ ?_ ?_
  ·exact⟨[],k,none,rfl,ag,rfl,by simp,S.new hL,by lia,(fP.refl st H).new hL⟩
  ·rintro j σ' H' _ ⟨_,_,_,_,_,_,_,_,_,B⟩
   exact dC.of (B t _ nt ht)
  ·rintro j x σ' H' hx ⟨bs,k',o,rfl,hb,bl,bm,S',hk',B'⟩
   have jl:j<as.length:=by have:=(af.mp hx).1;rw[ae] at this;exact this
   refine jZ (BB rfl rfl rfl (B' kl _ nk hkl) hr (B' a _ na ha) ne len S' (by lia) na λy H2 hy S2 B2=>?_)
   have h2:=B2 L _ nL hb
   refine⟨_,h2,cF (by rw[ae];lia),bs++[y],k'+1,_,rfl,by rw[ag,aL];rfl,by simp[bl],λb hb'=>?_,S2.mono .upd_at h2 (Ne.symm nL),by lia,?_⟩
   ·rcases aE.mp hb' with z|z
    ·exact bm b z
    ·rw[ai.mp z];exact hy
   ·exact λc u n h=>by rw[ax (ak h hL)];exact(B'.trans B2) c u n h
  ·rintro σ' H2 ⟨bs,k',o,_,hb,bl,bm,S',hk',B'⟩
   rw[ae] at bl hk'
   refine⟨L,_,rfl,.inl ⟨cq.of hb,λl hl=>?_⟩⟩
   have nl:L≠l:=ak hb hl
   have h2:=B' t _ nt ht
   refine app (.ref l) k' _ ⟨as,bs,l,by rw[ax (ak h2 hl)];exact h2,rfl,ag,bl,bm⟩ (S'.new hl) ?_ (B'.new hl)
   show k'<=k+4
   lia
 |_=>exact ok.elim
theorem Es(w:V)(rest:List V):mh (w::rest) (some 1) none=rest:=by
 unfold mh
 have e1:HT.sIx (w::rest).length 0 (some 1)=1:=by
  rw[show(1:Int)=((1:Nat):Int) from rfl,HT.sIx_nat,bG];lia
 rw[e1,HT.sIx_none,List.drop_succ_cons,m8,bG]
 exact eJ (by lia)
theorem Er(w:V){rest:List V}(h:rest≠[]):¬(HT.sIx (w::rest).length 0 (some 1)=0/\HT.sIx (w::rest).length (w::rest).length none=(w::rest).length):=by
 rintro⟨h1,_⟩
 rw[show(1:Int)=((1:Nat):Int) from rfl,HT.sIx_nat,bG] at h1
 lia
theorem JF{K:Fg}{st rl kl fd p a:Addr}{i k:Nat}{refs fs rest:List V}{w:Str}{ks:List Str}{H:Hp}{D:nh}{o6 o7:Option V}(hkl:H kl=some (.lst refs))(hr:refs[i]?=some (.ref a))(ha:H a=some (.lst (ks.map V.str)))(len:ks.length<=100)(S:kW K H st k)(hk:k<=750000)(na:a≠st)(nk:kl≠st)
  (hp:H p=some (.tup (.str w::rest))) (rne:rest≠[]) (rl4:rest.length<=4) (ok:∀x∈rest,CD ks H x) (cs5:(rest.map wV).sum<=5) (hfd:H fd=some (.lst fs)) (fl:fs.length<=100) (nf:fd≠st)
  (q:∀(o6 o7:Option V) (p':Addr) (vs:List V) (k':Nat) (H':Hp),H' fd=some (.lst (fs++[.ref p']))->H' p'=some (.tup (.str w::vs))->cT (Ef ks H') vs rest->kW K H' st k'->k'<=k+5->uT st fd H H'->D.nx [some (.ref st),some (.ref rl),some (.ref kl),some (.ref fd),some (.int (i:Nat)),some (.ref p),o6,o7] H') :
  ph K D [some (.ref st),some (.ref rl),some (.ref kl),some (.ref fd),some (.int (i:Nat)),some (.ref p),o6,o7] H:=by
 obtain⟨ys0,hst⟩:=S.lst
 refine⟨(by show 0<=sizeLine;decide),λsm hsm=>?_⟩
 have nsm:sm≠st:=λz=>by rw[z,hst] at hsm;cases hsm
 have s1:aT H (upd H sm (.lst [])):=(aT.refl H).new hsm
 have g1:(upd H sm (.lst [])) sm=some (.lst []):=ag
 show uC K D [some (.ref st),some (.ref rl),some (.ref kl),some (.ref fd),some (.int (i:Nat)),some (.ref p),some (.ref sm),o7] (upd H sm (.lst []))
 generalize upd H sm (.lst [])=H1 at s1 g1 ⊢
 refine .inr ⟨_,rfl,_,rfl,.inr ⟨p,_,rfl,dC.of (s1 _ _ hp),Er _ rne,λtp htp=>?_⟩⟩
 rw[Es]
 have s2:aT H (upd H1 tp (.tup rest)):=s1.new htp
 have g2:(upd H1 tp (.tup rest)) sm=some (.lst []):=by rw[ax (ak g1 htp)];exact g1
 have t2:(upd H1 tp (.tup rest)) tp=some (.tup rest):=ag
 generalize upd H1 tp (.tup rest)=H2 at s2 g2 t2 ⊢
 have nts:tp≠st:=Ne.symm (mr (s2 _ _ hst) t2)
 have ntm:tp≠sm:=Ne.symm (mr g2 t2)
 have nfm:fd≠sm:=ak hfd hsm
 have nkm:kl≠sm:=ak hkl hsm
 have nam:a≠sm:=ak ha hsm
 have nps:p≠st:=Ne.symm (mr hst hp)
 have npm:p≠sm:=ak hp hsm
 refine⟨tp,rfl,⟨_,dC.of t2⟩,mi (xs:=rest) (λj σ' H'=>∃(vs:List V) (k':Nat) (o:Option V),σ'=[some (.ref st),some (.ref rl),some (.ref kl),some (.ref fd),some (.int (i:Nat)),some (.ref p),some (.ref sm),o]/\H' sm=some (.lst vs)/\cT (Ef ks H') vs (rest.take j)/\kW K H' st k'/\k'<=k+((rest.take j).map wV).sum/\uT st sm H2 H') ?_ ?_ ?_ ?_⟩
 ·exact⟨[],k,o7,rfl,g2,.nil,S.same s2,by simp,.refl _ _ _⟩
 ·rintro j σ' H' _ ⟨_,_,_,_,_,_,_,_,B⟩
  exact dC.of (B tp _ nts ntm t2)
 ·rintro j x σ' H' hx ⟨vs,k',o,rfl,hvs,hA,S',hk',B'⟩
  have jl:j<rest.length:=(af.mp hx).1
  have et:rest.take (j+1)=rest.take j++[x]:=by rw[fF,hx];rfl
  have c5:((rest.take j).map wV).sum<=5:=by
   have e:=congrArg (λl=>(l.map wV).sum) (List.take_append_drop j rest)
   simp only[aL,List.sum_append] at e
   lia
  have vl:vs.length<=4:=by rw[hA.len,bg];lia
  refine ED (B' kl _ nk nkm (s2 _ _ hkl)) hr (B' a _ na nam (s2 _ _ ha)) len S' (by lia) na nk hvs (by lia) nsm (((ok x (az hx)).mono (.of_same s2)).mono (B'.tp (s2 _ _ hst) g2)) λy k2 H3 f h3 S3 l3 B3=>?_
  obtain⟨ys1,hst'⟩:=S'.lst
  refine⟨vs++[y],k2,_,rfl,h3,?_,S3,?_,B'.trans B3⟩
  ·rw[et];exact(hA.imp λ_ _ z=>z.mono (B3.tp hst' hvs)).snoc f
  ·rw[et,aL,List.sum_append]
   show k2<=k+(((rest.take j).map wV).sum+(wV x+0))
   lia
 ·rintro σ' H3 ⟨vs,k',o,rfl,hvs,hA,S',hk',B'⟩
  rw[bH] at hA hk'
  have h3p:=B' p _ nps npm (s2 _ _ hp)
  have h3f:=B' fd _ nf nfm (s2 _ _ hfd)
  obtain⟨ys1,hst'⟩:=S'.lst
  have vl:vs.length=rest.length:=hA.len
  have vne:vs≠[]:=λz=>rne (dv.mp (by rw[<-vl,z];rfl))
  have BH:fP st H H3:=(uT.but (s2.but) hsm B')
  refine⟨_,rfl,.inl ⟨rfl,_,cq.of h3f⟩,_,rfl,dE h3p (by decide) rfl ⟨(by show 1<=sizeLine;decide),λt1 ht1=>⟨_,rfl,sm,_,rfl,.inl ⟨cq.of (by rw[ax (ak hvs ht1)];exact hvs),λt4 ht4=>?_⟩⟩⟩⟩
  have n14:t1≠t4:=ak ag ht4
  refine .inr (.inr (.inr ⟨t1,t4,[.str w],vs,rfl,rfl,dC.of (by rw[ax n14];exact ag),dC.of ag,by simp,?_,λz=>absurd z vne,λ_ t5 ht5=>?_⟩))
  ·have:=cF (n:=100) (by decide)
   show 1+vs.length<=sizeLine
   lia
  have s5:aT H3 (upd (upd (upd H3 t1 (.tup [.str w])) t4 (.tup vs)) t5 (.tup (.str w::vs))):=(((aT.refl H3).new ht1).new ht4).new ht5
  have g5:(upd (upd (upd H3 t1 (.tup [.str w])) t4 (.tup vs)) t5 (.tup (.str w::vs))) t5=some (.tup (.str w::vs)):=ag
  show iy (.ref fd) [.ref t5] (upd (upd (upd H3 t1 (.tup [.str w])) t4 (.tup vs)) t5 (.tup (.str w::vs))) λx H1=>D.nx [some (.ref st),some (.ref rl),some (.ref kl),some (.ref fd),some (.int (i:Nat)),some (.ref p),some (.ref sm),o] H1
  generalize upd (upd (upd H3 t1 (.tup [.str w])) t4 (.tup vs)) t5 (.tup (.str w::vs))=H5 at s5 g5 ⊢
  have h5f:=s5 _ _ h3f
  refine⟨fd,_,_,rfl,rfl,h5f,cF (by lia),?_⟩
  have tp6:Tp H5 (upd H5 fd (.lst (fs++[.ref t5]))):=(Tp.refl H5).lst h5f
  refine q _ _ t5 vs k' _ ag (tp6 _ _ g5) ((hA.imp λ_ _ z=>z.mono (.of_same s5)).imp λ_ _ z=>z.mono tp6) ((S'.same s5).mono .upd_at h5f (Ne.symm nf)) (by lia) ?_
  exact λc u n m h=>by rw[ax m];exact s5 _ _ (BH c u n h)
theorem Gh{s:Str}(h:s∈BY):s≠"":=by
 intro e
 subst e
 exact absurd h (by decide +kernel)
theorem yA{as bs:List Str}(h:as.map V.str=bs.map V.str):as.length=bs.length:=by
 have:=congrArg jE h
 simpa using this
theorem sQ{ks:List Str}{H:Hp}{y:V}{s:Str}(h:Ef ks H y (.str s))(n:s≠""):y=.str s:=h.2 n
theorem pM{ks:List Str}{H:Hp}{y:V}(h:Ef ks H y (.str "")):∃z∈ks,y=.str z:=h.1 rfl
theorem sL{s:Str}(n:s≠""):wV (.str s)=0:=by
 show(if s="" then 1 else 0)=0
 rw[if_neg n]
theorem MT{vs:List V}(h:vs.length=2):∃a b,vs=[a,b]:=by
 match vs,h with
 |[a,b],_=>exact⟨a,b,rfl⟩
theorem MH{vs:List V}(h:vs.length=1):∃a,vs=[a]:=by
 match vs,h with
 |[a],_=>exact⟨a,rfl⟩
theorem M7{vs:List V}(h:vs.length=3):∃a b c,vs=[a,b,c]:=by
 match vs,h with
 |[a,b,c],_=>exact⟨a,b,c,rfl⟩
theorem M8{vs:List V}(h:vs.length=4):∃a b c d,vs=[a,b,c,d]:=by
 match vs,h with
 |[a,b,c,d],_=>exact⟨a,b,c,d,rfl⟩
theorem Hf{H:Hp}{p:Addr}{r:aZ}{ys ks:List Str}{cs:List Nat}{n:Nat}(hra:dD H (.ref p) r)(ro:tG ys cs n r)(yne:∀y∈ys,y≠"")(cs4:∀c∈cs,c<=4)(hks:ks≠[]\/tW r=true) :
  ∃rest,H p=some (.tup (.str (oo r)::rest))/\rest≠[]/\rest.length<=4/\(∀x∈rest,CD ks H x)/\(rest.map wV).sum<=5/\∀(H':Hp) (p':Addr) (vs:List V),cT (Ef ks H') vs rest->H' p'=some (.tup (.str (oo r)::vs))->Tp H H'->∃r',dD H' (.ref p') r'/\jN ks r r':=by
 cases r with
 |num x z=>
  obtain⟨p',e,h⟩:=hra
  cases e
  have xn:=yne x ro.1
  refine⟨_,h,by simp,by simp,λv hv=>?_,?_,λH' p' vs hA hp' t=>?_⟩
  ·rcases aN.mp hv with rfl|hv
   ·exact λz=>absurd z xn
   ·rw[ai.mp hv];exact trivial
  ·show wV (.str x)+(0+0)<=5
   rw[sL xn];decide
  ·obtain⟨a,b,rfl⟩:=MT hA.len
   have e1:=sQ (hA.at_ 0 _ _ rfl rfl) xn
   have e2:b=.int z:=hA.at_ 1 _ _ rfl rfl
   subst e1 e2
   exact⟨.num x z,⟨p',rfl,hp'⟩,rfl⟩
 |op x s a b=>
  obtain⟨p',e,h⟩:=hra
  cases e
  obtain⟨xy,ss,rfl,rfl⟩:=ro
  have xn:=yne x xy
  have sn:=Gh ss
  have kn:ks≠[]:=hks.resolve_right (by intro z;cases z)
  refine⟨_,h,by simp,by simp,λv hv=>?_,?_,λH' p' vs hA hp' t=>?_⟩
  ·rcases aN.mp hv with rfl|hv
   ·exact λz=>absurd z xn
   ·rcases aN.mp hv with rfl|hv
    ·exact λz=>absurd z sn
    ·rcases aN.mp hv with rfl|hv
     ·exact λ_=>kn
     ·rw[ai.mp hv];exact λ_=>kn
  ·show wV (.str x)+(wV (.str s)+(wV (.str "")+(wV (.str "")+0)))<=5
   rw[sL xn,sL sn];decide +kernel
  ·obtain⟨v1,v2,v3,v4,rfl⟩:=M8 hA.len
   have e1:=sQ (hA.at_ 0 _ _ rfl rfl) xn
   have e2:=sQ (hA.at_ 1 _ _ rfl rfl) sn
   obtain⟨z3,m3,e3⟩:=pM (hA.at_ 2 _ _ rfl rfl)
   obtain⟨z4,m4,e4⟩:=pM (hA.at_ 3 _ _ rfl rfl)
   subst e1 e2 e3 e4
   exact⟨.op x s z3 z4,⟨p',rfl,hp'⟩,z3,z4,rfl,m3,m4⟩
 |call x k as=>
  obtain⟨p',q,e,h,hq⟩:=hra
  cases e
  obtain⟨xy,c,hc,rfl⟩:=ro
  have xn:=yne x xy
  have kn:ks≠[]:=hks.resolve_right (by intro z;cases z)
  have c4:=cs4 c (az hc)
  refine⟨_,h,by simp,by simp,λv hv=>?_,?_,λH' p' vs hA hp' t=>?_⟩
  ·rcases aN.mp hv with rfl|hv
   ·exact λz=>absurd z xn
   ·rcases aN.mp hv with rfl|hv
    ·exact trivial
    ·rw[ai.mp hv];exact⟨_,hq,by rw[bE];exact c4,kn⟩
  ·show wV (.str x)+(0+(4+0))<=5
   rw[sL xn];decide
  ·obtain⟨v1,v2,v3,rfl⟩:=M7 hA.len
   have e1:=sQ (hA.at_ 0 _ _ rfl rfl) xn
   have e2:v2=.int (k:Nat):=hA.at_ 1 _ _ rfl rfl
   obtain⟨as',bs,q',hq',e3,h3,hl,hm⟩:=(show Ef ks H' v3 (.ref q) from hA.at_ 2 _ _ rfl rfl)
   subst e1 e2 e3
   have:=t _ _ hq
   rw[hq'] at this
   have e:=yA (HO.tup.inj (Option.some.inj this))
   exact⟨.call x k bs,⟨p',q',rfl,hp',h3⟩,bs,rfl,hl.trans e,hm⟩
 |say a=>
  obtain⟨p',e,h⟩:=hra
  cases e
  have ro:a="":=ro
  subst ro
  have kn:ks≠[]:=hks.resolve_right (by intro z;cases z)
  refine⟨_,h,by simp,by simp,λv hv=>?_,?_,λH' p' vs hA hp' t=>?_⟩
  ·rw[ai.mp hv];exact λ_=>kn
  ·show wV (.str "")+0<=5
   decide +kernel
  ·obtain⟨v1,rfl⟩:=MH hA.len
   obtain⟨z,m,e⟩:=pM (hA.at_ 0 _ _ rfl rfl)
   subst e
   exact⟨.say z,⟨p',rfl,hp'⟩,z,rfl,m⟩
 |jump to=>
  obtain⟨p',e,h⟩:=hra
  cases e
  refine⟨_,h,by simp,by simp,λv hv=>?_,?_,λH' p' vs hA hp' t=>?_⟩
  ·rw[ai.mp hv];exact trivial
  ·show 0+0<=5
   decide
  ·obtain⟨v1,rfl⟩:=MH hA.len
   have e:v1=.int (to:Nat):=hA.at_ 0 _ _ rfl rfl
   subst e
   exact⟨.jump to,⟨p',rfl,hp'⟩,rfl⟩
 |test a to=>
  obtain⟨p',e,h⟩:=hra
  cases e
  obtain⟨ro,_⟩:a=""/\_:=ro
  subst ro
  have kn:ks≠[]:=hks.resolve_right (by intro z;cases z)
  refine⟨_,h,by simp,by simp,λv hv=>?_,?_,λH' p' vs hA hp' t=>?_⟩
  ·rcases aN.mp hv with rfl|hv
   ·exact λ_=>kn
   ·rw[ai.mp hv];exact trivial
  ·show wV (.str "")+(0+0)<=5
   decide +kernel
  ·obtain⟨v1,v2,rfl⟩:=MT hA.len
   obtain⟨z,m,e⟩:=pM (hA.at_ 0 _ _ rfl rfl)
   have e2:v2=.int (to:Nat):=hA.at_ 1 _ _ rfl rfl
   subst e e2
   exact⟨.test z to,⟨p',rfl,hp'⟩,z,rfl,m⟩
 |give a=>
  obtain⟨p',e,h⟩:=hra
  cases e
  have ro:a="":=ro
  subst ro
  have kn:ks≠[]:=hks.resolve_right (by intro z;cases z)
  refine⟨_,h,by simp,by simp,λv hv=>?_,?_,λH' p' vs hA hp' t=>?_⟩
  ·rw[ai.mp hv];exact λ_=>kn
  ·show wV (.str "")+0<=5
   decide +kernel
  ·obtain⟨v1,rfl⟩:=MH hA.len
   obtain⟨z,m,e⟩:=pM (hA.at_ 0 _ _ rfl rfl)
   subst e
   exact⟨.give z,⟨p',rfl,hp'⟩,z,rfl,m⟩
theorem FO{K:Fg}{vs:List V}{H:Hp}{Q:VK}{E:XK}(h:jr K vs H Q E):zg K {nx:=λ_ H'=>Q .non H',rt:=Q} (di pE vs) H:=by
 obtain⟨st,rl,kl,k,rvs,refs,rs,kss,ys,cs,rfl,S,hk,hrl,hA,hOk,yne,cs4,hkl,hT,klen,k100,kne,rst,nrl,nkl,q⟩:=h
 obtain⟨ys0,hst⟩:=S.lst
 refine⟨(by show 0<=sizeLine;decide),λfd hfd=>?_⟩
 have nf:fd≠st:=λz=>by rw[z,hst] at hfd;cases hfd
 have s1:aT H (upd H fd (.lst [])):=(aT.refl H).new hfd
 have g1:(upd H fd (.lst [])) fd=some (.lst []):=ag
 show uD K _ [some (.ref st),some (.ref rl),some (.ref kl),some (.ref fd),none,none,none,none] (upd H fd (.lst []))
 generalize upd H fd (.lst [])=H1 at s1 g1 ⊢
 refine⟨_,rfl,rl,rfl,⟨_,cq.of (s1 _ _ hrl)⟩,EF (xs:=rvs) (λi σ' H'=>∃(fs:List V) (rs':List aZ) (k':Nat) (o4 o5 o6 o7:Option V),σ'=[some (.ref st),some (.ref rl),some (.ref kl),some (.ref fd),o4,o5,o6,o7]/\H' fd=some (.lst fs)/\cT (dD H') fs rs'/\rs'.length=i/\
  (∀(j:Nat) ks r r',kss[j]?=some ks->rs[j]?=some r->rs'[j]?=some r'->jN ks r r')/\kW K H' st k'/\k'<=k+5*i/\fP st H H') ?_ ?_ ?_ ?_⟩
 ·exact⟨[],[],k,none,none,none,none,rfl,g1,.nil,rfl,λj ks r r' _ _ z=>by simp at z,S.same s1,by lia,s1.but⟩
 ·rintro i σ' H' _ ⟨_,_,_,_,_,_,_,_,_,_,_,_,_,_,B⟩
  exact cq.of (B rl _ nrl hrl)
 ·rintro i x σ' H' tp hx htp ⟨fs,rs',k',o4,o5,o6,o7,rfl,hfs,hR,rlen,hF,S',hk',B'⟩
  obtain⟨r,hr,hra⟩:=hA.of_v hx
  obtain⟨p,xs,rfl,_⟩:=hra.ref
  have il:i<rs.length:=(af.mp hr).1
  have few:=hOk.few
  obtain⟨v,ks,e1,e2,a,rfl,ha⟩:=hT.get (i:=i) (by rw[klen];exact il)
  have na:a≠st:=λz=>rst (.ref a) (az e1) (by rw[z])
  have B2:fP st H (upd H' tp (.tup [.int (i:Nat),.ref p])):=B'.new htp
  have s2:aT H' (upd H' tp (.tup [.int (i:Nat),.ref p])):=(aT.refl H').new htp
  have g2:(upd H' tp (.tup [.int (i:Nat),.ref p])) tp=some (.tup [.int (i:Nat),.ref p]):=ag
  generalize upd H' tp (.tup [.int (i:Nat),.ref p])=H2 at B2 s2 g2 ⊢
  refine⟨tp,_,rfl,dC.of g2,rfl,_,_,rfl,_,_,rfl,rfl,?_⟩
  show ph K _ [some (.ref st),some (.ref rl),some (.ref kl),some (.ref fd),some (.int (i:Nat)),some (.ref p),o6,o7] H2
  have T2:Tp H H2:=.of_but B2 hst
  obtain⟨rest,h1,h2,h3,h4,h5,h6⟩:=Hf (ks:=ks) (hra.mono T2) (hOk.rough r (az hr)) yne cs4 (kne i ks r e2 hr)
  have f2:=s2 _ _ hfs
  have S2:=S'.same s2
  obtain⟨ys2,hst2⟩:=S2.lst
  refine JF (B2 kl _ nkl hkl) e1 (B2 a _ na ha) (k100 i ks e2) S2 (by lia) na nkl h1 h2 h3 h4 h5 f2 (by rw[hR.len,rlen];lia) nf λp6 p7 p' vs k3 H3 f3 g3 hA3 S3 l3 B3=>?_
  have T3:Tp H2 H3:=B3.tp hst2 f2
  obtain⟨r',hr',hf'⟩:=h6 H3 p' vs hA3 g3 T3
  refine⟨fs++[.ref p'],rs'++[r'],k3,_,_,_,_,rfl,f3,((hR.imp λ_ _ z=>(z.mono (.of_same s2)).mono T3)).snoc hr',by simp[rlen],λj ks' r1 r2 a1 a2 a3=>?_,S3,by lia,?_⟩
  ·by_cases c:j<rs'.length
   ·rw[bM c] at a3
    exact hF j ks' r1 r2 a1 a2 a3
   ·have c2:j=i:=by
     have:=(af.mp a3).1
     rw[ay,bo] at this
     lia
    subst c2
    rw[bh (by lia),rlen,eK] at a3
    cases a3
    rw[e2] at a1;cases a1
    rw[hr] at a2;cases a2
    exact hf'
  ·exact λc u n h=>by
    have hc:=B2 c u n h
    exact B3 c u n (ak h hfd) hc
 ·rintro σ' H' ⟨fs,rs',k',o4,o5,o6,o7,rfl,hfs,hR,rlen,hF,S',hk',B'⟩
  rw[hA.len] at rlen hk'
  refine⟨_,rfl,fd,_,rfl,.inl ⟨cq.of hfs,λl hl=>?_⟩⟩
  exact q l fs rs' k' _ ag (hR.imp λ_ _ z=>z.mono ((Tp.refl H').new hl)) rlen hF (S'.new hl) hk' (B'.new hl)
theorem Cy{K:Fg}{H:Hp}{st:Addr}{k:Nat}{v:V}{ks:List Str}(S:kW K H st k)(h:wJ H v ks):v≠.ref st:=by
 rintro rfl
 obtain⟨a,e,h⟩:=h
 cases e
 obtain⟨scr,ns,c,hs,_⟩:=S
 rw[h] at hs
 cases ks with
 |nil=>cases hs
 |cons y r=>cases hs
theorem Ai{ks:List Str}{r r':aZ}(h:jN ks r r')(n:Nat):cc n r'=cc n r:=by
 cases r with
 |num x z=>have h:r'=.num x z:=h;subst h;rfl
 |op x s a b=>obtain⟨_,_,rfl,_⟩:=h;rfl
 |call x k as=>obtain⟨_,rfl,_⟩:=h;rfl
 |say a=>obtain⟨_,rfl,_⟩:=h;rfl
 |jump t=>have h:r'=.jump t:=h;subst h;rfl
 |test a t=>obtain⟨_,rfl,_⟩:=h;rfl
 |give a=>obtain⟨_,rfl,_⟩:=h;rfl
theorem CT{ks:List Str}{r r':aZ}(h:jN ks r r'):gv r'=gv r:=by
 cases r with
 |num x z=>have h:r'=.num x z:=h;subst h;rfl
 |op x s a b=>obtain⟨_,_,rfl,_⟩:=h;rfl
 |call x k as=>obtain⟨_,rfl,_⟩:=h;rfl
 |say a=>obtain⟨_,rfl,_⟩:=h;rfl
 |jump t=>have h:r'=.jump t:=h;subst h;rfl
 |test a t=>obtain⟨_,rfl,_⟩:=h;rfl
 |give a=>obtain⟨_,rfl,_⟩:=h;rfl
theorem EC{ks:List Str}{r r':aZ}(h:jN ks r r'):jY r'=jY r:=by
 cases r with
 |num x z=>have h:r'=.num x z:=h;subst h;rfl
 |op x s a b=>obtain⟨_,_,rfl,_⟩:=h;rfl
 |call x k as=>obtain⟨_,rfl,_⟩:=h;rfl
 |say a=>obtain⟨_,rfl,_⟩:=h;rfl
 |jump t=>have h:r'=.jump t:=h;subst h;rfl
 |test a t=>obtain⟨_,rfl,_⟩:=h;rfl
 |give a=>obtain⟨_,rfl,_⟩:=h;rfl
theorem CS{ks:List Str}{r r':aZ}(h:jN ks r r'):gH r'=gH r:=by
 cases r with
 |num x z=>have h:r'=.num x z:=h;subst h;rfl
 |op x s a b=>obtain⟨_,_,rfl,_⟩:=h;rfl
 |call x k as=>obtain⟨_,rfl,_⟩:=h;rfl
 |say a=>obtain⟨_,rfl,_⟩:=h;rfl
 |jump t=>have h:r'=.jump t:=h;subst h;rfl
 |test a t=>obtain⟨_,rfl,_⟩:=h;rfl
 |give a=>obtain⟨_,rfl,_⟩:=h;rfl
theorem Aj{ks:List Str}{r r':aZ}(h:jN ks r r'):∀y∈d8 r',y∈ks:=by
 cases r with
 |num x z=>have h:r'=.num x z:=h;subst h;intro y hy;cases hy
 |op x s a b=>
  obtain⟨c,d,rfl,h1,h2⟩:=h
  intro y hy
  rcases aN.mp hy with rfl|hy
  ·exact h1
  ·rw[ai.mp hy];exact h2
 |call x k as=>obtain⟨_,rfl,_,h⟩:=h;exact h
 |say a=>obtain⟨_,rfl,h⟩:=h;intro y hy;rw[ai.mp hy];exact h
 |jump t=>have h:r'=.jump t:=h;subst h;intro y hy;cases hy
 |test a t=>obtain⟨_,rfl,h⟩:=h;intro y hy;rw[ai.mp hy];exact h
 |give a=>obtain⟨_,rfl,h⟩:=h;intro y hy;rw[ai.mp hy];exact h
theorem Hg{ys ks:List Str}{cs:List Nat}{n:Nat}{r r':aZ}(ro:tG ys cs n r)(hk:∀y∈ks,y∈ys)(h:jN ks r r'):Ej ys cs n r':=by
 cases r with
 |num x z=>have h:r'=.num x z:=h;subst h;exact ro
 |op x s a b=>obtain⟨c,d,rfl,h1,h2⟩:=h;exact⟨ro.1,ro.2.1,hk _ h1,hk _ h2⟩
 |call x k as=>
  obtain⟨bs,rfl,hl,h⟩:=h
  obtain⟨r1,c,r2,r3⟩:=ro
  refine⟨r1,?_,λa ha=>hk _ (h a ha)⟩
  rw[hl,r3,bE];exact r2
 |say a=>obtain⟨_,rfl,h⟩:=h;exact hk _ h
 |jump t=>have h:r'=.jump t:=h;subst h;exact ro
 |test a t=>obtain⟨_,rfl,h⟩:=h;exact⟨hk _ h,ro.2⟩
 |give a=>obtain⟨_,rfl,h⟩:=h;exact hk _ h
structure ou(rs rs':List aZ):Prop where
 len:rs'.length=rs.length
 fill:∀(i:Nat) r r',rs[i]?=some r->rs'[i]?=some r'->∃ks,jN ks r r'
theorem ou.get{rs rs':List aZ}(h:ou rs rs'){i:Nat}{r':aZ}(e:rs'[i]?=some r'):∃r ks,rs[i]?=some r/\jN ks r r':=by
 have hi:i<rs.length:=by rw[<-h.len];exact(af.mp e).1
 obtain⟨ks,f⟩:=h.fill i _ _ (aa hi) e
 exact⟨_,ks,aa hi,f⟩
theorem ou.stp{rs rs':List aZ}(h:ou rs rs')(n:Nat):stp rs' n=stp rs n:=by
 unfold Bg.stp
 cases e:rs'[n]? with
 |none=>
  have:rs[n]?=none:=by rw[List.getElem?_eq_none_iff] at e ⊢;rw[<-h.len];exact e
  rw[this]
 |some r'=>
  obtain⟨r,ks,e1,f⟩:=h.get e
  rw[e1]
  cases r with
  |num x z=>have f:r'=.num x z:=f;subst f;rfl
  |op x s a b=>obtain⟨_,_,rfl,_⟩:=f;rfl
  |call x k as=>obtain⟨_,rfl,_⟩:=f;rfl
  |say a=>obtain⟨_,rfl,_⟩:=f;rfl
  |jump t=>have f:r'=.jump t:=f;subst f;rfl
  |test a t=>obtain⟨_,rfl,_⟩:=f;rfl
  |give a=>obtain⟨_,rfl,_⟩:=f;rfl
theorem ou.runJ{rs rs':List aZ}(h:ou rs rs'):∀(k n:Nat),runJ rs' k n=runJ rs k n
 |0,_=>rfl
 |k+1,n=>by
  show Bg.runJ rs' k (Bg.stp rs' n)=Bg.runJ rs k (Bg.stp rs n)
  rw[h.stp];exact ou.runJ h k _
theorem ou.ring{rs rs':List aZ}(h:ou rs rs')(q:tq rs):tq rs':=by
 intro n hn r' e
 rw[h.len] at hn
 rw[h.len,h.runJ] at e
 obtain⟨r,ks,e1,f⟩:=h.get e
 rw[CS f];exact q n hn r e1
theorem KP{K:Fg}{vs:List V}{H:Hp}{Q:VK}{E:XK}(h:mE K vs H Q E):GG K {nx:=λ_ H'=>Q .non H',rt:=Q} (di wG vs) H:=by
 obtain⟨st,nm,pr,cn,wd,m,k,ys,ps,cs,rfl,S,hk,hnm,ysne,ysl,yne,hpr,psl,pnd,pin,hcn,csne,csl,cs4,m1,m50,nnm,npr,ncn,q⟩:=h
 refine⟨_,rfl,_,_,rfl,.inl ⟨_,cq.of hpr,rfl⟩,.inl ⟨rfl,.inr ⟨_,rfl,.inl ⟨_,_,rfl,rfl,_,rfl,_,rfl,st,_,k,rfl,S,by lia,by lia,by lia,λd H1 d0 d1 S1 B1=>.inl ⟨_,_,rfl,rfl,_,_,rfl,?_⟩⟩⟩⟩⟩
 rw[ae]
 obtain⟨n,hn,n1,n51,nm1,n2⟩:∃n:Nat,(if 1+d>1+(if decide (V.int ((ps.length:Nat):Int)=V.int 0)=true then 1 else 0) then 1+d else 1+(if decide (V.int ((ps.length:Nat):Int)=V.int 0)=true then 1 else 0))=(n:Int)/\1<=n/\n<=52/\n<=m+1/\(ps=[]->2<=n):=by
  by_cases c:ps=[]
  ·have e:decide (V.int ((ps.length:Nat):Int)=V.int 0)=true:=by rw[c];rfl
   rw[e,if_pos rfl]
   by_cases c2:1+d>1+1
   ·rw[if_pos c2];exact⟨(1+d).toNat,by lia,by lia,by lia,by lia,λ_=>by lia⟩
   ·rw[if_neg c2];exact⟨2,rfl,by lia,by lia,by lia,λ_=>by lia⟩
  ·have e:decide (V.int ((ps.length:Nat):Int)=V.int 0)=false:=decide_eq_false λz=>c (dv.mp (by injection z with z;lia))
   rw[e,if_neg Bool.false_ne_true]
   by_cases c2:1+d>1+0
   ·rw[if_pos c2];exact⟨(1+d).toNat,by lia,by lia,by lia,by lia,λz=>absurd z c⟩
   ·rw[if_neg c2];exact⟨1,rfl,by lia,by lia,by lia,λz=>absurd z c⟩
 rw[hn]
 show zL K _ [some (.ref st),some (.str wd),some (.ref nm),some (.ref pr),some (.ref cn),some (.int (m:Nat)),some (.int (n:Nat)),none,none] H1
 refine⟨_,rfl,_,rfl,by lia,by lia,λL hL=>?_⟩
 obtain⟨ys1,hs1⟩:=S1.lst
 have nL:L≠st:=λz=>by rw[z,hs1] at hL;cases hL
 have HL:H L=none:=B1.free nL hL
 refine tN (λi σ' H'=>∃(rvs:List V) (rs:List aZ) (k':Nat) (o:Option V),σ'=[some (.ref st),some (.str wd),some (.ref nm),some (.ref pr),some (.ref cn),some (.int (m:Nat)),some (.int (n:Nat)),none,none,o]/\
  H' L=some (.lst rvs)/\cT (dD H') rvs rs/\rs.length=i/\(∀r∈rs,tG ys cs n r)/\kW K H' st k'/\k'<=k+1+8*i/\fP st H H') ?_ ?_ ?_
 ·exact⟨[],[],k+1,none,rfl,ag,.nil,rfl,by simp,S1.new hL,by lia,B1.new hL⟩
 ·rintro i σ' H' hi ⟨rvs,rs,k',o,rfl,hrl,hA,rlen,ro,S',hk',B'⟩
  have hi:i<n:=by simpa using hi
  refine jZ ⟨_,rfl,_,rfl,_,rfl,_,rfl,st,nm,cn,n,k',ys,cs,rfl,S',by lia,B' nm _ nnm hnm,ysne,ysl,n1,by lia,B' cn _ ncn hcn,csne,csl,cs4,nnm,ncn,λv r k2 H2 hv hr S2 l2 B2=>?_⟩
  have h2:=B2 L _ nL hrl
  have t2:Tp H' H2:=by obtain⟨_,e⟩:=S'.lst;exact .of_but B2 e
  have t3:Tp H2 (upd H2 L (.lst (rvs++[v]))):=(Tp.refl H2).lst h2
  refine⟨_,h2,cF (by rw[hA.len];lia),rvs++[v],rs++[r],k2,_,rfl,ag,(hA.imp λ_ _ z=>(z.mono t2).mono t3).snoc (hv.mono t3),by simp[rlen],λr' hr'=>?_,S2.mono .upd_at h2 (Ne.symm nL),by lia,?_⟩
  ·rcases aE.mp hr' with z|z
   ·exact ro r' z
   ·rw[ai.mp z];exact hr
  ·exact fP.past (B'.trans B2) HL .upd_at
 ·rintro σ' H2 ⟨rvs,rs,k2,o,_,hrl,hA,rlen,ro,S2,hk2,B2⟩
  have rlen:rs.length=n:=by simpa using rlen
  have hk2:k2<=k+1+8*n:=by simpa using hk2
  have nnL:nm≠L:=ak hnm HL
  have npL:pr≠L:=ak hpr HL
  have Ok:tH ys cs rs:=⟨λz=>by rw[z] at rlen;simp at rlen;lia,by lia,by rw[rlen];exact ro⟩
  show zK K _ [some (.ref st),some (.str wd),some (.ref nm),some (.ref pr),some (.ref cn),some (.int (m:Nat)),some (.int (n:Nat)),some (.ref L),none] H2
  have hpr2:=B2 pr _ npr hpr
  have ebare:decide (V.int (((ps.map V.str).length:Nat):Int)=V.int 0)=true->ps=[]:=λz=>by
   have z':=of_decide_eq_true z
   rw[ae] at z'
   injection z' with z'
   exact dv.mp (by lia)
  have ebare':ps=[]->decide (V.int (((ps.map V.str).length:Nat):Int)=V.int 0)=true:=λz=>by rw[z];rfl
  refine⟨_,rfl,_,rfl,_,rfl,_,_,rfl,.inl ⟨_,cq.of hpr2,rfl⟩,.inl ⟨rfl,L,nm,_,rvs,rs,ys,tG ys cs n,rfl,hrl,hA,Ok.pos,Ok.few,ro,rfl,rfl,λt ht=>by rw[rlen];exact ht,B2 nm _ nnm hnm,ysne,λy hy _=>⟨hy,by decide,by decide⟩,nnL,λz=>by rw[rlen];exact n2 (ebare z),λrvs' rs' H3 h3 hA3 len3 hR3 hE3 hN3 hJ3 B3=>?_⟩⟩
  have n3:rs'.length=n:=len3.trans rlen
  have Ok3:tH ys cs rs':=⟨λz=>by rw[z] at n3;simp at n3;lia,by lia,by rw[n3];exact hR3⟩
  have S3:kW K H3 st k2:=S2.mono B3 hrl (Ne.symm nL)
  have BH3:fP st H H3:=fP.past B2 HL B3
  show zJ K _ [some (.ref st),some (.str wd),some (.ref nm),some (.ref pr),some (.ref cn),some (.int (m:Nat)),some (.int (n:Nat)),some (.ref L),none] H3
  refine⟨_,rfl,_,rfl,_,rfl,L,nm,pr,rvs',rs',ys,ps,cs,rfl,h3,hA3,Ok3,hE3,BH3 nm _ nnm hnm,ysl,BH3 pr _ npr hpr,psl,pin,λz=>hN3 (ebare' z),λkl refs kss H4 hkl h4 hT lk hK hKn s4=>?_⟩
  have S4:=S3.same s4
  have BH4:fP st H H4:=BH3.trans s4.but
  have nkl:kl≠st:=λz=>by obtain⟨_,e⟩:=S3.lst;rw[z,e] at hkl;cases hkl
  show zI K _ [some (.ref st),some (.str wd),some (.ref nm),some (.ref pr),some (.ref cn),some (.int (m:Nat)),some (.int (n:Nat)),some (.ref L),some (.ref kl)] H4
  refine⟨_,rfl,_,rfl,pr,_,rfl,.inl ⟨cq.of (BH4 pr _ npr hpr),λt ht=>?_⟩⟩
  have s5:aT H4 (upd H4 t (.tup (ps.map V.str))):=(aT.refl H4).new ht
  have g5:(upd H4 t (.tup (ps.map V.str))) t=some (.tup (ps.map V.str)):=ag
  generalize upd H4 t (.tup (ps.map V.str))=H5 at s5 g5 ⊢
  have S5:=S4.same s5
  have hT5:cT (wJ H5) refs kss:=hT.imp λ_ _ ⟨a,e,h⟩=>⟨a,e,s5 _ _ h⟩
  refine⟨_,rfl,_,rfl,_,rfl,st,L,kl,k2,rvs',refs,rs',kss,ys,cs,rfl,S5,by lia,s5 _ _ (s4 _ _ h3),(hA3.imp λ_ _ z=>(z.mono (.of_same s4)).mono (.of_same s5)),Ok3,yne,cs4,s5 _ _ h4,hT5,lk,λi ks e=>(hK i ks e).1,λi ks r e1 e2=>?_,λa ha=>?_,nL,nkl,λp rvs6 rs6 k6 H6 h6 hA6 len6 hF S6 l6 B6=>?_⟩
  ·rcases(hK i ks e1).2.2 with z|⟨z1,z2⟩
   ·exact .inl z
   ·subst z1
    have:=hN3 (ebare' z2)
    rw[iS,e2] at this
    exact .inr (Option.some.inj this)
  ·obtain⟨i,hi,e⟩:=fB.mp ha
   obtain⟨ks,_,z⟩:=hT5.of_v (i:=i) (v:=a) (by rw[aa hi,e])
   exact Cy S5 z
  refine⟨(by show 3<=sizeLine;decide),λf hf=>?_⟩
  obtain⟨_,e5⟩:=S5.lst
  have t6:Tp H5 H6:=.of_but B6 e5
  have t7:Tp H6 (upd H6 f (.tup [.str wd,.ref t,.ref p])):=(Tp.refl H6).new hf
  have ksAt:∀(i:Nat) r,rs'[i]?=some r->∃ks,kss[i]?=some ks:=λi r e=>⟨_,aa (by rw[lk];exact(af.mp e).1)⟩
  have al:ou rs' rs6:=⟨len6,λi r r' e1 e2=>by
   obtain⟨ks,ek⟩:=ksAt i r e1
   exact⟨ks,hF i ks r r' ek e1 e2⟩⟩
  have both:∀(i:Nat) r',rs6[i]?=some r'->∃r ks,rs'[i]?=some r/\kss[i]?=some ks/\jN ks r r':=λi r' e=>by
   obtain⟨r,_,e1,_⟩:=al.get e
   obtain⟨ks,ek⟩:=ksAt i r e1
   exact⟨r,ks,e1,ek,hF i ks r r' ek e1 e⟩
  have ok:oR ys cs ⟨wd,ps,rs6⟩:=by
   refine⟨pnd,pin,λz=>?_,?_,λr' hr'=>?_,?_,al.ring hJ3,kss,?_,⟨hKn.zero,λi m r' ks km e hm ek em y hy=>?_⟩,λi r' ks e ek=>?_⟩
   ·have z':rs6=[]:=z
    rw[z',n3] at len6;simp at len6;lia
   ·show rs6.length<=60
    lia
   ·show Ej ys cs rs6.length r'
    obtain⟨i,hi,e⟩:=fB.mp hr'
    obtain⟨r,ks,e1,e2,f⟩:=both i r' (by rw[<-e];exact aa hi)
    rw[len6,n3]
    exact Hg (hR3 r (az e1)) (hK i ks e2).2.1 f
   ·show rs6.getLast?.map jY=some true
    have hl:rs6.length-1<rs6.length:=by lia
    obtain⟨r,ks,e1,e2,f⟩:=both (rs6.length-1) _ (aa hl)
    rw[dH,aa hl,cZ,EC f]
    rw[dH,<-len6,e1,cZ] at hE3
    exact hE3
   ·show kss.length=rs6.length
    rw[lk,len6]
   ·obtain⟨r,ks',e1,e2,f⟩:=both i r' e
    rw[Ai f] at hm
    rw[CT f]
    exact hKn.on i m r ks km e1 hm ek em y hy
   ·obtain⟨r,ks',e1,e2,f⟩:=both i r' e
    rw[ek] at e2;cases e2
    exact Aj f
  refine q _ ⟨wd,ps,rs6⟩ k6 _ ⟨f,t,p,rvs6,rfl,ag,t7 _ _ (t6 _ _ g5),t7 _ _ h6,hA6.imp λ_ _ z=>z.mono t7⟩ rfl rfl ok (by show rs6.length<=m+1;lia) (S6.new hf) (by lia) ?_
  exact((BH4.trans s5.but).trans B6).new hf
inductive xV(rs:List aZ)(un:Option Str):Nat->Prop where
 |zero:xV rs un 0
 |step {n m:Nat} {r:aZ}:xV rs un n->rs[n]?=some r->(∀y,un=some y->gv r≠.str y)->m∈cc n r->xV rs un m
structure cB(rs:List aZ):Prop where
 pos:0<rs.length
 few:rs.length<64
 inr:∀(n m:Nat) r,rs[n]?=some r->m∈cc n r->m<rs.length
 ring:tq rs
theorem xV.lt{rs:List aZ}{un:Option Str}(g:cB rs){m:Nat}(h:xV rs un m):m<rs.length:=by
 cases h with
 |zero=>exact g.pos
 |step _ e _ hm=>exact g.inr _ _ _ e hm
theorem E2{rs:List aZ}(hg:∀r∈rs,∀t:Nat,EI r=.int (t:Nat)->t<rs.length)(hE:rs.getLast?.map jY=some true):∀(n m:Nat) r,rs[n]?=some r->m∈cc n r->m<rs.length:=by
 intro i m r hr mem
 have hi:i<rs.length:=(af.mp hr).1
 have nx:jY r=false->i+1<rs.length:=λhe=>by
  by_cases c:i+1<rs.length
  ·exact c
  ·have ei:i=rs.length-1:=by lia
   rw[dH,<-ei,hr,cZ,he] at hE
   cases hE
 have hm:=hg r (az hr)
 cases r with
 |jump to=>rw[ai.mp mem];exact hm to rfl
 |test a to=>
  rcases aN.mp mem with e|e
  ·rw[e];exact nx rfl
  ·rw[ai.mp e];exact hm to rfl
 |give a=>cases mem
 |num x z=>rw[ai.mp mem];exact nx rfl
 |op x s a b=>rw[ai.mp mem];exact nx rfl
 |call x k as=>rw[ai.mp mem];exact nx rfl
 |say a=>rw[ai.mp mem];exact nx rfl
theorem oR.good{ys:List Str}{cs:List Nat}{b:ic}(h:oR ys cs b):cB b.rows:=by
 have:=h.few
 refine⟨eF.mpr h.pos,by lia,E2 (λr hr t e=>?_) h.last,h.ring⟩
 have ro:=h.rows r hr
 cases r with
 |jump to=>
  injection e with e
  have:to=t:=by lia
  subst this;exact ro
 |test a to=>
  injection e with e
  have:to=t:=by lia
  subst this;exact ro.2
 |_=>cases e
theorem yY(rs:List aZ):∀(j k n:Nat),runJ rs (j+k) n=runJ rs j (runJ rs k n)
 |j,0,n=>rfl
 |j,k+1,n=>by
  show runJ rs (j+k) (stp rs n)=runJ rs j (runJ rs k (stp rs n))
  exact yY rs j k (stp rs n)
theorem KZ{rs:List aZ}(g:cB rs){n:Nat}(h:n<rs.length):stp rs n<rs.length:=by
 unfold stp
 rw[aa h]
 cases e:rs[n] with
 |jump t=>exact g.inr n t (.jump t) (by rw[aa h,e]) (ai.mpr rfl)
 |_=>exact h
theorem sU{rs:List aZ}(g:cB rs):∀(k:Nat) {n:Nat},n<rs.length->runJ rs k n<rs.length
 |0,_,h=>h
 |k+1,_,h=>sU g k (KZ g h)
theorem FY{rs:List aZ}{k n:Nat}(hk:k<=rs.length)(h:∀r,rs[runJ rs k n]?=some r->gH r=false):runJ rs rs.length n=runJ rs k n:=by
 have e:rs.length=(rs.length-k)+k:=by lia
 rw[e,yY]
 exact oa h _
theorem fM:∀{n:Nat} {l:List Nat},l.Nodup->(∀x∈l,x<n)->l.length<=n
 |0,l,_,h=>by
  cases l with
  |nil=>exact aB _
  |cons a r=>exact absurd (h a aP) (fq _)
 |n+1,l,nd,h=>by
  by_cases c:n∈l
  ·have h1:=fM (n:=n) (l:=l.erase n) (nd.erase n) λx hx=>by
    have:=(nd.mem_erase_iff).mp hx
    have:=h x this.2
    lia
   rw[ij c] at h1
   lia
  ·have h1:=fM (n:=n) nd λx hx=>by
    have:=h x hx
    have:x≠n:=λz=>c (z ▸ hx)
    lia
   lia
theorem nv:∀{l:List Nat},l.Pairwise (·<=·)->l.Nodup->l.Pairwise (·<·)
 |[],_,_=>.nil
 |a::r,h,nd=>by
  rw[du] at h ⊢
  rw[cK] at nd
  refine⟨λx hx=>?_,nv h.2 nd.2⟩
  have:=h.1 x hx
  have:a≠x:=λz=>nd.1 (z ▸ hx)
  lia
theorem Dx{ms:List Int}{ns:List Nat}(p:ms.Perm (ns.map λn=>((n:Nat):Int)))(s:ms.Pairwise (·<=·))(nd:ns.Nodup):∃ks:List Nat,ms=ks.map (λn=>((n:Nat):Int))/\(∀x,x∈ks↔x∈ns)/\ks.Pairwise (·<·):=by
 have hm:ms.map (λi=>((i.toNat:Nat):Int))=ms:=by
  have:∀i∈ms,((i.toNat:Nat):Int)=i:=λi hi=>by
   obtain⟨n,_,e⟩:=cQ.mp (p.mem_iff.mp hi)
   lia
  exact(fS this).trans (rg _)
 have pk:(ms.map d7).Perm ns:=by
  have:=p.map d7
  rw[cP] at this
  have e:ns.map (d7 ∘ λn=>((n:Nat):Int))=ns:=by
   have:∀n∈ns,(d7 ∘ λn=>((n:Nat):Int)) n=n:=λn _=>by simp
   exact(fS this).trans (rg _)
  rw[e] at this
  exact this
 refine⟨ms.map d7,?_,λx=>pk.mem_iff,nv ?_ (pk.nodup_iff.mpr nd)⟩
 ·rw[cP];exact hm.symm
 ·rw[fE]
  exact s.imp λ{a b} h=>by lia
def Js:Option Str->V
 |none=>.non
 |some y=>.str y
def bW(_:Fg):Sp:=λvs H Q _=>∃(rt:Addr) (n:Nat) (rvs:List V) (rs:List aZ),vs=[.ref rt,.int (n:Nat)]/\H rt=some (.tup rvs)/\cT (dD H) rvs rs/\cB rs/\n<rs.length/\Q (.int (runJ rs rs.length n:Nat)) H
def gS(_:Fg):Sp:=λvs H Q _=>∃(rt:Addr) (un:Option Str) (rvs:List V) (rs:List aZ),vs=[.ref rt,Js un]/\H rt=some (.tup rvs)/\cT (dD H) rvs rs/\cB rs/\
 ∀(l:Addr) (ns:List Nat) (H':Hp),(∀m,m∈ns↔xV rs un m)->ns.Pairwise (·<·)->H' l=some (.lst (aU ns))->H l=none->aT H H'->Q (.ref l) H'
def cV(rs:List aZ)(m:Nat):Prop:=xV rs none m/\∀r,rs[m]?=some r->gH r=false
def IT:Sp:=λvs H Q _=>∃(rt:Addr) (rvs:List V) (rs:List aZ),vs=[.ref rt]/\H rt=some (.tup rvs)/\cT (dD H) rvs rs/\cB rs/\
 ∀(l:Addr) (ns:List Nat) (H':Hp),(∀m,m∈ns↔cV rs m)->ns.Pairwise (·<·)->H' l=some (.lst (aU ns))->H l=none->aT H H'->Q (.ref l) H'
abbrev cE(_:Fg):Sp:=IT
abbrev Ar:Nat:=1
abbrev eA:Nat:=2
abbrev As:Nat:=2
abbrev lZ:Nat:=3
abbrev yk:Nat:=3
abbrev eO:Nat:=4
end Bg
end
section
namespace Bg
open PySem PySem.Spec PyProof.Rows L2
abbrev cU:List Str:=["rows","n"]
abbrev oN:List Str:=["rows","n","at"]
def xE(K:Fg):TS:=(cR (ar 2))
def xF(K:Fg):TS:=(bZ (bL (d9 K) [] E0 (aj (bI (d5 K) (ar 0) (ar 2)) aM)) (aX 2))
def qr(K:Fg):TS:=(bB (qY (bP (bI (i7 K) (bI (d5 K) (bI (d5 K) (ar 0) (ar 2)) (tC (.int 0))) (tC (.str "jump")))) (xF K)) (xE K))
def uN(K:Fg):TS:=(bB (bZ (ar 1) (aX 2)) (qr K))
abbrev gP:List Str:=["rows","unset"]
abbrev oO:List Str:=["rows","unset","found","waiting","n","to"]
def xG(K:Fg):TS:=(cR (gI xu (aj (ar 2) aM)))
def xH(K:Fg):TS:=(mS (DQ K "list" iy (ar 3) (aj (ar 5) aM)))
def mI(K:Fg):TS:=(dG (bP (bI ((FK true)) (ar 5) (ar 2))) (bB (bZ (tC (.bl true)) (oj (ar 2) (ar 5) vQ)) (xH K)) cG)
def qt(K:Fg):TS:=(dG (Mb (bP (bI (KH) (ar 1) (tC .non))) (bP (bI (xt K) (bL (eX K) [] E0 (aj (bI (d5 K) (ar 0) (ar 4)) aM)) (ar 1)))) (jM (iN K (bL (fb K) [] E0 (aj (ar 0) (aj (ar 4) aM)))) (aX 5) (mI K)) cG)
def xI(K:Fg):TS:=(bB (bZ (IV K "list" KI (ar 3)) (aX 4)) (qt K))
def qu(K:Fg):TS:=(bB (qY (bP (bI (u9) (gI (iO K) (aj (ar 3) aM)) (tC (.int 0)))) (xI K)) (xG K))
def qw(K:Fg):TS:=(bB (bZ (kc (aj (tC (.int 0)) aM)) (aX 3)) (qu K))
def uO(K:Fg):TS:=(bB (bZ (Gn [((tC (.int 0)),(tC (.bl true)))]) (aX 2)) (qw K))
abbrev df:List Str:=["rows"]
abbrev kQ:List Str:=["rows"]
def rQ(K:Fg):TS:=(cR (iM [] 1 (iN K (bL (gS K) [.non] E0 (aj (ar 0) aM))) (aX 1) (bP (bI (xt K) (bI (d5 K) (bI (d5 K) (ar 0) (ar 1)) (tC (.int 0))) (tC (.str "jump")))) (ar 1)))
abbrev iC:List Str:=["row"]
abbrev qG:List Str:=["row","word"]
def zu(K:Fg):TS:=(cR (eM aM))
def zv(K:Fg):TS:=(bB (dG (bP (bI ((xQ K false)) (ar 1) (eM (aj (tC (.str "say")) (aj (tC (.str "test")) (aj (tC (.str "give")) aM)))))) (cR (eM (aj (bI (d5 K) (ar 0) (tC (.int 1))) aM))) cG) (zu K))
def zw(K:Fg):TS:=(bB (dG (bP (bI (i7 K) (ar 1) (tC (.str "call")))) (cR (gI (e7 K) (aj (bI (d5 K) (ar 0) (tC (.int 3))) aM))) cG) (zv K))
def zx(K:Fg):TS:=(bB (dG (bP (bI (i7 K) (ar 1) (tC (.str "op")))) (cR (eM (aj (bI (d5 K) (ar 0) (tC (.int 3))) (aj (bI (d5 K) (ar 0) (tC (.int 4))) aM)))) cG) (zw K))
def wg(K:Fg):TS:=(bB (bZ (bI (d5 K) (ar 0) (tC (.int 0))) (aX 1)) (zx K))
abbrev gb:List Str:=["row"]
abbrev tm:List Str:=["row"]
def Bf(K:Fg):TS:=(cR (tC .non))
def zG(K:Fg):TS:=(bB (dG (bP (bI ((xQ K false)) (bI (d5 K) (ar 0) (tC (.int 0))) (eM (aj (tC (.str "num")) (aj (tC (.str "op")) (aj (tC (.str "call")) aM)))))) (cR (bI (d5 K) (ar 0) (tC (.int 1)))) cG) (Bf K))
abbrev fZ:List Str:=["row"]
abbrev tf:List Str:=["row"]
def Bb(K:Fg):TS:=(cR (tC .non))
def Bc(K:Fg):TS:=(bB (dG (bP (bI (i7 K) (bI (d5 K) (ar 0) (tC (.int 0))) (tC (.str "test")))) (cR (bI (d5 K) (ar 0) (tC (.int 2)))) cG) (Bb K))
def zi(K:Fg):TS:=(bB (dG (bP (bI (i7 K) (bI (d5 K) (ar 0) (tC (.int 0))) (tC (.str "jump")))) (cR (bI (d5 K) (ar 0) (tC (.int 1)))) cG) (Bc K))
abbrev gh:List Str:=["rows","n"]
abbrev qF:List Str:=["rows","n","word"]
def zj(K:Fg):TS:=(cR (eM (aj (bI (dA K) (ar 1) (tC (.int 1))) aM)))
def zk(K:Fg):TS:=(bB (dG (bP (bI (i7 K) (ar 2) (tC (.str "test")))) (cR (eM (aj (bI (dA K) (ar 1) (tC (.int 1))) (aj (bL (d9 K) [] E0 (aj (bI (d5 K) (ar 0) (ar 1)) aM)) aM)))) cG) (zj K))
def zo(K:Fg):TS:=(bB (dG (bP (bI (i7 K) (ar 2) (tC (.str "jump")))) (cR (eM (aj (bL (d9 K) [] E0 (aj (bI (d5 K) (ar 0) (ar 1)) aM)) aM))) cG) (zk K))
def zp(K:Fg):TS:=(bB (dG (bP (bI (i7 K) (ar 2) (tC (.str "give")))) (cR (eM aM)) cG) (zo K))
def we(K:Fg):TS:=(bB (bZ (bI (d5 K) (bI (d5 K) (ar 0) (ar 1)) (tC (.int 0))) (aX 2)) (zp K))
end Bg
end
section
namespace Bg
open PySem L2
theorem DE{K:Fg}{vs:List V}{H:Hp}{Q:VK}{E:XK}(h:iH K vs H Q E):wg K {nx:=λ_ H'=>Q .non H',rt:=Q} (di qG vs) H:=by
 obtain⟨v,r,rfl,hr,q⟩:=h
 cases r with
 |num x z=>
  obtain⟨p,rfl,h⟩:=hr
  refine⟨_,rfl,dE h (by decide) rfl ?_⟩
  refine⟨_,rfl,.inl ⟨rfl,_,rfl,no (by decide +kernel) ?_⟩⟩
  refine⟨_,rfl,.inl ⟨rfl,_,rfl,no (by decide +kernel) ?_⟩⟩
  refine⟨_,rfl,(by show 3<=sizeLine;decide),λt ht=>⟨t,_,rfl,.inr (dC.of ag),rfl,rfl,_,rfl,CY (by decide +kernel) ?_⟩⟩
  have nt:p≠t:=ak h ht
  exact⟨(by show 0<=sizeLine;decide),λt2 ht2=>q t2 _ ag (((aT.refl H).new ht).new ht2)⟩
 |op x s a b=>
  obtain⟨p,rfl,h⟩:=hr
  refine⟨_,rfl,dE h (by decide) rfl ?_⟩
  refine⟨_,rfl,.inl ⟨rfl,_,rfl,GR ?_⟩⟩
  exact⟨_,rfl,dE h (by decide) rfl ⟨_,rfl,dE h (by decide) rfl ⟨(by show 2<=sizeLine;decide),λt ht=>q t _ ag ((aT.refl H).new ht)⟩⟩⟩
 |call x k as=>
  obtain⟨p,q1,rfl,h,h1⟩:=hr
  refine⟨_,rfl,dE h (by decide) rfl ?_⟩
  refine⟨_,rfl,.inl ⟨rfl,_,rfl,no (by decide +kernel) ?_⟩⟩
  refine⟨_,rfl,.inl ⟨rfl,_,rfl,GR ?_⟩⟩
  exact⟨_,rfl,dE h (by decide) rfl ⟨_,_,rfl,.inr ⟨dC.of h1,q _ _ h1 (aT.refl H)⟩⟩⟩
 |say a=>
  obtain⟨p,rfl,h⟩:=hr
  refine⟨_,rfl,dE h (by decide) rfl ?_⟩
  refine⟨_,rfl,.inl ⟨rfl,_,rfl,no (by decide +kernel) ?_⟩⟩
  refine⟨_,rfl,.inl ⟨rfl,_,rfl,no (by decide +kernel) ?_⟩⟩
  refine⟨_,rfl,(by show 3<=sizeLine;decide),λt ht=>⟨t,_,rfl,.inr (dC.of ag),rfl,rfl,_,rfl,CZ (by decide +kernel) ?_⟩⟩
  have nt:p≠t:=ak h ht
  exact⟨_,rfl,dE (by rw[ax nt];exact h) (by decide) rfl ⟨(by show 1<=sizeLine;decide),λt2 ht2=>q t2 _ ag (((aT.refl H).new ht).new ht2)⟩⟩
 |jump to=>
  obtain⟨p,rfl,h⟩:=hr
  refine⟨_,rfl,dE h (by decide) rfl ?_⟩
  refine⟨_,rfl,.inl ⟨rfl,_,rfl,no (by decide +kernel) ?_⟩⟩
  refine⟨_,rfl,.inl ⟨rfl,_,rfl,no (by decide +kernel) ?_⟩⟩
  refine⟨_,rfl,(by show 3<=sizeLine;decide),λt ht=>⟨t,_,rfl,.inr (dC.of ag),rfl,rfl,_,rfl,CY (by decide +kernel) ?_⟩⟩
  have nt:p≠t:=ak h ht
  exact⟨(by show 0<=sizeLine;decide),λt2 ht2=>q t2 _ ag (((aT.refl H).new ht).new ht2)⟩
 |test a to=>
  obtain⟨p,rfl,h⟩:=hr
  refine⟨_,rfl,dE h (by decide) rfl ?_⟩
  refine⟨_,rfl,.inl ⟨rfl,_,rfl,no (by decide +kernel) ?_⟩⟩
  refine⟨_,rfl,.inl ⟨rfl,_,rfl,no (by decide +kernel) ?_⟩⟩
  refine⟨_,rfl,(by show 3<=sizeLine;decide),λt ht=>⟨t,_,rfl,.inr (dC.of ag),rfl,rfl,_,rfl,CZ (by decide +kernel) ?_⟩⟩
  have nt:p≠t:=ak h ht
  exact⟨_,rfl,dE (by rw[ax nt];exact h) (by decide) rfl ⟨(by show 1<=sizeLine;decide),λt2 ht2=>q t2 _ ag (((aT.refl H).new ht).new ht2)⟩⟩
 |give a=>
  obtain⟨p,rfl,h⟩:=hr
  refine⟨_,rfl,dE h (by decide) rfl ?_⟩
  refine⟨_,rfl,.inl ⟨rfl,_,rfl,no (by decide +kernel) ?_⟩⟩
  refine⟨_,rfl,.inl ⟨rfl,_,rfl,no (by decide +kernel) ?_⟩⟩
  refine⟨_,rfl,(by show 3<=sizeLine;decide),λt ht=>⟨t,_,rfl,.inr (dC.of ag),rfl,rfl,_,rfl,CZ (by decide +kernel) ?_⟩⟩
  have nt:p≠t:=ak h ht
  exact⟨_,rfl,dE (by rw[ax nt];exact h) (by decide) rfl ⟨(by show 1<=sizeLine;decide),λt2 ht2=>q t2 _ ag (((aT.refl H).new ht).new ht2)⟩⟩
theorem FS{K:Fg}{vs:List V}{H:Hp}{Q:VK}{E:XK}(h:eX K vs H Q E):zG K {nx:=λ_ H'=>Q .non H',rt:=Q} (di tm vs) H:=by
 obtain⟨v,r,rfl,hr,q⟩:=h
 cases r with
 |num x z=>
  obtain⟨p,rfl,h⟩:=hr
  refine⟨_,rfl,dE h (by decide) rfl ?_⟩
  refine⟨(by show 3<=sizeLine;decide),λt ht=>⟨t,_,rfl,.inr (dC.of ag),rfl,rfl,_,rfl,CZ (by decide +kernel) ?_⟩⟩
  have nt:p≠t:=ak h ht
  exact⟨_,rfl,dE (by rw[ax nt];exact h) (by decide) rfl (q _ ((aT.refl H).new ht))⟩
 |op x s a b=>
  obtain⟨p,rfl,h⟩:=hr
  refine⟨_,rfl,dE h (by decide) rfl ?_⟩
  refine⟨(by show 3<=sizeLine;decide),λt ht=>⟨t,_,rfl,.inr (dC.of ag),rfl,rfl,_,rfl,CZ (by decide +kernel) ?_⟩⟩
  have nt:p≠t:=ak h ht
  exact⟨_,rfl,dE (by rw[ax nt];exact h) (by decide) rfl (q _ ((aT.refl H).new ht))⟩
 |call x k as=>
  obtain⟨p,q1,rfl,h,h1⟩:=hr
  refine⟨_,rfl,dE h (by decide) rfl ?_⟩
  refine⟨(by show 3<=sizeLine;decide),λt ht=>⟨t,_,rfl,.inr (dC.of ag),rfl,rfl,_,rfl,CZ (by decide +kernel) ?_⟩⟩
  have nt:p≠t:=ak h ht
  exact⟨_,rfl,dE (by rw[ax nt];exact h) (by decide) rfl (q _ ((aT.refl H).new ht))⟩
 |say a=>
  obtain⟨p,rfl,h⟩:=hr
  refine⟨_,rfl,dE h (by decide) rfl ?_⟩
  refine⟨(by show 3<=sizeLine;decide),λt ht=>⟨t,_,rfl,.inr (dC.of ag),rfl,rfl,_,rfl,CY (by decide +kernel) ?_⟩⟩
  have nt:p≠t:=ak h ht
  exact q _ ((aT.refl H).new ht)
 |jump to=>
  obtain⟨p,rfl,h⟩:=hr
  refine⟨_,rfl,dE h (by decide) rfl ?_⟩
  refine⟨(by show 3<=sizeLine;decide),λt ht=>⟨t,_,rfl,.inr (dC.of ag),rfl,rfl,_,rfl,CY (by decide +kernel) ?_⟩⟩
  have nt:p≠t:=ak h ht
  exact q _ ((aT.refl H).new ht)
 |test a to=>
  obtain⟨p,rfl,h⟩:=hr
  refine⟨_,rfl,dE h (by decide) rfl ?_⟩
  refine⟨(by show 3<=sizeLine;decide),λt ht=>⟨t,_,rfl,.inr (dC.of ag),rfl,rfl,_,rfl,CY (by decide +kernel) ?_⟩⟩
  have nt:p≠t:=ak h ht
  exact q _ ((aT.refl H).new ht)
 |give a=>
  obtain⟨p,rfl,h⟩:=hr
  refine⟨_,rfl,dE h (by decide) rfl ?_⟩
  refine⟨(by show 3<=sizeLine;decide),λt ht=>⟨t,_,rfl,.inr (dC.of ag),rfl,rfl,_,rfl,CY (by decide +kernel) ?_⟩⟩
  have nt:p≠t:=ak h ht
  exact q _ ((aT.refl H).new ht)
theorem FQ{K:Fg}{vs:List V}{H:Hp}{Q:VK}{E:XK}(h:d9 K vs H Q E):zi K {nx:=λ_ H'=>Q .non H',rt:=Q} (di tf vs) H:=by
 obtain⟨v,r,rfl,hr,q⟩:=h
 cases r with
 |num x z=>
  obtain⟨p,rfl,h⟩:=hr
  refine⟨_,rfl,dE h (by decide) rfl (.inl ⟨rfl,_,rfl,no (by decide +kernel) ?_⟩)⟩
  exact⟨_,rfl,dE h (by decide) rfl (.inl ⟨rfl,_,rfl,no (by decide +kernel) q⟩)⟩
 |op x s a b=>
  obtain⟨p,rfl,h⟩:=hr
  refine⟨_,rfl,dE h (by decide) rfl (.inl ⟨rfl,_,rfl,no (by decide +kernel) ?_⟩)⟩
  exact⟨_,rfl,dE h (by decide) rfl (.inl ⟨rfl,_,rfl,no (by decide +kernel) q⟩)⟩
 |call x k as=>
  obtain⟨p,q1,rfl,h,h1⟩:=hr
  refine⟨_,rfl,dE h (by decide) rfl (.inl ⟨rfl,_,rfl,no (by decide +kernel) ?_⟩)⟩
  exact⟨_,rfl,dE h (by decide) rfl (.inl ⟨rfl,_,rfl,no (by decide +kernel) q⟩)⟩
 |say a=>
  obtain⟨p,rfl,h⟩:=hr
  refine⟨_,rfl,dE h (by decide) rfl (.inl ⟨rfl,_,rfl,no (by decide +kernel) ?_⟩)⟩
  exact⟨_,rfl,dE h (by decide) rfl (.inl ⟨rfl,_,rfl,no (by decide +kernel) q⟩)⟩
 |jump to=>
  obtain⟨p,rfl,h⟩:=hr
  exact⟨_,rfl,dE h (by decide) rfl (.inl ⟨rfl,_,rfl,GR ⟨_,rfl,dE h (by decide) rfl q⟩⟩)⟩
 |test a to=>
  obtain⟨p,rfl,h⟩:=hr
  refine⟨_,rfl,dE h (by decide) rfl (.inl ⟨rfl,_,rfl,no (by decide +kernel) ?_⟩)⟩
  exact⟨_,rfl,dE h (by decide) rfl (.inl ⟨rfl,_,rfl,GR ⟨_,rfl,dE h (by decide) rfl q⟩⟩)⟩
 |give a=>
  obtain⟨p,rfl,h⟩:=hr
  refine⟨_,rfl,dE h (by decide) rfl (.inl ⟨rfl,_,rfl,no (by decide +kernel) ?_⟩)⟩
  exact⟨_,rfl,dE h (by decide) rfl (.inl ⟨rfl,_,rfl,no (by decide +kernel) q⟩)⟩
theorem DD{K:Fg}{vs:List V}{H:Hp}{Q:VK}{E:XK}(h:fb K vs H Q E):we K {nx:=λ_ H'=>Q .non H',rt:=Q} (di qF vs) H:=by
 obtain⟨rt,n,rvs,v,r,rfl,hrt,hv,hr,q⟩:=h
 have hn:rvs[((n:Nat):Int).toNat]?=some v:=by simpa using hv
 have n0:(0:Int)<=((n:Nat):Int):=by lia
 have e1:(((n+1:Nat):Nat):Int)=(n:Int)+1:=by lia
 cases r with
 |num x z=>
  have hr0:=hr
  obtain⟨p,rfl,h⟩:=hr
  refine⟨_,rfl,_,rfl,dE hrt n0 hn (dE h (by decide) rfl ?_)⟩
  refine⟨_,rfl,.inl ⟨rfl,_,rfl,no (by decide +kernel) ?_⟩⟩
  refine⟨_,rfl,.inl ⟨rfl,_,rfl,no (by decide +kernel) ?_⟩⟩
  refine⟨_,rfl,.inl ⟨rfl,_,rfl,no (by decide +kernel) ?_⟩⟩
  exact⟨_,rfl,.inl ⟨_,_,rfl,rfl,⟨(by show 1<=sizeLine;decide),λt ht=>q t _ (by rw[ag];first|rfl|(unfold aU cc;simp only[bq,cy,e1])) ((aT.refl H).new ht)⟩⟩⟩
 |op x s a b=>
  have hr0:=hr
  obtain⟨p,rfl,h⟩:=hr
  refine⟨_,rfl,_,rfl,dE hrt n0 hn (dE h (by decide) rfl ?_)⟩
  refine⟨_,rfl,.inl ⟨rfl,_,rfl,no (by decide +kernel) ?_⟩⟩
  refine⟨_,rfl,.inl ⟨rfl,_,rfl,no (by decide +kernel) ?_⟩⟩
  refine⟨_,rfl,.inl ⟨rfl,_,rfl,no (by decide +kernel) ?_⟩⟩
  exact⟨_,rfl,.inl ⟨_,_,rfl,rfl,⟨(by show 1<=sizeLine;decide),λt ht=>q t _ (by rw[ag];first|rfl|(unfold aU cc;simp only[bq,cy,e1])) ((aT.refl H).new ht)⟩⟩⟩
 |call x k as=>
  have hr0:=hr
  obtain⟨p,q1,rfl,h,h1⟩:=hr
  refine⟨_,rfl,_,rfl,dE hrt n0 hn (dE h (by decide) rfl ?_)⟩
  refine⟨_,rfl,.inl ⟨rfl,_,rfl,no (by decide +kernel) ?_⟩⟩
  refine⟨_,rfl,.inl ⟨rfl,_,rfl,no (by decide +kernel) ?_⟩⟩
  refine⟨_,rfl,.inl ⟨rfl,_,rfl,no (by decide +kernel) ?_⟩⟩
  exact⟨_,rfl,.inl ⟨_,_,rfl,rfl,⟨(by show 1<=sizeLine;decide),λt ht=>q t _ (by rw[ag];first|rfl|(unfold aU cc;simp only[bq,cy,e1])) ((aT.refl H).new ht)⟩⟩⟩
 |say a=>
  have hr0:=hr
  obtain⟨p,rfl,h⟩:=hr
  refine⟨_,rfl,_,rfl,dE hrt n0 hn (dE h (by decide) rfl ?_)⟩
  refine⟨_,rfl,.inl ⟨rfl,_,rfl,no (by decide +kernel) ?_⟩⟩
  refine⟨_,rfl,.inl ⟨rfl,_,rfl,no (by decide +kernel) ?_⟩⟩
  refine⟨_,rfl,.inl ⟨rfl,_,rfl,no (by decide +kernel) ?_⟩⟩
  exact⟨_,rfl,.inl ⟨_,_,rfl,rfl,⟨(by show 1<=sizeLine;decide),λt ht=>q t _ (by rw[ag];first|rfl|(unfold aU cc;simp only[bq,cy,e1])) ((aT.refl H).new ht)⟩⟩⟩
 |jump to=>
  have hr0:=hr
  obtain⟨p,rfl,h⟩:=hr
  refine⟨_,rfl,_,rfl,dE hrt n0 hn (dE h (by decide) rfl ?_)⟩
  refine⟨_,rfl,.inl ⟨rfl,_,rfl,no (by decide +kernel) ?_⟩⟩
  refine⟨_,rfl,.inl ⟨rfl,_,rfl,GR ?_⟩⟩
  exact⟨_,rfl,_,rfl,dE hrt n0 hn ⟨_,_,rfl,hr0,⟨(by show 1<=sizeLine;decide),λt ht=>q t _ (by rw[ag];first|rfl|(unfold aU cc;simp only[bq,cy,e1])) ((aT.refl H).new ht)⟩⟩⟩
 |test a to=>
  have hr0:=hr
  obtain⟨p,rfl,h⟩:=hr
  refine⟨_,rfl,_,rfl,dE hrt n0 hn (dE h (by decide) rfl ?_)⟩
  refine⟨_,rfl,.inl ⟨rfl,_,rfl,no (by decide +kernel) ?_⟩⟩
  refine⟨_,rfl,.inl ⟨rfl,_,rfl,no (by decide +kernel) ?_⟩⟩
  refine⟨_,rfl,.inl ⟨rfl,_,rfl,GR ?_⟩⟩
  exact⟨_,rfl,.inl ⟨_,_,rfl,rfl,⟨_,rfl,_,rfl,dE hrt n0 hn ⟨_,_,rfl,hr0,⟨(by show 2<=sizeLine;decide),λt ht=>q t _ (by rw[ag];first|rfl|(unfold aU cc;simp only[bq,cy,e1])) ((aT.refl H).new ht)⟩⟩⟩⟩⟩
 |give a=>
  have hr0:=hr
  obtain⟨p,rfl,h⟩:=hr
  refine⟨_,rfl,_,rfl,dE hrt n0 hn (dE h (by decide) rfl ?_)⟩
  refine⟨_,rfl,.inl ⟨rfl,_,rfl,GR ?_⟩⟩
  exact⟨(by show 0<=sizeLine;decide),λt ht=>q t _ (by rw[ag];first|rfl|(unfold aU cc;simp only[bq,cy,e1])) ((aT.refl H).new ht)⟩
theorem MD{K:Fg}{rl nm pr kl la l:Addr}{H H':Hp}{ys ps ls:List Str}{w:Str}{rs:List aZ}{kss0:List (List Str)}{B i mm j0:Nat}{ms:List Nat}{refs:List V}{kss:List (List Str)}{more:Bool}{o8:Option V}{rt:VK}{bk:St->Hp->Prop}
  (hkl:H kl=none) (nla:la≠kl) (nl:l≠kl) (hw:w∈ls) (hm:mm<rs.length) (hmj:ms[j0]?=some mm) (hz:wK ps kss) (hc:more=false->kss=kss0/\tE rs i kss0/\∀j',j'<j0->∀m km,ms[j']?=some m->kss0[m]?=some km->∀y∈km,y∈ls) (k:KJ kl H ys ps w rs.length H' refs kss) (hB:2*qW kss+more.toNat<=B) (hla:H' la=some (.lst (ls.map V.str))) (hl:H' l=some (.lst (aU ms))) :
  oF K {nx:=Mq rl nm pr kl H ys ps w rs B i la l ls ms kss0 (j0+1),rt:=rt,ct:=Mq rl nm pr kl H ys ps w rs B i la l ls ms kss0 (j0+1),bk:=bk} [some (.ref rl),some (.ref nm),some (.ref pr),some (.ref kl),some (.bl more),some (.int (i:Nat)),some (.ref la),some (.int (mm:Nat)),o8] H':=by
 obtain⟨am,km,e1,e2,nam,ham⟩:=k.get hm
 obtain⟨k1,k2,k3⟩:=k.wit mm km e2
 have e1':refs[((mm:Nat):Int).toNat]?=some (.ref am):=by simpa using e1
 refine .inl ⟨_,rfl,_,rfl,om (cq.of k.at_) (by lia) e1' ⟨am,rfl,⟨_,cq.of ham⟩,λD hD=>?_⟩⟩
 have nD:kl≠D:=ak k.at_ hD
 have naD:am≠D:=ak ham hD
 have nlaD:la≠D:=ak hla hD
 have nlD:l≠D:=ak hl hD
 refine iK (xs:=km.map V.str) (λj σ' H2=>∃o,σ'=[some (.ref rl),some (.ref nm),some (.ref pr),some (.ref kl),some (.bl more),some (.int (i:Nat)),some (.ref la),some (.int (mm:Nat)),o8,o]/\H2=upd H' D (.lst (((km.take j).filter λy=>decide (y∈ls)).map V.str))) ?_ ?_ ?_ ?_
 ·exact⟨none,rfl,rfl⟩
 ·rintro j σ' H2 _ ⟨o,_,rfl⟩
  exact cq.of (by rw[ax naD];exact ham)
 ·rintro j x σ' H2 hx ⟨o,rfl,rfl⟩
  rw[aD] at hx
  obtain⟨y,hy,rfl⟩:∃y,km[j]?=some y/\V.str y=x:=by
   cases e:km[j]? with
   |none=>rw[e] at hx;cases hx
   |some y=>rw[e] at hx;exact⟨y,rfl,Option.some.inj hx⟩
  have jl:j<km.length:=(af.mp hy).1
  have fl:((km.take j).filter λy=>decide (y∈ls)).length<=100:=bx (cD _ _) (by rw[bg];lia)
  have ft:=rm (λy=>decide (y∈ls)) km j y hy
  refine⟨_,rfl,_,rfl,la,_,rfl,.inl (cq.of (by rw[ax nlaD];exact hla)),rfl,qM _,_,rfl,?_⟩
  show if m6 (.str y) (ls.map V.str)=true then _ else _
  rw[tS]
  refine cA (λhin=>?_) (λhin=>?_)
  ·refine⟨_,rfl,_,ag,cF (by rw[ae];lia),_,rfl,?_⟩
   rw[xM,ft,if_pos (by simpa using hin),aL]
   rfl
  ·refine⟨_,rfl,?_⟩
   rw[ft,if_neg (by simpa using hin),ir]
 ·rintro σ' H2 ⟨o,_,rfl⟩
  have et:km.take (km.map V.str).length=km:=eJ (by rw[ae];exact aB _)
  rw[et]
  have fl:(km.filter λy=>decide (y∈ls)).length<=km.length:=cD _ _
  have fm:∀y∈km.filter (λy=>decide (y∈ls)),y∈ys:=λy hy=>k2 y (eg.mp hy).1
  have fw:w∈km.filter (λy=>decide (y∈ls))\/(mm=0/\ps=[]):=k3.imp (λz=>eg.mpr ⟨z,by simpa using hw⟩) id
  have fs:∀y∈km.filter (λy=>decide (y∈ls)),y∈km:=λy hy=>(eg.mp hy).1
  have fe:¬(km.filter (λy=>decide (y∈ls))).length<km.length->∀y∈km,y∈ls:=λhn y hy=>by
   have:=List.length_filter_eq_length_iff.mp (Nat.le_antisymm (cD (λy=>decide (y∈ls)) km) (Nat.not_lt.mp hn)) y hy
   simpa using this
  generalize km.filter (λy=>decide (y∈ls))=kp at fl fm fw fs fe
  have k':=k.grown ((aT.refl H').new (o:=.lst (kp.map V.str)) hD)
  have hla':(upd H' D (.lst (kp.map V.str))) la=some (.lst (ls.map V.str)):=by rw[ax nlaD];exact hla
  have hl':(upd H' D (.lst (kp.map V.str))) l=some (.lst (aU ms)):=by rw[ax nlD];exact hl
  have ham':(upd H' D (.lst (kp.map V.str))) am=some (.lst (km.map V.str)):=by rw[ax naD];exact ham
  have hD':(upd H' D (.lst (kp.map V.str))) D=some (.lst (kp.map V.str)):=ag
  generalize upd H' D (.lst (kp.map V.str))=H3 at k' hla' hl' ham' hD'
  show oE K _ [some (.ref rl),some (.ref nm),some (.ref pr),some (.ref kl),some (.bl more),some (.int (i:Nat)),some (.ref la),some (.int (mm:Nat)),some (.ref D)] H3
  refine⟨_,rfl,_,_,rfl,.inl ⟨_,cq.of hD',rfl⟩,_,rfl,_,rfl,om (cq.of k'.at_) (by lia) e1' ⟨_,_,rfl,.inl ⟨_,cq.of ham',rfl⟩,_,_,rfl,rfl,_,rfl,cA (λhlt=>?_) (λhlt=>?_)⟩⟩
  ·rw[ae,ae] at hlt
   refine⟨_,rfl,_,rfl,_,rfl,y8 k'.at_ (by lia) (by rw[k'.vlen];simpa using hm) ?_⟩
   have ei:((mm:Nat):Int).toNat=mm:=by simp
   rw[ei]
   have ss:=zc (kp:=kp) e2
   refine⟨_,kss.set mm kp,true,_,_,rfl,k'.set hkl (Ne.symm nD) hD' ⟨by lia,fm,fw⟩,?_,by rw[ax nla];exact hla',by rw[ax nl];exact hl',hz.set e2 fs,λz=>by cases z⟩
   have:(true:Bool).toNat=1:=rfl
   lia
  ·rw[ae,ae] at hlt
   refine⟨refs,kss,more,_,_,rfl,k',hB,hla',hl',hz,λhmo=>?_⟩
   obtain⟨c1,c2,c3⟩:=hc hmo
   refine⟨c1,c2,λj' hj' m km' hm' hk'=>?_⟩
   by_cases cj:j'<j0
   ·exact c3 j' cj m km' hm' hk'
   ·have:j'=j0:=by lia
    subst this
    rw[hmj] at hm';cases hm'
    rw[<-c1,e2] at hk';cases hk'
    exact fe (by lia)
theorem pO{ms:List Nat}{j:Nat}{x:V}(h:(aU ms)[j]?=some x):∃m,ms[j]?=some m/\x=.int (m:Nat):=by
 unfold aU at h
 rw[aD] at h
 cases e:ms[j]? with
 |none=>rw[e] at h;cases h
 |some m=>rw[e] at h;exact⟨m,rfl,(Option.some.inj h).symm⟩
theorem MC{K:Fg}{rl nm pr kl:Addr}{H H':Hp}{ys ps:List Str}{cs:List Nat}{w:Str}{B i:Nat}{rvs:List V}{rs:List aZ}{refs:List V}{kss:List (List Str)}{more:Bool}{o6 o7 o8:Option V}{rt:VK}{bk:St->Hp->Prop}
  (hkl:H kl=none) (hrl:H rl=some (.lst rvs)) (hA:cT (dD H) rvs rs) (hOk:tH ys cs rs) (hE:rs.getLast?.map jY=some true) (hw0:ps=[]->∃z,rs[0]?=some (.num w z)) (hi:i<rs.length) (k:KJ kl H ys ps w rs.length H' refs kss) (hB:2*qW kss+more.toNat<=B) (hz:wK ps kss) (hP:more=false->tE rs i kss) :
  lI K {nx:=La rl nm pr kl H ys ps w rs B (i+1),rt:=rt,ct:=La rl nm pr kl H ys ps w rs B (i+1),bk:=bk} [some (.ref rl),some (.ref nm),some (.ref pr),some (.ref kl),some (.bl more),some (.int (i:Nat)),o6,o7,o8] H':=by
 obtain⟨a,ks,e1,e2,na,ha⟩:=k.get hi
 obtain⟨k1,k2,k3⟩:=k.wit i ks e2
 obtain⟨v,r,f1,f2,hra⟩:=hA.get (i:=i) hi
 obtain⟨p,xs,rfl,hp⟩:=hra.ref
 have e1':refs[((i:Nat):Int).toNat]?=some (.ref a):=by simpa using e1
 have f1':rvs[((i:Nat):Int).toNat]?=some (.ref p):=by simpa using f1
 have nkl:rl≠kl:=ak hrl hkl
 have ways:∀(la:Addr) (ls:List Str) (H2:Hp),la≠kl->w∈ls->(∀y∈ls,y∈ks\/gv r=.str y)->KJ kl H ys ps w rs.length H2 refs kss->H2 la=some (.lst (ls.map V.str))->
   oG K {nx:=La rl nm pr kl H ys ps w rs B (i+1),rt:=rt,ct:=La rl nm pr kl H ys ps w rs B (i+1),bk:=bk} [some (.ref rl),some (.ref nm),some (.ref pr),some (.ref kl),some (.bl more),some (.int (i:Nat)),some (.ref la),o7,o8] H2:=λla ls H2 nla hwl hls k2 hla=>by
  refine .inl ⟨_,rfl,_,rfl,rl,i,rvs,.ref p,r,rfl,.inl (k2.same _ _ hrl),f1,hra.mono (.of_same k2.same),λl hl=>?_⟩
  have nl:l≠kl:=λz=>by rw[z,k2.at_] at hl;cases hl
  have nlal:la≠l:=ak hla hl
  refine⟨l,rfl,⟨_,cq.of ag⟩,gQ (xs:=aU (cc i r)) (λj=>Mq rl nm pr kl H ys ps w rs B i la l ls (cc i r) kss j) ?_ ?_ ?_ ?_⟩
  ·exact⟨refs,kss,more,_,_,rfl,k2.grown ((aT.refl H2).new hl),hB,by rw[ax nlal];exact hla,ag,hz,λhmo=>⟨rfl,hP hmo,λj' hj'=>absurd hj' (fq _)⟩⟩
  ·rintro j σ' H3 _ ⟨_,_,_,_,_,_,_,_,_,h3,_,_⟩
   exact cq.of h3
  ·rintro j x σ' H3 hx ⟨refs3,kss3,more3,o73,o83,rfl,k3',hB3,hla3,hl3,hz3,hc3⟩
   obtain⟨mm,hmm,rfl⟩:=pO hx
   exact MD hkl nla nl hwl (E3 f2 (hOk.rough r (az f2)) hE hmm) hmm hz3 hc3 k3' hB3 hla3 hl3
  ·rintro σ' H3 ⟨refs3,kss3,more3,o73,o83,rfl,k3',hB3,hla3,hl3,hz3,hc3⟩
   refine⟨refs3,kss3,more3,_,_,_,_,rfl,k3',hB3,hz3,λhmo=>?_⟩
   obtain⟨c1,c2,c3⟩:=hc3 hmo
   subst c1
   intro n m r' ks' km hn hr' hm' hks' hkm y hy
   by_cases cn:n<i
   ·exact c2 n m r' ks' km cn hr' hm' hks' hkm y hy
   ·have:n=i:=by lia
    subst this
    rw[f2] at hr';cases hr'
    rw[e2] at hks';cases hks'
    obtain⟨j',hj',hmj⟩:=fB.mp hm'
    have hmj':(cc n r)[j']?=some m:=by rw[aa hj',hmj]
    exact hls y (c3 j' (by rw[bV];exact hj') m km hmj' hkm y hy)
 refine⟨_,rfl,_,rfl,om (cq.of k.at_) (by lia) e1' ?_⟩
 show oH K _ [some (.ref rl),some (.ref nm),some (.ref pr),some (.ref kl),some (.bl more),some (.int (i:Nat)),some (.ref a),o7,o8] H'
 refine⟨_,rfl,_,rfl,om (cq.of (k.same _ _ hrl)) (by lia) f1' (dE (k.same _ _ hp) (by decide) rfl ⟨(by show 3<=sizeLine;decide),λt ht=>⟨t,_,rfl,.inr (dC.of ag),rfl,rfl,_,rfl,?_⟩⟩)⟩
 have sm:=(aT.refl H').new (o:=.tup [V.str "num",V.str "op",V.str "call"]) ht
 have kt:=k.grown sm
 have hat:=sm _ _ ha
 generalize upd H' t (.tup [V.str "num",V.str "op",V.str "call"])=H1 at sm kt hat ⊢
 refine vJ (λhb=>?_) (λhb=>?_)
 ·have hb':m6 (.str (oo r)) [V.str "num",V.str "op",V.str "call"]=true:=hb
  obtain⟨x,hx⟩:=Hk hb'
  obtain⟨xs',hp'⟩:=IP hra hx
  refine⟨_,rfl,_,rfl,_,rfl,om (cq.of (kt.same _ _ hrl)) (by lia) f1' (dE (kt.same _ _ hp') (by decide) rfl ⟨(by show 1<=sizeLine;decide),λp1 hp1=>?_⟩)⟩
  have na1:a≠p1:=ak hat hp1
  refine .inr (.inr (.inl ⟨a,p1,_,_,rfl,rfl,by rw[ax na1];exact hat,ag,?_,λp2 hp2=>?_⟩))
  ·have:=cF (n:=101) (by decide)
   rw[ae]
   show ks.length+1<=sizeLine
   lia
  have k5:=(kt.grown ((aT.refl H1).new (o:=.lst [V.str x]) hp1)).grown ((aT.refl _).new (o:=.lst (ks.map V.str++[V.str x])) hp2)
  have np2:p2≠kl:=λz=>by
   have:=(kt.grown ((aT.refl H1).new (o:=.lst [V.str x]) hp1)).at_
   rw[z,this] at hp2;cases hp2
  refine ways p2 (ks++[x]) _ np2 ?_ (λy hy=>(aE.mp hy).imp id λz=>by rw[ai.mp z];exact hx) k5 (by rw[ag,aL];rfl)
  rcases k3 with z|⟨z1,z2⟩
  ·exact bt _ z
  ·obtain⟨zz,hz⟩:=hw0 z2
   subst z1
   rw[f2] at hz;cases hz;cases hx
   exact aS _ (ai.mpr rfl)
 ·refine ways a ks _ na ?_ (λy hy=>.inl hy) kt hat
  rcases k3 with z|⟨z1,z2⟩
  ·exact z
  ·obtain⟨zz,hz⟩:=hw0 z2
   subst z1
   rw[f2] at hz;cases hz
   exact absurd (show m6 (.str "num") [V.str "num",V.str "op",V.str "call"]=false from hb) (by decide +kernel)
theorem DH{α:Type}(n:Nat)(a:α):aH (n+1) a=aH n a++[a]:=by
 exact List.replicate_succ'
theorem yW{K:Fg}{vs:List V}{H:Hp}{Q:VK}{E:XK}(h:gz K vs H Q E):sj K {nx:=λ_ H'=>Q .non H',rt:=Q} (di jI vs) H:=by
 obtain⟨rl,nm,pr,rvs,rs,ys,ps,cs,rfl,hrl,hA,hOk,hE,hnm,ysl,hpr,psl,pin,hnum,q⟩:=h
 have n1:1<=rs.length:=eF.mpr hOk.pos
 obtain⟨w,wy,wp,w0⟩:∃w:Str,w∈ys/\(ps≠[]->w∈ps)/\(ps=[]->∃z,rs[0]?=some (.num w z)):=by
  cases ps with
  |cons p r=>exact⟨p,pin p aP,λ_=>aP,λz=>by cases z⟩
  |nil=>
   have h0:=hnum rfl
   rw[iS] at h0
   cases e:rs[0]? with
   |none=>rw[e] at h0;cases h0
   |some r=>
    rw[e,cZ] at h0
    cases r with
    |num x z=>exact⟨x,(hOk.rough _ (az e)).1,λz=>absurd rfl z,λ_=>⟨z,rfl⟩⟩
    |_=>cases h0
 refine .inl ⟨_,rfl,rl,rfl,⟨_,cq.of hrl⟩,λkl hkl=>?_⟩
 have nrl:rl≠kl:=ak hrl hkl
 have nnm:nm≠kl:=ak hnm hkl
 have npr:pr≠kl:=ak hpr hkl
 refine iK (xs:=rvs) (λj σ' H'=>∃(refs:List V) (o:Option V),σ'=[some (.ref rl),some (.ref nm),some (.ref pr),none,none,none,none,none,none,o]/\H' kl=some (.lst refs)/\cT (Jg kl H') refs (aH j ys)/\aT H H') ?_ ?_ ?_ ?_
 ·exact⟨[],none,rfl,ag,.nil,(aT.refl H).new hkl⟩
 ·rintro j σ' H' _ ⟨_,_,_,_,_,s⟩
  exact cq.of (s _ _ hrl)
 ·rintro j x σ' H' hx ⟨refs,o,rfl,hk,ha,s⟩
  refine jZ ?_
  have jl:j<rvs.length:=(af.mp hx).1
  have rl100:rvs.length<=100:=by rw[hA.len];exact hOk.few
  have rlen:refs.length=j:=by rw[ha.len,bE]
  refine⟨_,rfl,nm,_,rfl,.inl (cq.of (s _ _ hnm)),λa ha0=>?_⟩
  have nak:kl≠a:=ak hk ha0
  refine⟨refs,by rw[ax nak];exact hk,cF (by lia),refs++[.ref a],_,rfl,ag,?_,λb o h=>?_⟩
  ·rw[DH]
   refine cT.snoc (ha.imp λ_ _ z=>(z.same ((aT.refl H').new ha0)).upd) ⟨a,rfl,Ne.symm nak,?_⟩
   rw[ax (Ne.symm nak),ag]
  ·have h1:=s b o h
   rw[ax (ak h hkl),ax (ak h1 ha0)];exact h1
 ·rintro σ' H1 ⟨refs,o,_,hk,ha,s⟩
  rw[hA.len] at ha
  have rlen:refs.length=rs.length:=by rw[ha.len,bE]
  show nK K _ [some (.ref rl),some (.ref nm),some (.ref pr),some (.ref kl),none,none,none,none,none] H1
  refine⟨_,rfl,pr,_,rfl,.inl (cq.of (s _ _ hpr)),λa ha0=>?_⟩
  have nak:kl≠a:=ak hk ha0
  have K0:KJ kl H ys [] w rs.length H1 refs (aH rs.length ys):=⟨hk,ha,by rw[bE],λi ks e=>by
   have hm:=az e
   rw[dM] at hm
   rw[hm.2];exact⟨ysl,λy hy=>hy,.inl wy⟩,s⟩
  have K1:=K0.grown ((aT.refl H1).new (o:=.lst (ps.map V.str)) ha0)
  refine⟨_,rfl,y8 K1.at_ (by decide) (by rw[rlen];exact n1) ?_⟩
  have K2:KJ kl H ys ps w rs.length (upd (upd H1 a (.lst (ps.map V.str))) kl (.lst (refs.set 0 (.ref a)))) (refs.set 0 (.ref a)) ((aH rs.length ys).set 0 ps):=by
   have z:=K1.set (m:=0) (kp:=ps) (a:=a) hkl (Ne.symm nak) ag ⟨psl,pin,.inr ⟨rfl,rfl⟩⟩
   refine⟨z.at_,z.all,z.len,λi ks e=>?_,z.same⟩
   by_cases c:0=i
   ·subst c
    rw[bj (by rw[bE];exact n1)] at e;cases e
    refine⟨psl,pin,?_⟩
    by_cases e:ps=[]
    ·exact .inr ⟨rfl,e⟩
    ·exact .inl (wp e)
   ·obtain⟨z1,z2,z3⟩:=z.wit i ks e
    refine⟨z1,z2,?_⟩
    rcases z3 with z3|z3
    ·exact .inl z3
    ·exact absurd z3.1.symm c
  show nJ K _ [some (.ref rl),some (.ref nm),some (.ref pr),some (.ref kl),none,none,none,none,none] (upd (upd H1 a (.lst (ps.map V.str))) kl (.lst (refs.set 0 (.ref a))))
  generalize upd (upd H1 a (.lst (ps.map V.str))) kl (.lst (refs.set 0 (.ref a)))=H2 at K2 ⊢
  generalize refs.set 0 (.ref a)=refs2 at K2
  have Z2:wK ps ((aH rs.length ys).set 0 ps):=λks e y hy=>by
   rw[bj (by rw[bE];exact n1)] at e;cases e;exact hy
  generalize (aH rs.length ys).set 0 ps=kss2 at K2 Z2
  show nI K _ [some (.ref rl),some (.ref nm),some (.ref pr),some (.ref kl),some (.bl true),none,none,none,none] H2
  refine⟨λm σ' H'=>∃(refs:List V) (kss:List (List Str)) (more:Bool) (o5 o6 o7 o8:Option V),σ'=[some (.ref rl),some (.ref nm),some (.ref pr),some (.ref kl),some (.bl more),o5,o6,o7,o8]/\KJ kl H ys ps w rs.length H' refs kss/\wK ps kss/\(more=false->tE rs rs.length kss)/\2*qW kss+more.toNat=m,⟨_,refs2,kss2,true,_,_,_,_,rfl,K2,Z2,(λz=>by cases z),rfl⟩,?_⟩
  rintro m σ' H' ⟨refs3,kss3,more,o5,o6,o7,o8,rfl,K3,Z3,P3,hm⟩
  refine⟨_,rfl,more,rfl,vJ (λhmore=>?_) (λhmore=>?_)⟩
  ·subst hmore
   refine⟨La rl nm pr kl H ys ps w rs (2*qW kss3) rs.length,?_,?_⟩
   ·rintro σ4 H4 ⟨refs4,kss4,more4,p5,p6,p7,p8,rfl,K4,hB,Z4,P4⟩
    refine⟨_,?_,refs4,kss4,more4,_,_,_,_,rfl,K4,Z4,P4,rfl⟩
    have:(true:Bool).toNat=1:=rfl
    lia
   ·-- more=False;for n in range(len(rows))
    show oI K _ [some (.ref rl),some (.ref nm),some (.ref pr),some (.ref kl),some (.bl false),o5,o6,o7,o8] H'
    have hlr:=K3.same _ _ hrl
    refine⟨_,rfl,_,_,rfl,.inl ⟨_,cq.of hlr,rfl⟩,_,rfl,by lia,by rw[hA.len];have:=hOk.few;lia,kf (λi=>La rl nm pr kl H ys ps w rs (2*qW kss3) i) ⟨refs3,kss3,false,_,_,_,_,rfl,K3,by simp,Z3,λ_ n _ _ _ _ hn=>absurd hn (fq _)⟩ ?_ ?_⟩
    ·rintro i σ5 H5 hi ⟨refs5,kss5,more5,p5,p6,p7,p8,rfl,K5,hB,Z5,P5⟩
     have hi:i<rs.length:=by rw[hA.len] at hi;simpa using hi
     have e0:(0:Int)+(i:Int)=((i:Nat):Int):=by lia
     show lI K _ [some (.ref rl),some (.ref nm),some (.ref pr),some (.ref kl),some (.bl more5),some (.int ((0:Int)+(i:Int))),p6,p7,p8] H5
     rw[e0]
     exact MC hkl hrl hA hOk hE w0 hi K5 hB Z5 P5
    ·rintro σ5 H5 h5
     rw[hA.len,fz] at h5
     exact h5
  ·refine⟨_,rfl,q kl refs3 kss3 H' hkl K3.at_ (K3.all.imp λ_ _ ⟨a,e,_,h⟩=>⟨a,e,h⟩) K3.len (λi ks e=>?_) ⟨Z3,λn m r ks km hr hm hks hkm=>P3 hmore n m r ks km (af.mp hr).1 hr hm hks hkm⟩ K3.same⟩
   obtain⟨z1,z2,z3⟩:=K3.wit i ks e
   refine⟨z1,z2,z3.imp (λz e=>?_) id⟩
   rw[e] at z;cases z
theorem tJ{H H1:Hp}{a:Addr}{o:HO}(s:aT H H1)(h:H a=none):aT H (upd H1 a o):=λb u e=>by
 rw[ax (ak e h)];exact s b u e
theorem AV{K:Fg}{vs:List V}{H:Hp}{Q:VK}{E:XK}(h:bW K vs H Q E):uN K {nx:=λ_ H'=>Q .non H',rt:=Q} (di oN vs) H:=by
 obtain⟨rt,n,rvs,rs,rfl,hrt,hA,g,hn,q⟩:=h
 refine⟨_,rfl,?_⟩
 show qr K _ [some (.ref rt),some (.int (n:Nat)),some (.int (n:Nat))] H
 refine⟨λm σ' H'=>∃k,k<=rs.length/\m=rs.length-k/\σ'=[some (.ref rt),some (.int (n:Nat)),some (.int (runJ rs k n:Nat))]/\H'=H,⟨_,0,cf _,rfl,rfl,rfl⟩,?_⟩
 rintro m σ' H' ⟨k,hk,rfl,rfl,rfl⟩
 have lt:=sU g k hn
 obtain⟨v,r,e1,e2,hra⟩:=hA.get lt
 obtain⟨p,xs,rfl,hp⟩:=hra.ref
 have e1':rvs[((runJ rs k n:Nat):Int).toNat]?=some (.ref p):=by simpa using e1
 refine⟨_,rfl,_,rfl,dE hrt (by lia) e1' (dE hp (by decide) rfl (.inl ⟨rfl,_,rfl,cA (λhw=>?_) (λhw=>?_)⟩))⟩
 ·obtain⟨t',rfl⟩:=oh (mF hw)
  have kl:k<rs.length:=by
   by_cases c:k<rs.length
   ·exact c
   ·have:k=rs.length:=by lia
    subst this
    have:=g.ring n hn _ e2
    cases this
  refine⟨λσ' H''=>σ'=[some (.ref rt),some (.int (n:Nat)),some (.int (runJ rs (k+1) n:Nat))]/\H''=H',?_,?_⟩
  ·rintro σ4 H4 ⟨rfl,rfl⟩
   exact⟨rs.length-(k+1),by lia,k+1,kl,rfl,rfl,rfl⟩
  ·refine⟨_,rfl,_,rfl,dE hrt (by lia) e1' ⟨.ref p,.jump t',rfl,hra,?_⟩⟩
   have e:runJ rs (k+1) n=t':=by rw[oe];unfold stp;rw[e2]
   rw[e]
   exact⟨rfl,rfl⟩
 ·have e:=FY (rs:=rs) (k:=k) (n:=n) hk λr' hr'=>by
   rw[e2] at hr';cases hr'
   exact ud λz=>hw (by rw[z])
  rw[e] at q
  exact⟨_,rfl,q⟩
def dz(F:List Nat):List (dS×V):=F.map λ(n:Nat)=>(Sum.inl ((n:Nat):Int),V.bl true)
theorem GK:∀(F:List Nat) (m:Nat),(gM (dz F) (Sum.inl (m:Int))).isSome=decide (m∈F)
 |[],m=>rfl
 |a::r,m=>by
  unfold gM dz
  rw[bq,fk]
  by_cases c:m=a
  ·subst c
   rw[decide_eq_true (by rfl:((Sum.inl (m:Int),V.bl true):dS×V).1=Sum.inl (m:Int))]
   rw[decide_eq_true aP]
   rfl
  ·have e:decide (((Sum.inl (a:Int),V.bl true):dS×V).1=Sum.inl (m:Int))=false:=decide_eq_false λz=>c (by injection z with z;lia)
   rw[e]
   have ih:=GK r m
   unfold gM dz at ih
   refine Eq.trans ih ?_
   rw[Bool.eq_iff_iff,decide_eq_true_eq,decide_eq_true_eq,aN]
   exact⟨.inr,λz=>z.resolve_left c⟩
theorem putF{F:List Nat}{m:Nat}(h:m∉F):iF (dz F) (Sum.inl (m:Int)) (V.bl true)=dz (F++[m]):=by
 have e:gM (dz F) (Sum.inl (m:Int))=none:=by
  have:=GK F m
  rw[decide_eq_false h] at this
  cases q:gM (dz F) (Sum.inl (m:Int)) with
  |none=>rfl
  |some v=>rw[q] at this;cases this
 rw[pV _ e]
 unfold dz
 rw[aL]
 rfl
theorem yt(F:List Nat):(dz F).length=F.length:=by unfold dz;rw[ae]
def GT(rs:List aZ)(un:Option Str)(F:List Nat)(n:Nat):Prop:=∀r,rs[n]?=some r->(∀y,un=some y->gv r≠.str y)->∀m∈cc n r,m∈F
theorem GT.mono{rs:List aZ}{un:Option Str}{F F':List Nat}{n:Nat}(h:GT rs un F n)(s:∀x∈F,x∈F'):GT rs un F' n:=λr e hy m hm=>s m (h r e hy m hm)
structure WI(rs:List aZ)(un:Option Str)(F W:List Nat)(now:Nat->Prop):Prop where
 nd:F.Nodup
 way:∀x∈F,xV rs un x
 zero:0∈F
 sub:∀x∈W,x∈F
 cl:∀x∈F,x∈W\/now x\/GT rs un F x
theorem WI.add{rs:List aZ}{un:Option Str}{F W:List Nat}{now:Nat->Prop}{m:Nat}(i:WI rs un F W now)(h:m∉F)(w:xV rs un m):WI rs un (F++[m]) (W++[m]) now:=by
 refine⟨pT i.nd h,λx hx=>?_,bt _ i.zero,λx hx=>?_,λx hx=>?_⟩
 ·rcases aE.mp hx with z|z
  ·exact i.way x z
  ·rw[ai.mp z];exact w
 ·rcases aE.mp hx with z|z
  ·exact bt _ (i.sub x z)
  ·exact aS _ z
 ·rcases aE.mp hx with z|z
  ·rcases i.cl x z with a|a|a
   ·exact .inl (bt _ a)
   ·exact .inr (.inl a)
   ·exact .inr (.inr (a.mono λy hy=>bt _ hy))
  ·exact .inl (aS _ z)
def Mr(rt fd wl:Addr)(H:Hp)(rs:List aZ)(un:Option Str)(m:Nat):St->Hp->Prop:=λσ' H'=>∃(F W:List Nat) (o4 o5:Option V),σ'=[some (.ref rt),some (Js un),some (.ref fd),some (.ref wl),o4,o5]/\H' fd=some (.dK (dz F))/\H' wl=some (.lst (aU W))/\WI rs un F W (λ_=>False)/\aT H H'/\2*(rs.length-F.length)+W.length<=m
def MX(rt fd wl tp:Addr)(H:Hp)(rs:List aZ)(un:Option Str)(ms:List Nat)(n m j:Nat):St->Hp->Prop:=λσ' H'=>∃(F W:List Nat) (o5:Option V),σ'=[some (.ref rt),some (Js un),some (.ref fd),some (.ref wl),some (.int (n:Nat)),o5]/\H' fd=some (.dK (dz F))/\H' wl=some (.lst (aU W))/\H' tp=some (.tup (aU ms))/\WI rs un F W (λx=>x=n)/\aT H H'/\2*(rs.length-F.length)+W.length<=m/\∀i,i<j->∀x,ms[i]?=some x->x∈F
theorem tV(ns:List Nat)(n:Nat):aU (ns++[n])=aU ns++[V.int (n:Nat)]:=by unfold aU;rw[aL];rfl
theorem WI.done{rs:List aZ}{un:Option Str}{F:List Nat}(i:WI rs un F [] (λ_=>False))(m:Nat):m∈F↔xV rs un m:=by
 refine⟨i.way m,λh=>?_⟩
 induction h with
 |zero=>exact i.zero
 |step _ e hy hm ih=>
  rcases i.cl _ ih with z|z|z
  ·cases z
  ·exact z.elim
  ·exact z _ e hy _ hm
theorem WI.len{rs:List aZ}{un:Option Str}{F W:List Nat}{now:Nat->Prop}(g:cB rs)(i:WI rs un F W now):F.length<=rs.length:=fM i.nd λx hx=>(i.way x hx).lt g
theorem Jt{K:Fg}{rt fd wl:Addr}{H H1:Hp}{rvs:List V}{rs:List aZ}{un:Option Str}{F W:List Nat}{n m:Nat}{r:aZ}{v:V}{o5:Option V}{D:nh}(hrt:H rt=some (.tup rvs))(hfd:H fd=none)(hwl:H wl=none)(nfw:fd≠wl)(g:cB rs)
  (e1:rvs[n]?=some v) (e2:rs[n]?=some r) (hra:dD H v r) (hy:∀y,un=some y->gv r≠.str y) (hn:xV rs un n) (h1:H1 fd=some (.dK (dz F))) (h2:H1 wl=some (.lst (aU W))) (i:WI rs un F W (λx=>x=n)) (s:aT H H1) (hm:2*(rs.length-F.length)+W.length<=m) (hmb:m<=1000)
  (q:∀(σ':St) (H':Hp),Mr rt fd wl H rs un m σ' H'->D.nx σ' H') :
  jM (iN K (bL (fb K) [] E0 (aj (ar 0) (aj (ar 4) aM)))) (aX 5) (mI K) D [some (.ref rt),some (Js un),some (.ref fd),some (.ref wl),some (.int (n:Nat)),o5] H1:=by
 refine .inr ⟨_,rfl,_,rfl,rt,n,rvs,v,r,rfl,s _ _ hrt,e1,hra.mono (.of_same s),λtp H2 htp s2=>⟨tp,rfl,⟨_,dC.of htp⟩,mi (xs:=aU (cc n r)) (MX rt fd wl tp H rs un (cc n r) n m) ?_ ?_ ?_ ?_⟩⟩
 ·exact⟨F,W,_,rfl,s2 _ _ h1,s2 _ _ h2,htp,i,s.trans s2,hm,λi hi=>absurd hi (fq _)⟩
 ·rintro j σ' H' _ ⟨_,_,_,_,_,_,h3,_⟩
  exact dC.of h3
 ·rintro j x σ' H' hx ⟨F',W',p5,rfl,h3,h4,h5,i',s',hm',hj⟩
  obtain⟨to,hto,rfl⟩:=pO hx
  have hw:xV rs un to:=.step hn e2 hy (az hto)
  have fl:=i'.len g
  have few:=g.few
  show mI K _ [some (.ref rt),some (Js un),some (.ref fd),some (.ref wl),some (.int (n:Nat)),some (.int (to:Nat))] H'
  refine⟨_,rfl,_,rfl,fd,_,rfl,ng.k (k:=Sum.inl (to:Int)) h3,_,rfl,?_⟩
  show if(!(gM (dz F') (Sum.inl (to:Int))).isSome)=true then _ else _
  rw[GK]
  refine fR (λhin=>?_) (λhin=>?_)
  ·have nd':=fM (pT i'.nd hin) (n:=rs.length) λy hy'=>by
    rcases aE.mp hy' with z|z
    ·exact(i'.way y z).lt g
    ·rw[ai.mp z];exact hw.lt g
   rw[ay,bo] at nd'
   refine⟨_,rfl,_,rfl,fd,_,rfl,xR.k (k:=Sum.inl (to:Int)) h3 (cF (by rw[yt];lia)),?_⟩
   rw[putF hin]
   have h4':(upd H' fd (.dK (dz (F'++[to])))) wl=some (.lst (aU W')):=by rw[ax (Ne.symm nfw)];exact h4
   have nwl:W'.length<=100000:=by lia
   refine⟨_,rfl,.inl ⟨rfl,_,cq.of h4'⟩,_,rfl,wl,_,_,rfl,rfl,h4',cF (by rw[bV];exact nwl),?_⟩
   have ntf:tp≠fd:=λz=>by rw[z,h3] at h5;cases h5
   have ntw:tp≠wl:=λz=>by rw[z,h4] at h5;cases h5
   refine⟨F'++[to],W'++[to],_,rfl,by rw[ax nfw,ag],by rw[ag,tV],by rw[ax ntw,ax ntf];exact h5,i'.add hin hw,tJ (tJ s' hfd) hwl,?_,λk hk x hxk=>?_⟩
   ·simp only[ay,bo];lia
   ·by_cases c:k<j
    ·exact bt _ (hj k c x hxk)
    ·have:k=j:=by lia
     subst this
     rw[hto] at hxk;cases hxk
     exact aS _ (ai.mpr rfl)
  ·refine⟨F',W',_,rfl,h3,h4,h5,i',s',hm',λk hk x hxk=>?_⟩
   by_cases c:k<j
   ·exact hj k c x hxk
   ·have:k=j:=by lia
    subst this
    rw[hto] at hxk;cases hxk
    exact hin
 ·rintro σ' H' ⟨F',W',p5,rfl,h3,h4,h5,i',s',hm',hj⟩
  rw[bV] at hj
  refine q _ _ ⟨F',W',_,_,rfl,h3,h4,⟨i'.nd,i'.way,i'.zero,i'.sub,λx hx=>?_⟩,s',hm'⟩
  rcases i'.cl x hx with z|z|z
  ·exact .inl z
  ·subst z
   refine .inr (.inr λr' e _ m' hm'=>?_)
   rw[e2] at e;cases e
   obtain⟨k,hk,ek⟩:=fB.mp hm'
   exact hj k hk m' (by rw[aa hk,ek])
  ·exact .inr (.inr z)
theorem AW{K:Fg}{vs:List V}{H:Hp}{Q:VK}{E:XK}(h:gS K vs H Q E):uO K {nx:=λ_ H'=>Q .non H',rt:=Q} (di oO vs) H:=by
 obtain⟨rt,un,rvs,rs,rfl,hrt,hA,g,q⟩:=h
 refine λfd hfd=>⟨ag,[(Sum.inl 0,V.bl true)],rfl,by decide,?_⟩
 have e0:upd (upd H fd (.dK [])) fd (.dK (gq [] [(Sum.inl 0,V.bl true)]))=upd H fd (.dK (dz [0])):=by
  rw[xM]
  have:gq [] [((Sum.inl 0:dS),V.bl true)]=dz [0]:=by
   show iF [] (Sum.inl 0) (V.bl true)=_
   rw[pV _ GL];rfl
  rw[this]
 show qw K _ [some (.ref rt),some (Js un),some (.ref fd),none,none,none] (upd (upd H fd (.dK [])) fd (.dK (gq [] [(Sum.inl 0,V.bl true)])))
 rw[e0]
 refine⟨(by show 1<=sizeLine;decide),λwl hwl0=>?_⟩
 have nfw:fd≠wl:=ak ag hwl0
 have hwl:H wl=none:=by
  have:(upd H fd (.dK (dz [0]))) wl=H wl:=ax (Ne.symm nfw)
  rw[<-this];exact hwl0
 show qu K _ [some (.ref rt),some (Js un),some (.ref fd),some (.ref wl),none,none] (upd (upd H fd (.dK (dz [0]))) wl (.lst [V.int 0]))
 have few0:=g.few
 refine⟨λm σ' H'=>m<=1000/\Mr rt fd wl H rs un m σ' H',⟨2*(rs.length-1)+1,by lia,[0],[0],none,none,rfl,by rw[ax nfw,ag],ag,⟨by simp,λx hx=>by rw[ai.mp hx];exact .zero,by simp,λx hx=>hx,λx hx=>.inl hx⟩,tJ (tJ (aT.refl H) hfd) hwl,by simp⟩,?_⟩
 rintro m σ' H1 ⟨hmb,F,W,o4,o5,rfl,h1,h2,i,s,hm⟩
 refine⟨_,rfl,_,_,rfl,.inl ⟨_,cq.of h2,rfl⟩,_,_,rfl,rfl,_,rfl,cA (λhl=>?_) (λhl=>?_)⟩
 ·rw[bV] at hl
  obtain⟨L,n,rfl⟩:∃L n,W=L++[n]:=by
   rcases List.eq_nil_or_concat W with z|⟨L,n,z⟩
   ·subst z;simp at hl
   ·exact⟨L,n,by rw[z,List.concat_eq_append]⟩
  have hnF:=i.sub n (aS _ (ai.mpr rfl))
  have hn:=i.way n hnF
  have nl:=hn.lt g
  obtain⟨v,r,e1,e2,hra⟩:=hA.get nl
  have hm1:2*(rs.length-F.length)+L.length<=m-1:=by rw[ay,bo] at hm;lia
  have m0:0<m:=by rw[ay,bo] at hm;lia
  refine⟨Mr rt fd wl H rs un (m-1),λσ4 H4 h4=>⟨m-1,by lia,by lia,h4⟩,?_⟩
  rw[tV] at h2
  refine⟨_,rfl,.inl ⟨rfl,_,cq.of h2⟩,wl,_,V.int (n:Nat),rfl,rfl,h2,?_,?_⟩
  ·rw[ay,bo,Nat.add_sub_cancel,bh (aB _),eK];rfl
  rw[List.dropLast_concat]
  show qt K _ [some (.ref rt),some (Js un),some (.ref fd),some (.ref wl),some (.int (n:Nat)),o5] (upd H1 wl (.lst (aU L)))
  have h1':(upd H1 wl (.lst (aU L))) fd=some (.dK (dz F)):=by rw[ax nfw];exact h1
  have h2':(upd H1 wl (.lst (aU L))) wl=some (.lst (aU L)):=ag
  have s':aT H (upd H1 wl (.lst (aU L))):=tJ s hwl
  generalize upd H1 wl (.lst (aU L))=H2 at h1' h2' s'
  have i':WI rs un F L (λx=>x=n):=⟨i.nd,i.way,i.zero,λx hx=>i.sub x (bt _ hx),λx hx=>by
   rcases i.cl x hx with z|z|z
   ·rcases aE.mp z with z|z
    ·exact .inl z
    ·exact .inr (.inl (ai.mp z))
   ·exact z.elim
   ·exact .inr (.inr z)⟩
  have e1':rvs[((n:Nat):Int).toNat]?=some v:=by simpa using e1
  cases un with
  |none=>
   refine⟨_,rfl,rfl,_,rfl,uY (uY ?_)⟩
   exact Jt hrt hfd hwl nfw g e1 e2 hra (λy z=>by cases z) hn h1' h2' i' s' hm1 (by lia) λ_ _ z=>z
  |some y=>
   refine⟨_,rfl,rfl,_,rfl,j5 ?_⟩
   refine⟨_,rfl,_,rfl,dE (s' _ _ hrt) (by lia) e1' ⟨v,r,rfl,hra.mono (.of_same s'),λH3 s3=>⟨_,rfl,.inl ⟨?_,_,rfl,?_⟩⟩⟩⟩
   ·cases r<;>rfl
   ·refine fR (λhne=>?_) (λhe=>?_)
    ·exact Jt hrt hfd hwl nfw g e1 e2 hra (λy' z=>by cases z;exact hne) hn (s3 _ _ h1') (s3 _ _ h2') i' (s'.trans s3) hm1 (by lia) λ_ _ z=>z
    ·refine⟨F,L,_,_,rfl,s3 _ _ h1',s3 _ _ h2',⟨i'.nd,i'.way,i'.zero,i'.sub,λx hx=>?_⟩,s'.trans s3,hm1⟩
     rcases i'.cl x hx with z|z|z
     ·exact .inl z
     ·subst z
      refine .inr (.inr λr' e hy=>?_)
      rw[e2] at e;cases e
      exact absurd he (hy y rfl)
     ·exact .inr (.inr z)
 ·rw[bV] at hl
  have:W=[]:=dv.mp (by lia)
  subst this
  have fl:=i.len g
  have few:=g.few
  refine⟨_,rfl,fd,_,F.map (λn=>((n:Nat):Int)),rfl,h1,?_,by rw[ae];lia,λl ns' hl' hp hs=>?_⟩
  ·unfold dz;rw[cP,cP];rfl
  ·obtain⟨ks,rfl,hk,hr⟩:=Dx hp hs i.nd
   have e:(ks.map λn=>((n:Nat):Int)).map V.int=aU ks:=by unfold aU;rw[cP];rfl
   rw[e]
   refine q l ks _ (λm=>(hk m).trans (i.done m)) hr ag (s.free hl') (s.new hl')
def J0(rs:List aZ)(m:Nat):Bool:=match rs[m]? with
 |some r=>!gH r
 |none=>false
theorem BJ{rs:List aZ}{m:Nat}(h:m<rs.length):J0 rs m=true↔∀r,rs[m]?=some r->gH r=false:=by
 unfold J0
 rw[aa h]
 constructor
 ·intro z r e;cases e;simpa using z
 ·intro z;simpa using z _ rfl
theorem GM{r:aZ}{rs:List aZ}{m:Nat}(e:rs[m]?=some r):(!decide (V.str (oo r)=V.str "jump"))=J0 rs m:=by
 unfold J0
 rw[e]
 cases r with
 |jump t=>show(!decide (V.str "jump"=V.str "jump"))=false;decide +kernel
 |num x z=>show(!decide (V.str "num"=V.str "jump"))=true;decide +kernel
 |op x s a b=>show(!decide (V.str "op"=V.str "jump"))=true;decide +kernel
 |call x k as=>show(!decide (V.str "call"=V.str "jump"))=true;decide +kernel
 |say a=>show(!decide (V.str "say"=V.str "jump"))=true;decide +kernel
 |test a t=>show(!decide (V.str "test"=V.str "jump"))=true;decide +kernel
 |give a=>show(!decide (V.str "give"=V.str "jump"))=true;decide +kernel
theorem wY(a b:List Nat):aU (a++b)=aU a++aU b:=by unfold aU;rw[aL]
theorem yS{K:Fg}{vs:List V}{H:Hp}{Q:VK}{E:XK}(h:cE K vs H Q E):rQ K {nx:=λ_ H'=>Q .non H',rt:=Q} (di kQ vs) H:=by
 obtain⟨rt,rvs,rs,rfl,hrt,hA,g,q⟩:=h
 refine .inl ⟨_,rfl,rt,none,rvs,rs,rfl,hrt,hA,g,λl ns H1 hns hr hl hl0 s1=>⟨l,rfl,⟨_,cq.of hl⟩,λD hD=>?_⟩⟩
 have nD:l≠D:=ak hl hD
 have nlt:∀m∈ns,m<rs.length:=λm hm=>((hns m).mp hm).lt g
 refine iK (xs:=aU ns) (λj σ' H'=>∃o,σ'=[some (.ref rt),o]/\H'=upd H1 D (.lst (aU ((ns.take j).filter (J0 rs))))) ?_ ?_ ?_ ?_
 ·exact⟨none,rfl,rfl⟩
 ·rintro j σ' H' _ ⟨o,_,rfl⟩
  exact cq.of (by rw[ax nD];exact hl)
 ·rintro j x σ' H' hx ⟨o,rfl,rfl⟩
  obtain⟨m,hm,rfl⟩:=pO hx
  have ml:=nlt m (az hm)
  obtain⟨v,r,e1,e2,hra⟩:=(hA.imp λ_ _ z=>z.mono (Tp.of_same s1)).get ml
  have nj:j<ns.length:=(af.mp hm).1
  have few:=g.few
  have nsl:ns.length<=rs.length:=fM (hr.imp λh=>aV h) nlt
  have ft:=rm (J0 rs) ns j m hm
  have fl:((ns.take j).filter (J0 rs)).length<=100:=bx (cD _ _) (by rw[bg];lia)
  obtain⟨p,xs,rfl,hp⟩:=hra.ref
  have e1':rvs[((m:Nat):Int).toNat]?=some (.ref p):=by simpa using e1
  have nrt:rt≠D:=ak (s1 _ _ hrt) hD
  have np:p≠D:=ak hp hD
  refine⟨_,rfl,_,rfl,dE (by rw[ax nrt];exact s1 _ _ hrt) (by lia) e1' (dE (by rw[ax np];exact hp) (by decide) rfl (.inl ⟨rfl,_,rfl,?_⟩))⟩
  rw[GM e2]
  refine vJ (λhb=>?_) (λhb=>?_)
  ·refine⟨_,rfl,_,ag,cF (by rw[bV];lia),_,rfl,?_⟩
   rw[xM,ft,if_pos hb,wY]
   rfl
  ·refine⟨_,rfl,?_⟩
   rw[ft,if_neg (by rw[hb];decide),ir]
 ·rintro σ' H2 ⟨o,_,rfl⟩
  have et:ns.take (aU ns).length=ns:=eJ (by rw[bV];exact aB _)
  rw[et]
  refine q D _ _ (λm=>?_) (hr.filter _) ag (s1.free hD) (s1.new hD)
  rw[eg]
  constructor
  ·rintro⟨h1,h2⟩
   exact⟨(hns m).mp h1,(BJ (nlt m h1)).mp h2⟩
  ·rintro⟨h1,h2⟩
   have h1':=(hns m).mpr h1
   exact⟨h1',(BJ (nlt m h1')).mpr h2⟩
end Bg
end
section
namespace L2
open PySem PySem.Spec PyProof.Rows
structure QE(X:Cx)(e:Expr)(t:TE):Prop where
 up:PE X e t
structure QT(X:Cx)(e:Expr)(t:TT):Prop where
 up:PT X e t
structure QW(X:Cx)(e:Expr)(t:TT):Prop where
 up:PW X e t
structure QA(X:Cx)(e:List Expr)(t:TA):Prop where
 up:PA X e t
structure QS(X:Cx)(e:Stmt)(t:TS):Prop where
 up:PS X e t
structure kT(X:Cx)(e:List Stmt)(t:TS):Prop where
 up:jQ X e t
structure QG(X:Cx)(e:Expr)(t:TG):Prop where
 up:PG X e t
structure Lo(X:Cx)(e:List Expr)(t:CC):Prop where
 up:K9 X e t
structure QI(X:Cx)(a b:Expr)(t:TI):Prop where
 up:PI X a b t
structure QO(X:Cx)(e:Option Expr)(t:TO):Prop where
 up:PO X e t
structure GX(X:Cx)(e:List Expr)(t:TT):Prop where
 up:CB X e t
theorem qv(i:Nat){x:Str}{pos:Pos}(hN:X.N[i]?=some x:=by rfl)(hv:Mf X.env.scope x:=by first|exact Or.inl rfl|exact Or.inr (Or.inl rfl)|exact Or.inr (Or.inr rfl))(hd:(x==("__debug__":Str))=false:=by decide)(hcd:(x==("__classdict__":Str))=false:=by decide):QE X (.Name x pos) (ar i):=
 ⟨pv i hN hv hd hcd⟩
theorem aC{i j pos}:QE X (.Constant (.int i) j pos) (tC (.int i)):=
 ⟨Kl ⟩
theorem mO{b j pos}:QE X (.Constant (.bool b) j pos) (tC (.bl b)):=
 ⟨LK ⟩
theorem ie{j pos}:QE X (.Constant .none j pos) (tC .non):=
 ⟨Kn ⟩
theorem bC{x j pos}:QE X (.Constant (.str x) j pos) (tC (.str x)):=
 ⟨Ko ⟩
theorem bS{op:Operator}{r:R2}(ho:jX X (binaryOp op) r)(ha:QE X a ta)(hb:QE X b tb):QE X (.BinOp a op b pos) (bI r ta tb):=
 ⟨LO ho ha.up hb.up⟩
theorem LU{op:UnaryOp}{r:V->Hp->VK->Prop}(ho:Me X (unaryOp op) r)(ha:QE X a ta):QE X (.UnaryOp op a pos) (MF r ta):=
 ⟨LP ho ha.up⟩
theorem pW{op:CmpOp}{r:R2}(ho:jX X (compareOp op) r)(ha:QE X a ta)(hb:QE X b tb)(hm:behindInMarks op b=false):QE X (.Compare a [op] [b] pos) (bI r ta tb):=
 ⟨HQ ho ha.up hb.up hm⟩
theorem FE{c:Expr}(hc:QT X c tA)(ha:QE X a ta)(hb:QE X b tb):QE X (.IfExp c a b pos) (ME tA ta tb):=
 ⟨Fq hc.up ha.up hb.up⟩
theorem gc{lo hi:Option Expr}{r:V->Option Int->Option Int->Hp->VK->Prop}(hr:GZ X r)(he:QE X e te)(hl:QO X lo tl)(hu:QO X hi th):QE X (.Subscript e (.Slice lo hi none p2) pos) (A4 r te tl th):=
 ⟨Fs hr he.up hl.up hu.up⟩
theorem bA{r:R2}(hr:GO X r)(ha:QE X a ta)(hb:QE X b tb)(hs:Br b):QE X (.Subscript a b pos) (bI r ta tb):=
 ⟨LN hr ha.up hb.up hs⟩
theorem cx{x1}(h:QA X es t):QE X (.Tuple es x1 pos) (eM t):=
 ⟨Kp h.up⟩
theorem fj(h:QA X es t):QE X (.List es pos) (kc t):=
 ⟨Km h.up⟩
theorem nB{id:String}(pa:PlainAttrs T)(slot:Slot T name id)(hty:typeOf (.builtin id)=pure (.type "method_descriptor"))(hm:K8 X id r)(ho:QE X o to)(ha:QA X (e::es) t)(hbase:attributeBase o name X.env (eval o X.env)=eval o X.env:=by rfl)(hfew:((backTo cpos (starEach (e::es) X.env)).all (λx=>!x.1)&&(backToKw cpos (keywordEach [] X.env)).all (λx=>x.1.isSome)
   && decide ((e::es).length+([]:List Keyword).length+(if([]:List Keyword).isEmpty then 0 else 1)<30))=true:=by rfl) (hline:(apos.endLine==cpos.line)=true:=by rfl) (hs:starEach (e::es) X.env=(false,eval e X.env)::starEach es X.env:=by rfl) (hplain:(backTo cpos (starEach es X.env)).any (·.1)=false:=by rfl):QE X (.Call (.Attribute o name apos) (e::es) [] cpos) (DQ X.K T r to t):=
 ⟨LL pa slot hty hm ho.up ha.up hbase hfew hline hs hplain⟩
theorem FC{id:String}(pa:PlainAttrs T)(slot:Slot T name id)(hty:typeOf (.builtin id)=pure (.type "method_descriptor"))(hm:K8 X id r)(ho:QE X o to)(hbase:attributeBase o name X.env (eval o X.env)=eval o X.env:=by rfl)(hline:(apos.endLine==cpos.line)=true:=by rfl):QE X (.Call (.Attribute o name apos) [] [] cpos) (IV X.K T r to):=
 ⟨Ki pa slot hty hm ho.up hbase hline⟩
theorem bO{id:String}(hc:i8 X (.builtin id) r)(hg:Gl X x)(hm:X.mg x=none)(hv:bootBuiltins x=some (.builtin id))(ha:QA X (e::es) t)(hn:x≠"__name__":=by decide)(hdb:(x==("__debug__":Str))=false:=by decide)(he:starEach (e::es) X.env=(false,eval e X.env)::starEach es X.env:=by rfl)(hpl:(backTo pos (starEach es X.env)).any (·.1)=false:=by rfl):QE X (.Call (.Name x p) (e::es) [] pos) (gI r t):=
 ⟨Fn hc hg hm hv ha.up hn hdb he hpl⟩
theorem cw(hc:i8 X (.type T) r)(hg:Gl X x)(hm:X.mg x=none)(hv:bootBuiltins x=some (.type T))(ha:QA X (e::es) t)(hn:x≠"__name__":=by decide)(hdb:(x==("__debug__":Str))=false:=by decide)(he:starEach (e::es) X.env=(false,eval e X.env)::starEach es X.env:=by rfl)(hpl:(backTo pos (starEach es X.env)).any (·.1)=false:=by rfl):QE X (.Call (.Name x p) (e::es) [] pos) (gI r t):=
 ⟨Dv hc hg hm hv ha.up hn hdb he hpl⟩
theorem bQ{X:Cx}{x:Str}{ps:List Str}{k:Nat}{sp:Sp}{e:Expr}{es:List Expr}{t:TA}{p pos:Pos}(c:aI X.prog X.w X.K X.mg X.base x ps k sp)(hr:dh k X.A)(hg:Gl X x)(ha:QA X (e::es) t)(hdb:(x==("__debug__":Str))=false:=by decide)(he:starEach (e::es) X.env=(false,eval e X.env)::starEach es X.env:=by rfl)(hpl:(backTo pos (starEach es X.env)).any (·.1)=false:=by rfl):QE X (.Call (.Name x p) (e::es) [] pos) (bL sp [] E0 t):=
 ⟨LM c hr hg ha.up hdb he hpl⟩
theorem j6{wi:TI}(ok:sY sc N scope NY js)(hsc:X.env.scope=sc)(hN:X.N=N)(hk:NY.length=N.length+k)(hc:X.calm=true)(hit:QI X target iter wi)(hg:∀cl C s₀ H₀ fp,QG (eL X NY scope cl C s₀ H₀ fp) target g)(hi:∀cl C s₀ H₀ fp,GX (eL X NY scope cl C s₀ H₀ fp) ifs tc)(he:∀cl C s₀ H₀ fp,QE (eL X NY scope cl C s₀ H₀ fp) elt te)(hs:∀x,foldedSetIterable iter X.env x=pure x:=by intro _;rfl):QE X (.ListComp elt [⟨target,iter,ifs,0⟩] scope pos) (iM js k wi g tc te):=
 ⟨HR ok hsc hN hk hc hit.up (λcl C s₀ H₀ fp=>(hg cl C s₀ H₀ fp).up) (λcl C s₀ H₀ fp=>(hi cl C s₀ H₀ fp).up) (λcl C s₀ H₀ fp=>(he cl C s₀ H₀ fp).up) hs⟩
theorem mw{wi:TI}{i:Nat}{y:Str}{py spos:Pos}(ok:sY sc N scope NY js)(hsc:X.env.scope=sc)(hN:X.N=N)(hk:NY.length=N.length+k)(hc:X.calm=true)(hit:QI X target iter wi)(hg:∀cl C s₀ H₀ fp,QG (eL X NY scope cl C s₀ H₀ fp) target g)(hi:∀cl C s₀ H₀ fp,GX (eL X NY scope cl C s₀ H₀ fp) ifs tc)(he:∀cl C s₀ H₀ fp,QE (eL X NY scope cl C s₀ H₀ fp) elt te)(nd:X.N.Nodup)(hy:X.N[i]?=some y)(hl:Jf X.env.scope y)(hsw:swapsWith (.ListComp elt [⟨target,iter,ifs,0⟩] scope pos) (some (.Name y py)) spos.line X.env=pure true)(hs:∀x,foldedSetIterable iter X.env x=pure x:=by intro _;rfl)(hf:X.fn y=true\/X.env.scope.names.lookup y=some .local:=by first|exact .inl rfl|exact .inr rfl|assumption):QS X (.Assign [.Name y py] (.ListComp elt [⟨target,iter,ifs,0⟩] scope pos) spos) (bZ (iM js k wi g tc te) (aX i)):=
 ⟨Ik ok hsc hN hk hc hit.up (λcl C s₀ H₀ fp=>(hg cl C s₀ H₀ fp).up) (λcl C s₀ H₀ fp=>(hi cl C s₀ H₀ fp).up) (λcl C s₀ H₀ fp=>(he cl C s₀ H₀ fp).up) nd hy hl hsw hs hf⟩
theorem g7 :QO X none gA:=
 ⟨Ih ⟩
theorem g8(h:QE X e te):QO X (some e) (kE te):=
 ⟨Ii h.up⟩
theorem av :QA X [] aM:=
 ⟨Kh ⟩
theorem ab(ha:QE X e te)(hr:QA X es t)(hs:starEach (e::es) X.env=(false,eval e X.env)::starEach es X.env:=by rfl):QA X (e::es) (aj te t):=
 ⟨HN ha.up hr.up hs⟩
theorem bf{op:CmpOp}{r:R2}(ho:jX X (compareOp op) r)(ha:QE X a ta)(hb:QE X b tb)(hm:behindInMarks op b=false):QT X (.Compare a [op] [b] pos) (bP (bI r ta tb)):=
 ⟨Ip ho ha.up hb.up hm⟩
theorem jT{rest:List Expr}(ha:QT X a tA)(hb:QW X (.BoolOp .And (b::rest) pos) tB'):QW X (.BoolOp .And (a::b::rest) pos) (qj tA tB'):=
 ⟨KC ha.up hb.up⟩
theorem jC(ha:QT X a tA):QW X (.BoolOp .And [a] pos) tA:=
 ⟨Iq ha.up⟩
theorem FI{rest:List Expr}(ha:QT X a tA)(hb:QW X (.BoolOp .Or (b::rest) pos) tB'):QW X (.BoolOp .Or (a::b::rest) pos) (Mb tA tB'):=
 ⟨LS ha.up hb.up⟩
theorem AQ(ha:QT X a tA):QW X (.BoolOp .Or [a] pos) tA:=
 ⟨KD ha.up⟩
theorem QW.pt{X:Cx}{e:Expr}{t:TT}(h:QW X e t):QT X e t:=
 ⟨PW.pt h.up⟩
theorem AO{e:Expr}{t:TE}(h:QE X e t)(he:∀whole,isTrue e X.env whole=(do let v <-whole;standAt e.pos;holding [v] (truthy v)):=by intro _;rfl):QT X e (tB t):=
 ⟨KB h.up he⟩
theorem kg{a:Expr}{ta:TA}{p pos:Pos}(hg:Gl X "range")(hm:X.mg "range"=none)(ha:QA X [a] ta)(hs:starEach [a] X.env=[(false,eval a X.env)]:=by rfl):QI X tg (.Call (.Name "range" p) [a] [] pos) (rn ta):=
 ⟨Dy hg hm ha.up hs⟩
theorem DB{a b:Expr}{ta:TA}{p pos:Pos}(hg:Gl X "range")(hm:X.mg "range"=none)(ha:QA X [a,b] ta)(hs:starEach [a,b] X.env=[(false,eval a X.env),(false,eval b X.env)]:=by rfl)(hs2:starEach [b] X.env=[(false,eval b X.env)]:=by rfl):QI X tg (.Call (.Name "range" p) [a,b] [] pos) (EO ta):=
 ⟨Dz hg hm ha.up hs hs2⟩
theorem Iy{a:Expr}{ta:TA}{p pos:Pos}(hg:Gl X "enumerate")(hm:X.mg "enumerate"=none)(ha:QA X [a] ta)(hs:starEach [a] X.env=[(false,eval a X.env)]:=by rfl):QI X (.Tuple elts k tpos) (.Call (.Name "enumerate" p) [a] [] pos) (EM X.K ta):=
 ⟨Ia hg hm ha.up hs⟩
theorem KG{a b:Expr}{ta:TA}{p pos:Pos}(hg:Gl X "zip")(hm:X.mg "zip"=none)(ha:QA X [a,b] ta)(hs:starEach [a,b] X.env=[(false,eval a X.env),(false,eval b X.env)]:=by rfl)(hs2:starEach [b] X.env=[(false,eval b X.env)]:=by rfl):QI X (.Tuple elts k tpos) (.Call (.Name "zip" p) [a,b] [] pos) (JI X.K ta):=
 ⟨Kv hg hm ha.up hs hs2⟩
theorem dQ{tg l:Expr}{tl:TE}(hl:QE X l tl):QI X tg l (iN X.K tl):=
 ⟨Kt hl.up⟩
theorem bR{i:Nat}{x:Str}(hN:X.N.Nodup)(hi:X.N[i]?=some x)(hx:Jf X.env.scope x)(hf:X.fn x=true\/X.env.scope.names.lookup x=some .local:=by first|exact .inl rfl|exact .inr rfl|assumption):QG X (.Name x pos) (aX i):=
 ⟨HX hN hi hx hf⟩
theorem ui{es:List Expr}{k:Nat}{t:CC}{n:Nat}(hc:X.calm=true)(h:Lo X es t)(hn:(assignEach es X.env).length=n:=by rfl)(hst:(assignEach es X.env).findIdx? (·.1)=none:=by rfl):QG X (.Tuple es k pos) (Ak X.K n t):=
 ⟨Ks hc h.up hn hst⟩
theorem Iw{es:List Expr}{k:Nat}{t:CC}{n:Nat}(hc:X.calm=true)(h:Lo X es t)(hn:(assignEach es X.env).length=n:=by rfl)(hst:(assignEach es X.env).findIdx? (·.1)=none:=by rfl):QG X (.Tuple es k pos) (EH X.K n t):=
 ⟨HY hc h.up hn hst⟩
theorem nX :Lo X [] yi:=
 ⟨HZ ⟩
theorem gD{e:Expr}{es:List Expr}{t:TG}{u:CC}(h1:QG X e t)(h2:Lo X es u)(hs:(assignEach (e::es) X.env).map (·.2)=assign e X.env::(assignEach es X.env).map (·.2):=by rfl):Lo X (e::es) (kZ t u):=
 ⟨Ft h1.up h2.up hs⟩
theorem jS{o i:Expr}{to ti:TE}{t:G0}(ho:QE X o to)(hi:QE X i ti)(hs:GW X t)(ha:∀v,assign (.Subscript o i pos) X.env v=(do
   let ov <-holding [v] (eval o X.env)
   let iv <-holding [v,ov] (eval i X.env)
   standAt pos
   holding [v,ov,iv] (setItem ov iv v)
   release [v,ov,iv] []):=by intro _;rfl):QG X (.Subscript o i pos) (oj to ti t):=
 ⟨Kr ho.up hi.up hs ha⟩
theorem bz{i:Nat}{x:Str}{e:Expr}{te:TE}{pos':Pos}(hN:X.N.Nodup)(hi:X.N[i]?=some x)(hx:Jf X.env.scope x)(he:QE X e te)(hs:swapsWith e (some (.Name x pos')) pos.line X.env=pure false:=by rfl)(hf:X.fn x=true\/X.env.scope.names.lookup x=some .local:=by first|exact .inl rfl|exact .inr rfl|assumption):QS X (.Assign [.Name x pos'] e pos) (bZ te (aX i)):=
 ⟨KA hN hi hx he.up hs hf⟩
theorem jm{tg e:Expr}{te:TE}{g:TG}(he:QE X e te)(hg:QG X tg g)(hs:swapsWithSole [tg] e pos.line X.env=pure false:=by rfl)(hw:swappedStores [tg] e X.env=pure none:=by rfl)(h1:(assignEach [tg] X.env).map (·.2)=[assign tg X.env]:=by rfl):QS X (.Assign [tg] e pos) (bZ te g):=
 ⟨Kw he.up hg.up hs hw h1⟩
theorem jB(he:QE X e te)(hs:swapsWith e none pos.line X.env=pure false:=by rfl):QS X (.Expr e pos) (mS te):=
 ⟨Il he.up hs⟩
theorem bF(he:QE X e te):QS X (.Return (some e) pos) (cR te):=
 ⟨Kz he.up⟩
theorem cI{c:Expr}{a b:List Stmt}{tc:TT}(hc:QT X c tc)(ha:kT X a t)(hb:kT X b u):QS X (.If c a b pos) (dG tc t u):=
 ⟨LQ hc.up ha.up hb.up⟩
theorem pX{c:Expr}{body:List Stmt}{tc:TT}{tb:TS}(hp:PassesOwn (model X.prog X.w) X.A X.env X.xe)(hc:QT X c tc)(hb:kT X body tb):QS X (.While c body [] pos) (qY tc tb):=
 ⟨FA hp hc.up hb.up⟩
theorem e6{iter:Expr}{body:List Stmt}{wi:TI}{g:TG}{tb:TS}{pos:Pos}(hp:PassesOwn (model X.prog X.w) X.A X.env X.xe)(hc:X.calm=true)(hi:QI X tg iter wi)(hg:QG X tg g)(hb:kT X body tb)(hs:∀x,foldedSetIterable iter X.env x=pure x:=by intro _;rfl):QS X (.For tg iter body [] pos) (jM wi g tb):=
 ⟨Ky hp hc hi.up hg.up hb.up hs⟩
theorem aw{st:Stmt}{rest:List Stmt}(h1:QS X st t)(h2:kT X rest u):kT X (st::rest) (bB t u):=
 ⟨FB h1.up h2.up⟩
theorem aF{st:Stmt}(h1:QS X st t):kT X [st] t:=
 ⟨Io h1.up⟩
theorem bK :kT X [] cG:=
 ⟨Im ⟩
theorem Ir{x:Str}{v:V}{u:Value}{pos:Pos}(hg:Gl X x)(hm:X.mg x=none)(hv:bootBuiltins x=some u)(r:cJ v u)(hn:x≠"__name__":=by decide)(hd:(x==("__debug__":Str))=false:=by decide):QE X (.Name x pos) (tC v):=
 ⟨HP hg hm hv r hn hd⟩
theorem j7{X:Cx}:GX X [] qZ:=
 ⟨Ie ⟩
theorem mv{X:Cx}{c:Expr}{t:TT}(h:QT X c t):GX X [c] t:=
 ⟨Ig h.up⟩
structure Md(X:Cx)(pos:Pos)(keys:List (Option Expr))(values:List Expr)(trs:List (TE×TE)):Prop where
 up:Lm X pos keys values trs
theorem IA{X:Cx}{pos:Pos}:Md X pos [] [] []:=⟨Ij⟩
theorem FH{X:Cx}{pos:Pos}{k v:Expr}{ks:List (Option Expr)}{vs:List Expr}{tk tv:TE}{trs:List (TE×TE)}(hk:QE X k tk)(hv:QE X v tv)(hr:Md X pos ks vs trs):Md X pos (some k::ks) (v::vs) ((tk,tv)::trs):=⟨Fx hk.up hv.up hr.up⟩
theorem Iu{X:Cx}{pos:Pos}{keys:List (Option Expr)}{values:List Expr}{trs:List (TE×TE)}(h:Md X pos keys values trs)(hall:keys.all (·.isSome)=true)(hl:keys.length=values.length)(h0:keys≠[])(h15:keys.length<=15):QE X (.Dict keys values pos) (Gn trs):=⟨HU h.up hall hl h0 h15⟩
theorem uh{X:Cx}{pos:Pos}:QE X (.Dict [] [] pos) uz:=⟨Fo⟩
theorem KF{X:Cx}{x:Str}{ps:List Str}{k:Nat}{dvs:List V}{sp:Sp}{e:Expr}{es:List Expr}{t:TA}{p pos:Pos}(c:pz X.prog X.w X.K X.mg X.base x ps k dvs sp)(hr:dh k X.A)(hg:Gl X x)(ha:QA X (e::es) t)
  (hdb:(x==("__debug__":Str))=false:=by decide) (he:starEach (e::es) X.env=(false,eval e X.env)::starEach es X.env:=by rfl) (hpl:(backTo pos (starEach es X.env)).any (·.1)=false:=by rfl) :
  QE X (.Call (.Name x p) (e::es) [] pos) (bL sp dvs E0 t):=⟨Kk c hr hg ha.up hdb he hpl⟩
end L2
end
section
namespace PySem.W
open PySem PySem.Calls PyProof.Rows PyProof.V PySem.Spec
section
variable{prog:Program}{w:World}{A:Around}{E:Value->Shared->Prop}{s:Shared}{r l:Addr}
end
end PySem.W
namespace L2
open PySem PySem.Spec PyProof.Rows
section
variable{X:Cx}
theorem FX{ys:List V}{its:List Value}{acc:Array Value}(r:cu ys its)(h:ItemsOf (λi v=>its.toArray[its.toArray.size-1-i]?=some v) acc its.toArray.size):cu ys.reverse acc.toList:=by
 have e:acc.toList=its.reverse:=by
  apply List.ext_getElem?
  intro i
  by_cases hi:i<its.length
  ·have hs:acc.size=its.length:=by have:=h.1;simpa using this
   have h1:acc[i]?=some acc[i]:=h9 (by omega)
   have h2:=h.2 i _ h1
   rw[ff,h1,List.getElem?_reverse hi]
   simpa using h2.symm
  ·have hs:acc.size=its.length:=by have:=h.1;simpa using this
   rw[fh (by rw[dj];omega),fh (by rw[List.length_reverse];omega)]
 rw[e]
 exact r.reverse
end
end L2
end
section
namespace HT
open PySem PyProof.Rows
section
variable{prog:Program}{w:World}{A:Around}{E:Value->Shared->Prop}{s:Shared}
end
end HT
namespace L2
open PySem PySem.Spec PyProof.Rows
section
variable{X:Cx}
end
end L2
end
section
namespace PySem
open Sem (wp)
theorem xb:typeLookup (.type "list") "keys"=pure none:=by rw[typeLookup_type,builtinLookup_eq_fast];kernel_rfl
theorem Dh{prog:Program}{w:World}{A:Around}{E:Value->Shared->Prop}{s:Shared}{a:Addr}{xs:Array Value}{k:Nat}{Q:Option Value->Shared->Prop}{sl:Array (Option Value)}
  (hx:s.heap.get? a=some {cls:=.type "list",dict:=none,data:=.seq xs k,slots:=sl}) (hA:A.handled=none)
  (h:∀h' tk,(∀b u,s.heap.get? b=some u->h'.get? b=some u)->Q none {s with heap:=h',toks:=tk}):wpAny (model prog w) A (getAttr? (.ref a) "keys") Q E s:=by
 obtain⟨hp,g,d,tk,os⟩:=s
 have hT:∀tk',(⟨hp,g,d,tk',os⟩:Shared).TypeIs (.ref a) "list":=λ_=>⟨_,hx,rfl⟩
 have f1:=sub_AttributeError
 have f3:=F.slot_list_getattribute.lookup
 have f4:=F.slot_list_getattribute.bind (.ref a)
 have f5:=am_list_getattr_none
 unfold getAttr? getAttrBy? getAttrBy
 repeat (any_goals (first|assumption|exact hT _|((with_reducible show wpAny _ _ (call (Value.builtin "list.__getattribute__") _ _) _ _ _);refine call_meets F.slot_list_getattribute (hT _) am_entry_list_getattribute (F.args_list_getattribute_2 _ _) (meets_getattribute_miss_list a xs k sl "keys" _ xb (by decide +kernel) (by decide +kernel)) ⟨hx,hA,λh' tk' e hx'=>?_⟩)|wp_step))
 obtain⟨t',u',he⟩:=hx'.there
 show wpAny _ _ (getattributeRaised _ _ _ _ _ _ _) _ _ _
 unfold getattributeRaised
 repeat (any_goals (first|assumption|wp_step))
 exact h _ _ hx'.keeps
namespace F
theorem entry_dict_update_loop:entryFor table "dict.update.loop"=some Builtin.«dict.update.loop»:=entryFor_of_tree (by kernel_rfl)
theorem plain_dict_update_loop:plainId "dict.update.loop"=true:=by decide +kernel
end F
def Lz(tp:Bool)(l:Addr):Obj:={cls:=.type (if tp then "tuple_iterator" else "list_iterator"),data:=.fields #[.ref l,.int 0 0]}
section
variable{prog:Program}{w:World}{A:Around}{E:Value->Shared->Prop}{s:Shared}
end
section
variable{prog:Program}{w:World}{A:Around}{E:Value->Shared->Prop}{s:Shared}{t1 t2:Bool}
end
section
variable{prog:Program}{w:World}{A:Around}{E:Value->Shared->Prop}{s:Shared}{t1 t2:Bool}
end
section
variable{prog:Program}{w:World}{A:Around}{R:Result->Shared->Prop}{t1 t2:Bool}{K:Type}[DecidableEq K]{knd:KeyKind prog w K}
end
section
variable{prog:Program}{w:World}{A:Around}{E:Value->Shared->Prop}{s:Shared}{t1 t2:Bool}{K:Type}[DecidableEq K]{knd:KeyKind prog w K}
end
end PySem
namespace L2
open PySem PySem.Spec PyProof.Rows
section
variable{X:Cx}
end
def dc(K:Fg)(x:Str):Addr:=match aG K mainGlobals x with
 |some (some (.ref C))=>C
 |_=>0
theorem Ep{K:Fg}{x:Str}{C:Addr}(h:aG K mainGlobals x=some (some (.ref C))):dc K x=C:=by unfold dc;rw[h]
def Lx(s:Stmt)(i:Nat):Stmt:=match s with
 |.ClassDef _ _ _ b _ _ _ _ _ _ _=>b.getD i (.Pass ⟨0,0,0,0⟩)
 |_=>.Pass ⟨0,0,0,0⟩
structure wB(P:Program)(w:World)(K:Fg)(mg:Str->Option Value)(base:Heap)(x:Str)(C:Addr)(ps:List Str)(k:Nat)(sp:Sp):Prop where
 ex:∃(f:Addr) (fd:FuncData),mg x=some (.ref C)/\Mk K C f/\nc K fd ps []/\eG P w K mg base fY k f fd ps sp
section
variable{X:Cx}{C:Addr}{m x:Str}{ps:List Str}{k:Nat}{sp:Sp}{e o:Expr}{es:List Expr}{ta:TE}{t:TA}{p pos apos:Pos}
theorem Iv(M:wB X.prog X.w X.K X.mg X.base x C ps k sp)(hr:dh (k+1) X.A)(hg:Gl X x)(ha:QA X (e::es) t)
  (hdb:(x==("__debug__":Str))=false:=by decide) (he:starEach (e::es) X.env=(false,eval e X.env)::starEach es X.env:=by rfl) (hpl:(backTo pos (starEach es X.env)).any (·.1)=false:=by rfl) :
  QE X (.Call (.Name x p) (e::es) [] pos) (Gp C sp [] E0 t):=by
 obtain⟨f,fd,hm,hM,hb,F⟩:=M.ex
 exact⟨HV hM F hr hg hm hb .nil Fm ha.up hdb he hpl⟩
theorem jj{f:Str}(he:QE X e ta)(hb:attributeBase e f X.env (eval e X.env)=eval e X.env):QE X (.Attribute e f pos) (pf X.K ta f):=⟨Kj he.up hb⟩
theorem qS{f:Str}{value:Expr}{tv:TE}{pos':Pos}(ha:QE X o ta)(hv:QE X value tv)(hs:swapsWith value (some (.Attribute o f pos')) pos.line X.env=pure false):QS X (.Assign [.Attribute o f pos'] value pos) (yZ X.K ta tv f):=⟨Kx ha.up hv.up hs⟩
theorem jA{d i:Expr}{td ty:TE}(hu:X.A.units+1<cLine)(ho:QE X d td)(hi:QE X i ty)(hs:Ju i):QE X (.Subscript d i pos) (mR td ty):=⟨HS hu ho.up hi.up hs⟩
end
section
variable{X:Cx}
theorem tP{es:List Bool}{us vs:List Value}(h1:us.length=es.length)(h2:vs.length=es.length):((iz (min us.toArray.size vs.toArray.size)).all (λj=>(es[j]?).getD false)&&us.toArray.size==vs.toArray.size)=es.all id:=by
 rw[au,au,h1,h2,iT,Em]
 simp
end
inductive Bm(K:Fg)(H:Hp):Nat->V->V->Bool->Prop where
 |flat {d:Nat} {x y:V} (hx:ip x=true) (hy:ip y=true):Bm K H d x y (sO x y)
 |same {d:Nat} {a:Addr}:Bm K H d (.ref a) (.ref a) true
 |lists {d:Nat} {a b:Addr} {us vs:List V} {es:List Bool} (n:a≠b) (ha:cq K H a us) (hb:cq K H b vs) (l1:us.length=vs.length) (l2:es.length=us.length) (h:∀(j:Nat) x y e,us[j]?=some x->vs[j]?=some y->es[j]?=some e->Bm K H d x y e):Bm K H (d+1) (.ref a) (.ref b) (es.all id)
 |listsL {d:Nat} {a b:Addr} {us vs:List V} (n:a≠b) (ha:cq K H a us) (hb:cq K H b vs) (l1:us.length≠vs.length):Bm K H (d+1) (.ref a) (.ref b) false
 |tups {d:Nat} {a b:Addr} {us vs:List V} {es:List Bool} (n:a≠b) (ha:dC K H a us) (hb:dC K H b vs) (l1:us.length=vs.length) (l2:es.length=us.length) (h:∀(j:Nat) x y e,us[j]?=some x->vs[j]?=some y->es[j]?=some e->Bm K H d x y e):Bm K H (d+1) (.ref a) (.ref b) (es.all id)
section
variable{X:Cx}
theorem BD{A:Around}{s:Shared}{kb:List (dS×V)}{vb:List (dS×Value)}(rb:KV kb vb){ka:List (dS×V)}{va:List (dS×Value)}(ra:KV ka va):∀(f:Nat->V),(∀(j:Nat) k v,ka[j]?=some (k,v)->gM kb k=some (f j))->(∀(j:Nat) k v u w,ka[j]?=some (k,v)->cJ v u->cJ (f j) w->SeqAt.EqAt A s u w true)->PySem.W.KeqHits A s vb va true:=by
 induction ra with
 |nil=>intro f _ _;exact .nil
 |@cons p q ps qs r _ ih=>
  intro f h1 h2
  obtain⟨k,v⟩:=p
  obtain⟨k',u⟩:=q
  obtain⟨e,rv⟩:=r
  have e':k=k':=e
  subst e'
  have hv:=h1 0 k v rfl
  have rel:=rb.val k
  rw[hv] at rel
  obtain⟨w,hw,rw'⟩:=pG.some_of rel
  have hh:=ih (λj=>f (j+1)) (λj k v e=>h1 (j+1) k v e) λj k v u w e=>h2 (j+1) k v u w e
  exact .hit hw (h2 0 k v u w rfl rv rw') hh
theorem nV{A:Around}{s:Shared}{xs ys:List V}{us vs:List Value}{es:List Bool}(r1:cu xs us)(r2:cu ys vs)(hl:xs.length=ys.length)(he:es.length=xs.length)
  (h:∀(j:Nat) a b e u v,xs[j]?=some a->ys[j]?=some b->es[j]?=some e->cJ a u->cJ b v->SeqAt.EqAt A s u v e) :
  ∀j (h1:j<us.toArray.size) (h2:j<vs.toArray.size),SeqAt.EqAt A s us.toArray[j] vs.toArray[j] ((es[j]?).getD false):=by
 intro j h1 h2
 have l1:=r1.length
 have l2:=r2.length
 rw[au] at h1 h2
 have j1:j<xs.length:=by lia
 have j2:j<ys.length:=by lia
 have j3:j<es.length:=by lia
 obtain⟨u,hu',ru⟩:=r1.get (aa j1)
 obtain⟨v,hv,rv⟩:=r2.get (aa j2)
 have eu:us.toArray[j]=u:=by
  have:=aa h1
  rw[hu'] at this
  simpa using(Option.some.inj this).symm
 have ev:vs.toArray[j]=v:=by
  have:=aa h2
  rw[hv] at this
  simpa using(Option.some.inj this).symm
 rw[eu,ev,aa j3,gY]
 exact h j _ _ _ _ _ (aa j1) (aa j2) (aa j3) ru rv
theorem tR{es:List Bool}{us:List Value}(h1:us.length=es.length):(iz us.toArray.size).all (λj=>(es[j]?).getD false)=es.all id:=by
 rw[au,h1,Em]
theorem qL{pins:List (Addr×Obj)}{σ:St}{H:Hp}{s:Shared}(I:bU X pins σ H s){d:Nat}{x y:V}{b:Bool}(h:Bm X.K H d x y b):∀{A:Around} {u v:Value},A.units+d<cLine->cJ x u->cJ y v->SeqAt.EqAt A s u v b:=by
 induction h with
 |flat hx hy=>exact λ_ rx ry=>Af rx ry hx hy
 |same=>
  intro A u v _ rx ry
  cases rx
  cases ry
  exact SeqAt.EqAt.same _
 |@lists d a b us vs es n ha hb hl he h ih=>
  intro A u v hu rx ry
  cases rx
  cases ry
  obtain⟨us',r1,t1,_⟩:=I.list ha
  obtain⟨vs',r2,t2,_⟩:=I.list hb
  have l1:=r1.length
  have l2:=r2.length
  have:=SeqAt.EqAt.of_refs n (SeqAt.RcAt.lists (A:=A) t1.isList t2.isList (by rw[au,au];lia) (by lia) (nV (A:=A.in1) r1 r2 hl he λj a b e u v e1 e2 e3 ru rv=>ih j a b e e1 e2 e3 (by show A.units+1+d<cLine;lia) ru rv))
  rw[tR (by lia)] at this
  exact this
 |@listsL d a b us vs n ha hb hl=>
  intro A u v hu rx ry
  cases rx
  cases ry
  obtain⟨us',r1,t1,_⟩:=I.list ha
  obtain⟨vs',r2,t2,_⟩:=I.list hb
  have l1:=r1.length
  have l2:=r2.length
  exact SeqAt.EqAt.of_refs n (SeqAt.RcAt.lists_lengths (A:=A) t1.isList t2.isList (by rw[au,au];simp;lia) (by lia))
 |@tups d a b us vs es n ha hb hl he h ih=>
  intro A u v hu rx ry
  cases rx
  cases ry
  obtain⟨us',r1,t1,_⟩:=I.tuple ha
  obtain⟨vs',r2,t2,_⟩:=I.tuple hb
  have l1:=r1.length
  have l2:=r2.length
  have:=SeqAt.EqAt.of_refs n (SeqAt.RcAt.tuples (A:=A) (show s.heap.IsTuple a us'.toArray from t1) (show s.heap.IsTuple b vs'.toArray from t2) (by lia) (nV (A:=A.in1) r1 r2 hl he λj a b e u v e1 e2 e3 ru rv=>ih j a b e e1 e2 e3 (by show A.units+1+d<cLine;lia) ru rv))
  rw[tP (by lia) (by lia)] at this
  exact this
def FJ(K:Fg)(neg:Bool):R2:=λx y H Q=>∃(p q:Addr) (xs ys:List V),x=.ref p/\y=.ref q/\((cq K H p xs/\cq K H q ys)\/(dC K H p xs/\dC K H q ys/\xs.length=ys.length))/\
 ((xs.length≠ys.length/\Q (.bl neg) H)\/∃es:List Bool,xs.length=ys.length/\es.length=xs.length/\(∀(j:Nat) a b e,xs[j]?=some a->ys[j]?=some b->es[j]?=some e->Bm K H 4 a b e)/\Q (.bl (if neg then !es.all id else es.all id)) H)
theorem J9(hu:X.A.units+5<cLine):jX X (compareOp .Eq) (FJ X.K false):=by
 intro pins s σ H x y v u Q I rx ry h
 obtain⟨p,q,xs,ys,rfl,rfl,hk,hc⟩:=h
 cases rx
 cases ry
 have hu':X.A.units<cLine:=by lia
 rcases hk with⟨h1,h2⟩|⟨h1,h2,hl0⟩
 ·obtain⟨us,r1,t1,_⟩:=I.list h1
  obtain⟨vs,r2,t2,_⟩:=I.list h2
  have l1:=r1.length
  have l2:=r2.length
  rcases hc with⟨hl,qq⟩|⟨es,hl,he,hE,qq⟩
  ·exact SeqAt.eq_list_lengthsAt t1.isList t2.isList (by rw[au,au];simp;lia) hu' ⟨.bl false,H,I,rfl,qq⟩
  ·refine SeqAt.eq_listAt t1.isList t2.isList (by rw[au,au];lia) hu' (nV (A:=X.A.in1) r1 r2 hl he λj a b e u v e1 e2 e3 ru rv=>qL I (hE j a b e e1 e2 e3) (by show X.A.units+1+4<cLine;lia) ru rv) ⟨.bl (es.all id),H,I,?_,qq⟩
   show Value.bool _=Value.bool _
   rw[tR (by lia)]
 ·obtain⟨us,r1,t1,_⟩:=I.tuple h1
  obtain⟨vs,r2,t2,_⟩:=I.tuple h2
  have l1:=r1.length
  have l2:=r2.length
  rcases hc with⟨hl,_⟩|⟨es,hl,he,hE,qq⟩
  ·exact absurd hl0 hl
  ·refine SeqAt.eq_tupleAt (show s.heap.IsTuple p us.toArray from t1) (show s.heap.IsTuple q vs.toArray from t2) hu' (nV (A:=X.A.in1) r1 r2 hl he λj a b e u v e1 e2 e3 ru rv=>qL I (hE j a b e e1 e2 e3) (by show X.A.units+1+4<cLine;lia) ru rv) ⟨.bl (es.all id),H,I,?_,qq⟩
   show Value.bool _=Value.bool _
   rw[tP (by lia) (by lia)]
theorem Kf(hu:X.A.units+5<cLine):jX X (compareOp .NotEq) (FJ X.K true):=by
 intro pins s σ H x y v u Q I rx ry h
 obtain⟨p,q,xs,ys,rfl,rfl,hk,hc⟩:=h
 cases rx
 cases ry
 have hu':X.A.units<cLine:=by lia
 rcases hk with⟨h1,h2⟩|⟨h1,h2,hl0⟩
 ·obtain⟨us,r1,t1,_⟩:=I.list h1
  obtain⟨vs,r2,t2,_⟩:=I.list h2
  have l1:=r1.length
  have l2:=r2.length
  rcases hc with⟨hl,qq⟩|⟨es,hl,he,hE,qq⟩
  ·exact SeqAt.RcNeAt.lists_lengths t1.isList t2.isList (by rw[au,au];simp;lia) hu' X.prog X.w X.xe _ ⟨.bl true,H,I,rfl,qq⟩
  ·refine SeqAt.RcNeAt.lists t1.isList t2.isList (by rw[au,au];lia) hu' (nV (A:=X.A.in1) r1 r2 hl he λj a b e u v e1 e2 e3 ru rv=>qL I (hE j a b e e1 e2 e3) (by show X.A.units+1+4<cLine;lia) ru rv) X.prog X.w X.xe _ ⟨.bl (!es.all id),H,I,?_,qq⟩
   show Value.bool _=Value.bool _
   rw[tR (by lia)]
 ·obtain⟨us,r1,t1,_⟩:=I.tuple h1
  obtain⟨vs,r2,t2,_⟩:=I.tuple h2
  have l1:=r1.length
  have l2:=r2.length
  rcases hc with⟨hl,_⟩|⟨es,hl,he,hE,qq⟩
  ·exact absurd hl0 hl
  ·refine SeqAt.RcNeAt.tuples (show s.heap.IsTuple p us.toArray from t1) (show s.heap.IsTuple q vs.toArray from t2) hu' (nV (A:=X.A.in1) r1 r2 hl he λj a b e u v e1 e2 e3 ru rv=>qL I (hE j a b e e1 e2 e3) (by show X.A.units+1+4<cLine;lia) ru rv) X.prog X.w X.xe _ ⟨.bl (!es.all id),H,I,?_,qq⟩
   show Value.bool _=Value.bool _
   rw[tP (by lia) (by lia)]
def BM(K:Fg)(neg:Bool):R2:=λx y H Q=>∃(a b:Addr) (ka kb:List (dS×V)) (f:Nat->V),x=.ref a/\y=.ref b/\H a=some (.dK ka)/\H b=some (.dK kb)/\ka.length=kb.length/\(∀(j:Nat) k v,ka[j]?=some (k,v)->gM kb k=some (f j))/\(∀(j:Nat) k v,ka[j]?=some (k,v)->Bm K H 4 v (f j) true)/\Q (.bl (!neg)) H
theorem HI(hu:X.A.units+5<cLine):jX X (compareOp .Eq) (BM X.K false):=by
 intro pins s σ H x y v u Q I rx ry h
 obtain⟨a,b,ka,kb,f,rfl,rfl,ha,hb,hl,hf,hE,qq⟩:=h
 cases rx
 cases ry
 obtain⟨_,la,va,ra,da⟩:=pL I.hok ha
 obtain⟨_,lb,vb,rb,db⟩:=pL I.hok hb
 refine PySem.W.keq_eq (r:=true) la lb da db (by lia) (λ_=>BD rb ra f hf λj k v u w e ru rw'=>qL I (hE j k v e) (by show X.A.units+1+4<cLine;lia) ru rw') ⟨.bl true,H,I,?_,qq⟩
 show Value.bool _=Value.bool _
 rw[<-ra.length,<-rb.length,hl];simp
theorem HK(hu:X.A.units+5<cLine):jX X (compareOp .NotEq) (BM X.K true):=by
 intro pins s σ H x y v u Q I rx ry h
 obtain⟨a,b,ka,kb,f,rfl,rfl,ha,hb,hl,hf,hE,qq⟩:=h
 cases rx
 cases ry
 obtain⟨_,la,va,ra,da⟩:=pL I.hok ha
 obtain⟨_,lb,vb,rb,db⟩:=pL I.hok hb
 refine PySem.W.keq_ne (r:=true) la lb da db (by lia) (λ_=>BD rb ra f hf λj k v u w e ru rw'=>qL I (hE j k v e) (by show X.A.units+1+4<cLine;lia) ru rw') ⟨.bl false,H,I,?_,qq⟩
 show Value.bool _=Value.bool _
 rw[<-ra.length,<-rb.length,hl];simp
def IE(K:Fg):R2:=λx y H Q=>FJ K false x y H Q\/(BM K false x y H Q\/i7 K x y H Q)
def FN(K:Fg):R2:=λx y H Q=>FJ K true x y H Q\/(BM K true x y H Q\/xt K x y H Q)
theorem Fl(hu:X.A.units+5<cLine):jX X (compareOp .Eq) (IE X.K):=(J9 hu).or ((HI hu).or (dP (by lia)))
theorem AM(hu:X.A.units+5<cLine):jX X (compareOp .NotEq) (FN X.K):=(Kf hu).or ((HK hu).or (nA (by lia)))
end
section
variable{X:Cx}{pins:List (Addr×Obj)}{σ:St}{H:Hp}{s:Shared}{d:Addr}{kvs:List (dS×V)}{u u':HO}
theorem bU.retell(I:bU X pins σ H s)(e:H d=some u)(new:fH X.prog X.w (upd H d u') s.heap d u')(ht:∀xs,u≠.tup xs)(ho:∀x,u≠.own x)(hb:∀ps,u≠.tbl ps)(hf:∀o v,X.H₀ d≠some (.frz o v)):bU X pins σ (upd H d u') s:=by
 have ne:∀b,H b=none->b≠d:=λb q z=>by rw[z,e] at q;cases q
 refine⟨I.ok,I.os,I.bare,⟨I.base.keep,I.base.slot,λb o q n x=>?_,I.base.there,λb xs q=>?_,λb o v q=>?_,λb ps q=>?_⟩,I.loc,I.cell,?_,λx c q=>?_,λp hp=>?_,λb v q=>?_,I.len⟩
 ·have z:=I.base.free b o q n x
  rw[ax (ne b z)];exact z
 ·have z:=I.base.tups b xs q
  rw[ax (λc=>by rw[c,e] at z;exact ht xs (Option.some.inj z))];exact z
 ·have z:=I.base.frzs b o v q
  rw[ax (λc=>hf o v (by rw[<-c];exact q))];exact z
 ·obtain⟨more,z⟩:=I.base.tbls b ps q
  exact⟨more,by rw[ax (λc=>by rw[c,e] at z;exact hb _ (Option.some.inj z))];exact z⟩
 ·rw[ax (ne _ I.free)];exact I.free
 ·rw[ax (ne _ (I.freeC x c q))];exact I.freeC x c q
 ·obtain⟨h1,h2,h3⟩:=I.pin p hp
  exact⟨h1,by rw[ax (ne _ h2)];exact h2,h3⟩
 ·by_cases c:b=d
  ·subst c
   rw[ag] at q;cases q
   exact new
  ·rw[ax c] at q
   refine(I.hok b v q).stay (λ_ _ _ z=>z) (λa z=>?_) λa xs z=>?_
   ·rw[ax (λc'=>by rw[c',e] at z;exact ho _ (Option.some.inj z))];exact z
   ·rw[ax (λc'=>by rw[c',e] at z;exact ht _ (Option.some.inj z))];exact z
theorem bU.unfrz(I:bU X pins σ H s)(e:H d=some (.dK kvs)):∀o v,X.H₀ d≠some (.frz o v):=λo v q=>by
 have:=I.base.frzs d o v q
 rw[e] at this;cases this
theorem bU.freeze(I:bU X pins σ H s)(e:H d=some (.dK kvs)):∃o,s.heap.get? d=some o/\bU X pins σ (upd H d (.frz o (.dK kvs))) s:=by
 have k:=I.hok d _ e
 obtain⟨z,lo,vs,r,o,es,ep,h1,h2⟩:=id k
 exact⟨o,h1,I.retell e ⟨h1,z,lo,vs,r,o,es,ep,h1,h2⟩ (λ_ q=>by cases q) (λ_ q=>by cases q) (λ_ q=>by cases q) (I.unfrz e)⟩
theorem bU.thaw{o:Obj}(I:bU X pins σ H s)(e:H d=some (.frz o (.dK kvs)))(hf:∀o v,X.H₀ d≠some (.frz o v)):bU X pins σ (upd H d (.dK kvs)) s:=by
 have k:=I.hok d _ e
 exact I.retell e (k.2.stay (λ_ _ _ z=>z) (λa z=>by rw[ax (λc'=>by rw[c',e] at z;cases z)];exact z) λa xs z=>by rw[ax (λc'=>by rw[c',e] at z;cases z)];exact z) (λ_ q=>by cases q) (λ_ q=>by cases q) (λ_ q=>by cases q) hf
def BZ(te:TE):TE:=λσ H Q=>te σ H λv H'=>Q v H'\/∃(d:Addr) (kvs kvs':List (dS×V)) (o:Obj),H d=some (.dK kvs)/\H' d=some (.frz o (.dK kvs'))/\Q v (upd H' d (.dK kvs'))
theorem HW{e:Expr}{te:TE}(h:PE X e te):PE X e (BZ te):=by
 intro pins s σ H Q I q
 refine gd (h pins s σ H _ I q) λv s1 ⟨x,H1,I1,r1,q1⟩=>?_
 rcases q1 with q1|⟨d,kvs,kvs',o,e1,e2,q1⟩
 ·exact⟨x,H1,I1,r1,q1⟩
 ·exact⟨x,_,I1.thaw e2 (I.unfrz e1),r1,q1⟩
theorem sS{P:Program}{w:World}{k:dS}{u:Value}(h:(dq P w).is k u=true):cJ (kV k) u:=by
 cases k with
 |inl i=>
  obtain⟨t,rfl⟩:=Value.isInt_shape (k:=i) (v:=u) h
  exact⟨t,rfl⟩
 |inr x=>
  obtain⟨t,rfl⟩:=Value.isStrOf_shape (x:=x) (v:=u) h
  exact⟨t,rfl⟩
theorem qN{o:Obj}{es0:Array DictEntry}{ep:Nat}(I:bU X pins σ H s)(e:H d=some (.frz o (.dK kvs)))(hep:o.data=.dict es0 ep):(d==sysModules)=false/\∃vs,KV kvs vs/\s.heap.DictAt (dq X.prog X.w) d vs ep:=by
 obtain⟨ho,z,lo,vs,r,o',es,ep',h1,h2,h3,h4⟩:=I.hok d _ e
 rw[ho] at h1;cases h1
 rw[hep] at h3;cases h3
 exact⟨lo,vs,r,o,_,ho,h2,hep,h4⟩
end
def Lh(d:Addr)(kvs:List (dS×V))(o:Obj):It:=⟨λi H=>H d=some (.frz o (.dK kvs))/\i<kvs.length,λi H x H'=>H'=H/\∃k v,kvs[i]?=some (k,v)/\x=kV k,λi H=>H d=some (.frz o (.dK kvs))/\kvs.length<=i⟩
theorem D3{P:Program}{w:World}{K:Fg}{tg:Expr}(d it:Addr)(kvs:List (dS×V))(o:Obj)(es0:Array DictEntry)(ep:Nat)(hep:o.data=.dict es0 ep):uV P w K tg (Lh d kvs o) [it] it (λi h=>h.IsKeyIter it d i kvs.length ep) where
 mem:=by simp
 obj:=λi h st b hb=>by
  have e:b=it:=by simpa using hb
  subst e
  obtain⟨o,e,c,d⟩:=st
  exact⟨o,e,λv z=>by rw[d] at z;cases z⟩
 keep:=λi h h' st k=>st.at λo e=>k it (by simp) o e
 item:=by
  intro X hP hw hK hc i pins s σ H E I hf st hg
  subst hP hw hK
  obtain⟨e,hi⟩:=hg
  obtain⟨lo,vs,rel,dd⟩:=qN I e hep
  have kl:=rel.length
  obtain⟨f0,f1,f2,f3,f4,f5⟩:=hf it (by simp)
  have hi':i<vs.length:=by lia
  have keys:=rel.keys
  have hk:vs[i].1=kvs[i].1:=by
   have e1:(kvs.map (·.1))[i]?=some kvs[i].1:=by rw[aD,aa hi];rfl
   rw[keys,aD,aa hi'] at e1
   exact Option.some.inj e1
  refine wpAny_pyNext_dict_item (by rw[<-kl];exact st) dd (k:=vs[i].1) (v:=vs[i].2) (aa hi') λkey h' hkey st' sb=>?_
  have I1:bU X pins σ H {s with heap:=h'}:=I.turned (t':=s.toks) (λb o hb e=>(sb.2 b hb).trans e) f0 f1 f3 f4 f5
  rw[<-kl] at st'
  obtain⟨o',e',c',d'⟩:=id st'
  refine⟨key,rfl,BC (s:={s with heap:=h'}) e' c' d' (by decide) ⟨kV kvs[i].1,H,I1,sS (P:=X.prog) (w:=X.w) (by rw[<-hk];exact hkey),⟨rfl,_,_,aa hi,rfl⟩,st',λb hb=>(hf b hb).1⟩⟩
 done:=by
  intro X hP hw hK hc i pins s σ H E I hf st hg
  subst hP hw hK
  obtain⟨e,hi⟩:=hg
  obtain⟨lo,vs,rel,dd⟩:=qN I e hep
  have kl:=rel.length
  obtain⟨f0,f1,f2,f3,f4,f5⟩:=hf it (by simp)
  exact wpAny_pyNext_dict_end (I.ok.hd hc) (by rw[<-kl];exact st) dd (fh (by lia)) λh' eb=>⟨rfl,I.turned (t':=s.toks) (λb o hb e=>eb b o hb e) f0 f1 f3 f4 f5⟩
 self:=λ_ _ _ _ _ st h=>wpAny_pyIter_keyiter st h
section
variable{X:Cx}{tg:Expr}
def EN(te:TE):TI:=λσ H R=>te σ H λx H1=>∃d kvs,x=.ref d/\H1 d=some (.dK kvs)/\∀o,R (Lh d kvs o) (upd H1 d (.frz o (.dK kvs)))
theorem Ib{l:Expr}{tl:TE}(hl:PE X l tl):PI X tg l (EN tl):=by
 intro pins s σ H R I h
 refine gd (hl pins s σ H _ I h) λv s1 ⟨x,H1,I1,r1,q1⟩=>?_
 obtain⟨d,kvs,rfl,e,q⟩:=q1
 cases r1
 obtain⟨o,ho,I2⟩:=I1.freeze e
 obtain⟨es0,ep,hep⟩:∃es0 ep,o.data=.dict es0 ep:=by
  obtain⟨_,_,_,_,o',es,ep,h1,_,h3,_⟩:=I1.hok d _ e
  rw[ho] at h1;cases h1
  exact⟨es,ep,h3⟩
 obtain⟨lo,vs,rel,dd⟩:=qN I2 ag hep
 have kl:=rel.length
 refine wpAny_pyIter_dict lo dd ?_
 refine⟨s1.heap.objs.size,[s1.heap.objs.size],_,_,_,rfl,I2.kept (t':=s1.toks) λb o e=>aA _ e,D3 d _ kvs o es0 ep hep,⟨_,aQ _ rfl,rfl,by rw[kl];rfl⟩,λb hb=>?_,q o⟩
 have e:b=s1.heap.objs.size:=by simpa using hb
 subst e
 exact I2.fpOk (aB _) (I2.hok.fresh (aB _))
end
end L2
end
section
namespace PySem
open Sem (wp)
section
variable{prog:Program}{w:World}{A:Around}{R:Result->Shared->Prop}{K:Type}[DecidableEq K]{knd:KeyKind prog w K}
def pF(knd:KeyKind prog w K)(h:Heap)(xs:Array Value)(ks:List K)(vs:List Value):Prop:=∀(j:Nat) k v x,ks[j]?=some k->vs[j]?=some v->xs[j]?=some x->∃t a,x=.ref t/\h.IsTuple t #[a,v]/\knd.is k a=true
theorem pF.keep{h h':Heap}{xs:Array Value}{ks:List K}{vs:List Value}(p:pF knd h xs ks vs)(k:∀c o,o.cls=.type "tuple"->h.get? c=some o->h'.get? c=some o):pF knd h' xs ks vs:=λj a b x e1 e2 e3=>by
 obtain⟨t,y,e,⟨o,ho,hc,r⟩,i⟩:=p j a b x e1 e2 e3
 exact⟨t,y,e,⟨o,k t o hc ho,hc,r⟩,i⟩
theorem GJ{d it l:Addr}{xs:Array Value}{ks:List K}{vs:List Value}{res:Value}(hh:A.handled=none)(n1:d≠it)(n2:d≠l)(n3:it≠l)(hk:ks.length=xs.size)(hv:vs.length=xs.size)(hz:xs.size<=1000) :
  ∀(m i:Nat) (s:Shared) (kvs:List (K×Value)),xs.size-i=m->i<=xs.size->s.heap.IsListIter it l i->s.heap.IsList l xs->pF knd s.heap xs ks vs->s.heap.DictOf knd d kvs->kvs.length<=i->
   (∀h' tk,h'.DictOf knd d (merged kvs ((ks.zip vs).drop i))->(∀c o,c≠d->c≠it->s.heap.get? c=some o->h'.get? c=some o)->R (.ok (.ret res)) {s with heap:=h',toks:=tk})->
   codeAny (model prog w) A (.builtin "dict.update.loop" ⟨[.ref d,.ref it,rawInt i,res],[]⟩) R s:=by
 intro m
 induction m with
 |zero=>
  intro i s kvs hm hi hit hl P dd hlen hR
  have ei:i=xs.size:=by lia
  refine codeAny_builtin F.entry_dict_update_loop ?_
  rw[Around.under_plainId F.plain_dict_update_loop _]
  show wpAny _ A.in1 (pyNext (.ref it) >>= _) _ _ s
  refine wpAny_bind (wpAny_pyNext_list_end (A:=A.in1) hh hit hl (by rw[ei];simp) λh' eb=>?_)
  have e0:(ks.zip vs).drop i=[]:=List.drop_of_length_le (by rw[fo];lia)
  rw[e0] at hR
  refine wpAny_bind (wpAny_pure (wpAny_pure (hR h' s.toks ?_ λc o _ c2 e=>eb c o c2 e)))
  obtain⟨o,es,ep,ho,r⟩:=dd
  exact⟨o,es,ep,eb d o n1 ho,r⟩
 |succ m ih=>
  intro i s kvs hm hi hit hl P dd hlen hR
  refine codeAny_builtin F.entry_dict_update_loop ?_
  rw[Around.under_plainId F.plain_dict_update_loop _]
  show wpAny _ A.in1 (pyNext (.ref it) >>= _) _ _ s
  have il:i<xs.size:=by lia
  have hx:xs[i]?=some xs[i]:=h9 il
  have kl:i<ks.length:=by lia
  have vl:i<vs.length:=by lia
  obtain⟨t,a,et,⟨ot,hot,hct,nt,hdt⟩,his⟩:=P i ks[i] vs[i] _ (aa kl) (aa vl) hx
  refine wpAny_bind (wpAny_pyNext_list_item hit hl (x:=.ref t) (by rw[hx,et]) λh' hit' sb=>?_)
  have kp:∀c o,c≠it->s.heap.get? c=some o->h'.get? c=some o:=λc o n e=>(sb.2 c n).trans e
  have tit:t≠it:=λz=>by
   obtain⟨o,ho,hc,_⟩:=hit
   rw[<-z,hot] at ho;cases ho
   rw[hct] at hc
   injection hc with hc
   exact absurd hc (by decide)
  have hot':=kp t ot tit hot
  refine wpAny_bind (wpAny_holding (wpAny_bind (wpAny_tryCatch ?_)))
  unfold Builtin.Dict.pairItems
  refine wpAny_bind (wpAny_typeOf (T:="tuple") ⟨_,hot',hct⟩ ?_)
  rw[if_pos (by decide)]
  refine wpAny_bind (wpAny_seqItems hot' hdt (wpAny_pure ?_))
  obtain⟨o,es,ep,ho,r⟩:=dd
  have dd':h'.DictOf knd d kvs:=⟨o,es,ep,kp d o n1 ho,r⟩
  refine wpAny_holding (wpAny_dictSet_pairs (knd:=knd) his dd' (λh2 d2 s2=>?_) (hsz:=bx hlen (bx hi (bx hz (by decide)))))
  have e1:(i:Int)+1=((i+1:Nat):Int):=by lia
  refine wpAny_pure ⟨plainId_quiet F.plain_dict_update_loop _,?_⟩
  rw[e1]
  have el:(ks.zip vs).drop i=(ks[i],vs[i])::(ks.zip vs).drop (i+1):=by
   have hz2:i<(ks.zip vs).length:=by rw[fo];lia
   rw[ia hz2,gX]
  rw[el] at hR
  have nd:∀c o,o.cls=.type "tuple"->h'.get? c=some o->c≠d:=λc o hc e z=>by
   obtain⟨o',_,_,e',x,_⟩:=dd'
   rw[z,e'] at e;cases e
   rw[x.1] at hc
   injection hc with hc
   exact absurd hc (by decide)
  have nit:∀c o,o.cls=.type "tuple"->s.heap.get? c=some o->c≠it:=λc o hc e z=>by
   obtain⟨o',ho',hc',_⟩:=hit
   rw[z,ho'] at e;cases e
   rw[hc'] at hc
   injection hc with hc
   exact absurd hc (by decide)
  refine ih (i+1) _ (stored kvs ks[i] vs[i]) (by lia) (by lia) (hit'.at λo e=>s2.extBut it o (Ne.symm n1) e) ((hl.at λo e=>kp l o (Ne.symm n3) e).at λo e=>s2.extBut l o (Ne.symm n2) e) (P.keep λc o hc e=>s2.extBut c o (nd c o hc (kp c o (nit c o hc e) e)) (kp c o (nit c o hc e) e)) d2 ?_ λh3 tk3 d3 kp3=>?_
  ·have:=merged_length_le kvs [(ks[i],vs[i])]
   exact bx this (Nat.add_le_add_right hlen 1)
  ·exact hR h3 tk3 d3 λc o c1 c2 e=>kp3 c o c1 c2 (s2.extBut c o c1 (kp c o c2 e))
end
section
variable{prog:Program}{w:World}{A:Around}{E:Value->Shared->Prop}{s:Shared}{K:Type}[DecidableEq K]{knd:KeyKind prog w K}
theorem CQ{l:Addr}{xs:Array Value}{n:Nat}{ks:List K}{vs:List Value}{Q:Value->Shared->Prop}(hh:A.handled=none)(hl:s.heap.get? l=some {cls:=.type "list",dict:=none,data:=.seq xs n,slots:=#[]})(hk:ks.length=xs.size)(hv:vs.length=xs.size)(hz:xs.size<=1000)(P:pF knd s.heap xs ks vs)
  (hQ:∀h' tk,h'.DictOf knd s.heap.objs.size (merged [] (ks.zip vs))->(∀c o,s.heap.get? c=some o->h'.get? c=some o)->Q (.ref s.heap.objs.size) {s with heap:=h',toks:=tk}) :
  wpAny (model prog w) A (call (.type "dict") [.ref l]) Q E s:=by
 refine callType_codes (Q₁:=λobj s₁=>obj=.ref s.heap.objs.size/\s₁={s with heap:=s.heap.push {cls:=.type "dict",data:=.dict #[]}}) F.kt_called_dict (F.kt_typeCall_dict_1 _) F.entry_dict_init (kt_code_dict_new _ ⟨rfl,rfl⟩) ?_
 rintro obj s₁ ⟨rfl,rfl⟩
 have dn:(s.heap.push {cls:=.type "dict",data:=.dict #[]}).DictOf knd s.heap.objs.size []:=Heap.DictOf.new s.heap
 have up:∀c o,s.heap.get? c=some o->(s.heap.push {cls:=.type "dict",data:=.dict #[]}).get? c=some o:=λc o e=>aA _ e
 refine⟨dn.typeIs,F.args_dict_init_2 _ _,?_⟩
 refine wpAny_bind (m:=Builtin.Dict.selfAndRest _ _) (wpAny_bind (wpAny_notOrdered_dict dn.typeIs (wpAny_pure ?_)))
 show wpAny _ _ (Builtin.Dict.updateFrom "dict.__init__" s.heap.objs.size (.ref l) [] .none) _ _ _
 refine wpAny_bind (wpAny_typeOf (T:="list") ⟨_,up _ _ hl,rfl⟩ ?_)
 rw[if_pos (by decide)]
 refine wpAny_bind (Dh (up _ _ hl) hh λh1 tk1 k1=>?_)
 have k2:∀c o,s.heap.get? c=some o->h1.get? c=some o:=λc o e=>k1 c o (up c o e)
 rw[if_pos (show(none:Option Value).isNone=true from rfl)]
 have hl1:h1.IsList l xs:=⟨_,k2 _ _ hl,rfl,n,rfl⟩
 refine wpAny_bind (wpAny_rule (wpAny_bind (wpAny_pyIter_list (s:={s with heap:=h1,toks:=tk1}) hl1 (wpAny_pure ⟨plainId_quiet F.plain_dict_update_loop _,?_⟩))))
 have dn1:h1.DictOf knd s.heap.objs.size []:=by
  obtain⟨o,es,ep,ho,r⟩:=dn
  exact⟨o,es,ep,k1 _ _ ho,r⟩
 have up2:∀c o,h1.get? c=some o->(h1.push (Lz false l)).get? c=some o:=λc o e=>aA _ e
 have llt:l<s.heap.objs.size:=aJ hl
 have dlt:s.heap.objs.size<h1.objs.size:=let⟨_,_,_,e,_⟩:=dn1;aJ e
 refine GJ (A:=A.in1) (knd:=knd) hh (it:=h1.objs.size) (aV dlt) (fG llt) (fG (px llt dlt)) hk hv hz xs.size 0 _ [] rfl (cf _) ⟨_,aQ _ rfl,rfl,rfl⟩ (hl1.at λo e=>up2 _ o e) (P.keep λc o _ e=>up2 c o (k2 c o e)) ?_ (cf _) λh' tk d' kp=>⟨rfl,?_⟩
 ·obtain⟨o,es,ep,ho,r⟩:=dn1
  exact⟨o,es,ep,up2 _ _ ho,r⟩
 ·exact hQ h' tk d' λc o e=>by
   have lt:=aJ e
   exact kp c o (aV lt) (aV (px lt dlt)) (up2 c o (k2 c o e))
end
end PySem
end
section
namespace L2
open PySem PySem.Spec PyProof.Rows
section
variable{X:Cx}
def nY(K:Fg):List V->Hp->VK->Prop:=λxs H Q=>∃(l:Addr) (ps:List V) (kvs:List (dS×V)),xs=[.ref l]/\H l=some (.lst ps)/\ps.length=kvs.length/\kvs.length<=1000/\(∀(j:Nat) x k v,ps[j]?=some x->kvs[j]?=some (k,v)->∃t,x=.ref t/\H t=some (.tup [kV k,v]))/\∀d,H d=none->Q (.ref d) (upd H d (.dK (gq [] kvs)))
theorem q0:∀{xs:List V} {us:List Value},us.length=xs.length->(∀(j:Nat) x u,xs[j]?=some x->us[j]?=some u->cJ x u)->cu xs us
 |[],[],_,_=>.nil
 |x::xs,u::us,hl,h=>.cons (h 0 x u rfl rfl) (q0 (Nat.succ.inj hl) λj x u e1 e2=>h (j+1) x u e1 e2)
theorem LD{kvs:List (dS×V)}:∀{vs:List Value},vs.length=kvs.length->(∀(j:Nat) k v u,kvs[j]?=some (k,v)->vs[j]?=some u->cJ v u)->KV kvs ((kvs.map (·.1)).zip vs):=by
 induction kvs with
 |nil=>intro vs _ _;exact .nil
 |cons p r ih=>
  intro vs hl h
  cases vs with
  |nil=>cases hl
  |cons u us=>exact .cons ⟨rfl,h 0 p.1 p.2 u rfl rfl⟩ (ih (Nat.succ.inj hl) λj k v u e1 e2=>h (j+1) k v u e1 e2)
theorem kX(hc:X.calm=true):i8 X (.type "dict") (nY X.K):=by
 intro pins s σ H xs us Q I r h
 obtain⟨l,ps,kvs,rfl,hl,hlen,hz,hp,q⟩:=h
 obtain⟨u,rfl,rx⟩:=m5 r
 cases rx
 obtain⟨z,its,n,rv,el,e⟩:=I.lstM hl
 have l1:=rv.length
 have pr:∀(j:Nat) k v x,kvs[j]?=some (k,v)->its[j]?=some x->∃t a w',x=.ref t/\s.heap.IsTuple t #[a,w']/\cJ (kV k) a/\cJ v w':=by
  intro j k v x e1 e2
  have jl:j<ps.length:=by have:=(af.mp e1).1;lia
  obtain⟨t,et,ht⟩:=hp j _ k v (aa jl) e1
  obtain⟨u,hu,ru⟩:=rv.get (i:=j) (x:=ps[j]) (aa jl)
  rw[e2] at hu;cases hu
  rw[et] at ru
  cases ru
  obtain⟨its2,r2,t2,_⟩:=I.tuple (dC.of (K:=X.K) ht)
  obtain⟨a,w',rfl,ra,rw'⟩:=zO r2
  exact⟨t,a,w',rfl,t2,ra,rw'⟩
 obtain⟨vs,hvl,hvs⟩:∃vs:List Value,vs.length=kvs.length/\∀(j:Nat) k v x w',kvs[j]?=some (k,v)->its[j]?=some x->vs[j]?=some w'->cJ v w'/\∃t a,x=.ref t/\s.heap.IsTuple t #[a,w']/\cJ (kV k) a:=by
  have key:∀m,m<=kvs.length->∃vs:List Value,vs.length=m/\∀(j:Nat) k v x w',kvs[j]?=some (k,v)->its[j]?=some x->vs[j]?=some w'->cJ v w'/\∃t a,x=.ref t/\s.heap.IsTuple t #[a,w']/\cJ (kV k) a:=by
   intro m
   induction m with
   |zero=>intro _;exact⟨[],rfl,λj k v x w' _ _ e=>by simp at e⟩
   |succ m ih=>
    intro hm
    obtain⟨vs,h1,h2⟩:=ih (by lia)
    have ml:m<kvs.length:=by lia
    have il:m<its.length:=by lia
    obtain⟨t,a,w',et,ht,ra,rw'⟩:=pr m kvs[m].1 kvs[m].2 its[m] (aa ml) (aa il)
    refine⟨vs++[w'],by rw[ay,h1];rfl,λj k v x w2 e1 e2 e3=>?_⟩
    by_cases c:j<vs.length
    ·rw[bM c] at e3
     exact h2 j k v x w2 e1 e2 e3
    ·have ej:j=m:=by
      have:=(af.mp e3).1
      rw[ay,bo] at this
      lia
     subst ej
     rw[bh (by lia)] at e3
     have:w2=w':=by
      rw[h1,eK] at e3
      exact(Option.some.inj e3).symm
     subst this
     rw[aa ml] at e1
     have e1':=Option.some.inj e1
     rw[aa il] at e2
     have e2':=Option.some.inj e2
     rw[<-e2']
     have k1:kvs[j].1=k:=by rw[e1']
     have v1:kvs[j].2=v:=by rw[e1']
     rw[<-k1,<-v1]
     exact⟨rw',t,a,et,ht,ra⟩
  exact key kvs.length (aB _)
 refine CQ (knd:=dq X.prog X.w) (ks:=kvs.map (·.1)) (vs:=vs) (I.ok.hd hc) e (by rw[ae,au];lia) (by rw[au];lia) (by rw[au];lia) (λj k v x e1 e2 e3=>?_) λh' tk d' kp=>?_
 ·rw[aD] at e1
  cases ek:kvs[j]? with
  |none=>rw[ek] at e1;cases e1
  |some p=>
   rw[ek] at e1
   have e1':p.1=k:=Option.some.inj e1
   obtain⟨_,t,a,et,ht,ra⟩:=hvs j p.1 p.2 x v ek (by rw[List.getElem?_toArray] at e3;exact e3) e2
   exact⟨t,a,et,ht,by rw[<-e1'];exact rp ra⟩
 ·have rel:KV (gq [] kvs) (merged [] ((kvs.map (·.1)).zip vs)):=KV.merge (LD hvl λj k v u e1 e2=>by
   have jl:j<its.length:=by have:=(af.mp e1).1;lia
   exact(hvs j k v _ u e1 (aa jl) e2).1) .nil
  have hlen2:(gq [] kvs).length<=sizeLine:=bx (lC _ _) (bx (show[].length+kvs.length<=1000 by rw[ef];lia) (show 1000<=sizeLine by decide))
  have hn:H s.heap.objs.size=none:=I.hok.fresh (aB _)
  exact⟨.ref s.heap.objs.size,_,I.laid (t':=tk) (o:=.dK (gq [] kvs)) kp (aB _) (wW hlen2 (beq_eq_false_iff_ne.mpr (fG I.big)) rel d'),rfl,q _ hn⟩
def FM:List V->Hp->VK->Prop:=λxs H Q=>∃(d:Addr) (kvs:List (dS×V)),xs=[.ref d]/\Rd H d (.dK kvs)/\∀l,H l=none->Q (.ref l) (upd H l (.lst (kvs.map λkv=>kV kv.1)))
theorem z7(hc:X.calm=true):i8 X (.type "list") FM:=by
 intro pins s σ H xs us Q I r h
 obtain⟨d,kvs,rfl,hd,q⟩:=h
 obtain⟨u,rfl,rx⟩:=m5 r
 cases rx
 obtain⟨z,lo,vs,rel,dd⟩:=rj I.hok hd
 obtain⟨ep,hat⟩:=dd.dictAt
 have kl:=rel.length
 refine PySem.W.kdl_call (lK (knd:=dq X.prog X.w) (kvs:=vs) (ep:=ep) lo) (I.ok.hd hc) hat (by rw[<-kl];exact z) λh' tk acc c hk hD hacc=>?_
 have hl:acc.toList.length=vs.length:=by rw[dj];exact hacc.1
 have hv:cu (kvs.map λkv=>kV kv.1) acc.toList:=q0 (by rw[ae];lia) λj x v e1 e2=>by
  rw[aD] at e1
  cases ek:kvs[j]? with
  |none=>rw[ek] at e1;cases e1
  |some p=>
   rw[ek] at e1
   have e1':kV p.1=x:=Option.some.inj e1
   obtain⟨k,y,e3,his⟩:=hacc.2 j v (by rw[<-ff];exact e2)
   have:k=p.1:=by
    have a1:(vs.map (·.1))[j]?=some k:=by rw[aD,e3];rfl
    rw[<-rel.keys,aD,ek] at a1
    exact(Option.some.inj a1).symm
   subst this
   rw[<-e1']
   exact sS his
 have hn:H s.heap.objs.size=none:=I.hok.fresh (aB _)
 refine⟨.ref s.heap.objs.size,_,I.laid (t':=tk) (o:=.lst (kvs.map λkv=>kV kv.1)) hk (aB _) ⟨by rw[ae];exact z,acc.toList,c,hv,?_⟩,rfl,q _ hn⟩
 rw[fu];exact hD
end
section
variable{X:Cx}
theorem q5:∀{us:List Value} {ss:List Str},StrsAre us ss->cu (ss.map V.str) us
 |_,_,.nil=>.nil
 |_,_,.cons x t r=>.cons ⟨t,rfl⟩ (q5 r)
def nZ(K:Fg):List V->Hp->VK->Prop:=λxs H Q=>∃(p:Addr) (ss:List Str),xs=[.ref p]/\cq K H p (ss.map V.str)/\ss.length<64/\∀(l:Addr) (ss':List Str),H l=none->ss'.Perm ss->sortedS ss'=true->Q (.ref l) (upd H l (.lst (ss'.map V.str)))
theorem kY:i8 X (.builtin "sorted") (nZ X.K):=by
 intro pins s σ H xs us Q I r h
 obtain⟨p,ss,rfl,hq,h64,q⟩:=h
 obtain⟨u,rfl,rx⟩:=m5 r
 cases rx
 obtain⟨its,r',pl,hz⟩:=I.list hq
 have hl:=r'.length
 rw[ae] at hl
 refine sorted_strs pl.isList (qi r') (by rw[<-hl];exact h64) λout ss' a1 a2 a3=>?_
 obtain⟨e,he⟩:=sortedAll_at s.heap its out
 have hn:=q5 a1
 have hlen:ss'.length=ss.length:=a2.length_eq
 refine⟨.ref (s.heap.objs.size+1),_,I.laid (t':=s.toks) (λb u q=>sortedAll_old q) (iJ _) (show fH X.prog X.w _ _ _ (.lst (ss'.map V.str)) from⟨?_,out.toList,e,hn,?_⟩),rfl,q _ _ (I.hok.fresh (iJ _)) a2 a3⟩
 ·rw[ae,hlen];exact bx (dW h64) (by decide)
 ·rw[fu];exact he
theorem Ao{prog:Program}{w:World}:∀{ss:List Str} {vs:List (dS×Value)} {us:List Value},vs.map (·.1)=ss.map Sum.inr->us.length=vs.length->(∀(j:Nat) v,us[j]?=some v->∃k x,vs[j]?=some (k,x)/\(dq prog w).is k v=true)->cu (ss.map V.str) us:=by
 intro ss vs us h1 h2 h3
 have hl:vs.length=ss.length:=by have:=congrArg jE h1;rw[ae,ae] at this;exact this
 refine q0 (by rw[ae];lia) λj x u e1 e2=>?_
 obtain⟨k,y,e3,his⟩:=h3 j u e2
 rw[aD] at e1
 cases es:ss[j]? with
 |none=>rw[es] at e1;cases e1
 |some z=>
  rw[es] at e1
  have e1':V.str z=x:=Option.some.inj e1
  have ek:k=Sum.inr z:=by
   have a1:(vs.map (·.1))[j]?=some k:=by rw[aD,e3];rfl
   rw[h1,aD,es] at a1
   exact(Option.some.inj a1).symm
  subst ek
  rw[<-e1']
  exact sS (k:=Sum.inr z) his
def BP:List V->Hp->VK->Prop:=λxs H Q=>∃(d:Addr) (kvs:List (dS×V)) (ss:List Str),xs=[.ref d]/\Rd H d (.dK kvs)/\kvs.map (·.1)=ss.map Sum.inr/\ss.length<64/\∀(l:Addr) (ss':List Str),H l=none->ss'.Perm ss->sortedS ss'=true->Q (.ref l) (upd H l (.lst (ss'.map V.str)))
theorem xX(hc:X.calm=true):i8 X (.builtin "sorted") BP:=by
 intro pins s σ H xs us Q I r h
 obtain⟨d,kvs,ss,rfl,hd,hk,h64,q⟩:=h
 obtain⟨u,rfl,rx⟩:=m5 r
 cases rx
 obtain⟨z,lo,vs,rel,dd⟩:=rj I.hok hd
 obtain⟨ep,hat⟩:=dd.dictAt
 have hh:X.A.handled=none:=I.ok.hd hc
 have kl:=rel.length
 have hv:vs.map (·.1)=ss.map Sum.inr:=by rw[<-rel.keys];exact hk
 have vl:vs.length=ss.length:=by have:=congrArg jE hv;rw[ae,ae] at this;exact this
 refine Calls.call_function_entry kind_sorted plain_sorted entry_sorted (args_sorted1 _) ?_
 unfold Builtin.«sorted»
 refine wpAny_bind (m:=checkCount "sorted" 1 1 _) (wpAny_pure ?_)
 refine wpAny_bind (PySem.W.kdu_collect (A:=X.A.in1) (lK (knd:=dq X.prog X.w) (kvs:=vs) (ep:=ep) lo) hh hat (by rw[<-kl];exact z) λh' tk acc hkp hacc=>?_)
 have hl:acc.toList.length=vs.length:=by rw[dj];exact hacc.1
 have hI:cu (ss.map V.str) acc.toList:=Ao (prog:=X.prog) (w:=X.w) hv hl λj v e=>hacc.2 j v (by rw[<-ff];exact e)
 have hS:=qi hI
 refine wpAny_bind (wpAny_newList ?_ (by rw[hl,<-kl];exact z))
 have hoL:(h'.push (seqObj "list" acc.toList.toArray 0)).get? h'.objs.size=some (seqObj "list" acc.toList.toArray 0):=aQ _ rfl
 show wpAny _ _ _ _ _ {s with heap:=h'.push (seqObj "list" acc.toList.toArray 0),toks:=tk}
 refine wpAny_bind (wpAny_holding (wpAny_call_entry slot_list_sort ⟨_,hoL,rfl⟩ entry_list_sort (list_sort_treeK strKind_oneLt hoL hS.keysOf (λv₁ v₂ rest e=>keyKind_strs (by rw[<-e];exact hS)) (by rw[hl,vl];exact h64) λst' hp hs=>?_) (args_list_sort _)))
 obtain⟨ss',a1,a2,a3⟩:=sorted_out_str hS hp hs
 refine⟨_,rfl,?_⟩
 refine wpAny_pure ⟨_,rfl,?_⟩
 obtain⟨e,he⟩:=sortedHeap_at (n:=0) (out:=(arrOf st').map (·.2)) hoL
 have hn:=q5 a1
 have hlen:ss'.length=ss.length:=a2.length_eq
 have I1:bU X pins σ H {s with heap:=h',toks:=tk}:=I.kept hkp
 refine⟨.ref h'.objs.size,_,I1.laid (t':=tk) (λb u q1=>?_) (aB _) (show fH X.prog X.w _ _ _ (.lst (ss'.map V.str)) from⟨?_,((arrOf st').map (·.2)).toList,e,hn,?_⟩),rfl,q _ _ (I1.hok.fresh (aB _)) a2 a3⟩
 ·have lt:=aJ q1
  rw[sortedHeap_old (aV lt) (by rw[size_push'];exact kG lt)]
  exact aA _ q1
 ·rw[ae,hlen];exact bx (dW h64) (by decide)
 ·rw[fu];exact he
def A0(td ty tx:TE):TE:=λσ H Q=>td σ H λx H1=>∃a,x=.ref a/\MI H1 a/\ty σ H1 λy H2=>tx σ H2 λz H3=>∃kvs k,H3 a=some (.dK kvs)/\y=kV k/\kvs.length<sizeLine/\(∀v,gM kvs k=some v->Q v H3)/\(gM kvs k=none->Q z (upd H3 a (.dK (iF kvs k z))))
theorem Fp{o e f:Expr}{apos cpos:Pos}{td ty tx:TE}(ho:PE X o td)(he:PE X e ty)(hf:PE X f tx)(m:M2 X o "setdefault" apos e f cpos):PE X (.Call (.Attribute o "setdefault" apos) [e,f] [] cpos) (A0 td ty tx):=by
 intro pins s σ H Q I h
 refine wpAny_Call_method m.base m.few m.line PySem.F.plainAttrs_dict PySem.F.slot_dict_setdefault PySem.F.type_dict_setdefault (gd (ho pins s σ H _ I h) λu s1 ⟨x,H1,I1,rx,a,ex,d,q1⟩=>?_)
 subst ex
 obtain rfl:u=Value.ref a:=rx
 obtain⟨t1,t2,_⟩:=ET I1 d
 refine⟨t1,t2,?_⟩
 rw[m.trees]
 refine Calls.callWith_builtin rfl (Calls.evalArgs_plain (Calls.spliced_cons (gd (he pins s1 σ H1 _ I1 q1) λiv s2 ⟨y,H2,I2,ry,q2⟩=>
  Calls.spliced_cons (gd (hf pins s2 σ H2 _ I2 q2) λfv s3 ⟨z,H3,I3,rz,kvs,k,e3,ey,hl,qs,qn⟩=>Calls.spliced_nil ?_))))
 subst ey
 obtain⟨z1,l1,vs,rel,dd⟩:=pL I3.hok e3
 refine call_meetsIn PySem.F.slot_dict_setdefault dd.typeIs PySem.F.entry_dict_setdefault (PySem.F.args_dict_setdefault_3 _ _ _) (kt_meets_setdefault (dq X.prog X.w) a (rp ry) l1 fv) ⟨vs,dd,by rw[<-rel.length];exact z1,λv hv=>?_,λhv h' d' hs=>?_⟩
 ·have:=rel.val k
  rw[hv] at this
  cases ev:gM kvs k with
  |none=>rw[ev] at this;exact(show False from this).elim
  |some v'=>
   rw[ev] at this
   exact⟨v',H3,I3.tok _,this,qs v' ev⟩
 ·have:=rel.val k
  rw[hv] at this
  cases ev:gM kvs k with
  |some v'=>rw[ev] at this;exact(show False from this).elim
  |none=>
   have hlen:(iF kvs k z).length<=sizeLine:=by have:=lg kvs k z;lia
   refine⟨z,_,sM (t':=s3.toks+1) (ob:=.dK (iF kvs k z)) I3 (by rw[e3];exact True.intro) hs (let⟨ob,_,_,h1,_⟩:=d';⟨ob,h1⟩) (wW hlen l1 (rel.put k rz) d'),rz,qn ev⟩
end
theorem JX{kvs:List (dS×V)}{vs:List (dS×Value)}(r:KV kvs vs):∀{i:Nat} {p:dS×V} {q:dS×Value},kvs[i]?=some p->vs[i]?=some q->p.1=q.1/\cJ p.2 q.2:=by
 induction r with
 |nil=>intro i p q e _;simp at e
 |@cons a b as bs h _ ih=>
  intro i p q e1 e2
  match i with
  |0=>cases e1;cases e2;exact h
  |i+1=>exact ih e1 e2
def Lg(d:Addr)(kvs:List (dS×V))(o:Obj):It:=⟨λi H=>H d=some (.frz o (.dK kvs))/\i<kvs.length,λi H x H'=>∃p k v,H p=none/\x=.ref p/\H'=upd H p (.tup [kV k,v])/\kvs[i]?=some (k,v),λi H=>H d=some (.frz o (.dK kvs))/\kvs.length<=i⟩
theorem Bi{P:Program}{w:World}{K:Fg}{elts:List Expr}{k:Nat}{pos:Pos}(d it:Addr)(kvs:List (dS×V))(o:Obj)(es0:Array DictEntry)(ep:Nat)(hep:o.data=.dict es0 ep):uV P w K (.Tuple elts k pos) (Lg d kvs o) [it] it (λi h=>∃ok ov,IsItemIter h it d i kvs.length ep ok ov) where
 mem:=by simp
 obj:=λi h st b hb=>by
  have e:b=it:=by simpa using hb
  subst e
  obtain⟨ok,ov,e⟩:=st
  exact⟨_,e,λv z=>by have z':Data.fields _=Data.cell v:=z;cases z'⟩
 keep:=λi h h' st k=>let⟨ok,ov,e⟩:=st;⟨ok,ov,k it (by simp) _ e⟩
 item:=by
  intro X hP hw hK hc i pins s σ H E I hf st hg
  subst hP hw hK
  obtain⟨ok,ov,st⟩:=st
  obtain⟨e,hi⟩:=hg
  obtain⟨lo,vs,rel,dd⟩:=qN I e hep
  have kl:=rel.length
  have hi':i<vs.length:=by lia
  obtain⟨hk,hv⟩:=JX rel (aa hi) (aa hi')
  refine wpAny_pyNext_items_item (by rw[<-kl];exact st) dd (k:=vs[i].1) (v:=vs[i].2) (aa hi') λkey h1 hkey ho hT hsz hkp=>?_
  refine⟨_,rfl,?_⟩
  have fT:oJ X pins H s.heap.objs.size:=I.fpOk (aB _) (I.hok.fresh (aB _))
  have itlt:it<s.heap.objs.size:=aJ st
  refine wpAny_letOwnedTupleGo_items (s:={s with heap:=h1}) ho λh2 he2 hs2=>?_
  have I1:bU X pins σ H {s with heap:=h2,toks:=s.toks}:=I.turnedL (t':=s.toks) (ch:=[it]) (λb o hb q=>by
   have b1:b≠it:=λz=>hb (by simp[z])
   exact(hs2.2 b b1).trans (hkp b o b1 q)) hf
  have gT:h2.get? s.heap.objs.size=some {cls:=.type "tuple",data:=.seq #[key,vs[i].2]}:=(hs2.2 _ (fG itlt)).trans hT
  have rk:cJ (kV kvs[i].1) key:=sS (P:=X.prog) (w:=X.w) (by rw[hk];exact hkey)
  have I2:=I1.adopt (T:=s.heap.objs.size) (o:=.tup [kV kvs[i].1,kvs[i].2]) fT (sV (X:=X) gT rk hv)
  refine⟨.ref s.heap.objs.size,_,I2,rfl,⟨s.heap.objs.size,kvs[i].1,kvs[i].2,fT.1,rfl,rfl,aa hi⟩,⟨key,vs[i].2,by rw[kl];exact he2⟩,λb hb=>?_⟩
  have nT:b≠s.heap.objs.size:=by rw[ai.mp hb];exact aV itlt
  rw[ax nT];exact(hf b hb).1
 done:=by
  intro X hP hw hK hc i pins s σ H E I hf st hg
  subst hP hw hK
  obtain⟨ok,ov,st⟩:=st
  obtain⟨e,hi⟩:=hg
  obtain⟨lo,vs,rel,dd⟩:=qN I e hep
  have kl:=rel.length
  obtain⟨f0,f1,f2,f3,f4,f5⟩:=hf it (by simp)
  exact wpAny_pyNext_items_end (I.ok.hd hc) (by rw[<-kl];exact st) dd (fh (by lia)) λh' eb=>⟨rfl,I.turned (t':=s.toks) (λb o hb e=>eb b o hb e) f0 f1 f3 f4 f5⟩
 self:=λ_ _ _ _ _ st h=>by
  obtain⟨ok,ov,st⟩:=st
  exact PySem.W.kcp_self st h
section
variable{X:Cx}{tg:Expr}
structure M0(X:Cx)(o:Expr)(m:Str)(apos cpos:Pos):Prop where
 base:attributeBase o m X.env (eval o X.env)=eval o X.env
 line:(apos.endLine==cpos.line)=true
theorem JH{pins:List (Addr×Obj)}{σ:St}{H:Hp}{s:Shared}{d:Addr}{kvs:List (dS×V)}(I:bU X pins σ H s)(e:H d=some (.dK kvs)):∃o es0 ep,o.data=.dict es0 ep/\bU X pins σ (upd H d (.frz o (.dK kvs))) s:=by
 obtain⟨o,ho,I2⟩:=I.freeze e
 obtain⟨_,_,_,_,o',es,ep,h1,_,h3,_⟩:=I.hok d _ e
 rw[ho] at h1;cases h1
 exact⟨o,es,ep,h3,I2⟩
def An(te:TE):TI:=λσ H R=>te σ H λx H1=>∃d kvs,x=.ref d/\H1 d=some (.dK kvs)/\∀o,R (Lg d kvs o) (upd H1 d (.frz o (.dK kvs)))
theorem Fv{l:Expr}{tl:TE}{apos cpos:Pos}{elts:List Expr}{k:Nat}{pos:Pos}(hl:PE X l tl)(m:M0 X l "items" apos cpos):PI X (.Tuple elts k pos) (.Call (.Attribute l "items" apos) [] [] cpos) (An tl):=by
 intro pins s σ H R I h
 refine wpAny_Call_method (T:="dict") (id:="dict.items") m.base rfl m.line PySem.F.plainAttrs_dict PySem.F.slot_dict_items PySem.F.type_dict_items (gd (hl pins s σ H _ I h) λv s1 ⟨x,H1,I1,r1,q1⟩=>?_)
 obtain⟨d,kvs,rfl,e,q⟩:=q1
 cases r1
 obtain⟨t1,t2,_⟩:=ET I1 (.inl ⟨kvs,.inl e⟩)
 refine⟨t1,t2,?_⟩
 obtain⟨z,lo,vs0,rel0,dd0⟩:=pL I1.hok e
 show wpAny _ _ (callWith cpos (.builtin "dict.items") [.ref d] [] []) _ _ s1
 refine method_meetsIn PySem.F.slot_dict_items PySem.F.entry_dict_items rfl (PySem.evalArgs_none ⟨rfl,dd0.typeIs,PySem.F.args_dict_items_1 _,_,meets_dict_items (dq X.prog X.w) d lo,⟨_,dd0⟩,?_⟩)
 have I1':bU X pins σ H1 {s1 with heap:=s1.heap.push {cls:=.type "dict_items",data:=.fields #[.ref d]}}:=I1.kept (t':=s1.toks) λb o e=>aA _ e
 obtain⟨o,es0,ep,hep,I2⟩:=JH I1' e
 obtain⟨_,vs,rel,dd⟩:=qN I2 ag hep
 have kl:=rel.length
 refine wpAny_pyIter_items (s:={s1 with heap:=s1.heap.push {cls:=.type "dict_items",data:=.fields #[.ref d]}}) ⟨_,aQ _ rfl,rfl,rfl⟩ dd ?_
 refine⟨_,[_],_,_,_,rfl,I2.kept (t':=s1.toks) λb o e=>aA _ e,Bi d _ kvs o es0 ep hep,⟨.none,.none,by rw[kl];exact aQ _ rfl⟩,λb hb=>?_,q o⟩
 have e:b=(s1.heap.push {cls:=.type "dict_items",data:=.fields #[.ref d]}).objs.size:=by simpa using hb
 subst e
 exact I2.fpOk (aB _) (I2.hok.fresh (aB _))
end
section
variable{X:Cx}{tg l o e f:Expr}{tl td ty tx:TE}{apos cpos:Pos}
theorem BL(h:QE X e tl):QE X e (BZ tl):=⟨HW h.up⟩
theorem Iz(hl:QE X l tl):QI X tg l (EN tl):=⟨Ib hl.up⟩
theorem FG{elts:List Expr}{k:Nat}{pos:Pos}(hl:QE X l tl)(m:M0 X l "items" apos cpos):QI X (.Tuple elts k pos) (.Call (.Attribute l "items" apos) [] [] cpos) (An tl):=⟨Fv hl.up m⟩
theorem FD(ho:QE X o td)(he:QE X e ty)(hf:QE X f tx)(m:M2 X o "setdefault" apos e f cpos):QE X (.Call (.Attribute o "setdefault" apos) [e,f] [] cpos) (A0 td ty tx):=⟨Fp ho.up he.up hf.up m⟩
theorem EL{A:Around}{k:Nat}(hr:dh k A):A.units+5<cLine:=kq (Nat.add_le_add_left (by decide:5<=64) _) hr.units
end
end L2
end
section
namespace Bg
open PySem L2
theorem zN{ks:List dS}:∀{us:List V} {j:Nat} {k:dS} {u:V},ks.Nodup->ks[j]?=some k->us[j]?=some u->gM (ks.zip us) k=some u:=by
 induction ks with
 |nil=>intro us j k u _ e _;simp at e
 |cons a r ih=>
  intro us j k u nd e1 e2
  obtain⟨na,nr⟩:=cK.mp nd
  cases us with
  |nil=>simp at e2
  |cons b t=>
   rw[iA]
   match j with
   |0=>cases e1;cases e2;exact qD rfl
   |j+1=>
    have hk:k∈r:=az e1
    exact(nM (λz=>na (by rw[show a=k from z];exact hk))).trans (ih nr e1 e2)
theorem vz{ks:List dS}:∀{us:List V} {k:dS},k∉ks->gM (ks.zip us) k=none:=by
 induction ks with
 |nil=>intro us k _;rfl
 |cons a r ih=>
  intro us k h
  cases us with
  |nil=>rfl
  |cons b t=>
   rw[iA]
   exact(nM (λz=>h (by rw[show k=a from z.symm];exact aP))).trans (ih λz=>h (bu _ z))
theorem oW:∀(more acc:List (dS×V)),((acc++more).map (·.1)).Nodup->gq acc more=acc++more
 |[],acc,_=>by show acc=acc++[];rw[ir]
 |p::r,acc,nd=>by
  have hn:gM acc p.1=none:=by
   cases e:gM acc p.1 with
   |none=>rfl
   |some v=>
    have m:=Ja e
    rw[aL,bq] at nd
    exact absurd rfl ((dy.mp nd).2.2 _ m _ aP)
  show gq (iF acc p.1 p.2) r=acc++p::r
  rw[pV _ hn,oW r (acc++[(p.1,p.2)]) (by rw[iQ];exact nd),iQ]
  rfl
structure DL(H:Hp)(d:Addr)(ks:List dS)(ls:List Addr)(vss:List (List V)):Prop where
 at_:H d=some (.dK (ks.zip (ls.map V.ref)))
 kn:ks.Nodup
 ln:ls.Nodup
 l1:ls.length=ks.length
 l2:vss.length=ks.length
 vs:∀(j:Nat) l v,ls[j]?=some l->vss[j]?=some v->H l=some (.lst v)
theorem DL.same{H H':Hp}{d:Addr}{ks:List dS}{ls:List Addr}{vss:List (List V)}(h:DL H d ks ls vss)(s:aT H H'):DL H' d ks ls vss:=⟨s _ _ h.at_,h.kn,h.ln,h.l1,h.l2,λj l v e1 e2=>s _ _ (h.vs j l v e1 e2)⟩
theorem DL.get{H:Hp}{d:Addr}{ks:List dS}{ls:List Addr}{vss:List (List V)}(h:DL H d ks ls vss){j:Nat}{k:dS}(e:ks[j]?=some k):∃l v,ls[j]?=some l/\vss[j]?=some v/\H l=some (.lst v)/\gM (ks.zip (ls.map V.ref)) k=some (.ref l):=by
 have jl:=(af.mp e).1
 have j1:j<ls.length:=by rw[h.l1];exact jl
 have j2:j<vss.length:=by rw[h.l2];exact jl
 refine⟨ls[j],vss[j],aa j1,aa j2,h.vs j _ _ (aa j1) (aa j2),zN h.kn e ?_⟩
 rw[aD,aa j1];rfl
theorem DL.app{H:Hp}{d:Addr}{ks:List dS}{ls:List Addr}{vss:List (List V)}(h:DL H d ks ls vss){j:Nat}{l:Addr}{v:List V}(e1:ls[j]?=some l)(e2:vss[j]?=some v)(x:V):DL (upd H l (.lst (v++[x]))) d ks ls (vss.set j (v++[x])):=by
 have hl:=h.vs j l v e1 e2
 refine⟨by rw[ax (iL h.at_ hl (by intro z;cases z))];exact h.at_,h.kn,h.ln,h.l1,by rw[cY];exact h.l2,λi l' v' f1 f2=>?_⟩
 by_cases c:i=j
 ·subst c
  rw[e1] at f1;cases f1
  rw[bj (af.mp e2).1] at f2
  cases f2
  exact ag
 ·have nl:l'≠l:=λz=>by
   subst z
   obtain⟨a1,a2⟩:=af.mp f1
   obtain⟨b1,b2⟩:=af.mp e1
   exact c ((fU h.ln).mp (a2.trans b2.symm))
  rw[bJ (Ne.symm c)] at f2
  rw[ax nl];exact h.vs i l' v' f1 f2
structure Bs(H0 H:Hp)(D:Addr)(ks:List dS)(ts ls:List Addr):Prop where
 at_:H D=some (.lst (ts.map V.ref))
 l1:ts.length=ks.length
 l2:ls.length=ks.length
 ln:ls.Nodup
 pr:∀(j:Nat) t k l,ts[j]?=some t->ks[j]?=some k->ls[j]?=some l->H t=some (.tup [kV k,.ref l])
 em:∀l∈ls,H l=some (.lst [])/\l≠D/\H0 l=none
 sm:fP D H0 H
theorem oz{α:Type}{xs:List α}{x y:α}{j:Nat}(h:(xs++[x])[j]?=some y):(j<xs.length/\xs[j]?=some y)\/(j=xs.length/\y=x):=by
 by_cases c:j<xs.length
 ·rw[bM c] at h
  exact .inl ⟨c,h⟩
 ·have hl:=(af.mp h).1
  rw[ay,bo] at hl
  have:j=xs.length:=by lia
  subst this
  rw[bh (aB _),eK] at h
  exact .inr ⟨rfl,(Option.some.inj h).symm⟩
theorem Bs.nil{H:Hp}{D:Addr}(hD:H D=none):Bs H (upd H D (.lst [])) D [] [] []:=⟨ag,rfl,rfl,fX,λj t k l e=>by simp at e,λl m=>by(cases m),λb u n e=>by(rw[ax n];exact e)⟩
theorem Bs.step{H0 H:Hp}{D:Addr}{ks:List dS}{ts ls:List Addr}(p:Bs H0 H D ks ts ls)(h0:H0 D=none){k:dS}{l t:Addr}(nl:H l=none)(nt:upd H l (.lst []) t=none) :
  Bs H0 (upd (upd (upd H l (.lst [])) t (.tup [kV k,.ref l])) D (.lst (ts.map V.ref++[.ref t]))) D (ks++[k]) (ts++[t]) (ls++[l]):=by
 have lD:l≠D:=λz=>by rw[z,p.at_] at nl;cases nl
 have tl:t≠l:=λz=>by rw[z,ag] at nt;cases nt
 have nt':H t=none:=by rw[ax tl] at nt;exact nt
 have tD:t≠D:=λz=>by rw[z,p.at_] at nt';cases nt'
 have keep:∀b u,b≠D->H b=some u->upd (upd (upd H l (.lst [])) t (.tup [kV k,.ref l])) D (.lst (ts.map V.ref++[.ref t])) b=some u:=λb u n e=>by
  rw[ax n,ax (ak e nt'),ax (ak e nl)];exact e
 refine⟨by rw[ag,aL];rfl,by rw[ay,ay,p.l1];rfl,by rw[ay,ay,p.l2];rfl,?_,λj t' k' l' e1 e2 e3=>?_,λl' m=>?_,λb u n e=>keep b u n (p.sm b u n e)⟩
 ·refine dy.mpr ⟨p.ln,by simp,λa ha b hb=>?_⟩
  rw[ai.mp hb]
  intro z
  rw[z] at ha
  rw[(p.em l ha).1] at nl;cases nl
 ·rcases oz e1 with⟨c1,f1⟩|⟨c1,f1⟩<;>rcases oz e2 with⟨c2,f2⟩|⟨c2,f2⟩<;>rcases oz e3 with⟨c3,f3⟩|⟨c3,f3⟩
  ·have:=p.pr j t' k' l' f1 f2 f3
   exact keep t' _ (λz=>by rw[z,p.at_] at this;cases this) this
  all_goals first
   |(exfalso;have:=p.l1;have:=p.l2;lia)
   |(subst f1;subst f2;subst f3;rw[ax tD];exact ag)
 ·rcases aE.mp m with z|z
  ·obtain⟨a,b,c⟩:=p.em l' z
   exact⟨keep l' _ b a,b,c⟩
  ·rw[ai.mp z]
   refine⟨by rw[ax lD,ax (Ne.symm tl)];exact ag,lD,?_⟩
   cases e:H0 l with
   |none=>rfl
   |some u=>rw[p.sm l u lD e] at nl;cases nl
theorem Bs.dict{K:Fg}{H0 H:Hp}{D:Addr}{ks:List dS}{ts ls:List Addr}{Q:VK}(p:Bs H0 H D ks ts ls)(h0:H0 D=none)(nd:ks.Nodup)(few:ks.length<=1000)
  (q:∀d H',H0 d=none->(∀l∈ls,H0 l=none)->DL H' d ks ls (aH ks.length [])->aT H0 H'->Q (.ref d) H'):nY K [.ref D] H Q:=by
 have zl:(ks.zip (ls.map V.ref)).length=ks.length:=by rw[fo,ae,p.l2,iT]
 have zm:(ks.zip (ls.map V.ref)).map (·.1)=ks:=by
  rw[ja]
  rw[ae,p.l2];exact aB _
 refine⟨D,ts.map V.ref,ks.zip (ls.map V.ref),rfl,p.at_,by rw[ae,zl,p.l1],by lia,λj x k v e1 e2=>?_,λd nd'=>?_⟩
 ·rw[aD] at e1
  cases et:ts[j]? with
  |none=>rw[et] at e1;cases e1
  |some t=>
   rw[et] at e1
   have e1':V.ref t=x:=Option.some.inj e1
   subst e1'
   have jk:j<ks.length:=by have:=(af.mp e2).1;lia
   have jl:j<ls.length:=by rw[p.l2];exact jk
   have e3:=e2
   rw[aa (by rw[zl];exact jk),gX,fV] at e3
   have e3':=Option.some.inj e3
   have k1:ks[j]=k:=congrArg Prod.fst e3'
   have v1:V.ref ls[j]=v:=congrArg Prod.snd e3'
   refine⟨t,rfl,?_⟩
   rw[<-k1,<-v1]
   exact p.pr j t ks[j] ls[j] et (aa jk) (aa jl)
 ·have e0:gq [] (ks.zip (ls.map V.ref))=ks.zip (ls.map V.ref):=oW _ [] (by rw[mJ,zm];exact nd)
  rw[e0]
  have hd0:H0 d=none:=by
   cases e:H0 d with
   |none=>rfl
   |some u=>
    have:d≠D:=λz=>by rw[z,h0] at e;cases e
    rw[p.sm d u this e] at nd';cases nd'
  refine q d _ hd0 (λl m=>(p.em l m).2.2) ⟨ag,nd,p.ln,p.l2,bE,λj l v e1 e2=>?_⟩ λb u e=>?_
  ·have m:=p.em l (az e1)
   have hv:v=[]:=(dM.mp (az e2)).2
   rw[hv,ax (ak m.1 nd')]
   exact m.1
  ·have bD:b≠D:=λz=>by rw[z,h0] at e;cases e
   have:=p.sm b u bD e
   rw[ax (ak this nd')];exact this
def Sd(rs:List aZ)(m:Nat):Nat:=runJ rs rs.length m
def Cz(rs:List aZ)(n t:Nat):Prop:=∃r m,rs[n]?=some r/\m∈cc n r/\Sd rs m=t
inductive zX(rs:List aZ)(y:Str):Nat->Prop where
 |here {n:Nat} {r:aZ} (hr:rs[n]?=some r) (h:y∈d8 r):zX rs y n
 |on {n t:Nat} {r:aZ} (hr:rs[n]?=some r) (hs:gv r≠.str y) (he:Cz rs n t) (h:zX rs y t):zX rs y n
def nk(n:Nat):dS:=Sum.inl (n:Int)
structure Ec(rs:List aZ)(ns:List Nat)(pss:List (List Nat)):Prop where
 len:pss.length=ns.length
 at_:∀(j t:Nat) ps,ns[j]?=some t->pss[j]?=some ps->(∀n,n∈ps↔cV rs n/\Cz rs n t)/\ps.length<=2*ns.length
def GY(rs:List aZ)(n:Nat)(y:Str):Prop:=∃r,rs[n]?=some r/\y∈d8 r
structure jR(rs:List aZ)(ns:List Nat)(ys:List Str)(pss:List (List Nat))(i n e:Nat)(zs:List Str):Prop where
 nd:ys.Nodup
 len:pss.length=ys.length
 all:∀y,y∈ys↔(∃x∈ns.take i,GY rs x y)\/y∈zs
 at_:∀(j:Nat) y ps,ys[j]?=some y->pss[j]?=some ps->(∀x,x∈ps↔(x∈ns.take i/\GY rs x y)\/(x=n/\y∈zs))/\ps.length<=e
structure wI(rs:List aZ)(ys:List Str)(pss:List (List Nat)):Prop where
 nd:ys.Nodup
 len:pss.length=ys.length
 all:∀y,y∈ys↔∃x,cV rs x/\GY rs x y
 at_:∀(j:Nat) y ps,ys[j]?=some y->pss[j]?=some ps->(∀x,x∈ps↔cV rs x/\GY rs x y)/\ps.length<=6400
def mC(_:Fg):Sp:=λvs H Q _=>∃(rt:Addr) (rvs:List V) (rs:List aZ),vs=[.ref rt]/\H rt=some (.tup rvs)/\cT (dD H) rvs rs/\cB rs/\(∀r∈rs,(d8 r).length<=100)/\
 ∀(d:Addr) (ys:List Str) (ls:List Addr) (pss:List (List Nat)) (H':Hp),DL H' d (ys.map Sum.inr) ls (pss.map aU)->wI rs ys pss->H d=none->(∀l∈ls,H l=none)->aT H H'->Q (.ref d) H'
def mB(_:Fg):Sp:=λvs H Q _=>∃(rt:Addr) (rvs:List V) (rs:List aZ),vs=[.ref rt]/\H rt=some (.tup rvs)/\cT (dD H) rvs rs/\cB rs/\
 ∀(d:Addr) (ns:List Nat) (ls:List Addr) (pss:List (List Nat)) (H':Hp),(∀m,m∈ns↔cV rs m)->ns.Pairwise (·<·)->DL H' d (ns.map nk) ls (pss.map aU)->Ec rs ns pss->H d=none->(∀l∈ls,H l=none)->aT H H'->Q (.ref d) H'
def mD(_:Fg):Sp:=λvs H Q _=>∃(rt d rl:Addr) (y:Str) (rvs:List V) (rs:List aZ) (ns:List Nat) (ls:List Addr) (pss:List (List Nat)) (ps:List Nat),vs=[.ref rt,.ref d,.ref rl,.str y]/\H rt=some (.tup rvs)/\cT (dD H) rvs rs/\cB rs/\(∀m,m∈ns↔cV rs m)/\ns.Pairwise (·<·)/\
 DL H d (ns.map nk) ls (pss.map aU)/\Ec rs ns pss/\H rl=some (.lst (aU ps))/\(∀x,x∈ps↔cV rs x/\GY rs x y)/\ps.length<=6400/\
 ∀(l:Addr) (ws:List Nat) (H':Hp),(∀x,x∈ws↔cV rs x/\zX rs y x)->ws.Nodup->H' l=some (.lst (aU ws))->H l=none->aT H H'->Q (.ref l) H'
structure Jv(rs:List aZ)(ns:List Nat)(wss:List (List Str))(ss:List Str):Prop where
 srt:PyProof.Rows.sortedS ss=true
 nd:ss.Nodup
 len:wss.length=ns.length
 at_:∀(j n:Nat) ws,ns[j]?=some n->wss[j]?=some ws->ws.Sublist ss/\∀y,y∈ws↔zX rs y n
def eV(_:Fg):Sp:=λvs H Q _=>∃(rt:Addr) (rvs:List V) (rs:List aZ) (zs:List Str),vs=[.ref rt]/\H rt=some (.tup rvs)/\cT (dD H) rvs rs/\cB rs/\(∀r∈rs,(d8 r).length<=100)/\zs.length<64/\(∀r∈rs,∀y∈d8 r,y∈zs)/\
 ∀(d:Addr) (ns:List Nat) (ts:List Addr) (wss:List (List Str)) (ss:List Str) (H':Hp),(∀m,m∈ns↔cV rs m)->ns.Pairwise (·<·)->H' d=some (.dK ((ns.map nk).zip (ts.map V.ref)))->ts.length=ns.length->(∀(j:Nat) t ws,ts[j]?=some t->wss[j]?=some ws->H' t=some (.tup (ws.map V.str)))->Jv rs ns wss ss->H d=none->aT H H'->Q (.ref d) H'
theorem eI{rs:List aZ}(g:cB rs){n:Nat}(h:cV rs n):n<rs.length:=h.1.lt g
theorem uS{rs:List aZ}(g:cB rs):∀(k:Nat) {m:Nat},xV rs none m->xV rs none (runJ rs k m)
 |0,_,h=>h
 |k+1,m,h=>by
  show xV rs none (runJ rs k (stp rs m))
  refine uS g k ?_
  unfold stp
  cases e:rs[m]? with
  |none=>exact h
  |some r=>
   cases r with
   |jump to=>exact .step h e (λy z=>by cases z) (by unfold cc;exact aP)
   |_=>exact h
theorem pe{rs:List aZ}(g:cB rs){n t:Nat}(h:cV rs n)(e:Cz rs n t):cV rs t:=by
 obtain⟨r,m,hr,hm,rfl⟩:=e
 have wm:xV rs none m:=.step h.1 hr (λy z=>by cases z) hm
 exact⟨uS g _ wm,λr' hr'=>g.ring m (g.inr _ _ _ hr hm) r' hr'⟩
theorem Fe{a b:Nat}(h:nk a=nk b):a=b:=by
 unfold nk at h
 injection h with h
 lia
theorem uc{ns:List Nat}(h:ns.Pairwise (·<·)):(ns.map nk).Nodup:=by
 rw[List.Nodup,fE]
 exact h.imp λhlt z=>by have:=Fe z;lia
abbrev JP:Nat:=4
abbrev wt:Nat:=5
abbrev JQ:Nat:=4
abbrev wu:Nat:=5
abbrev JR:Nat:=4
abbrev wz:Nat:=5
abbrev Au:Nat:=5
abbrev je:Nat:=6
end Bg
end
section
namespace Bg
open PySem PySem.Spec PyProof.Rows L2
abbrev fK:List Str:=["rows"]
abbrev kx:List Str:=["rows","ahead","readers","found","name","n"]
def qx(K:Fg):TS:=(cR (gI (nY K) (aj (BZ (iM [5] 1 (An (ar 3)) (Ak K 2 (kZ (aX 5) (kZ (aX 6) yi))) qZ (eM (aj (ar 5) (aj (gI (e7 K) (aj (ar 6) aM)) aM))))) aM)))
def xJ(K:Fg):TS:=(mS (DQ K "list" iy (mR (ar 3) (ar 5)) (aj (ar 4) aM)))
def qy(K:Fg):TS:=(jM (iN K (bL (mD K) [] E0 (aj (ar 0) (aj (ar 1) (aj (mR (ar 2) (ar 4)) (aj (ar 4) aM)))))) (aX 5) (xJ K))
def qz(K:Fg):TS:=(bB (jM (iN K (gI BP (aj (ar 2) aM))) (aX 4) (qy K)) (qx K))
def qA(K:Fg):TS:=(bB (bZ (gI (nY K) (aj (BZ (iM [5] 0 (EN (ar 1)) (aX 5) qZ (eM (aj (ar 5) (aj (kc aM) aM))))) aM)) (aX 3)) (qz K))
def xK(K:Fg):TS:=(bB (bZ (bL (mC K) [] E0 (aj (ar 0) aM)) (aX 2)) (qA K))
def uP(K:Fg):TS:=(bB (bZ (bL (mB K) [] E0 (aj (ar 0) aM)) (aX 1)) (xK K))
abbrev ma:List Str:=["rows"]
abbrev wD:List Str:=["rows","come","ahead","n","to"]
def Gy(K:Fg):TS:=(cR (ar 2))
def Gz(K:Fg):TS:=(mS (DQ K "list" iy (mR (ar 2) (bL (bW K) [] E0 (aj (ar 0) (aj (ar 4) aM)))) (aj (ar 3) aM)))
def zq(K:Fg):TS:=(jM (iN K (bL (fb K) [] E0 (aj (ar 0) (aj (ar 3) aM)))) (aX 4) (Gz K))
def zr(K:Fg):TS:=(bB (jM (iN K (ar 1)) (aX 3) (zq K)) (Gy K))
def zt(K:Fg):TS:=(bB (bZ (gI (nY K) (aj (iM [3] 0 (iN K (ar 1)) (aX 3) qZ (eM (aj (ar 3) (aj (kc aM) aM)))) aM)) (aX 2)) (zr K))
def Gx(K:Fg):TS:=(bB (bZ (bL (cE K) [] E0 (aj (ar 0) aM)) (aX 1)) (zt K))
abbrev md:List Str:=["rows"]
abbrev zW:List Str:=["rows","readers","n","name"]
def GB(K:Fg):TS:=(cR (ar 1))
def GC(K:Fg):TS:=(mS (DQ K "list" iy (A0 (ar 1) (ar 3) (kc aM)) (aj (ar 2) aM)))
def zy(K:Fg):TS:=(jM (iN K (bL (iH K) [] E0 (aj (bI (d5 K) (ar 0) (ar 2)) aM))) (aX 3) (GC K))
def zA(K:Fg):TS:=(bB (jM (iN K (bL (cE K) [] E0 (aj (ar 0) aM))) (aX 2) (zy K)) (GB K))
def GA(K:Fg):TS:=(bB (bZ uz (aX 1)) (zA K))
abbrev me:List Str:=["rows","ahead","readers","name"]
abbrev wF:List Str:=["rows","ahead","readers","name","passed","waiting","n"]
def GE(K:Fg):TS:=(cR (gI FM (aj (ar 4) aM)))
def zB(K:Fg):TS:=(mS (DQ K "list" BN (ar 5) (aj (iM [] 1 (iN K (mR (ar 1) (ar 6))) (aX 7) (bP (bI (xt K) (bL (eX K) [] E0 (aj (bI (d5 K) (ar 0) (ar 7)) aM)) (ar 3))) (ar 7)) aM)))
def zC(K:Fg):TS:=(dG (bP (bI ((FK true)) (ar 6) (ar 4))) (bB (bZ (tC (.bl true)) (oj (ar 4) (ar 6) vQ)) (zB K)) cG)
def GF(K:Fg):TS:=(bB (bZ (IV K "list" KI (ar 5)) (aX 6)) (zC K))
def zD(K:Fg):TS:=(bB (qY (bP (bI (u9) (gI (iO K) (aj (ar 5) aM)) (tC (.int 0)))) (GF K)) (GE K))
def zE(K:Fg):TS:=(bB (bZ (gI (sT K) (aj (ar 2) aM)) (aX 5)) (zD K))
def GD(K:Fg):TS:=(bB (bZ uz (aX 4)) (zE K))
end Bg
end
section
namespace Bg
open PySem L2
structure iu(rs:List aZ)(ns:List Nat)(pss:List (List Nat))(i:Nat)(n:Nat)(ms:List Nat):Prop where
 len:pss.length=ns.length
 at_:∀(j t:Nat) ps,ns[j]?=some t->pss[j]?=some ps->(∀x,x∈ps↔(x∈ns.take i/\Cz rs x t)\/(x=n/\∃m∈ms,Sd rs m=t))/\ps.length<=2*i+ms.length
theorem iu.add{rs:List aZ}{ns:List Nat}{pss:List (List Nat)}{i n:Nat}{ms:List Nat}(h:iu rs ns pss i n ms)(nd:ns.Nodup){m:Nat}{j:Nat}{ps:List Nat}(hj:ns[j]?=some (Sd rs m))(hp:pss[j]?=some ps):iu rs ns (pss.set j (ps++[n])) i n (ms++[m]):=by
 refine⟨by rw[cY];exact h.len,λj' t ps' e1 e2=>?_⟩
 have jl:=(af.mp hp).1
 by_cases c:j'=j
 ·subst c
  rw[hj] at e1;cases e1
  rw[bj jl] at e2
  cases e2
  obtain⟨h1,h2⟩:=h.at_ j' _ ps hj hp
  refine⟨λx=>?_,by rw[ay,ay,bo,bo];lia⟩
  rw[aE,h1 x,ai]
  constructor
  ·rintro((z|⟨z,m',hm,hs⟩)|z)
   ·exact .inl z
   ·exact .inr ⟨z,m',bt _ hm,hs⟩
   ·exact .inr ⟨z,m,aS _ aP,rfl⟩
  ·rintro(z|⟨z,m',hm,hs⟩)
   ·exact .inl (.inl z)
   ·rcases aE.mp hm with z'|z'
    ·exact .inl (.inr ⟨z,m',z',hs⟩)
    ·exact .inr z
 ·rw[bJ (Ne.symm c)] at e2
  obtain⟨h1,h2⟩:=h.at_ j' t ps' e1 e2
  refine⟨λx=>?_,by rw[ay];lia⟩
  rw[h1 x]
  constructor
  ·rintro(z|⟨z,m',hm,hs⟩)
   ·exact .inl z
   ·exact .inr ⟨z,m',bt _ hm,hs⟩
  ·rintro(z|⟨z,m',hm,hs⟩)
   ·exact .inl z
   ·rcases aE.mp hm with z'|z'
    ·exact .inr ⟨z,m',z',hs⟩
    ·exfalso
     rw[ai.mp z'] at hs
     rw[hs] at hj
     obtain⟨a1,a2⟩:=af.mp e1
     obtain⟨b1,b2⟩:=af.mp hj
     exact c ((fU nd).mp (a2.trans b2.symm))
theorem iu.next{rs:List aZ}{ns:List Nat}{pss:List (List Nat)}{i n:Nat}{r:aZ}(h:iu rs ns pss i n (cc n r))(hi:ns[i]?=some n)(hr:rs[n]?=some r)(n':Nat):iu rs ns pss (i+1) n' []:=by
 have two:(cc n r).length<=2:=by cases r<;>simp[cc]
 refine⟨h.len,λj t ps e1 e2=>?_⟩
 obtain⟨h1,h2⟩:=h.at_ j t ps e1 e2
 refine⟨λx=>?_,by simp only[ef];lia⟩
 rw[h1 x,cL,hi]
 simp only[kr,aE,ai,dN,false_and,exists_false,and_false,or_false]
 constructor
 ·rintro(⟨z,e⟩|⟨rfl,m,hm,hs⟩)
  ·exact⟨.inl z,e⟩
  ·exact⟨.inr rfl,r,m,hr,hm,hs⟩
 ·rintro⟨z|rfl,e⟩
  ·exact .inl ⟨z,e⟩
  ·obtain⟨r',m,hr',hm,hs⟩:=e
   rw[hr] at hr';cases hr'
   exact .inr ⟨rfl,m,hm,hs⟩
theorem iu.done{rs:List aZ}{ns:List Nat}{pss:List (List Nat)}{n:Nat}(hn:∀m,m∈ns↔cV rs m)(h:iu rs ns pss ns.length n []):Ec rs ns pss:=⟨h.len,λj t ps e1 e2=>by
 obtain⟨h1,h2⟩:=h.at_ j t ps e1 e2
 refine⟨λx=>?_,by simpa using h2⟩
 rw[h1 x,bH,hn x]
 simp⟩
theorem iu.zero{rs:List aZ}{ns:List Nat}(n:Nat):iu rs ns (aH ns.length []) 0 n []:=⟨bE,λj t ps e1 e2=>by
 have hv:ps=[]:=(dM.mp (az e2)).2
 subst hv
 exact⟨λx=>by simp,cf _⟩⟩
theorem nW(ps:List Nat)(n:Nat):aU ps++[.int (n:Nat)]=aU (ps++[n]):=by unfold aU;rw[aL];rfl
theorem pS(pss:List (List Nat))(j:Nat)(ps:List Nat):(pss.map aU).set j (aU ps)=(pss.set j ps).map aU:=by rw[List.map_set]
theorem KM{K:Fg}{vs:List V}{H:Hp}{Q:VK}{E:XK}(h:mB K vs H Q E):Gx K {nx:=λ_ H'=>Q .non H',rt:=Q} (di wD vs) H:=by
 obtain⟨rt,rvs,rs,rfl,hrt,hA,g,q⟩:=h
 refine⟨_,rfl,rt,rvs,rs,rfl,hrt,hA,g,λl0 ns H1 hn hp hl0 nl0 s1=>?_⟩
 show zt K _ [some (.ref rt),some (.ref l0),none,none,none] H1
 have nlen:ns.length<=64:=by
  have:=fM (n:=rs.length) (l:=ns) (hp.imp λz=>aV z) λx hx=>eI g ((hn x).mp hx)
  have:=g.few
  lia
 have nnd:ns.Nodup:=hp.imp λz=>aV z
 refine .inl ⟨_,rfl,l0,rfl,⟨_,cq.of hl0⟩,λD nD=>?_⟩
 refine iK (xs:=aU ns) (λi σ' H'=>∃(ts ls:List Addr) (o:Option V),σ'=[some (.ref rt),some (.ref l0),none,o,none]/\Bs H1 H' D ((ns.take i).map nk) ts ls) ?_ ?_ ?_ ?_
 ·exact⟨[],[],none,rfl,Bs.nil nD⟩
 ·rintro i σ' H' _ ⟨ts,ls,o,_,p⟩
  exact cq.of (p.sm _ _ (ak hl0 nD) hl0)
 ·rintro i x σ' H' hx ⟨ts,ls,o,rfl,p⟩
  obtain⟨n,hni,rfl⟩:∃n:Nat,ns[i]?=some n/\x=.int (n:Nat):=by
   unfold aU at hx
   rw[aD] at hx
   cases e:ns[i]? with
   |none=>rw[e] at hx;cases hx
   |some n=>rw[e] at hx;exact⟨n,rfl,(Option.some.inj hx).symm⟩
  refine jZ ⟨_,rfl,(by show 0<=sizeLine;decide),λl nl=>⟨(by show 2<=sizeLine;decide),λt nt=>?_⟩⟩
  have st:=p.step nD (k:=nk n) nl nt
  have lD:l≠D:=λz=>by rw[z,p.at_] at nl;cases nl
  have tl:t≠l:=λz=>by rw[z,ag] at nt;cases nt
  have tD:t≠D:=λz=>by rw[z,ax (Ne.symm lD),p.at_] at nt;cases nt
  have tlen:ts.length<sizeLine:=cF (by rw[p.l1,ae,bg];lia)
  refine⟨ts.map V.ref,by rw[ax (Ne.symm tD),ax (Ne.symm lD)];exact p.at_,by rw[ae];exact tlen,ts++[t],ls++[l],_,rfl,?_⟩
  rw[cL,hni,aL]
  exact st
 ·rintro σ' H2 ⟨ts,ls,o,_,p⟩
  have il:(aU ns).length=ns.length:=bV ns
  rw[il,bH] at p
  show aM _ _ _
  unfold aM
  dsimp only
  refine p.dict nD (uc hp) (by rw[ae];lia) λd H3 nd nls dl s3=>?_
  rw[ae] at dl
  show zr K _ [some (.ref rt),some (.ref l0),some (.ref d),none,none] H3
  have dl0:DL H3 d (ns.map nk) ls ((aH ns.length ([]:List Nat)).map aU):=by
   rw[ki];exact dl
  refine .inl ⟨_,rfl,l0,rfl,⟨_,cq.of (s3 _ _ hl0)⟩,gQ (xs:=aU ns) (λi σ' H'=>∃(pss:List (List Nat)) (o3 o4:Option V),σ'=[some (.ref rt),some (.ref l0),some (.ref d),o3,o4]/\DL H' d (ns.map nk) ls (pss.map aU)/\iu rs ns pss i 0 []/\aT H1 H') ⟨_,_,_,rfl,dl0,.zero 0,s3⟩ ?_ ?_ ?_⟩
  ·rintro i σ' H' _ ⟨pss,o3,o4,_,_,_,s'⟩
   exact cq.of (s' _ _ hl0)
  ·rintro i x σ' H' hx ⟨pss,o3,o4,rfl,dl',ah,s'⟩
   obtain⟨n,hni,rfl⟩:∃n:Nat,ns[i]?=some n/\x=.int (n:Nat):=by
    unfold aU at hx
    rw[aD] at hx
    cases e:ns[i]? with
    |none=>rw[e] at hx;cases hx
    |some n=>rw[e] at hx;exact⟨n,rfl,(Option.some.inj hx).symm⟩
   have ilt:i<ns.length:=(af.mp hni).1
   have stn:cV rs n:=(hn n).mp (az hni)
   have nlt:=eI g stn
   obtain⟨v,r,ev,er,ra⟩:=hA.get nlt
   have S':=s1.trans s'
   show zq K _ [some (.ref rt),some (.ref l0),some (.ref d),some (.int (n:Nat)),o4] H'
   refine .inr ⟨_,rfl,_,rfl,rt,n,rvs,v,r,rfl,S' _ _ hrt,ev,ra.mono (.of_same S'),λp H4 hp4 s4=>⟨p,rfl,⟨_,dC.of hp4⟩,?_⟩⟩
   refine mi (xs:=aU (cc n r)) (λe σ' H'=>∃(pss:List (List Nat)) (o4:Option V),σ'=[some (.ref rt),some (.ref l0),some (.ref d),some (.int (n:Nat)),o4]/\DL H' d (ns.map nk) ls (pss.map aU)/\iu rs ns pss i n ((cc n r).take e)/\aT H1 H'/\H' p=some (.tup (aU (cc n r)))) ⟨pss,_,rfl,dl'.same s4,⟨ah.len,λj t ps e1 e2=>by
     obtain⟨h1,h2⟩:=ah.at_ j t ps e1 e2
     refine⟨λx=>?_,by simpa using h2⟩
     rw[h1 x]
     simp⟩,s'.trans s4,hp4⟩ ?_ ?_ ?_
   ·rintro e σ' H' _ ⟨_,_,_,_,_,_,hp'⟩
    exact dC.of hp'
   ·rintro e x σ' H5 hx ⟨pss5,o5,rfl,dl5,ah5,s5,hp5⟩
    obtain⟨m,hme,rfl⟩:∃m:Nat,(cc n r)[e]?=some m/\x=.int (m:Nat):=by
     unfold aU at hx
     rw[aD] at hx
     cases ee:(cc n r)[e]? with
     |none=>rw[ee] at hx;cases hx
     |some m=>rw[ee] at hx;exact⟨m,rfl,(Option.some.inj hx).symm⟩
    have hm:m∈cc n r:=az hme
    have mlt:=g.inr n m r er hm
    have stt:cV rs (Sd rs m):=pe g stn ⟨r,m,er,hm,rfl⟩
    obtain⟨j,hj⟩:=cO.mp ((hn _).mpr stt)
    have S5:=s1.trans s5
    obtain⟨l,v5,el,ev5,hl5,hval⟩:=dl5.get (j:=j) (k:=nk (Sd rs m)) (by rw[aD,hj];rfl)
    obtain⟨ps,eps,hps⟩:∃ps,pss5[j]?=some ps/\v5=aU ps:=by
     rw[aD] at ev5
     cases ee:pss5[j]? with
     |none=>rw[ee] at ev5;cases ev5
     |some ps=>rw[ee] at ev5;exact⟨ps,rfl,(Option.some.inj ev5).symm⟩
    subst hps
    have bound:=(ah5.at_ j _ ps hj eps).2
    have two:(cc n r).length<=2:=by cases r<;>simp[cc]
    have gg:=ng.k (k:=nk (Sd rs m)) dl5.at_
    rw[hval] at gg
    refine⟨_,rfl,_,rfl,_,rfl,rt,m,rvs,rs,rfl,S5 _ _ hrt,hA.imp λ_ _ z=>z.mono (.of_same S5),g,mlt,d,.ref l,rfl,gg,.inl ⟨rfl,_,cq.of hl5⟩,_,rfl,l,_,_,rfl,rfl,hl5,cF (by rw[bV];rw[bg] at bound;lia),?_⟩
    refine⟨pss5.set j (ps++[n]),_,rfl,?_,?_,?_,?_⟩
    ·have:=dl5.app el ev5 (.int (n:Nat))
     rw[nW] at this ⊢
     rw[<-pS]
     exact this
    ·rw[cL,hme]
     exact ah5.add nnd hj eps
    ·have hl1:H1 l=none:=nls l (az el)
     exact λb u e=>by rw[ax (ak e hl1)];exact s5 b u e
    ·rw[ax (iL hp5 hl5 (by intro z;cases z))];exact hp5
   ·rintro σ' H5 ⟨pss5,o5,rfl,dl5,ah5,s5,_⟩
    rw[bV,bH] at ah5
    exact⟨pss5,_,_,rfl,dl5,ah5.next hni er 0,s5⟩
  ·rintro σ' H4 ⟨pss,o3,o4,rfl,dl4,ah4,s4⟩
   rw[il] at ah4
   have dn:H d=none:=by
    cases e:H d with
    |none=>rfl
    |some u=>rw[s1 _ _ e] at nd;cases nd
   exact⟨_,rfl,q d ns ls pss H4 hn hp dl4 (ah4.done hn) dn (λl m=>by
    have:=nls l m
    cases e:H l with
    |none=>rfl
    |some u=>rw[s1 _ _ e] at this;cases this) (s1.trans s4)⟩
theorem DL.add{H:Hp}{d:Addr}{ks:List dS}{ls:List Addr}{vss:List (List V)}(h:DL H d ks ls vss){k:dS}{l:Addr}(nk:k∉ks)(hl:H l=some (.lst []))(nl:l∉ls) :
  gM (ks.zip (ls.map V.ref)) k=none/\DL (upd H d (.dK (iF (ks.zip (ls.map V.ref)) k (.ref l)))) d (ks++[k]) (ls++[l]) (vss++[[]]):=by
 have hn:gM (ks.zip (ls.map V.ref)) k=none:=vz nk
 have ez:iF (ks.zip (ls.map V.ref)) k (.ref l)=(ks++[k]).zip ((ls++[l]).map V.ref):=by
  rw[pV _ hn,aL,List.zip_append (by rw[ae,h.l1])];rfl
 refine⟨hn,by rw[ag,ez],?_,?_,by rw[ay,ay,h.l1];rfl,by rw[ay,ay,h.l2];rfl,λj l' v e1 e2=>?_⟩
 ·refine dy.mpr ⟨h.kn,by simp,λa ha b hb z=>?_⟩
  rw[ai.mp hb] at z
  exact nk (by rw[<-z];exact ha)
 ·refine dy.mpr ⟨h.ln,by simp,λa ha b hb z=>?_⟩
  rw[ai.mp hb] at z
  exact nl (by rw[<-z];exact ha)
 ·have ll:ls.length=vss.length:=by rw[h.l1,h.l2]
  rcases oz e1 with⟨c1,f1⟩|⟨c1,f1⟩<;>rcases oz e2 with⟨c2,f2⟩|⟨c2,f2⟩
  ·have:=h.vs j l' v f1 f2
   rw[ax (iL this h.at_ (by intro z;cases z))];exact this
  ·exfalso;lia
  ·exfalso;lia
  ·subst f1 f2
   rw[ax (iL hl h.at_ (by intro z;cases z))];exact hl
theorem jR.old{rs:List aZ}{ns:List Nat}{ys:List Str}{pss:List (List Nat)}{i n e:Nat}{zs:List Str}(h:jR rs ns ys pss i n e zs){y:Str}{j:Nat}{ps:List Nat}(hj:ys[j]?=some y)(hp:pss[j]?=some ps):jR rs ns ys (pss.set j (ps++[n])) i n (e+1) (zs++[y]):=by
 have jl:=(af.mp hp).1
 refine⟨h.nd,by rw[cY];exact h.len,λy'=>?_,λj' y' ps' e1 e2=>?_⟩
 ·rw[h.all y',aE,ai]
  constructor
  ·rintro(z|z)
   ·exact .inl z
   ·exact .inr (.inl z)
  ·rintro(z|z|rfl)
   ·exact .inl z
   ·exact .inr z
   ·exact(h.all y').mp (az hj)
 ·by_cases c:j'=j
  ·subst c
   rw[hj] at e1;cases e1
   rw[bj jl] at e2
   cases e2
   obtain⟨h1,h2⟩:=h.at_ j' _ ps hj hp
   refine⟨λx=>?_,by rw[ay,bo];lia⟩
   rw[aE,h1 x,ai,aE,ai]
   constructor
   ·rintro((z|⟨z,z'⟩)|z)
    ·exact .inl z
    ·exact .inr ⟨z,.inl z'⟩
    ·exact .inr ⟨z,.inr rfl⟩
   ·rintro(z|⟨z,z'⟩)
    ·exact .inl (.inl z)
    ·exact .inr z
  ·rw[bJ (Ne.symm c)] at e2
   obtain⟨h1,h2⟩:=h.at_ j' y' ps' e1 e2
   refine⟨λx=>?_,by lia⟩
   have ne:y'≠y:=λz=>by
    subst z
    obtain⟨a1,a2⟩:=af.mp e1
    obtain⟨b1,b2⟩:=af.mp hj
    exact c ((fU h.nd).mp (a2.trans b2.symm))
   rw[h1 x,aE,ai]
   constructor
   ·rintro(z|⟨z,z'⟩)
    ·exact .inl z
    ·exact .inr ⟨z,.inl z'⟩
   ·rintro(z|⟨z,z'|z'⟩)
    ·exact .inl z
    ·exact .inr ⟨z,z'⟩
    ·exact absurd z' ne
theorem jR.new{rs:List aZ}{ns:List Nat}{ys:List Str}{pss:List (List Nat)}{i n e:Nat}{zs:List Str}(h:jR rs ns ys pss i n e zs){y:Str}(hy:y∉ys):jR rs ns (ys++[y]) (pss++[[n]]) i n (e+1) (zs++[y]):=by
 have ny:∀x,¬((x∈ns.take i/\GY rs x y)\/(x=n/\y∈zs)):=λx z=>by
  rcases z with⟨z,z'⟩|⟨_,z'⟩
  ·exact hy ((h.all y).mpr (.inl ⟨x,z,z'⟩))
  ·exact hy ((h.all y).mpr (.inr z'))
 refine⟨?_,by rw[ay,ay,h.len];rfl,λy'=>?_,λj' y' ps' e1 e2=>?_⟩
 ·refine dy.mpr ⟨h.nd,by simp,λa ha b hb z=>?_⟩
  rw[ai.mp hb] at z
  exact hy (by rw[<-z];exact ha)
 ·rw[aE,ai,h.all y',aE,ai]
  constructor
  ·rintro((z|z)|z)
   ·exact .inl z
   ·exact .inr (.inl z)
   ·exact .inr (.inr z)
  ·rintro(z|z|z)
   ·exact .inl (.inl z)
   ·exact .inl (.inr z)
   ·exact .inr z
 ·have hl:=h.len
  rcases oz e1 with⟨c1,f1⟩|⟨c1,f1⟩<;>rcases oz e2 with⟨c2,f2⟩|⟨c2,f2⟩
  ·obtain⟨h1,h2⟩:=h.at_ j' y' ps' f1 f2
   refine⟨λx=>?_,by lia⟩
   have ne:y'≠y:=λz=>hy (by rw[<-z];exact az f1)
   rw[h1 x,aE,ai]
   constructor
   ·rintro(z|⟨z,z'⟩)
    ·exact .inl z
    ·exact .inr ⟨z,.inl z'⟩
   ·rintro(z|⟨z,z'|z'⟩)
    ·exact .inl z
    ·exact .inr ⟨z,z'⟩
    ·exact absurd z' ne
  ·exfalso;lia
  ·exfalso;lia
  ·subst f1 f2
   refine⟨λx=>?_,by simp⟩
   rw[ai,aE,ai]
   constructor
   ·intro z
    exact .inr ⟨z,.inr rfl⟩
   ·rintro(z|⟨z,_⟩)
    ·exact absurd (.inl z) (ny x)
    ·exact z
theorem jR.next{rs:List aZ}{ns:List Nat}{ys:List Str}{pss:List (List Nat)}{i n e e':Nat}{r:aZ}(h:jR rs ns ys pss i n e (d8 r))(hi:ns[i]?=some n)(hr:rs[n]?=some r)(le:e<=e')(n':Nat):jR rs ns ys pss (i+1) n' e' []:=by
 have rd:∀y,GY rs n y↔y∈d8 r:=λy=>⟨λ⟨r',a,b⟩=>by rw[hr] at a;cases a;exact b,λb=>⟨r,hr,b⟩⟩
 refine⟨h.nd,h.len,λy=>?_,λj y ps e1 e2=>?_⟩
 ·rw[h.all y,cL,hi]
  simp only[kr,aE,ai,dN,or_false]
  constructor
  ·rintro(⟨x,z,z'⟩|z)
   ·exact⟨x,.inl z,z'⟩
   ·exact⟨n,.inr rfl,(rd y).mpr z⟩
  ·rintro⟨x,z|rfl,z'⟩
   ·exact .inl ⟨x,z,z'⟩
   ·exact .inr ((rd y).mp z')
 ·obtain⟨h1,h2⟩:=h.at_ j y ps e1 e2
  refine⟨λx=>?_,bx h2 le⟩
  rw[h1 x,cL,hi]
  simp only[kr,aE,ai,dN,and_false,or_false]
  constructor
  ·rintro(⟨z,z'⟩|⟨rfl,z⟩)
   ·exact⟨.inl z,z'⟩
   ·exact⟨.inr rfl,(rd y).mpr z⟩
  ·rintro⟨z|rfl,z'⟩
   ·exact .inl ⟨z,z'⟩
   ·exact .inr ⟨rfl,(rd y).mp z'⟩
theorem jR.done{rs:List aZ}{ns:List Nat}{ys:List Str}{pss:List (List Nat)}{n e:Nat}(hn:∀m,m∈ns↔cV rs m)(h:jR rs ns ys pss ns.length n e [])(he:e<=6400):wI rs ys pss:=by
 refine⟨h.nd,h.len,λy=>?_,λj y ps e1 e2=>?_⟩
 ·rw[h.all y,bH]
  simp only[dN,or_false]
  exact⟨λ⟨x,a,b⟩=>⟨x,(hn x).mp a,b⟩,λ⟨x,a,b⟩=>⟨x,(hn x).mpr a,b⟩⟩
 ·obtain⟨h1,h2⟩:=h.at_ j y ps e1 e2
  refine⟨λx=>?_,by lia⟩
  rw[h1 x,bH,hn x]
  simp
theorem mj{ns:List Nat}{i:Nat}{x:V}(hx:(aU ns)[i]?=some x):∃n:Nat,ns[i]?=some n/\x=.int (n:Nat):=by
 unfold aU at hx
 rw[aD] at hx
 cases e:ns[i]? with
 |none=>rw[e] at hx;cases hx
 |some n=>rw[e] at hx;exact⟨n,rfl,(Option.some.inj hx).symm⟩
theorem mG{ys:List Str}{i:Nat}{x:V}(hx:(ys.map V.str)[i]?=some x):∃y:Str,ys[i]?=some y/\x=.str y:=by
 rw[aD] at hx
 cases e:ys[i]? with
 |none=>rw[e] at hx;cases hx
 |some n=>rw[e] at hx;exact⟨n,rfl,(Option.some.inj hx).symm⟩
structure xU(H:Hp)(l0 d:Addr)(rs:List aZ)(ns:List Nat)(H':Hp)(i n e:Nat)(zs:List Str):Prop where
 ex:∃(ys:List Str) (ls:List Addr) (pss:List (List Nat)),DL H' d (ys.map Sum.inr) ls (pss.map aU)/\jR rs ns ys pss i n e zs/\ys.length<=e/\∀l∈ls,H l=none/\l≠l0
 sm:aT H H'
 l0:H' l0=some (.lst (aU ns))
theorem xU.same{H H' H2:Hp}{l0 d:Addr}{rs:List aZ}{ns:List Nat}{i n e:Nat}{zs:List Str}(h:xU H l0 d rs ns H' i n e zs)(s:aT H' H2):xU H l0 d rs ns H2 i n e zs:=by
 obtain⟨ys,ls,pss,a,b⟩:=h.ex
 exact⟨⟨ys,ls,pss,a.same s,b⟩,h.sm.trans s,s _ _ h.l0⟩
theorem KN{K:Fg}{vs:List V}{H:Hp}{Q:VK}{E:XK}(h:mC K vs H Q E):GA K {nx:=λ_ H'=>Q .non H',rt:=Q} (di zW vs) H:=by
 obtain⟨rt,rvs,rs,rfl,hrt,hA,g,hr100,q⟩:=h
 refine λd nd=>?_
 have s0:aT H (upd H d (.dK [])):=(aT.refl H).new nd
 have hd0:upd H d (.dK []) d=some (.dK []):=ag
 show zA K _ [some (.ref rt),some (.ref d),none,none] (upd H d (.dK []))
 generalize upd H d (.dK [])=H1 at s0 hd0 ⊢
 refine .inl ⟨_,rfl,rt,rvs,rs,rfl,s0 _ _ hrt,hA.imp λ_ _ z=>z.mono (.of_same s0),g,λl0 ns H2 hn hp hl0 nl0 s1=>⟨l0,rfl,⟨_,cq.of hl0⟩,?_⟩⟩
 have nlen:ns.length<=64:=by
  have:=fM (n:=rs.length) (l:=ns) (hp.imp λz=>aV z) λx hx=>eI g ((hn x).mp hx)
  have:=g.few
  lia
 refine gQ (xs:=aU ns) (λi σ' H'=>∃(o2 o3:Option V),σ'=[some (.ref rt),some (.ref d),o2,o3]/\xU H l0 d rs ns H' i 0 (100*i) []) ⟨_,_,rfl,⟨[],[],[],⟨s1 _ _ hd0,fX,fX,rfl,rfl,λj l v e=>by simp at e⟩,⟨fX,rfl,λy=>by simp,λj y ps e=>by simp at e⟩,cf _,λl m=>by(cases m)⟩,s0.trans s1,hl0⟩ ?_ ?_ ?_
 ·rintro i σ' H' _ ⟨o2,o3,_,R⟩
  exact cq.of R.l0
 ·rintro i x σ' H' hx ⟨o2,o3,rfl,R⟩
  obtain⟨n,hni,rfl⟩:=mj hx
  have ilt:i<ns.length:=(af.mp hni).1
  have nlt:=eI g ((hn n).mp (az hni))
  obtain⟨v,r,ev,er,ra⟩:=hA.get nlt
  have r100:=hr100 r (az er)
  have S':=R.sm
  show zy K _ [some (.ref rt),some (.ref d),some (.int (n:Nat)),o3] H'
  refine .inr ⟨_,rfl,_,rfl,dE (S' _ _ hrt) (by lia) (show rvs[((n:Nat):Int).toNat]?=some v by simpa using ev) ⟨v,r,rfl,ra.mono (.of_same S'),λp H4 hp4 s4=>⟨p,rfl,⟨_,dC.of hp4⟩,?_⟩⟩⟩
  have R4:=R.same s4
  refine mi (xs:=(d8 r).map V.str) (λe σ' H'=>∃(o3:Option V),σ'=[some (.ref rt),some (.ref d),some (.int (n:Nat)),o3]/\xU H l0 d rs ns H' i n (100*i+e) ((d8 r).take e)/\H' p=some (.tup ((d8 r).map V.str))) ⟨_,rfl,?_,hp4⟩ ?_ ?_ ?_
  ·obtain⟨ys,ls,pss,a,b,c⟩:=R4.ex
   refine⟨⟨ys,ls,pss,a,⟨b.nd,b.len,b.all,λj y ps e1 e2=>?_⟩,c⟩,R4.sm,R4.l0⟩
   obtain⟨h1,h2⟩:=b.at_ j y ps e1 e2
   refine⟨λx=>?_,h2⟩
   rw[h1 x]
   simp
  ·rintro e σ' H' _ ⟨_,_,_,hp'⟩
   exact dC.of hp'
  ·rintro e x σ' H5 hx ⟨o5,rfl,R5,hp5⟩
   obtain⟨y,hye,rfl⟩:=mG hx
   have elt:e<(d8 r).length:=(af.mp hye).1
   obtain⟨ys,ls,pss,dl,rd,yl,hls⟩:=R5.ex
   have tk:(d8 r).take (e+1)=(d8 r).take e++[y]:=by rw[cL,hye];rfl
   refine⟨_,rfl,d,rfl,.inl ⟨_,.inl dl.at_⟩,_,rfl,(by show 0<=sizeLine;decide),λl nl=>?_⟩
   have s6:aT H5 (upd H5 l (.lst [])):=(aT.refl H5).new nl
   have hl6:upd H5 l (.lst []) l=some (.lst []):=ag
   have l0l:l≠l0:=λz=>by rw[z,R5.l0] at nl;cases nl
   have Hl:H l=none:=by
    cases ee:H l with
    |none=>rfl
    |some u=>rw[R5.sm _ _ ee] at nl;cases nl
   have nlls:l∉ls:=λm=>by
    obtain⟨j,hj⟩:=cO.mp m
    have jl:j<(pss.map aU).length:=by rw[dl.l2,<-dl.l1];exact(af.mp hj).1
    rw[dl.vs j l _ hj (aa jl)] at nl;cases nl
   generalize upd H5 l (.lst [])=H6 at s6 hl6 ⊢
   have dl6:=dl.same s6
   refine⟨_,Sum.inr y,dl6.at_,rfl,cF (by rw[fo,ae,ae];have:=Nat.min_le_left ys.length ls.length;lia),?_⟩
   by_cases c:y∈ys
   ·obtain⟨j,hj⟩:=cO.mp c
    obtain⟨lj,v6,el,ev6,hlj,hval⟩:=dl6.get (j:=j) (k:=Sum.inr y) (by rw[aD,hj];rfl)
    obtain⟨ps,eps,hps⟩:∃ps,pss[j]?=some ps/\v6=aU ps:=by
     rw[aD] at ev6
     cases ee:pss[j]? with
     |none=>rw[ee] at ev6;cases ev6
     |some ps=>rw[ee] at ev6;exact⟨ps,rfl,(Option.some.inj ev6).symm⟩
    subst hps
    have bound:=(rd.at_ j _ ps hj eps).2
    refine⟨λw hw=>?_,λz=>by rw[hval] at z;cases z⟩
    rw[hval] at hw;cases hw
    refine⟨.inl ⟨rfl,_,cq.of hlj⟩,_,rfl,lj,_,_,rfl,rfl,hlj,cF (by rw[bV];lia),_,rfl,?_,?_⟩
    ·have ljls:=az el
     refine⟨⟨ys,ls,pss.set j (ps++[n]),?_,by rw[tk];exact rd.old hj eps,by lia,hls⟩,?_,?_⟩
     ·have:=dl6.app el ev6 (.int (n:Nat))
      rw[nW] at this ⊢
      rw[<-pS]
      exact this
     ·exact λb u ee=>by rw[ax (ak ee (hls lj ljls).1)];exact s6 _ _ (R5.sm b u ee)
     ·rw[ax (Ne.symm (hls lj ljls).2)];exact s6 _ _ R5.l0
    ·rw[ax (iL (s6 _ _ hp5) hlj (by intro z;cases z))];exact s6 _ _ hp5
   ·have nk:(Sum.inr y:dS)∉ys.map Sum.inr:=λm=>by
     obtain⟨y',m',e'⟩:=cQ.mp m
     injection e' with e'
     exact c (by rw[<-e'];exact m')
    obtain⟨hval,dl7⟩:=dl6.add nk hl6 nlls
    refine⟨λw hw=>by rw[hval] at hw;(cases hw),λ_=>?_⟩
    have el:(ls++[l])[ls.length]?=some l:=by rw[bh (aB _),eK];rfl
    have lv:(pss.map aU).length=ls.length:=by rw[dl.l2,dl.l1]
    have ev:(pss.map aU++[[]])[ls.length]?=some []:=by rw[bh (by lia),lv,eK];rfl
    have dlt:d≠l:=iL dl6.at_ hl6 (by intro z;cases z)
    have hl7:=dl7.vs ls.length l [] el ev
    have s7:∀b u,b≠d->H6 b=some u->upd H6 d (.dK (iF ((ys.map Sum.inr).zip (ls.map V.ref)) (Sum.inr y) (.ref l))) b=some u:=λb u nb ee=>by rw[ax nb];exact ee
    generalize upd H6 d (.dK (iF ((ys.map Sum.inr).zip (ls.map V.ref)) (Sum.inr y) (.ref l)))=H7 at dl7 hl7 s7 ⊢
    refine⟨.inl ⟨rfl,_,cq.of hl7⟩,_,rfl,l,_,_,rfl,rfl,hl7,(by show 0<sizeLine;decide),_,rfl,?_,?_⟩
    ·refine⟨⟨ys++[y],ls++[l],pss++[[n]],?_,by rw[tk];exact rd.new c,by rw[ay,bo];lia,λl' m=>?_⟩,?_,?_⟩
     ·have:=dl7.app el ev (.int (n:Nat))
      rw[aL,aL]
      have es:(pss.map aU++[[]]).set ls.length ([]++[V.int (n:Nat)])=pss.map aU++[[n]].map aU:=by
       rw[List.set_append_right _ _ (by lia),lv,eK];rfl
      rw[es] at this
      exact this
     ·rcases aE.mp m with z|z
      ·exact hls l' z
      ·rw[ai.mp z];exact⟨Hl,l0l⟩
     ·exact λb u ee=>by
       have bd:b≠d:=ak ee nd
       rw[ax (ak ee Hl)]
       exact s7 b u bd (s6 _ _ (R5.sm b u ee))
     ·rw[ax (Ne.symm l0l)]
      exact s7 l0 _ (iL (s6 _ _ R5.l0) dl6.at_ (by intro z;cases z)) (s6 _ _ R5.l0)
    ·have hp6:=s6 _ _ hp5
     have hp7:=s7 p _ (iL hp6 dl6.at_ (by intro z;cases z)) hp6
     rw[ax (iL hp7 hl7 (by intro z;cases z))];exact hp7
  ·rintro σ' H5 ⟨o5,rfl,R5,_⟩
   obtain⟨ys,ls,pss,dl,rd,yl,hls⟩:=R5.ex
   rw[ae,bH] at rd
   rw[ae] at yl
   exact⟨_,_,rfl,⟨ys,ls,pss,dl,rd.next hni er (by lia) 0,by lia,hls⟩,R5.sm,R5.l0⟩
 ·rintro σ' H4 ⟨o2,o3,rfl,R⟩
  obtain⟨ys,ls,pss,dl,rd,yl,hls⟩:=R.ex
  rw[bV] at rd
  exact⟨_,rfl,q d ys ls pss H4 dl (rd.done hn (by lia)) nd (λl m=>(hls l m).1) R.sm⟩
structure GQ(rs:List aZ)(y:Str)(P W:List Nat):Prop where
 nd:P.Nodup
 sound:∀x,x∈P\/x∈W->cV rs x/\zX rs y x
 seeds:∀x,cV rs x->GY rs x y->x∈P\/x∈W
 closed:∀n∈P,∀m r,cV rs m->Cz rs m n->rs[m]?=some r->gv r≠.str y->m∈P\/m∈W
theorem GQ.done{rs:List aZ}{y:Str}{P:List Nat}(g:cB rs)(h:GQ rs y P []):∀x,x∈P↔cV rs x/\zX rs y x:=by
 have back:∀x,zX rs y x->cV rs x->x∈P:=by
  intro x w
  induction w with
  |@here n r hr hy=>
   intro s
   rcases h.seeds n s ⟨r,hr,hy⟩ with z|z
   ·exact z
   ·cases z
  |@on n t r hr hs he _ ih=>
   intro s
   have ht:=ih (pe g s he)
   rcases h.closed t ht n r s he hr hs with z|z
   ·exact z
   ·cases z
 exact λx=>⟨λz=>h.sound x (.inl z),λ⟨s,w⟩=>back x w s⟩
theorem GQ.skip{rs:List aZ}{y:Str}{P W:List Nat}{n:Nat}(h:GQ rs y P (W++[n]))(hn:n∈P):GQ rs y P W:=by
 have key:∀x,x∈P\/x∈W++[n]->x∈P\/x∈W:=λx z=>by
  rcases z with z|z
  ·exact .inl z
  ·rcases aE.mp z with z|z
   ·exact .inr z
   ·rw[ai.mp z];exact .inl hn
 exact⟨h.nd,λx z=>h.sound x (z.imp id λz=>bt _ z),λx a b=>key x (h.seeds x a b),λn' a m r b c d e=>key m (h.closed n' a m r b c d e)⟩
theorem GQ.take{rs:List aZ}{y:Str}{P W qs:List Nat}{n:Nat}(h:GQ rs y P (W++[n]))(hn:n∉P)(hq:∀m,m∈qs↔cV rs m/\Cz rs m n/\∃r,rs[m]?=some r/\gv r≠.str y):GQ rs y (P++[n]) (W++qs):=by
 have sn:=h.sound n (.inr (aS _ aP))
 have key:∀x,x∈P\/x∈W++[n]->x∈P++[n]\/x∈W++qs:=λx z=>by
  rcases z with z|z
  ·exact .inl (bt _ z)
  ·rcases aE.mp z with z|z
   ·exact .inr (bt _ z)
   ·exact .inl (aS _ z)
 refine⟨pT h.nd hn,λx z=>?_,λx a b=>key x (h.seeds x a b),λn' a m r b c d e=>?_⟩
 ·rcases z with z|z
  ·rcases aE.mp z with z|z
   ·exact h.sound x (.inl z)
   ·rw[ai.mp z];exact sn
  ·rcases aE.mp z with z|z
   ·exact h.sound x (.inr (bt _ z))
   ·obtain⟨a,b,r,c,d⟩:=(hq x).mp z
    exact⟨a,.on c d b sn.2⟩
 ·rcases aE.mp a with z|z
  ·exact key m (h.closed n' z m r b c d e)
  ·rw[ai.mp z] at c
   exact .inr (aS _ ((hq m).mpr ⟨b,c,r,d,e⟩))
def mN(rs:List aZ)(y:Str)(m:Nat):Bool:=match rs[m]? with
 |some r=>!decide (gv r=.str y)
 |none=>false
theorem DO(r:aZ)(y:Str):KS (gv r) (.str y)=true:=by cases r<;>rfl
theorem Dc(F:List Nat):(dz F).map (λkv=>kV kv.1)=aU F:=by
 unfold dz aU
 rw[cP];rfl
theorem KO{K:Fg}{vs:List V}{H:Hp}{Q:VK}{E:XK}(h:mD K vs H Q E):GD K {nx:=λ_ H'=>Q .non H',rt:=Q} (di wF vs) H:=by
 obtain⟨rt,d,rl,y,rvs,rs,ns,ls,pss,ps,rfl,hrt,hA,g,hn,hp,dl,ah,hrl,hps,psl,q⟩:=h
 have nlen:ns.length<=64:=by
  have:=fM (n:=rs.length) (l:=ns) (hp.imp λz=>aV z) λx hx=>eI g ((hn x).mp hx)
  have:=g.few
  lia
 refine λpd npd=>?_
 have s0:aT H (upd H pd (.dK [])):=(aT.refl H).new npd
 have hpd:upd H pd (.dK []) pd=some (.dK (dz [])):=ag
 show zE K _ [some (.ref rt),some (.ref d),some (.ref rl),some (.str y),some (.ref pd),none,none] (upd H pd (.dK []))
 generalize upd H pd (.dK [])=H1 at s0 hpd ⊢
 refine⟨_,rfl,rl,_,rfl,.inl (cq.of (s0 _ _ hrl)),λwl nwl=>?_⟩
 have s1:aT H1 (upd H1 wl (.lst (aU ps))):=(aT.refl H1).new nwl
 have hwl:upd H1 wl (.lst (aU ps)) wl=some (.lst (aU ps)):=ag
 have Hwl:H wl=none:=by
  cases ee:H wl with
  |none=>rfl
  |some u=>rw[s0 _ _ ee] at nwl;cases nwl
 have npw:pd≠wl:=ak hpd nwl
 show zD K _ [some (.ref rt),some (.ref d),some (.ref rl),some (.str y),some (.ref pd),some (.ref wl),none] (upd H1 wl (.lst (aU ps)))
 have hpd2:=s1 _ _ hpd
 have S0:=s0.trans s1
 generalize upd H1 wl (.lst (aU ps))=H2 at s1 hwl hpd2 S0 ⊢
 refine⟨λu σ' H'=>∃(P W:List Nat) (o:Option V),u=(65-P.length)*200+W.length/\σ'=[some (.ref rt),some (.ref d),some (.ref rl),some (.str y),some (.ref pd),some (.ref wl),o]/\GQ rs y P W/\W.length<=6400+128*P.length/\H' pd=some (.dK (dz P))/\H' wl=some (.lst (aU W))/\aT H H',⟨_,[],ps,_,rfl,rfl,⟨fX,λx z=>?_,λx a b=>.inr ((hps x).mpr ⟨a,b⟩),λn z=>by(cases z)⟩,by lia,hpd2,hwl,S0⟩,?_⟩
 ·rcases z with z|z
  ·cases z
  ·obtain⟨a,r,b,c⟩:=(hps x).mp z
   exact⟨a,.here b c⟩
 rintro u σ' H' ⟨P,W,o,rfl,rfl,I,wb,hpd',hwl',S'⟩
 have Pb:∀(P':List Nat),P'.Nodup->(∀x∈P',cV rs x)->P'.length<=64:=λP' a b=>by
  have:=fM (n:=rs.length) a λx hx=>eI g (b x hx)
  have:=g.few
  lia
 have pl:=Pb P I.nd λx hx=>(I.sound x (.inl hx)).1
 refine⟨_,rfl,_,_,rfl,.inl ⟨_,cq.of hwl',rfl⟩,_,_,rfl,rfl,_,rfl,cA (λhw=>?_) λhw=>?_⟩
 ·rw[bV] at hw
  obtain⟨W',n,rfl⟩:∃W' n,W=W'++[n]:=by
   rcases List.eq_nil_or_concat W with z|⟨a,b,z⟩
   ·rw[z] at hw;simp at hw
   ·exact⟨a,b,by rw[z,List.concat_eq_append]⟩
  have wl1:(W'++[n]).length=W'.length+1:=by rw[ay];rfl
  have stn:=I.sound n (.inr (aS _ aP))
  refine⟨λσ2 H3=>∃(P2 W2:List Nat) (o:Option V),(65-P2.length)*200+W2.length<(65-P.length)*200+(W'++[n]).length/\σ2=[some (.ref rt),some (.ref d),some (.ref rl),some (.str y),some (.ref pd),some (.ref wl),o]/\GQ rs y P2 W2/\W2.length<=6400+128*P2.length/\H3 pd=some (.dK (dz P2))/\H3 wl=some (.lst (aU W2))/\aT H H3,?_,?_⟩
  ·rintro σ2 H3 ⟨P2,W2,o2,lt,e,r⟩
   exact⟨_,lt,P2,W2,o2,rfl,e,r⟩
  ·refine⟨_,rfl,.inl ⟨rfl,_,cq.of hwl'⟩,wl,_,.int (n:Nat),rfl,rfl,hwl',?_,?_⟩
   ·rw[bV,wl1,Nat.add_sub_cancel]
    exact vK (by rw[bh (aB _),eK];rfl)
   have ed:(aU (W'++[n])).dropLast=aU W':=by rw[<-nW,List.dropLast_concat]
   rw[ed]
   have h3p:upd H' wl (.lst (aU W')) pd=some (.dK (dz P)):=by rw[ax npw];exact hpd'
   have h3w:upd H' wl (.lst (aU W')) wl=some (.lst (aU W')):=ag
   have S3:aT H (upd H' wl (.lst (aU W'))):=λb u e=>by rw[ax (ak e Hwl)];exact S' b u e
   show zC K _ [some (.ref rt),some (.ref d),some (.ref rl),some (.str y),some (.ref pd),some (.ref wl),some (.int (n:Nat))] (upd H' wl (.lst (aU W')))
   generalize upd H' wl (.lst (aU W'))=H3 at h3p h3w S3 ⊢
   refine⟨_,rfl,_,rfl,pd,_,rfl,ng.k (k:=Sum.inl (n:Int)) h3p,_,rfl,?_⟩
   show if(!(gM (dz P) (Sum.inl (n:Int))).isSome)=true then _ else _
   rw[GK]
   refine fR (λhin=>?_) (λhin=>?_)
   ·have pl2:=Pb (P++[n]) (pT I.nd hin) λx hx=>by
     rcases aE.mp hx with z|z
     ·exact(I.sound x (.inl z)).1
     ·rw[ai.mp z];exact stn.1
    have pl3:(P++[n]).length=P.length+1:=by rw[ay];rfl
    refine⟨_,rfl,_,rfl,pd,_,rfl,xR.k (k:=Sum.inl (n:Int)) h3p (cF (by rw[yt];lia)),?_⟩
    rw[Bg.putF hin]
    have h4p:upd H3 pd (.dK (dz (P++[n]))) pd=some (.dK (dz (P++[n]))):=ag
    have h4w:upd H3 pd (.dK (dz (P++[n]))) wl=some (.lst (aU W')):=by rw[ax (Ne.symm npw)];exact h3w
    have S4:aT H (upd H3 pd (.dK (dz (P++[n])))):=λb u e=>by rw[ax (ak e npd)];exact S3 b u e
    generalize upd H3 pd (.dK (dz (P++[n])))=H4 at h4p h4w S4 ⊢
    have dl4:=dl.same S4
    obtain⟨j,hj⟩:=cO.mp ((hn n).mpr stn.1)
    obtain⟨l,v5,el,ev5,hl5,hval⟩:=dl4.get (j:=j) (k:=nk n) (by rw[aD,hj];rfl)
    obtain⟨qs,eqs,hqs⟩:∃qs,pss[j]?=some qs/\v5=aU qs:=by
     rw[aD] at ev5
     cases ee:pss[j]? with
     |none=>rw[ee] at ev5;cases ev5
     |some qs=>rw[ee] at ev5;exact⟨qs,rfl,(Option.some.inj ev5).symm⟩
    subst hqs
    obtain⟨aq,lq⟩:=ah.at_ j n qs hj eqs
    have gg:=ng.k (k:=nk n) dl4.at_
    rw[hval] at gg
    show zB K _ [some (.ref rt),some (.ref d),some (.ref rl),some (.str y),some (.ref pd),some (.ref wl),some (.int (n:Nat))] H4
    refine⟨_,rfl,.inl ⟨rfl,_,cq.of h4w⟩,.inl ⟨_,rfl,_,rfl,d,.ref l,rfl,gg,l,rfl,⟨_,cq.of hl5⟩,λD nD=>?_⟩⟩
    refine iK (xs:=aU qs) (λi σ' H'=>∃(o7:Option V),σ'=[some (.ref rt),some (.ref d),some (.ref rl),some (.str y),some (.ref pd),some (.ref wl),some (.int (n:Nat)),o7]/\H' D=some (.lst (aU ((qs.take i).filter (mN rs y))))/\aT H4 H') ?_ ?_ ?_ ?_
    ·exact⟨none,rfl,ag,(aT.refl H4).new nD⟩
    ·rintro i σ' H5 _ ⟨o7,_,_,s5⟩
     exact cq.of (s5 _ _ hl5)
    ·rintro i x σ' H5 hx ⟨o7,rfl,hD,s5⟩
     obtain⟨m,hmi,rfl⟩:=mj hx
     have stm:=((aq m).mp (az hmi)).1
     obtain⟨v,r,ev,er,ra⟩:=hA.get (eI g stm)
     have S5:=S4.trans s5
     have fl:((qs.take i).filter (mN rs y)).length<=qs.length:=bx (cD _ _) (by rw[bg];exact jb _ _)
     refine⟨_,rfl,_,rfl,dE (S5 _ _ hrt) (by lia) (show rvs[((m:Nat):Int).toNat]?=some v by simpa using ev) ⟨v,r,rfl,ra.mono (.of_same S5),λH6 s6=>⟨_,rfl,.inl ⟨DO r y,_,rfl,?_⟩⟩⟩⟩
     have ns':mN rs y m=!decide (gv r=.str y):=by unfold mN;rw[er]
     have tk:(qs.take (i+1)).filter (mN rs y)=(qs.take i).filter (mN rs y)++if mN rs y m=true then[m] else[]:=by
      rw[cL,hmi,kh]
      congr 1
      show[m].filter _=_
      rw[List.filter_cons]
      split<;>simp_all
     refine fR (λhs=>?_) (λhs=>?_)
     ·rw[decide_eq_false hs] at ns'
      refine⟨_,rfl,_,s6 _ _ hD,cF (by rw[bV];lia),_,rfl,?_,?_⟩
      ·rw[ag,tk,ns',nW];rfl
      ·exact λb u e=>by rw[ax (ak e nD)];exact s6 _ _ (s5 b u e)
     ·rw[decide_eq_true hs] at ns'
      refine⟨_,rfl,?_,s5.trans s6⟩
      rw[tk,ns']
      simpa using s6 _ _ hD
    ·rintro σ' H5 ⟨o7,_,hD,s5⟩
     rw[bV,bH] at hD
     have fl:(qs.filter (mN rs y)).length<=qs.length:=cD _ _
     have nDw:D≠wl:=λz=>by rw[z,h4w] at nD;cases nD
     refine⟨wl,D,_,_,rfl,rfl,s5 _ _ h4w,hD,dW (cF (by rw[bV,bV];lia)),?_⟩
     have ea:aU W'++aU (qs.filter (mN rs y))=aU (W'++qs.filter (mN rs y)):=by unfold aU;rw[aL]
     rw[ea]
     refine⟨P++[n],W'++qs.filter (mN rs y),_,by rw[pl3,wl1,ay];lia,rfl,I.take hin λm=>?_,by rw[pl3,ay];lia,by rw[ax npw];exact s5 _ _ h4p,ag,λb u e=>by rw[ax (ak e Hwl)];exact s5 _ _ (S4 b u e)⟩
     rw[eg,aq m]
     unfold mN
     constructor
     ·rintro⟨⟨a,b⟩,c⟩
      refine⟨a,b,?_⟩
      cases ee:rs[m]? with
      |none=>rw[ee] at c;cases c
      |some r=>rw[ee] at c;exact⟨r,rfl,by simpa using c⟩
     ·rintro⟨a,b,r,c,d⟩
      refine⟨⟨a,b⟩,?_⟩
      rw[c]
      simpa using d
   ·exact⟨P,W',_,by lia,rfl,I.skip hin,by lia,h3p,h3w,S3⟩
 ·have w0:W=[]:=by
   rw[bV] at hw
   exact dv.mp (by lia)
  subst w0
  refine⟨_,rfl,pd,_,rfl,.inl hpd',λl nl=>?_⟩
  have Hl:H l=none:=by
   cases ee:H l with
   |none=>rfl
   |some u=>rw[S' _ _ ee] at nl;cases nl
  rw[Dc]
  exact q l P _ (I.done g) I.nd ag Hl (S'.trans ((aT.refl H').new nl))
theorem CI{js:List Nat}{k:Nat}{d:Addr}{kvs:List (dS×V)}{o:Obj}{g:TG}{tc:TT}{te:TE}{R:Hp->Prop}{σ:St}{H:Hp}{D:Addr}(Pv:Nat->St->Hp->Prop)(h0:Pv 0 (xP js k σ) (upd H D (.lst [])))(hl:∀i σ H,i<=kvs.length->Pv i σ H->H d=some (.frz o (.dK kvs)))
  (hs:∀i kk v σ H,kvs[i]?=some (kk,v)->Pv i σ H->g (kV kk) σ H λσ2 H2=>p0 D tc te {nx:=Pv (i+1),rt:=λ_ _=>False,ct:=Pv (i+1),bk:=λ_ H'=>R H'} σ2 H2) (hd:∀σ H,Pv kvs.length σ H->R H) :
  ∃W:Nat->Nat->St->Hp->Prop,(∃m,W 0 m (xP js k σ) (upd H D (.lst [])))/\∀i m σ H,W i m σ H->
   ((Lh d kvs o).stop i H/\R H)\/((Lh d kvs o).go i H/\∃N:St->Hp->Prop,(∀σ' H',N σ' H'->∃m',m'<m/\W (i+1) m' σ' H')/\∀x H',(Lh d kvs o).yld i H x H'->g x σ H' λσ2 H2=>p0 D tc te {nx:=N,rt:=λ_ _=>False,ct:=N,bk:=λ_ H'=>R H'} σ2 H2):=by
 refine⟨λi m σ H=>m=kvs.length-i/\i<=kvs.length/\Pv i σ H,⟨kvs.length,by simp,cf _,h0⟩,?_⟩
 rintro i m σ H ⟨rfl,hi,p⟩
 have q:=hl i σ H hi p
 by_cases c:i<kvs.length
 ·refine .inr ⟨⟨q,c⟩,Pv (i+1),λσ' H' p'=>⟨kvs.length-(i+1),by omega,rfl,c,p'⟩,?_⟩
  rintro x H' ⟨rfl,kk,v,e,rfl⟩
  exact hs i kk v σ _ e p
 ·have:i=kvs.length:=by omega
  subst this
  exact .inl ⟨⟨q,aB _⟩,hd σ H p⟩
theorem z9{js:List Nat}{k:Nat}{d:Addr}{kvs:List (dS×V)}{o:Obj}{g:TG}{tc:TT}{te:TE}{R:Hp->Prop}{σ:St}{H:Hp}{D:Addr}(Pv:Nat->St->Hp->Prop)(h0:Pv 0 (xP js k σ) (upd H D (.lst [])))(hl:∀i σ H,i<=kvs.length->Pv i σ H->H d=some (.frz o (.dK kvs)))
  (hs:∀i kk v p σ H,kvs[i]?=some (kk,v)->H p=none->Pv i σ H->g (.ref p) σ (upd H p (.tup [kV kk,v])) λσ2 H2=>p0 D tc te {nx:=Pv (i+1),rt:=λ_ _=>False,ct:=Pv (i+1),bk:=λ_ H'=>R H'} σ2 H2) (hd:∀σ H,Pv kvs.length σ H->R H) :
  ∃W:Nat->Nat->St->Hp->Prop,(∃m,W 0 m (xP js k σ) (upd H D (.lst [])))/\∀i m σ H,W i m σ H->
   ((Lg d kvs o).stop i H/\R H)\/((Lg d kvs o).go i H/\∃N:St->Hp->Prop,(∀σ' H',N σ' H'->∃m',m'<m/\W (i+1) m' σ' H')/\∀x H',(Lg d kvs o).yld i H x H'->g x σ H' λσ2 H2=>p0 D tc te {nx:=N,rt:=λ_ _=>False,ct:=N,bk:=λ_ H'=>R H'} σ2 H2):=by
 refine⟨λi m σ H=>m=kvs.length-i/\i<=kvs.length/\Pv i σ H,⟨kvs.length,by simp,cf _,h0⟩,?_⟩
 rintro i m σ H ⟨rfl,hi,p⟩
 have q:=hl i σ H hi p
 by_cases c:i<kvs.length
 ·refine .inr ⟨⟨q,c⟩,Pv (i+1),λσ' H' p'=>⟨kvs.length-(i+1),by omega,rfl,c,p'⟩,?_⟩
  rintro x H' ⟨pp,kk,v,e1,rfl,rfl,e2⟩
  exact hs i kk v pp σ _ e2 e1 p
 ·have:i=kvs.length:=by omega
  subst this
  exact .inl ⟨⟨q,aB _⟩,hd σ H p⟩
theorem Bs.thaw{H2 H:Hp}{D d:Addr}{o:Obj}{kvs:List (dS×V)}{ks:List dS}{ts ls:List Addr}(p:Bs (upd H2 d (.frz o (.dK kvs))) H D ks ts ls)(e:H2 d=some (.dK kvs))(nD:D≠d)(hf:H d=some (.frz o (.dK kvs))):Bs H2 (upd H d (.dK kvs)) D ks ts ls:=by
 refine⟨by rw[ax nD];exact p.at_,p.l1,p.l2,p.ln,λj t k l e1 e2 e3=>?_,λl m=>?_,λb u nb eb=>?_⟩
 ·have:=p.pr j t k l e1 e2 e3
  rw[ax (iL this hf (by intro z;cases z))];exact this
 ·obtain⟨a,b,c⟩:=p.em l m
  have ld:l≠d:=iL a hf (by intro z;cases z)
  rw[ax ld] at c ⊢
  exact⟨a,b,c⟩
 ·by_cases c:b=d
  ·subst c
   rw[e] at eb;cases eb
   exact ag
  ·rw[ax c]
   exact p.sm b u nb (by rw[ax c];exact eb)
theorem zQ{rs:List aZ}(g:cB rs){y:Str}{n:Nat}(w:zX rs y n):cV rs n->∃x,cV rs x/\GY rs x y:=by
 induction w with
 |@here n r hr h=>exact λs=>⟨n,s,r,hr,h⟩
 |@on n t r hr hs he _ ih=>exact λs=>ih (pe g s he)
theorem JZ{l:List Str}:∀{zs:List Str},l.Nodup->(∀y∈l,y∈zs)->l.length<=zs.length:=by
 induction l with
 |nil=>intro zs _ _;exact cf _
 |cons a r ih=>
  intro zs nd h
  obtain⟨na,nr⟩:=cK.mp nd
  have ha:a∈zs:=h a aP
  have:=ih (zs:=zs.erase a) nr λy hy=>(List.mem_erase_of_ne (λz=>na (by rw[<-z];exact hy))).mpr (h y (bu _ hy))
  rw[ij ha] at this
  have:0<zs.length:=List.length_pos_of_mem ha
  simp only[bG]
  omega
structure G1(rs:List aZ)(ns:List Nat)(ss:List Str)(wss:List (List Str))(i:Nat)(y:Str)(qs:List Nat):Prop where
 len:wss.length=ns.length
 at_:∀(j n:Nat) ws,ns[j]?=some n->wss[j]?=some ws->∃w0,w0.Sublist (ss.take i)/\(∀z,z∈w0↔z∈ss.take i/\zX rs z n)/\((n∈qs/\ws=w0++[y])\/(n∉qs/\ws=w0))
theorem G1.add{rs:List aZ}{ns:List Nat}{ss:List Str}{wss:List (List Str)}{i:Nat}{y:Str}{qs:List Nat}(h:G1 rs ns ss wss i y qs)(nd:ns.Nodup){n j:Nat}{ws:List Str}(hj:ns[j]?=some n)(hw:wss[j]?=some ws)(hn:n∉qs):G1 rs ns ss (wss.set j (ws++[y])) i y (qs++[n]):=by
 refine⟨by rw[cY];exact h.len,λj' n' ws' e1 e2=>?_⟩
 by_cases c:j'=j
 ·subst c
  rw[hj] at e1;cases e1
  rw[bj (af.mp hw).1] at e2
  cases e2
  obtain⟨w0,a,b,d|d⟩:=h.at_ j' n ws hj hw
  ·exact absurd d.1 hn
  ·exact⟨w0,a,b,.inl ⟨aS _ aP,by rw[d.2]⟩⟩
 ·rw[bJ (Ne.symm c)] at e2
  obtain⟨w0,a,b,d⟩:=h.at_ j' n' ws' e1 e2
  have ne:n'≠n:=λz=>by
   subst z
   obtain⟨a1,a2⟩:=af.mp e1
   obtain⟨b1,b2⟩:=af.mp hj
   exact c ((fU nd).mp (a2.trans b2.symm))
  refine⟨w0,a,b,d.imp (λz=>⟨bt _ z.1,z.2⟩) λz=>⟨λm=>?_,z.2⟩⟩
  rcases aE.mp m with z'|z'
  ·exact z.1 z'
  ·exact ne (ai.mp z')
theorem G1.next{rs:List aZ}{ns:List Nat}{ss:List Str}{wss:List (List Str)}{i:Nat}{y y':Str}{qs:List Nat}(h:G1 rs ns ss wss i y qs)(hs:∀n∈ns,cV rs n)(hy:ss[i]?=some y)(hq:∀x,x∈qs↔cV rs x/\zX rs y x):G1 rs ns ss wss (i+1) y' []:=by
 have tk:ss.take (i+1)=ss.take i++[y]:=by rw[cL,hy];rfl
 refine⟨h.len,λj n ws e1 e2=>?_⟩
 have sn:=hs n (az e1)
 obtain⟨w0,a,b,⟨c,rfl⟩|⟨c,rfl⟩⟩:=h.at_ j n ws e1 e2
 ·refine⟨w0++[y],by rw[tk];exact a.append (List.Sublist.refl _),λz=>?_,.inr ⟨by simp,rfl⟩⟩
  rw[tk,aE,aE,b z,ai]
  constructor
  ·rintro(z1|rfl)
   ·exact⟨.inl z1.1,z1.2⟩
   ·exact⟨.inr rfl,((hq n).mp c).2⟩
  ·rintro⟨z1|z1,z2⟩
   ·exact .inl ⟨z1,z2⟩
   ·exact .inr z1
 ·refine⟨ws,by rw[tk];exact a.trans (List.sublist_append_left _ _),λz=>?_,.inr ⟨by simp,rfl⟩⟩
  rw[tk,aE,b z,ai]
  constructor
  ·exact λz1=>⟨.inl z1.1,z1.2⟩
  ·rintro⟨z1|rfl,z2⟩
   ·exact⟨z1,z2⟩
   ·exact absurd ((hq n).mpr ⟨sn,z2⟩) c
theorem G1.done{rs:List aZ}(g:cB rs){ns:List Nat}{ss ys:List Str}{wss:List (List Str)}{pss:List (List Nat)}{y:Str}(hs:∀n∈ns,cV rs n)(h:G1 rs ns ss wss ss.length y [])(rd:wI rs ys pss)(pm:ss.Perm ys)(srt:PyProof.Rows.sortedS ss=true):Jv rs ns wss ss:=by
 refine⟨srt,pm.symm.nodup rd.nd,h.len,λj n ws e1 e2=>?_⟩
 have sn:=hs n (az e1)
 obtain⟨w0,a,b,⟨c,_⟩|⟨_,rfl⟩⟩:=h.at_ j n ws e1 e2
 ·cases c
 ·rw[bH] at a b
  refine⟨a,λz=>?_⟩
  rw[b z]
  exact⟨λq=>q.2,λq=>⟨pm.mem_iff.mpr ((rd.all z).mpr (zQ g q sn)),q⟩⟩
def i9(ws:List Str):List V:=ws.map V.str
theorem DP(ws:List Str)(y:Str):i9 ws++[.str y]=i9 (ws++[y]):=by unfold i9;rw[aL];rfl
structure Ee(Hb:Hp)(fd sl:Addr)(fls:List Addr)(rs:List aZ)(ns:List Nat)(ss:List Str)(H':Hp)(i:Nat)(y:Str)(qs:List Nat):Prop where
 ex:∃wss:List (List Str),DL H' fd (ns.map nk) fls (wss.map i9)/\G1 rs ns ss wss i y qs
 sm:aT Hb H'
 sl:H' sl=some (.lst (ss.map V.str))
theorem AX{K:Fg}{vs:List V}{H:Hp}{Q:VK}{E:XK}(h:eV K vs H Q E):uP K {nx:=λ_ H'=>Q .non H',rt:=Q} (di kx vs) H:=by
 obtain⟨rt,rvs,rs,zs,rfl,hrt,hA,g,hr100,hz64,hzs,q⟩:=h
 refine⟨_,rfl,rt,rvs,rs,rfl,hrt,hA,g,λd ns ls pss H1 hn hp dl ah nd nls s1=>?_⟩
 refine⟨_,rfl,rt,rvs,rs,rfl,s1 _ _ hrt,hA.imp λ_ _ z=>z.mono (.of_same s1),g,hr100,λd2 ys Mg pss2 H2 dl2 rd nd2 nls2 s2=>?_⟩
 have S2:=s1.trans s2
 have dl':=dl.same s2
 have nnd:ns.Nodup:=hp.imp λz=>aV z
 have hst:∀n∈ns,cV rs n:=λn m=>(hn n).mp m
 have nlen:ns.length<=64:=by
  have:=fM (n:=rs.length) (l:=ns) nnd λx hx=>eI g (hst x hx)
  have:=g.few
  lia
 have y64:ys.length<64:=by
  have:=JZ (zs:=zs) rd.nd λy hy=>by
   obtain⟨x,sx,r,er,yr⟩:=(rd.all y).mp hy
   exact hzs r (az er) y yr
  lia
 show qA K _ [some (.ref rt),some (.ref d),some (.ref d2),none,none,none] H2
 refine⟨_,rfl,d,_,rfl,dl'.at_,λo D nD=>?_⟩
 have zl:((ns.map nk).zip (ls.map V.ref)).length=ns.length:=by rw[fo,ae,ae,dl'.l1,ae,iT]
 have hf:upd H2 d (.frz o (.dK ((ns.map nk).zip (ls.map V.ref)))) d=some (.frz o (.dK ((ns.map nk).zip (ls.map V.ref)))):=ag
 have Dd:D≠d:=λz=>by rw[z,hf] at nD;cases nD
 refine CI (λi σ' H'=>∃(ts ls':List Addr) (o5:Option V),σ'=[some (.ref rt),some (.ref d),some (.ref d2),none,none,o5]/\Bs (upd H2 d (.frz o (.dK ((ns.map nk).zip (ls.map V.ref))))) H' D ((ns.take i).map nk) ts ls') ?_ ?_ ?_ ?_
 ·exact⟨[],[],none,rfl,Bs.nil nD⟩
 ·rintro i σ' H' _ ⟨ts,ls',o5,_,p⟩
  exact p.sm d _ (Ne.symm Dd) hf
 ·rintro i kk v σ' H' e ⟨ts,ls',o5,rfl,p⟩
  have il:i<ns.length:=by have:=(af.mp e).1;lia
  have ek:kk=nk ns[i]:=by
   rw[aa (by rw[zl];exact il),gX,fV] at e
   exact(congrArg Prod.fst (Option.some.inj e)).symm
  subst ek
  refine jZ ⟨_,rfl,(by show 0<=sizeLine;decide),λl nl=>⟨(by show 2<=sizeLine;decide),λt nt=>?_⟩⟩
  have st:=p.step nD (k:=nk ns[i]) nl nt
  have lD:l≠D:=λz=>by rw[z,p.at_] at nl;cases nl
  have tl:t≠l:=λz=>by rw[z,ag] at nt;cases nt
  have tD:t≠D:=λz=>by rw[z,ax (Ne.symm lD),p.at_] at nt;cases nt
  refine⟨ts.map V.ref,by rw[ax (Ne.symm tD),ax (Ne.symm lD)];exact p.at_,cF (by rw[ae,p.l1,ae,bg];lia),ts++[t],ls'++[l],_,rfl,?_⟩
  rw[cL,aa il,aL]
  exact st
 ·rintro σ' H3 ⟨ts,ls',o5,_,p⟩
  rw[zl,bH] at p
  have hf3:=p.sm d _ (Ne.symm Dd) hf
  refine .inr ⟨d,_,_,o,dl'.at_,hf3,?_⟩
  have p2:=p.thaw dl'.at_ Dd hf3
  have nD2:H2 D=none:=by rw[ax Dd] at nD;exact nD
  show aM _ _ _
  unfold aM
  dsimp only
  refine p2.dict nD2 (uc hp) (by rw[ae];lia) λfd H4 nfd nfls fl s4=>?_
  rw[ae] at fl
  have S4:=S2.trans s4
  show qz K _ [some (.ref rt),some (.ref d),some (.ref d2),some (.ref fd),none,none] H4
  have dl4:=dl'.same s4
  have d24:=dl2.same s4
  have km:(((ys.map Sum.inr).zip (Mg.map V.ref)).map (·.1):List dS)=ys.map Sum.inr:=by
   rw[ja]
   have:=d24.l1
   rw[ae] at this ⊢
   rw[ae]
   lia
  refine .inl ⟨_,rfl,d2,_,ys,rfl,.inl d24.at_,km,y64,λsl ss nsl pm srt=>⟨sl,rfl,⟨_,cq.of ag⟩,?_⟩⟩
  have s5:aT H4 (upd H4 sl (.lst (ss.map V.str))):=(aT.refl H4).new nsl
  have hsl:upd H4 sl (.lst (ss.map V.str)) sl=some (.lst (ss.map V.str)):=ag
  have fslne:∀l∈ls',l≠sl:=λl m z=>by
   obtain⟨j,hj⟩:=cO.mp m
   have jl:j<(aH ns.length ([]:List V)).length:=by rw[fl.l2,<-fl.l1];exact(af.mp hj).1
   have:=fl.vs j l _ hj (aa jl)
   rw[z,nsl] at this;cases this
  have sslen:ss.length<64:=by rw[pm.length_eq];exact y64
  refine gQ (xs:=ss.map V.str) (λi σ' H'=>∃(o4 o5:Option V),σ'=[some (.ref rt),some (.ref d),some (.ref d2),some (.ref fd),o4,o5]/\Ee H2 fd sl ls' rs ns ss H' i "" []) ⟨_,_,rfl,⟨aH ns.length [],?_,⟨bE,λj n ws e1 e2=>?_⟩⟩,s4.trans s5,hsl⟩ ?_ ?_ ?_
  ·rw[ki]
   exact fl.same s5
  ·have hv:ws=[]:=(dM.mp (az e2)).2
   subst hv
   exact⟨[],List.nil_sublist _,λz=>by simp,.inr ⟨by simp,rfl⟩⟩
  ·rintro i σ' H' _ ⟨o4,o5,_,F⟩
   exact cq.of F.sl
  ·rintro i x σ' H' hx ⟨o4,o5,rfl,F⟩
   obtain⟨y,hyi,rfl⟩:=mG hx
   have yin:y∈ys:=pm.mem_iff.mp (az hyi)
   obtain⟨jy,hjy⟩:=cO.mp yin
   have SF:=S2.trans F.sm
   have dF:=dl'.same F.sm
   have d2F:=dl2.same F.sm
   obtain⟨l,v5,el,ev5,hl5,hval⟩:=d2F.get (j:=jy) (k:=Sum.inr y) (by rw[aD,hjy];rfl)
   obtain⟨ps,eps,hps⟩:∃ps,pss2[jy]?=some ps/\v5=aU ps:=by
    rw[aD] at ev5
    cases ee:pss2[jy]? with
    |none=>rw[ee] at ev5;cases ev5
    |some ps=>rw[ee] at ev5;exact⟨ps,rfl,(Option.some.inj ev5).symm⟩
   subst hps
   obtain⟨hpr,pb⟩:=rd.at_ jy y ps hjy eps
   have gg:=ng.k (k:=Sum.inr y) d2F.at_
   rw[hval] at gg
   show qy K _ [some (.ref rt),some (.ref d),some (.ref d2),some (.ref fd),some (.str y),o5] H'
   refine .inl ⟨_,rfl,_,rfl,_,rfl,_,rfl,d2,.ref l,rfl,gg,_,rfl,rt,d,l,y,rvs,rs,ns,ls,pss,ps,rfl,SF _ _ hrt,hA.imp λ_ _ z=>z.mono (.of_same SF),g,hn,hp,dF,ah,hl5,hpr,pb,λwl ws H5 hws wnd hwl nwl s5'=>⟨wl,rfl,⟨_,cq.of hwl⟩,?_⟩⟩
   have F5:Ee H2 fd sl ls' rs ns ss H5 i y []:=by
    obtain⟨wss,a,b⟩:=F.ex
    refine⟨⟨wss,a.same s5',⟨b.len,λj n ws' e1 e2=>?_⟩⟩,F.sm.trans s5',s5' _ _ F.sl⟩
    obtain⟨w0,c1,c2,⟨c3,_⟩|c3⟩:=b.at_ j n ws' e1 e2
    ·cases c3
    ·exact⟨w0,c1,c2,.inr c3⟩
   refine gQ (xs:=aU ws) (λe σ' H'=>∃(o5:Option V),σ'=[some (.ref rt),some (.ref d),some (.ref d2),some (.ref fd),some (.str y),o5]/\Ee H2 fd sl ls' rs ns ss H' i y (ws.take e)/\H' wl=some (.lst (aU ws))) ⟨_,rfl,F5,hwl⟩ ?_ ?_ ?_
   ·rintro e σ' H' _ ⟨_,_,_,hw'⟩
    exact cq.of hw'
   ·rintro e x σ' H6 hx ⟨o6,rfl,F6,hwl6⟩
    obtain⟨n,hne,rfl⟩:=mj hx
    obtain⟨sn,wn⟩:=(hws n).mp (az hne)
    obtain⟨j,hj⟩:=cO.mp ((hn n).mpr sn)
    obtain⟨wss,a,b⟩:=F6.ex
    obtain⟨lj,v6,elj,ev6,hlj,hvj⟩:=a.get (j:=j) (k:=nk n) (by rw[aD,hj];rfl)
    obtain⟨w,ew,hw⟩:∃w,wss[j]?=some w/\v6=i9 w:=by
     rw[aD] at ev6
     cases ee:wss[j]? with
     |none=>rw[ee] at ev6;cases ev6
     |some w=>rw[ee] at ev6;exact⟨w,rfl,(Option.some.inj ev6).symm⟩
    subst hw
    have ljm:=az elj
    have Hlj:H2 lj=none:=nfls lj ljm
    have nin:n∉ws.take e:=λm=>by
     obtain⟨e',he'⟩:=cO.mp m
     have lt:e'<e:=by
      have:=(af.mp he').1
      rw[bg] at this
      lia
     rw[ig lt] at he'
     obtain⟨a1,a2⟩:=af.mp he'
     obtain⟨b1,b2⟩:=af.mp hne
     have:=(fU wnd).mp (a2.trans b2.symm)
     lia
    have wlen:w.length<=64:=by
     obtain⟨w0,c1,_,c3⟩:=b.at_ j n w hj ew
     have l0:w0.length<=ss.length:=bx c1.length_le (by rw[bg];exact jb _ _)
     rcases c3 with⟨c,_⟩|⟨_,rfl⟩
     ·exact absurd c nin
     ·lia
    have gj:=ng.k (k:=nk n) a.at_
    rw[hvj] at gj
    have wlj:wl≠lj:=λz=>by
     have:H' lj=some (.lst (i9 w))\/True:=.inr trivial
     have e1:H' wl=none:=nwl
     have:DL H' fd (ns.map nk) ls' (F.ex.choose.map i9):=F.ex.choose_spec.1
     have jl:j<(F.ex.choose.map i9).length:=by rw[this.l2,<-this.l1];exact(af.mp elj).1
     have:=this.vs j lj _ elj (aa jl)
     rw[<-z,e1] at this;cases this
    refine⟨_,rfl,_,rfl,fd,.ref lj,rfl,gj,.inl ⟨rfl,_,cq.of hlj⟩,_,rfl,lj,_,_,rfl,rfl,hlj,cF (by unfold i9;rw[ae];lia),_,rfl,?_,by rw[ax wlj];exact hwl6⟩
    refine⟨⟨wss.set j (w++[y]),?_,?_⟩,λb' u ee=>by rw[ax (ak ee Hlj)];exact F6.sm b' u ee,by rw[ax (Ne.symm (fslne lj ljm))];exact F6.sl⟩
    ·have:=a.app elj ev6 (.str y)
     rw[DP] at this ⊢
     rw[List.map_set]
     exact this
    ·rw[cL,hne]
     exact b.add nnd hj ew nin
   ·rintro σ' H6 ⟨o6,rfl,F6,_⟩
    obtain⟨wss,a,b⟩:=F6.ex
    rw[bV,bH] at b
    exact⟨_,_,rfl,⟨wss,a,b.next hst hyi hws⟩,F6.sm,F6.sl⟩
  ·rintro σ' H5 ⟨o4,o5,rfl,F⟩
   obtain⟨wss,a,b⟩:=F.ex
   rw[ae] at b
   have wn:=b.done g hst rd pm srt
   show qx K _ _ H5
   have zl2:((ns.map nk).zip (ls'.map V.ref)).length=ns.length:=by rw[fo,ae,ae,a.l1,ae,iT]
   refine⟨_,rfl,fd,_,rfl,a.at_,λo D nD=>?_⟩
   have hf5:upd H5 fd (.frz o (.dK ((ns.map nk).zip (ls'.map V.ref)))) fd=some (.frz o (.dK ((ns.map nk).zip (ls'.map V.ref)))):=ag
   have Df:D≠fd:=λz=>by rw[z,hf5] at nD;cases nD
   have nD5:H5 D=none:=by rw[ax Df] at nD;exact nD
   have ls'5:∀(j:Nat) l w,ls'[j]?=some l->wss[j]?=some w->upd H5 fd (.frz o (.dK ((ns.map nk).zip (ls'.map V.ref)))) l=some (.lst (i9 w)):=λj l w e1 e2=>by
    have:=a.vs j l (i9 w) e1 (by rw[aD,e2];rfl)
    rw[ax (iL this a.at_ (by intro z;cases z))];exact this
   have S5:∀b u,b≠fd->H5 b=some u->upd H5 fd (.frz o (.dK ((ns.map nk).zip (ls'.map V.ref)))) b=some u:=λb u n e=>by rw[ax n];exact e
   generalize hH6:upd H5 fd (.frz o (.dK ((ns.map nk).zip (ls'.map V.ref))))=H6 at hf5 nD ls'5 S5 ⊢
   refine z9 (λi σ' H'=>∃(ts us:List Addr) (o5 o6:Option V),σ'=[some (.ref rt),some (.ref d),some (.ref d2),some (.ref fd),o4,o5,o6]/\H' D=some (.lst (ts.map V.ref))/\ts.length=i/\us.length=i/\(∀(j:Nat) t u n,ts[j]?=some t->us[j]?=some u->ns[j]?=some n->H' t=some (.tup [kV (nk n),.ref u]))/\(∀(j:Nat) u w,us[j]?=some u->wss[j]?=some w->H' u=some (.tup (i9 w)))/\fP D H6 H') ?_ ?_ ?_ ?_
   ·exact⟨[],[],_,_,rfl,ag,rfl,rfl,λj t u n e=>by simp at e,λj u w e=>by simp at e,λb u n e=>by rw[ax n];exact e⟩
   ·rintro i σ' H' _ ⟨ts,us,o5,o6,_,_,_,_,_,_,s'⟩
    exact s' fd _ (Ne.symm Df) hf5
   ·rintro i kk v p σ' H' e np ⟨ts,us,o5,o6,rfl,hD,tl,ul,h1,h2,s'⟩
    have il:i<ns.length:=by have:=(af.mp e).1;lia
    have il':i<ls'.length:=by rw[a.l1,ae];exact il
    have iw:i<wss.length:=by rw[wn.len];exact il
    rw[aa (by rw[zl2];exact il),gX,fV,fV] at e
    have e':=Option.some.inj e
    have ek:nk ns[i]=kk:=congrArg Prod.fst e'
    have ev:V.ref ls'[i]=v:=congrArg Prod.snd e'
    subst ek ev
    have pD:D≠p:=λz=>by rw[<-z,hD] at np;cases np
    have hli:=s' ls'[i] _ (λz=>by
     have:=ls'5 i ls'[i] wss[i] (aa il') (aa iw)
     rw[z,nD] at this;cases this) (ls'5 i ls'[i] wss[i] (aa il') (aa iw))
    have s7:aT H' (upd H' p (.tup [kV (nk ns[i]),.ref ls'[i]])):=(aT.refl H').new np
    have hp7:upd H' p (.tup [kV (nk ns[i]),.ref ls'[i]]) p=some (.tup [kV (nk ns[i]),.ref ls'[i]]):=ag
    generalize upd H' p (.tup [kV (nk ns[i]),.ref ls'[i]])=H7 at s7 hp7 ⊢
    refine⟨p,_,rfl,dC.of hp7,rfl,_,_,rfl,_,_,rfl,rfl,?_⟩
    refine jZ ⟨_,rfl,_,rfl,ls'[i],_,rfl,.inl ⟨cq.of (s7 _ _ hli),λu nu=>⟨(by show 2<=sizeLine;decide),λt nt=>?_⟩⟩⟩
    have s8:aT H7 (upd (upd H7 u (.tup (i9 wss[i]))) t (.tup [kV (nk ns[i]),.ref u])):=((aT.refl H7).new nu).trans ((aT.refl _).new nt)
    have tu:t≠u:=λz=>by rw[z,ag] at nt;cases nt
    have hu8:upd (upd H7 u (.tup (i9 wss[i]))) t (.tup [kV (nk ns[i]),.ref u]) u=some (.tup (i9 wss[i])):=by rw[ax (Ne.symm tu)];exact ag
    have ht8:upd (upd H7 u (.tup (i9 wss[i]))) t (.tup [kV (nk ns[i]),.ref u]) t=some (.tup [kV (nk ns[i]),.ref u]):=ag
    show ∃ys,(upd (upd H7 u (.tup (i9 wss[i]))) t (.tup [kV (nk ns[i]),.ref u])) D=some (.lst ys)/\_
    generalize upd (upd H7 u (.tup (i9 wss[i]))) t (.tup [kV (nk ns[i]),.ref u])=H8 at s8 hu8 ht8 ⊢
    have S8:=s7.trans s8
    have hD8:=S8 _ _ hD
    have kp:∀b x,b≠D->H8 b=some x->upd H8 D (.lst (ts.map V.ref++[.ref t])) b=some x:=λb x n e=>by rw[ax n];exact e
    refine⟨_,hD8,cF (by rw[ae];lia),ts++[t],us++[u],_,_,rfl,by rw[ag,aL];rfl,by rw[ay,tl];rfl,by rw[ay,ul];rfl,λj t' u' n' e1 e2 e3=>?_,λj u' w' e1 e2=>?_,λb x n ee=>kp b x n (S8 _ _ (s' b x n ee))⟩
    ·rcases oz e1 with⟨c1,f1⟩|⟨c1,f1⟩<;>rcases oz e2 with⟨c2,f2⟩|⟨c2,f2⟩
     ·have:=h1 j t' u' n' f1 f2 e3
      exact kp t' _ (iL this hD (by intro z;cases z)) (S8 _ _ this)
     ·exfalso;lia
     ·exfalso;lia
     ·subst f1 f2
      have ej:j=i:=by lia
      subst ej
      rw[aa il] at e3
      rw[<-Option.some.inj e3]
      exact kp t' _ (iL ht8 hD8 (by intro z;cases z)) ht8
    ·rcases oz e1 with⟨c1,f1⟩|⟨c1,f1⟩
     ·have:=h2 j u' w' f1 e2
      exact kp u' _ (iL this hD (by intro z;cases z)) (S8 _ _ this)
     ·subst f1
      have ej:j=i:=by lia
      subst ej
      rw[aa iw] at e2
      rw[<-Option.some.inj e2]
      exact kp u' _ (iL hu8 hD8 (by intro z;cases z)) hu8
   ·rintro σ' H7 ⟨ts,us,o5,o6,_,hD,tl,ul,h1,h2,s'⟩
    rw[zl2] at tl ul
    have hz:((ns.map nk).zip (us.map V.ref)).length=ns.length:=by rw[fo,ae,ae,ul,iT]
    have hm:(((ns.map nk).zip (us.map V.ref)).map (·.1):List dS)=ns.map nk:=by
     rw[ja]
     rw[ae,ae];lia
    refine .inl ⟨D,ts.map V.ref,(ns.map nk).zip (us.map V.ref),rfl,hD,by rw[ae,hz,tl],by lia,λj x k v e1 e2=>?_,λrd' nrd=>?_⟩
    ·rw[aD] at e1
     cases et:ts[j]? with
     |none=>rw[et] at e1;cases e1
     |some t=>
      rw[et] at e1
      have e1':V.ref t=x:=Option.some.inj e1
      subst e1'
      have jn:j<ns.length:=by have:=(af.mp et).1;lia
      have ju:j<us.length:=by lia
      rw[aa (by rw[hz];exact jn),gX,fV,fV] at e2
      have e2':=Option.some.inj e2
      have k1:nk ns[j]=k:=congrArg Prod.fst e2'
      have v1:V.ref us[j]=v:=congrArg Prod.snd e2'
      refine⟨t,rfl,?_⟩
      rw[<-k1,<-v1]
      exact h1 j t us[j] ns[j] et (aa ju) (aa jn)
    ·have e0:gq [] ((ns.map nk).zip (us.map V.ref))=(ns.map nk).zip (us.map V.ref):=oW _ [] (by rw[mJ,hm];exact uc hp)
     rw[e0]
     have HD:H D=none:=by
      cases ee:H D with
      |none=>rfl
      |some u=>rw[F.sm _ _ (S2 _ _ ee)] at nD5;cases nD5
     have Hfd:H fd=none:=by
      cases ee:H fd with
      |none=>rfl
      |some u=>rw[S2 _ _ ee] at nfd;cases nfd
     have keep:∀b u,H b=some u->H7 b=some u:=λb u ee=>s' b u (ak ee HD) (S5 b u (ak ee Hfd) (F.sm _ _ (S2 _ _ ee)))
     have Hrd:H rd'=none:=by
      cases ee:H rd' with
      |none=>rfl
      |some u=>rw[keep _ _ ee] at nrd;cases nrd
     refine q rd' ns us wss ss _ hn hp ag ul (λj t ws e1 e2=>?_) wn Hrd λb u ee=>by rw[ax (ak ee Hrd)];exact keep b u ee
     have:=h2 j t ws e1 e2
     rw[ax (ak this nrd)];exact this
def zU(r:aZ):Bool:=!jY r
theorem kB{n:Nat}{r:aZ}(h:zU r=true):n+1∈cc n r:=by cases r<;>simp_all [zU,jY,cc]
def Ea(rs:List aZ)(n t:Nat):Prop:=∃a to,rs[n]?=some (.test a to)/\t=Sd rs to
def D9(rs:List aZ)(n t:Nat):Prop:=∃r,rs[n]?=some r/\zU r=true/\((∃to,rs[n+1]?=some (.jump to))\/n+1=Sd rs 0)/\t=Sd rs (n+1)
def Ld(rs:List aZ)(t:Nat):Prop:=∃n,cV rs n/\(Ea rs n t\/D9 rs n t)
def MV(rs:List aZ)(t:Nat):Prop:=t=Sd rs 0\/Ld rs t
theorem qg{rs:List aZ}(g:cB rs){m:Nat}(h:xV rs none m):cV rs (Sd rs m):=⟨uS g _ h,λr hr=>g.ring m (h.lt g) r hr⟩
theorem pP{rs:List aZ}(g:cB rs){t:Nat}(h:Ld rs t):cV rs t:=by
 obtain⟨n,hn,⟨a,to,hr,rfl⟩|⟨r,hr,hf,_,rfl⟩⟩:=h
 ·exact qg g (.step hn.1 hr (λy z=>by cases z) (by simp[cc]))
 ·exact qg g (.step hn.1 hr (λy z=>by cases z) (kB hf))
theorem D1{rs:List aZ}(g:cB rs){t:Nat}(h:MV rs t):cV rs t:=by
 rcases h with rfl|h
 ·exact qg g .zero
 ·exact pP g h
theorem yE:∀{l m:List Nat},l.Pairwise (·<·)->m.Pairwise (·<·)->(∀x,x∈l↔x∈m)->l=m
 |[],[],_,_,_=>rfl
 |[],y::m,_,_,h=>absurd ((h y).mpr aP) (by simp)
 |x::l,[],_,_,h=>absurd ((h x).mp aP) (by simp)
 |x::l,y::m,hl,hm,h=>by
  have hl':=du.mp hl
  have hm':=du.mp hm
  have e:x=y:=by
   rcases aN.mp ((h x).mp aP) with e|hx
   ·exact e
   ·rcases aN.mp ((h y).mpr aP) with e|hy
    ·exact e.symm
    ·have:=hl'.1 y hy;have:=hm'.1 x hx;lia
  subst e
  have:l=m:=yE hl'.2 hm'.2 λz=>by
   constructor
   ·intro hz
    rcases aN.mp ((h z).mp (bu _ hz)) with e|q
    ·have:=hl'.1 z hz;lia
    ·exact q
   ·intro hz
    rcases aN.mp ((h z).mpr (bu _ hz)) with e|q
    ·have:=hm'.1 z hz;lia
    ·exact q
  rw[this]
end Bg
end
section
namespace BgSet
open PySem
section
variable{prog:Program}{w:World}{K:Type}[DecidableEq K]
variable{kd:KeyKind prog w K}{A:Around}{E:Value->Shared->Prop}{s:Shared}
end
section
variable{prog:Program}{w:World}{A:Around}{E:Value->Shared->Prop}{s:Shared}
end
section
variable{prog:Program}{w:World}{A:Around}{E:Value->Shared->Prop}{s:Shared}{I a:Addr}{i n ep:Nat}{es:Array (Int×Value)}{t:SetTable}
end
end BgSet
end
section
namespace BgSet
open PySem PyProof.Rows
section
variable{prog:Program}{w:World}{A:Around}{R:Result->Shared->Prop}{I:Addr}{fp wr:List Addr}{G:Array GenState->Array GenState->Prop}{n:Nat}{P:Nat->Value->Prop}{St:Nat->Shared->Prop}
variable{K:Type}[DecidableEq K]{kd:KeyKind prog w K}
end
section
variable{prog:Program}{w:World}{A:Around}{E:Value->Shared->Prop}{s:Shared}{K:Type}[DecidableEq K]{kd:KeyKind prog w K}
end
section
variable{prog:Program}{w:World}{A:Around}{E:Value->Shared->Prop}{s:Shared}{K:Type}[DecidableEq K][Inhabited K]{kd:KeyKind prog w K}
end
section
variable{prog:Program}{w:World}{A:Around}{E:Value->Shared->Prop}{s:Shared}{a:Addr}{es:Array (Int×Value)}{ep:Nat}{t:SetTable}
end
end BgSet
end
section
namespace L2
open PySem PySem.Spec PyProof.Rows
section
variable{X:Cx}{elts:List Expr}{k:Nat}{tpos:Pos}
end
end L2
end
section
namespace PySem.SeqAt
open AutoSeq1 (wpAny_loadPart')
open MeetsSeq MeetsSeq2 MeetsSeq3 SeqRoads2
end PySem.SeqAt
namespace L2
open PySem PySem.Spec PyProof.Rows
section
variable{X:Cx}{o e:Expr}{es:List Expr}{to ta tb:TE}{t:TA}{apos cpos:Pos}
end
section
variable{X:Cx}{C:Addr}{m x:Str}{ps:List Str}{k:Nat}{sp:Sp}{e:Expr}{es:List Expr}{t:TA}{p pos apos:Pos}
end
theorem JY{α:Type}[DecidableEq α]{l:List α}:∀{zs:List α},l.Nodup->(∀y∈l,y∈zs)->l.length<=zs.length:=by
 induction l with
 |nil=>intro zs _ _;exact cf _
 |cons a r ih=>
  intro zs nd h
  obtain⟨na,nr⟩:=cK.mp nd
  have ha:a∈zs:=h a aP
  have:=ih (zs:=zs.erase a) nr λy hy=>(List.mem_erase_of_ne (λz=>na (by rw[<-z];exact hy))).mpr (h y (bu _ hy))
  rw[ij ha] at this
  have:0<zs.length:=List.length_pos_of_mem ha
  simp only[bG]
  lia
section
variable{X:Cx}
end
section
variable{X:Cx}
end
end L2
end
section
namespace Bg
open PySem L2
def Ek(H:Hp)(rt:Addr)(rs:List aZ):Prop:=∃rvs,H rt=some (.tup rvs)/\cT (dD H) rvs rs/\cB rs
theorem Ek.same{H H':Hp}{rt:Addr}{rs:List aZ}(h:Ek H rt rs)(s:aT H H'):Ek H' rt rs:=by
 obtain⟨rvs,a,b,c⟩:=h
 exact⟨rvs,s _ _ a,b.imp λ_ _ z=>dD.mono z (.of_same s),c⟩
def fO(_:Fg):Sp:=λvs H Q _=>∃(l:Addr) (ns:List Nat),vs=[.ref l]/\H l=some (.lst (aU ns))/\ns.length<=100/\
 ∀(d:Addr) (F:List Nat) (H':Hp),H' d=some (.dK (dz F))->F.Nodup->(∀t,t∈F↔t∈ns)->H d=none->aT H H'->Q (.ref d) H'
def eU(_:Fg):Sp:=λvs H Q _=>∃(rt:Addr) (rs:List aZ),vs=[.ref rt]/\Ek H rt rs/\
 ∀(l:Addr) (ns:List Nat) (H':Hp),(∀t,t∈ns↔Ld rs t)->ns.Pairwise (·<·)->H' l=some (.lst (aU ns))->H l=none->aT H H'->Q (.ref l) H'
abbrev yj:Nat:=0
abbrev kK:Nat:=1
abbrev Ap:Nat:=4
abbrev jd:Nat:=5
abbrev LB:Nat:=9
abbrev Bo:Nat:=10
end Bg
end
section
namespace L2
open PySem PySem.Spec PyProof.Rows
section
variable{prog:Program}{w:World}{A:Around}{E:Value->Shared->Prop}{s:Shared}
end
section
variable{X:Cx}
end
end L2
end
section
namespace L2
open PySem PyProof.Rows
def zR(a b:Str):Prop:=¬(b.cps.toList<a.cps.toList)
theorem zR.trans{a b c:Str}(h:zR a b)(k:zR b c):zR a c:=λz=>by
 have h1:=kF.mp h
 have h2:=kF.mp k
 exact kF.mpr (List.le_trans h1 h2) z
theorem zR.anti{a b:Str}(h:zR a b)(k:zR b a):a=b:=by
 have:=List.le_antisymm (kF.mp h) (kF.mp k)
 cases a;cases b
 simp only[Str.mk.injEq]
 exact Array.toList_inj.mp this
theorem vR:∀(r:List Str) (p:Str),risingS p r=true->(p::r).Pairwise zR
 |[],p,_=>List.pairwise_singleton _ _
 |x::r,p,h=>by
  have h':(!PySem.Spec.ltCps x.cps.toList p.cps.toList&&risingS x r)=true:=h
  rw[Bool.and_eq_true,ltCps_eq] at h'
  have hx:zR p x:=by simpa[zR] using h'.1
  have ih:=vR r x h'.2
  refine du.mpr ⟨λy hy=>?_,ih⟩
  rcases aN.mp hy with rfl|hy
  ·exact hx
  ·exact hx.trans ((du.mp ih).1 y hy)
theorem qV:∀{l:List Str},sortedS l=true->l.Pairwise zR
 |[],_=>List.Pairwise.nil
 |x::r,h=>vR r x h
theorem xq:∀{l m:List Str},l.Pairwise zR->m.Pairwise zR->l.Nodup->m.Nodup->(∀x,x∈l↔x∈m)->l=m
 |[],[],_,_,_,_,_=>rfl
 |[],y::m,_,_,_,_,h=>absurd ((h y).mpr aP) (by simp)
 |x::l,[],_,_,_,_,h=>absurd ((h x).mp aP) (by simp)
 |x::l,y::m,hl,hm,nl,nm,h=>by
  have hl':=du.mp hl
  have hm':=du.mp hm
  have nl':=cK.mp nl
  have nm':=cK.mp nm
  have e:x=y:=by
   rcases aN.mp ((h x).mp aP) with e|hx
   ·exact e
   ·rcases aN.mp ((h y).mpr aP) with e|hy
    ·exact e.symm
    ·exact zR.anti (hl'.1 y hy) (hm'.1 x hx)
  subst e
  have:l=m:=xq hl'.2 hm'.2 nl'.2 nm'.2 λz=>by
   constructor
   ·intro hz
    rcases aN.mp ((h z).mp (bu _ hz)) with rfl|q
    ·exact absurd hz nl'.1
    ·exact q
   ·intro hz
    rcases aN.mp ((h z).mpr (bu _ hz)) with rfl|q
    ·exact absurd hz nm'.1
    ·exact q
  rw[this]
end L2
end
section
namespace Bg
open PySem L2
def lP(b:List V)(x:V):List V:=(x::b).take b.length
def wO(n:Nat)(args:List V)(e:V):List V:=args.foldl lP (aH n e)
def SeqAt(H:Hp)(a:Addr)(xs:List V):Prop:=H a=some (.lst xs)\/H a=some (.tup xs)
def gR(_:Fg):Sp:=λvs H Q _=>∃(b:Addr) (x:V) (xs:List V),vs=[.ref b,x]/\H b=some (.tup xs)/\xs≠[]/\xs.length<=1000/\
 ∀(p:Addr) (H':Hp),H' p=some (.tup (lP xs x))->aT H H'->Q (.ref p) H'
def iG(_:Fg):Sp:=λvs H Q _=>∃(n:Nat) (a:Addr) (e:V) (xs:List V),vs=[.int (n:Nat),.ref a,e]/\SeqAt H a xs/\1<=n/\n<=1000/\
 ∀(p:Addr) (H':Hp),H' p=some (.tup (wO n xs e))->aT H H'->Q (.ref p) H'
abbrev Aq:Nat:=0
abbrev lY:Nat:=1
abbrev C2:Nat:=1
abbrev nN:Nat:=2
section
variable(f:Nat->Nat)(p:Nat->Bool)
variable{f p}
end
def oV:Option Str->V
 |none=>.non
 |some y=>.str y
def oX(os:List (Option Str)):List V:=os.map oV
theorem xc(o:Option Str):ip (oV o)=true:=by cases o<;>rfl
theorem Fh(os:List (Option Str)):(oX os).all ip=true:=by
 rw[dI]
 intro v hv
 obtain⟨y,_,rfl⟩:=cQ.mp hv
 exact xc y
theorem xf(os:List (Option Str)):(oX os).length=os.length:=ae ..
theorem J1{os:List (Option Str)}{i:Nat}{v:V}(h:(oX os)[i]?=some v):∃o,os[i]?=some o/\v=oV o:=by
 unfold oX at h
 rw[aD] at h
 cases e:os[i]? with
 |none=>rw[e] at h;cases h
 |some o=>rw[e] at h;exact⟨o,rfl,(Option.some.inj h).symm⟩
theorem Jh(a b:Option Str):sO (oV a) (oV b)=decide (a=b):=by
 cases a with
 |none=>cases b with
  |none=>rfl
  |some y=>rfl
 |some x=>cases b with
  |none=>rfl
  |some y=>
   show(x==y)=decide (some x=some y)
   rw[Bool.eq_iff_iff,beq_iff_eq,decide_eq_true_eq]
   exact⟨λh=>by rw[h],λh=>Option.some.inj h⟩
def gE(ns:List Str)(acc:List (Option Str))(o:Option Str):List (Option Str):=acc++[if o∈ns.map some/\o∉acc then o else none]
def BX(os:List (Option Str))(ns:List Str):List (Option Str):=os.foldl (gE ns) []
def jv(_:Fg):Sp:=λvs H Q _=>∃(b n:Addr) (os:List (Option Str)) (ns:List Str),vs=[.ref b,.ref n]/\H b=some (.tup (oX os))/\H n=some (.tup (ns.map V.str))/\os.length<=1000/\
 ∀(p:Addr) (H':Hp),H' p=some (.tup (oX (BX os ns)))->aT H H'->Q (.ref p) H'
abbrev EX:Nat:=0
abbrev pC:Nat:=1
theorem rJ(ns:List Str):∀(os acc:List (Option Str)),(os.foldl (gE ns) acc).length=acc.length+os.length
 |[],acc=>by simp
 |o::r,acc=>by
  rw[gB,rJ ns r]
  unfold gE
  rw[ay,bo,bG]
  omega
theorem ES(o:Option Str)(os:List (Option Str)):m6 (oV o) (oX os)=decide (o∈os):=by
 unfold m6 oX
 rw[pq,Bool.eq_iff_iff,gU,decide_eq_true_eq]
 constructor
 ·rintro⟨z,hz,e⟩
  have e':sO (oV z) (oV o)=true:=e
  rw[Jh,decide_eq_true_eq] at e'
  rw[<-e'];exact hz
 ·intro h
  exact⟨o,h,by show sO (oV o) (oV o)=true;rw[Jh];exact decide_eq_true rfl⟩
theorem K6(ns:List Str):ns.map V.str=oX (ns.map some):=by unfold oX;rw[cP];rfl
end Bg
end
section
namespace BgRev
open PySem
theorem um:Manifest.owners.lookup (String.ofList ['d','e','s','r','e','v','e','r'].reverse)=some Manifest.sig_reversed:=by kernel_rfl
theorem pY:Slot "reversed" "__next__" "reversed.__next__":=
 .of (owner:="reversed") (n:="__next__") (by rw[typeLookup_type,builtinLookup_eq_fast];kernel_rfl) (by decide +kernel) (by decide +kernel)
  (by decide +kernel) (by first|exact .inl (by decide +kernel)|exact .inr (by decide +kernel))
  (by rw[isSubtype_type];kernel_rfl)
theorem oy:entryFor table "reversed.__next__"=some Builtin.«reversed.__next__»:=entryFor_of_tree (by kernel_rfl)
theorem pZ(v:Value):argsOk "reversed.__next__" ⟨[v],[]⟩:=by
 unfold argsOk
 rw[signature?_of (id:="reversed.__next__") (n:=['_','_','t','x','e','n','_','_']) (o:=['d','e','s','r','e','v','e','r']) (by kernel_rfl) um]
 kernel_rfl
theorem BQ:Slot "reversed" "__iter__" "reversed.__iter__":=
 .of (owner:="reversed") (n:="__iter__") (by rw[typeLookup_type,builtinLookup_eq_fast];kernel_rfl) (by decide +kernel) (by decide +kernel)
  (by decide +kernel) (by first|exact .inl (by decide +kernel)|exact .inr (by decide +kernel))
  (by rw[isSubtype_type];kernel_rfl)
theorem vf:entryFor table "reversed.__iter__"=some Builtin.«dict_keyiterator.__iter__»:=
 entryFor_alias (id':="dict_keyiterator.__iter__") (by kernel_rfl) rfl (by decide +kernel) (by kernel_rfl)
theorem xB(v:Value):argsOk "reversed.__iter__" ⟨[v],[]⟩:=by
 unfold argsOk
 rw[signature?_of (id:="reversed.__iter__") (n:=['_','_','r','e','t','i','_','_']) (o:=['d','e','s','r','e','v','e','r']) (by kernel_rfl) um]
 kernel_rfl
theorem IL:Slot "reversed" "__init__" "object.__init__":=
 .of (owner:="object") (n:="__init__") (by rw[typeLookup_type,builtinLookup_eq_fast];kernel_rfl) (by decide +kernel) (by decide +kernel)
  (by decide +kernel) (by first|exact .inl (by decide +kernel)|exact .inr (by decide +kernel))
  (by rw[isSubtype_type];kernel_rfl)
theorem qT:TypeCalled "reversed" "reversed.__new__" "object.__init__":=
 ⟨by decide +kernel,by decide +kernel,⟨_,_,F.mro_reversed⟩,F.made_reversed,by decide +kernel,by rw[isSubtype_type];kernel_rfl,IL⟩
theorem I0:typeLookup (.type "tuple") "__reversed__"=pure none:=by rw[typeLookup_type,builtinLookup_eq_fast];kernel_rfl
end BgRev
end
section
namespace BgRev
open PySem PyProof.Rows
section
variable{prog:Program}{w:World}{A:Around}{E:Value->Shared->Prop}{s:Shared}
def rvObj(l:Addr)(i:Int):Obj:={cls:=.type "reversed",data:=.fields #[.ref l,rawInt i]}
theorem Hy{l:Addr}{its:Array Value}{Q:Value->Shared->Prop}(hl:IsTup s.heap l its)(hz:(its.size:Int)<2 ^ 63)
  (h:Q (.ref s.heap.objs.size) {s with heap:=s.heap.push (rvObj l ((its.size:Int)-1)),toks:=s.toks+1+1}) :
  codeAny (model prog w) A (.call (.builtin "reversed.__new__") ⟨[.type "reversed",.ref l],[]⟩) (wants Q E) s:=by
 refine codeAny_of_tree ?_
 show wpAny _ A.in1 (checkBuiltinCall "reversed.__new__" ⟨[.type "reversed",.ref l],[]⟩ >>= λ_=>again (.builtin "reversed.__new__" ⟨[.type "reversed",.ref l],[]⟩)) _ _ s
 refine wpAny_bind (wpAny_of_eq (F.newCall_reversed_1 _) (wpAny_pure ⟨plainId_quiet F.plain_reversed_new _,codeAny_builtin F.entry_reversed_new ?_⟩))
 rw[Around.under_plainId F.plain_reversed_new _]
 unfold Builtin.«reversed.__new__»
 refine wpAny_bind (wpAny_of_eq (newClass_reversed _) ?_)
 try dsimp only
 refine wpAny_bind (wpAny_of_eq (a:=()) (by first|rfl|kernel_rfl) ?_)
 refine wpAny_bind (wpAny_of_eq (a:=()) (by first|rfl|kernel_rfl) ?_)
 try dsimp only
 have ht:s.TypeIs (.ref l) "tuple":=hl.typeIs
 refine wpAny_bind (wpAny_specialOf ht I0 ?_)
 refine wpAny_bind ?_
 wp_delta
 refine wpAny_bind (wpAny_isInstance (T:="tuple") (b:=false) ht F.sub_tuple_dict ?_)
 simp only[Bool.false_eq_true,if_false]
 refine wpAny_bind (wpAny_specialOf ht F.slot_tuple_getitem.lookup ?_)
 refine wpAny_ite_split (λ_=>?_) (λc=>absurd (by decide +kernel) c)
 refine wpAny_pure ?_
 simp only[Bool.not_true,Bool.false_eq_true,if_false]
 refine wpAny_bind (len_tuple hl hz ?_)
 refine wpAny_bind (wpAny_of_eq (a:=some (its.size:Int)) rfl ?_)
 dsimp only
 refine wpAny_bind ?_
 unfold Builtin.SmallTypes.newRecord
 exact wpAny_newObj_type (wpAny_pure h)
def RvAt(h:Heap)(it l:Addr)(i:Int):Prop:=h.get? it=some {cls:=.type "reversed",dict:=none,data:=.fields #[.ref l,.int i 0],slots:=#[]}
theorem RvAt.type{it l:Addr}{i:Int}(x:RvAt s.heap it l i):s.TypeIs (.ref it) "reversed":=⟨_,x,rfl⟩
theorem call_rev{l:Addr}{its:Array Value}{Q:Value->Shared->Prop}(hl:IsTup s.heap l its)(hz:(its.size:Int)<2 ^ 63)
  (h:∀tk,Q (.ref s.heap.objs.size) {s with heap:=s.heap.push (rvObj l ((its.size:Int)-1)),toks:=tk}):wpAny (model prog w) A (call (.type "reversed") [.ref l]) Q E s:=by
 refine callType_codes (Q₁:=λv s1=>v=.ref s.heap.objs.size/\s1={s with heap:=s.heap.push (rvObj l ((its.size:Int)-1)),toks:=s.toks+1+1}) qT (F.typeCall_reversed_1 _) F.entry_object_init
  (Hy hl hz ⟨rfl,rfl⟩) ?_
 rintro obj s1 ⟨rfl,rfl⟩
 have ht:Shared.TypeIs {s with heap:=s.heap.push (rvObj l ((its.size:Int)-1)),toks:=s.toks+1+1} (.ref s.heap.objs.size) "reversed":=⟨_,aQ _ rfl,rfl⟩
 exact⟨ht,F.args_object_init_2 _ _,object_init_meets qT.init.lookup qT.made (by decide) prog w A.in1 _ _ ⟨ht,rfl,h _⟩⟩
theorem Fd{it l:Addr}{i:Nat}{its:Array Value}{x:Value}{Q:Option Value->Shared->Prop}(hit:RvAt s.heap it l (i:Int))(hl:IsTup s.heap l its)
  (hz:(its.size:Int)<2 ^ 63) (hx:its[i]?=some x) (hQ:∀h' tk,RvAt h' it l ((i:Int)-1)->Heap.SameBut it s.heap h'->Q (some x) {s with heap:=h',toks:=tk}):wpAny (model prog w) A (pyNext (.ref it)) Q E s:=by
 unfold pyNext
 refine wpAny_bind (wpAny_attempt (wpAny_callSpecial?_slot (name:=Str.ofString "__next__") hit.type pY (wpAny_call_entry pY hit.type oy ?_ (pZ _))))
 unfold Builtin.«reversed.__next__»
 refine wpAny_bind (m:=slotArgs _ _ _) (wpAny_pure ?_)
 refine wpAny_bind (wpAny_field hit rfl (x:=.ref l) rfl ?_)
 refine wpAny_bind (wpAny_field hit rfl (x:=.int (i:Int) 0) rfl ?_)
 dsimp only
 rw[if_neg (by omega)]
 have ht:s.TypeIs (.ref l) "tuple":=hl.typeIs
 refine wpAny_bind (wpAny_specialOf ht F.slot_tuple_getitem.lookup ?_)
 simp only[Option.isNone_some,Bool.false_eq_true,if_false]
 have hlt:i<its.size:=(Array.getElem?_eq_some_iff.mp hx).1
 refine wpAny_bind (wpAny_mkInt ?_)
 refine wpAny_bind (wpAny_attempt (getItem_tuple (s:={s with toks:=s.toks+1}) (j:=i) hl (by omega) (by omega) (by unfold seqIndex?;rw[if_neg (show ¬((i:Int)<0) by omega)];simp;omega) hx ?_))
 dsimp only
 refine wpAny_bind (wpAny_field hit rfl (x:=.int (i:Int) 0) rfl ?_)
 dsimp only
 refine wpAny_bind (wpAny_setField_rec (s:={s with toks:=s.toks+1}) hit (by simp) λh1 g1 sb1=>?_)
 refine wpAny_pure ⟨_,rfl,wpAny_pure (hQ h1 _ ?_ sb1)⟩
 unfold RvAt
 rw[g1]
 simp[rawInt]
theorem Gm{it l:Addr}{Q:Option Value->Shared->Prop}(hh:A.handled=none)(hit:RvAt s.heap it l (-1))(hQ:∀h',Heap.ExtBut it s.heap h'->Q none {s with heap:=h'}):wpAny (model prog w) A (pyNext (.ref it)) Q E s:=by
 unfold pyNext
 refine wpAny_bind (wpAny_attempt (wpAny_callSpecial?_slot (name:=Str.ofString "__next__") hit.type pY (wpAny_call_entry pY hit.type oy ?_ (pZ _))))
 unfold Builtin.«reversed.__next__»
 refine wpAny_bind (m:=slotArgs _ _ _) (wpAny_pure ?_)
 refine wpAny_bind (wpAny_field hit rfl (x:=.ref l) rfl ?_)
 refine wpAny_bind (wpAny_field hit rfl (x:=.int (-1) 0) rfl ?_)
 dsimp only
 rw[if_pos (by decide)]
 refine wpAny_bind (wpAny_rule ?_)
 refine wpAny_bind ?_
 wp_delta
 refine wpAny_bind (wpAny_setField_rec hit (by simp) λh1 g1 sb1=>?_)
 refine wpAny_setField_rec g1 (by simp) λh2 g2 sb2=>?_
 refine wpAny_bind ?_
 unfold Builtin.SmallTypes.stopIteration
 refine wpAny_bind ?_
 simp only[newExc,newTuple]
 refine wpAny_bind (wpAny_newObj_type ?_ (by size_fits))
 refine wpAny_bind (m:=firstArgMember _ _) (wpAny_of_eq (a:=Value.none) (by first|rfl|(simp only[firstArgMember];rfl)) ?_)
 refine wpAny_newObj_type ?_ (by size_fits)
 simp only[raiseNew]
 refine wpAny_bind (wpAny_handled ?_)
 rw[show A.in1.handled=none from hh]
 refine wpAny_bind (wpAny_pure (wpAny_throw ?_))
 refine wpAny_bind (wpAny_isInstance (T:="StopIteration") (b:=true) ⟨_,aQ _ rfl,rfl⟩ isSubtype_stop ?_)
 exact wpAny_pure (hQ _ (((sb1.trans sb2).extBut.push _).push _))
theorem y7{it l:Addr}{i:Int}{Q:Value->Shared->Prop}(hit:RvAt s.heap it l i)(h:Q (.ref it) s):wpAny (model prog w) A (pyIter (.ref it)) Q E s:=by
 refine wpAny_pyIter_slot hit.type BQ (wpAny_call_entry BQ hit.type vf ?_ (xB _))
 show wpAny _ _ (ret (.ref it)) _ _ s
 exact wpAny_pure ⟨_,rfl,"reversed",_,hit.type,pY.lookup,h⟩
end
end BgRev
end
section
namespace L2
open PySem PySem.Spec PyProof.Rows
section
variable{X:Cx}{tg:Expr}
end
end L2
end
section
namespace Bg
open PySem L2
structure qJ(K:Fg):Prop where
 cl:Jb K (dc K "Outline")
 n1:jP K (dc K "Outline") "params"
 n2:jP K (dc K "Outline") "rows"
 n3:jP K (dc K "Outline") "wants"
 n4:jP K (dc K "Outline") "first"
 n5:jP K (dc K "Outline") "led"
 n6:jP K (dc K "Outline") "heads"
def M5(pa rt wd ld hd:Addr)(fi:Nat):List (Str×V):=[("params",.ref pa),("rows",.ref rt),("wants",.ref wd),("first",.int (fi:Nat)),("led",.ref ld),("heads",.ref hd)]
def GP(H:Hp)(wd:Addr)(rs:List aZ):Prop:=∃(ns:List Nat) (ts:List Addr) (wss:List (List Str)) (ss:List Str),H wd=some (.dK ((ns.map nk).zip (ts.map V.ref)))/\ts.length=ns.length/\(∀m,m∈ns↔cV rs m)/\ns.Pairwise (·<·)/\(∀(j:Nat) t ws,ts[j]?=some t->wss[j]?=some ws->H t=some (.tup (ws.map V.str)))/\Jv rs ns wss ss
structure Ws(rs:List aZ)(n:Nat)(ws:List Str):Prop where
 srt:ws.Pairwise zR
 nd:ws.Nodup
 mem:∀y,y∈ws↔zX rs y n
structure Lp(rs:List aZ)(zs:List Str):Prop where
 r100:∀r∈rs,(d8 r).length<=100
 z64:zs.length<=6
 zin:∀r∈rs,∀y∈d8 r,y∈zs
def Ln(H:Hp)(pt:Addr)(ps:List Str)(rt:Addr):Prop:=∃(wv:V) (pa:Addr),H pt=some (.tup [wv,.ref pa,.ref rt])/\H pa=some (.tup (ps.map V.str))
def xT(K:Fg)(H:Hp)(o:Addr)(rs:List aZ)(ps:List Str):Prop:=∃(dx pa rt wd ld hd:Addr) (F:List Nat),H o=some (.ins (dc K "Outline") dx (M5 pa rt wd ld hd (Sd rs 0)))/\H pa=some (.tup (ps.map V.str))/\Ek H rt rs/\GP H wd rs/\H ld=some (.dK (dz F))/\(∀t,t∈F↔Ld rs t)
def eD(K:Fg):Sp:=λvs H Q _=>∃(x dx pt rt:Addr) (rs:List aZ) (ps zs:List Str),vs=[.ref x,.ref pt]/\H x=some (.ins (dc K "Outline") dx [])/\Ln H pt ps rt/\Ek H rt rs/\Lp rs zs/\x≠pt/\
 ∀(H':Hp),xT K H' x rs ps->fP x H H'->Q .non H'
def Du(ps ws:List Str)(pl:Nat):List (Option Str):=(ps.reverse.map (λy=>if y∈ws then some y else none)++aH pl none).take pl
def MW(H:Hp)(v:V)(os:List (Option Str)):Prop:=∃p,v=.ref p/\H p=some (.tup (oX os))
def e9(K:Fg):Sp:=λvs H Q _=>∃(o:Addr) (pl:Nat) (rs:List aZ) (ps ws:List Str),vs=[.ref o,.int (pl:Nat)]/\xT K H o rs ps/\Ws rs (Sd rs 0) ws/\ps.Nodup/\ps.length<=100/\1<=pl/\pl<=100/\
 ∀(v:V) (H':Hp),MW H' v (Du ps ws pl)->aT H H'->Q v H'
abbrev tY:Nat:=6
abbrev iV:Nat:=7
abbrev uZ:Nat:=2
abbrev jx:Nat:=3
noncomputable def wsF (rs:List aZ) (n:Nat):List Str:=open Classical in if h:∃ws,Ws rs n ws then Classical.choose h else[]
def pR(ps ws:List Str)(pl:Nat):List Str:=ws.filter λy=>!decide (y∈ps.reverse.take pl)
def uw:aZ->Option Str
 |.num x _=>some x
 |.op x _ _ _=>some x
 |.call x _ _=>some x
 |_=>none
noncomputable def restL (rs:List aZ) (n:Nat) (x:Str):List Str:=(wsF rs (Sd rs (n+1))).filter λy=>!decide (y=x)
noncomputable def leftL (rs:List aZ) (n:Nat):List Str:=match rs[n]?.bind uw with
 |some x=>restL rs n x
 |none=>[]
noncomputable def lostF (rs:List aZ) (ps:List Str) (pl n:Nat):List Str:=if n=Sd rs 0 then pR ps (wsF rs n) pl else[]
noncomputable def whyO (rs:List aZ) (ps:List Str) (pl n:Nat):Option (Str×List Str):=open Classical in
 if lostF rs ps pl n≠[] then some ("begin",lostF rs ps pl n)
 else if Ld rs n/\pl<=(wsF rs n).length then some ("head",wsF rs n)
 else if pl<(wsF rs n).length then some ("ahead",wsF rs n)
 else if pl<=(leftL rs n).length then some ("behind",leftL rs n)
 else none
noncomputable def stL (rs:List aZ):List Nat:=open Classical in (iz rs.length).filter λn=>decide (cV rs n)
def lL{α:Type}(f:Nat->Option α):List Nat->Option (Nat×α)
 |[]=>none
 |n::r=>match f n with
  |some x=>some (n,x)
  |none=>lL f r
noncomputable def shFrom (pl:Nat):Nat->List ic->Option (Nat×Nat×Str×List Str)
 |_,[]=>none
 |k,b::r=>match lL (whyO b.rows b.params pl) (stL b.rows) with
  |some x=>some (k,x)
  |none=>shFrom pl (k+1) r
def Ml(H:Hp)(v:V):Option (Str×List Str)->Prop
 |none=>v=.non
 |some (w,xs)=>∃p q,v=.ref p/\H p=some (.tup [.str w,.ref q])/\H q=some (.tup (xs.map V.str))
def El(H:Hp)(v:V):Option (Nat×Nat×Str×List Str)->Prop
 |none=>v=.non
 |some (k,n,w,xs)=>∃p q,v=.ref p/\H p=some (.tup [.int (k:Nat),.int (n:Nat),.str w,.ref q])/\H q=some (.tup (xs.map V.str))
def gx(_:Fg):Sp:=λvs H Q _=>∃(t:Addr) (x:Str) (ss:List Str),vs=[.ref t,.str x]/\H t=some (.tup (ss.map V.str))/\ss.length<=1000/\
 ∀(p:Addr) (H':Hp),H' p=some (.tup ((ss.filter λy=>!decide (y=x)).map V.str))->aT H H'->Q (.ref p) H'
structure Mc(rs:List aZ)(ps zs:List Str)(pl:Nat):Prop where
 rw_:Lp rs zs
 pnd:ps.Nodup
 p100:ps.length<=100
 l1:1<=pl
 l100:pl<=100
 wp:∀y,zX rs y (Sd rs 0)->y∈ps
def gw(K:Fg):Sp:=λvs H Q _=>∃(o:Addr) (n pl:Nat) (rs:List aZ) (ps zs:List Str),vs=[.ref o,.int (n:Nat),.int (pl:Nat)]/\xT K H o rs ps/\Mc rs ps zs pl/\cV rs n/\
 ∀(p:Addr) (H':Hp),H' p=some (.tup ((lostF rs ps pl n).map V.str))->aT H H'->Q (.ref p) H'
def dR(K:Fg):Sp:=λvs H Q _=>∃(o:Addr) (n:Nat) (rs:List aZ) (ps zs:List Str),vs=[.ref o,.int (n:Nat)]/\xT K H o rs ps/\Lp rs zs/\cV rs n/\
 ∀(p:Addr) (H':Hp),H' p=some (.tup ((leftL rs n).map V.str))->aT H H'->Q (.ref p) H'
def fc(K:Fg):Sp:=λvs H Q _=>∃(o:Addr) (n pl:Nat) (rs:List aZ) (ps zs:List Str),vs=[.ref o,.int (n:Nat),.int (pl:Nat)]/\xT K H o rs ps/\Mc rs ps zs pl/\cV rs n/\
 ∀(v:V) (H':Hp),Ml H' v (whyO rs ps pl n)->aT H H'->Q v H'
def eE(_:Fg):Sp:=λvs H Q _=>∃(pp:Addr) (pl:Nat) (pvs:List V) (bs:List ic) (ys:List Str) (cs:List Nat),vs=[.ref pp,.int (pl:Nat)]/\H pp=some (.tup pvs)/\cT (nq H) pvs bs/\qI ys cs bs/\1<=pl/\pl<=100/\
 ∀(v:V) (H':Hp),El H' v (shFrom pl 0 bs)->aT H H'->Q v H'
def oZ(_:Fg):Sp:=λvs H Q _=>∃(pt rt wd ll:Addr) (n pl:Nat) (rs:List aZ) (ps zs:List Str) (ls:List Nat),vs=[.ref pt,.int (n:Nat),.int (pl:Nat),.ref wd,.ref ll]/\Ln H pt ps rt/\Ek H rt rs/\GP H wd rs/\H ll=some (.lst (aU ls))/\(∀t,t∈ls↔Ld rs t)/\Mc rs ps zs pl/\cV rs n/\
 ∀(v:V) (H':Hp),Ml H' v (whyO rs ps pl n)->aT H H'->Q v H'
def lH(_:Fg):Sp:=λvs H Q _=>∃(pp:Addr) (pl:Nat) (pvs:List V) (bs:List ic) (ys:List Str) (cs:List Nat),vs=[.ref pp,.int (pl:Nat)]/\H pp=some (.tup pvs)/\cT (nq H) pvs bs/\qI ys cs bs/\1<=pl/\pl<=100/\
 ∀(v:V) (H':Hp),El H' v (shFrom pl 0 bs)->aT H H'->Q v H'
abbrev yn:Nat:=0
abbrev kM:Nat:=1
abbrev ym:Nat:=3
abbrev kL:Nat:=4
abbrev sy:Nat:=2
abbrev ix:Nat:=3
abbrev u0:Nat:=4
abbrev jz:Nat:=5
abbrev C7:Nat:=8
abbrev nQ:Nat:=9
abbrev LC:Nat:=2
abbrev Bp:Nat:=3
abbrev LA:Nat:=6
abbrev Bn:Nat:=7
end Bg
end
section
namespace Bg
open PySem PySem.Spec PyProof.Rows L2
abbrev gf:List Str:=["numbers"]
abbrev kP:List Str:=["numbers"]
def rM(K:Fg):TS:=(cR (gI (nY K) (aj (iM [] 1 (iN K (ar 0)) (aX 1) qZ (eM (aj (ar 1) (aj (tC (.bl true)) aM)))) aM)))
abbrev fJ:List Str:=["rows"]
abbrev oK:List Str:=["rows","led","n"]
def mH(K:Fg):TS:=(cR (gI xu (aj (ar 1) aM)))
def ql(K:Fg):TS:=(dG (qj (bP (bI (xt K) (bI (d5 K) (bI (d5 K) (ar 0) (ar 2)) (tC (.int 0))) (tC (.str "give")))) (Mb (bP (bI (i7 K) (bI (d5 K) (bI (d5 K) (ar 0) (bI (dA K) (ar 2) (tC (.int 1)))) (tC (.int 0))) (tC (.str "jump")))) (bP (bI (i7 K) (bI (dA K) (ar 2) (tC (.int 1))) (bL (bW K) [] E0 (aj (ar 0) (aj (tC (.int 0)) aM))))))) (bZ (tC (.bl true)) (oj (ar 1) (bL (bW K) [] E0 (aj (ar 0) (aj (bI (dA K) (ar 2) (tC (.int 1))) aM))) vQ)) cG)
def qm(K:Fg):TS:=(bB (dG (bP (bI (i7 K) (bI (d5 K) (bI (d5 K) (ar 0) (ar 2)) (tC (.int 0))) (tC (.str "test")))) (bZ (tC (.bl true)) (oj (ar 1) (bL (bW K) [] E0 (aj (ar 0) (aj (bL (d9 K) [] E0 (aj (bI (d5 K) (ar 0) (ar 2)) aM)) aM))) vQ)) cG) (ql K))
def qo(K:Fg):TS:=(bB (jM (iN K (bL (cE K) [] E0 (aj (ar 0) aM))) (aX 2) (qm K)) (mH K))
def uK(K:Fg):TS:=(bB (bZ uz (aX 1)) (qo K))
abbrev gO:List Str:=["belt","thing"]
abbrev oM:List Str:=["belt","thing"]
def uL(K:Fg):TS:=(cR (A4 (zS K) (bI (dA K) (eM (aj (ar 1) aM)) (ar 0)) gA (kE (gI (iO K) (aj (ar 0) aM)))))
abbrev iB:List Str:=["places","args","empty"]
abbrev qE:List Str:=["places","args","empty","belt","arg"]
def rN(K:Fg):TS:=(cR (ar 3))
def rO(K:Fg):TS:=(bZ (bL (gR K) [] E0 (aj (ar 3) (aj (ar 4) aM))) (aX 3))
def rP(K:Fg):TS:=(bB (jM (iN K (ar 1)) (aX 4) (rO K)) (rN K))
def wc(K:Fg):TS:=(bB (bZ (bI (jo K) (eM (aj (ar 2) aM)) (ar 0)) (aX 3)) (rP K))
abbrev jh:List Str:=["belt","names"]
abbrev tj:List Str:=["belt","names","told","thing"]
def Bd(K:Fg):TS:=(cR (gI (e7 K) (aj (ar 2) aM)))
def Be(K:Fg):TS:=(mS (DQ K "list" iy (ar 2) (aj (ME (qj (bP (bI ((xQ K false)) (ar 3) (ar 1))) (bP (bI ((xQ K true)) (ar 3) (ar 2)))) (ar 3) (tC .non)) aM)))
def uM(K:Fg):TS:=(bB (jM (iN K (ar 0)) (aX 3) (Be K)) (Bd K))
def zF(K:Fg):TS:=(bB (bZ (kc aM) (aX 2)) (uM K))
abbrev eB:List Str:=["self","part"]
abbrev ku:List Str:=["self","part","led"]
def lR(K:Fg):TS:=(yZ K (ar 0) (bL (fO K) [] E0 (aj (bI (dA K) (kc (aj (pf K (ar 0) "first") aM)) (ar 2)) aM)) "heads")
def lS(K:Fg):TS:=(bB (yZ K (ar 0) (bL (fO K) [] E0 (aj (ar 2) aM)) "led") (lR K))
def lT(K:Fg):TS:=(bB (bZ (bL (eU K) [] E0 (aj (bI (d5 K) (ar 1) (tC (.int 2))) aM)) (aX 2)) (lS K))
def lU(K:Fg):TS:=(bB (yZ K (ar 0) (bL (bW K) [] E0 (aj (bI (d5 K) (ar 1) (tC (.int 2))) (aj (tC (.int 0)) aM))) "first") (lT K))
def lV(K:Fg):TS:=(bB (yZ K (ar 0) (bL (eV K) [] E0 (aj (bI (d5 K) (ar 1) (tC (.int 2))) aM)) "wants") (lU K))
def lW(K:Fg):TS:=(bB (yZ K (ar 0) (bI (d5 K) (ar 1) (tC (.int 2))) "rows") (lV K))
def nH(K:Fg):TS:=(bB (yZ K (ar 0) (bI (d5 K) (ar 1) (tC (.int 1))) "params") (lW K))
abbrev eY:List Str:=["outline","places"]
abbrev lz:List Str:=["outline","places"]
def oA(K:Fg):TS:=(cR (bL (jv K) [] E0 (aj (bL (iG K) [] E0 (aj (ar 1) (aj (pf K (ar 0) "params") (aj (tC .non) aM)))) (aj (mR (pf K (ar 0) "wants") (pf K (ar 0) "first")) aM))))
end Bg
end
section
namespace BgRev
open PySem PySem.Calls PyProof.Rows PyProof.V PySem.Spec
theorem DJ:typeLookup (.type "reversed") "__len__"=pure none:=by rw[typeLookup_type,builtinLookup_eq_fast];kernel_rfl
theorem xx:Slot "reversed" "__length_hint__" "reversed.__length_hint__":=
 .of (owner:="reversed") (n:="__length_hint__") (by rw[typeLookup_type,builtinLookup_eq_fast];kernel_rfl) (by decide +kernel) (by decide +kernel)
  (by decide +kernel) (by first|exact .inl (by decide +kernel)|exact .inr (by decide +kernel))
  (by rw[isSubtype_type];kernel_rfl)
theorem ve:entryFor table "reversed.__length_hint__"=some Builtin.«reversed.__length_hint__»:=entryFor_of_tree (by kernel_rfl)
theorem xA(v:Value):argsOk "reversed.__length_hint__" ⟨[v],[]⟩:=by
 unfold argsOk
 rw[signature?_of (id:="reversed.__length_hint__") (n:=['_','_','t','n','i','h','_','h','t','g','n','e','l','_','_']) (o:=['d','e','s','r','e','v','e','r']) (by kernel_rfl) um]
 kernel_rfl
section
variable{prog:Program}{w:World}{A:Around}{E:Value->Shared->Prop}{s:Shared}{r l:Addr}
theorem RvAt.at{h h':Heap}{it l:Addr}{i:Int}(x:RvAt h it l i)(e:∀o,h.get? it=some o->h'.get? it=some o):RvAt h' it l i:=e _ x
theorem EK{its:Array Value}{Q:Bool->Shared->Prop}(hl:IsTup s.heap l its)(hit:RvAt s.heap r l ((its.size:Int)-1))(hn:its.size<=sizeLine)(h:∀b tk,Q b {s with toks:=tk}):wpAny (model prog w) A (Builtin.List.listLengthHint (.ref r)) Q E s:=by
 unfold Builtin.List.listLengthHint
 refine wpAny_bind (wpAny_specialOf hit.type DJ ?_)
 refine wpAny_ite_split (λhab=>absurd hab (by decide)) (λ_=>?_)
 refine wpAny_ite_split (λhab=>absurd hab (by decide)) (λ_=>?_)
 refine wpAny_bind (wpAny_specialOf hit.type xx.lookup ?_)
 generalize hid:("reversed.__length_hint__":String)=id0
 wp_delta
 rw[show splitId id0=some ("reversed","__length_hint__") from by subst hid;decide +kernel]
 subst hid
 refine wpAny_bind (wpAny_isInstance (T:="reversed") (b:=true) hit.type (by rw[isSubtype_type];kernel_rfl) ?_)
 refine wpAny_ite_split (λhab=>absurd hab (by decide)) (λ_=>?_)
 refine wpAny_ite_split (λhab=>absurd hab (by decide +kernel)) (λ_=>?_)
 refine wpAny_bind (wpAny_rule ?_)
 refine wpAny_bind (wpAny_of_eq (xx.bind _) ?_)
 refine wpAny_bind (wpAny_attempt (wpAny_call_entry xx hit.type ve ?_ (xA _)))
 unfold Builtin.«reversed.__length_hint__»
 have hz:(its.size:Int)<2 ^ 63:=by
  have h2:sizeLine<2 ^ 63:=by decide
  lia
 refine wpAny_bind (wpAny_of_eq (a:=Value.ref r) rfl ?_)
 refine wpAny_bind (wpAny_field hit rfl (x:=.ref l) rfl ?_)
 rw[if_neg (show ¬(Value.ref l==Value.none)=true from λz=>nomatch eq_of_beq z)]
 refine wpAny_bind (len_tuple hl hz ?_)
 refine wpAny_bind (wpAny_of_eq (a:=some (its.size:Int)) rfl ?_)
 dsimp only
 refine wpAny_bind (wpAny_field hit rfl (x:=.int ((its.size:Int)-1) 0) rfl ?_)
 dsimp only
 rw[if_neg (by lia)]
 refine wpAny_bind (wpAny_mkInt ?_)
 refine wpAny_pure ⟨_,rfl,?_⟩
 rw[show(its.size:Int)-1+1=(its.size:Int) by lia]
 have g1:Builtin.List.listFitsIndex (its.size:Int)=true:=by
  unfold Builtin.List.listFitsIndex
  rw[Bool.and_eq_true,decide_eq_true_iff,decide_eq_true_iff]
  exact⟨by lia,hz⟩
 have g2:Builtin.List.listTooLong (its.size:Int).toNat=false:=by
  unfold Builtin.List.listTooLong
  rw[decide_eq_false_iff_not,fz]
  exact Nat.not_lt.mpr hn
 have g3:¬((its.size:Int)<0):=by lia
 simp only[asInt?,pure_bind,g1,g2,g3,Bool.not_true,Bool.false_eq_true,if_false]
 exact wpAny_pure (h _ _)
theorem Walks.tupRev(hh:A.handled=none)(I l:Addr)(hne:l≠I)(items:Array Value)(hz:(items.size:Int)<2 ^ 63) :
  Walks prog w A I [I,l] [I] items.size (λi v=>items[items.size-1-i]?=some v) (λi h=>i<=items.size/\RvAt h I l ((items.size:Int)-1-(i:Int))/\IsTup h l items) where
 sub:=λb hb=>by simp at hb;simp[hb]
 frame:=λ_ _ _ x hk=>⟨x.1,hk I (by simp) _ x.2.1,let⟨o,ho,p⟩:=x.2.2;⟨o,hk l (by simp) o ho,p⟩⟩
 item:=λi s Q E hi x hQ=>by
  have e:(items.size:Int)-1-(i:Int)=((items.size-1-i:Nat):Int):=by lia
  have hit:=x.2.1
  rw[e] at hit
  have hx:items[items.size-1-i]?=some (items[items.size-1-i]'(by lia)):=h9 (by lia)
  refine Fd hit x.2.2 hz hx λh' tk hit' hs'=>?_
  have e2:((items.size-1-i:Nat):Int)-1=(items.size:Int)-1-((i+1:Nat):Int):=by lia
  rw[e2] at hit'
  exact hQ _ h' tk hx ⟨hi,hit',let⟨o,ho,p⟩:=x.2.2;⟨o,(hs'.2 l hne).trans ho,p⟩⟩ λb o hb eo=>hs'.extBut b o (λh=>hb (by simp[h])) eo
 done:=λs Q E x hQ=>by
  have e:(items.size:Int)-1-(items.size:Int)=-1:=by lia
  have hit:=x.2.1
  rw[e] at hit
  exact Gm hh hit λh' he'=>hQ h' s.toks λb o hb eo=>he' b o (λh=>hb (by simp[h])) eo
 self:=λ_ _ _ _ x hQ=>y7 x.2.1 hQ
theorem AY{items:Array Value}{R:Result->Shared->Prop}(hh:A.handled=none)(hl:IsTup s.heap l items)(hit:RvAt s.heap r l ((items.size:Int)-1))(hne:l≠r)(S:Addr)(hSr:S≠r)(hSl:S≠l)(res:Value)(c₀:Nat)(hS:s.heap.get? S=some {cls:=.type "list",data:=.seq #[] c₀})
  (hR:∀h' tk acc' c',(∀b o,b≠S->b≠r->s.heap.get? b=some o->h'.get? b=some o)->h'.get? S=some {cls:=.type "list",dict:=none,data:=.seq acc' c',slots:=#[]}->ItemsOf (λi v=>items[items.size-1-i]?=some v) acc' items.size->R (.ok (.ret res)) {s with heap:=h',toks:=tk}) (hn:items.size<=sizeLine) :
  wpAny (model prog w) A.in1 (Builtin.List.listExtendWith (.ref S) (.ref r) res)
   (λfin s'=>match fin with|.done f=>R (.ok f) s'|.again c'=>c'.quiet=true/\codeAny (model prog w) A c' R s') (λe s'=>R (.error e) s') s:=by
 have hSf:S∉[r,l]:=by simp only[aN,dN,or_false,not_or];exact⟨hSr,hSl⟩
 have hz:(items.size:Int)<2 ^ 63:=by
  have h2:sizeLine<2 ^ 63:=by decide
  lia
 have W:=Walks.tupRev (prog:=prog) (w:=w) (A:=A.in1) hh r l hne items hz
 have key:∀(h:Heap) (c₁ tk:Nat),(0<=items.size/\RvAt h r l ((items.size:Int)-1-((0:Nat):Int))/\IsTup h l items)->(∀b o,b≠S->s.heap.get? b=some o->h.get? b=some o)->
   h.get? S=some {cls:=.type "list",data:=.seq #[] c₁}->codeAny (model prog w) A (.builtin "list.extend.loop" ⟨[.ref S,.ref r,res],[]⟩) R {s with heap:=h,toks:=tk}:=by
  intro h c₁ tk hst hk hS₁
  refine codeAny_extend_loopS W.toS hn S hSf res items.size 0 _ #[] c₁ rfl (cf _) hst hS₁ (ItemsOf.nil _) λs' acc' c' hm hS' hacc=>?_
  rw[Moved.eq_with hm]
  refine hR s'.heap s'.toks acc' c' (λb o hb hbr e=>hm.heap b o (λhmem=>?_) (hk b o hb e)) hS' hacc
  rcases aN.mp hmem with e'|hmem
  ·exact hb e'
  ·exact hbr (ai.mp hmem)
 have st0:0<=items.size/\RvAt s.heap r l ((items.size:Int)-1-((0:Nat):Int))/\IsTup s.heap l items:=⟨cf _,(by have e:(items.size:Int)-1-((0:Nat):Int)=(items.size:Int)-1:=(by lia);rw[e];exact hit),hl⟩
 unfold Builtin.List.listExtendWith
 refine wpAny_bind (wpAny_typeOf (T:="reversed") hit.type ?_)
 have h1:Builtin.List.listSameRef (.ref S) (.ref r)=false:=by simp[Builtin.List.listSameRef,hSr]
 have h2:(Value.type "reversed"==Value.type "list")=false:=by decide
 have h3:(Value.type "reversed"==Value.type "tuple")=false:=by decide
 simp only[h1,h2,h3,Bool.or_false,Bool.false_eq_true,if_false]
 refine wpAny_bind (y7 hit ?_)
 refine wpAny_bind (wpAny_holding (EK hl hit hn λbb tk0=>?_))
 refine wpAny_ite_split (λ_=>?_) (λ_=>wpAny_pure ⟨plainId_quiet PySem.F.plain_extend_loop _,key _ c₀ _ st0 (λb o _ e=>e) hS⟩)
 refine wpAny_bind (wpAny_rule ?_)
 refine wpAny_bind ?_
 show wpAny _ _ (updateSeq S (·.push .none) >>= λ_=>updateSeq S (·.pop)) _ _ _
 refine wpAny_bind (wpAny_updateSeq (s:={s with toks:=tk0}) hS rfl ?_)
 have hS₂:=fg (Obj.mapSeq (·.push Value.none)) hS rfl
 refine wpAny_updateSeq (hz:=by seq_fits) hS₂ rfl ?_
 have hS₃:=fg (Obj.mapSeq (·.pop)) hS₂ rfl
 refine wpAny_pure ⟨plainId_quiet PySem.F.plain_extend_loop _,key _ _ _ ?_ (λb o hb e=>?_) hS₃⟩
 ·refine W.frame 0 _ _ st0 λb hb o e=>?_
  have hbS:b≠S:=λh=>hSf (h ▸ hb)
  exact(de _ _ (Ne.symm hbS)).trans ((de _ _ (Ne.symm hbS)).trans e)
 ·exact(de _ _ (Ne.symm hb)).trans ((de _ _ (Ne.symm hb)).trans e)
theorem Gb{items:Array Value}{R:Result->Shared->Prop}(hh:A.handled=none)(hl:IsTup s.heap l items)(hit:RvAt s.heap r l ((items.size:Int)-1))(hne:l≠r)(S:Addr)(hSr:S≠r)(hSl:S≠l)(hS:s.heap.get? S=some {cls:=.type "list",data:=.seq #[]})
  (hR:∀h' tk acc' c',(∀b o,b≠S->b≠r->s.heap.get? b=some o->h'.get? b=some o)->h'.get? S=some {cls:=.type "list",dict:=none,data:=.seq acc' c',slots:=#[]}->ItemsOf (λi v=>items[items.size-1-i]?=some v) acc' items.size->R (.ok (.ret .none)) {s with heap:=h',toks:=tk}) (hn:items.size<=sizeLine) :
  wpAny (model prog w) A.in1 (Builtin.«list.__init__» ⟨[.ref S,.ref r],[]⟩)
   (λfin s'=>match fin with|.done f=>R (.ok f) s'|.again c'=>c'.quiet=true/\codeAny (model prog w) A c' R s') (λe s'=>R (.error e) s') s:=by
 show wpAny _ _ (do let old <-Builtin.List.listItems (.ref S);Builtin.List.listUpdate (.ref S) (λ_=>#[]);letGo old.toList.reverse;Builtin.List.listExtendWith (.ref S) (.ref r) .none) _ _ s
 refine wpAny_bind ?_
 unfold Builtin.List.listItems
 refine wpAny_bind (wpAny_seqItems hS rfl (wpAny_pure ?_))
 show wpAny _ _ (updateSeq S (λ_=>#[]) >>= λ_=>letGo (#[]:Array Value).toList.reverse >>= λ_=>Builtin.List.listExtendWith (.ref S) (.ref r) .none) _ _ s
 refine wpAny_bind (wpAny_updateSeq hS rfl ?_)
 have hS₂:=fg (Obj.mapSeq (λ_=>(#[]:Array Value))) hS rfl
 have oth:∀b o,b≠S->s.heap.get? b=some o->(s.heap.update S (Obj.mapSeq (λ_=>(#[]:Array Value)))).get? b=some o:=
  λb o hb e=>(de _ _ (Ne.symm hb)).trans e
 refine wpAny_bind (wpAny_letGo ?_)
 refine AY (items:=items) hh (let⟨o,ho,p⟩:=hl;⟨o,oth l o hSl.symm ho,p⟩) (hit.at λo e=>oth r o hSr.symm e) hne S hSr hSl .none _ hS₂ (λh' tk acc' c' hk hS' hacc=>?_) hn
 exact hR h' tk acc' c' (λb o hb hbr e=>hk b o hb hbr (oth b o hb e)) hS' hacc
theorem call_list_rvt{items:Array Value}{Q:Value->Shared->Prop}(hh:A.handled=none)(hl:IsTup s.heap l items)(hit:RvAt s.heap r l ((items.size:Int)-1))(hne:l≠r)(hn:items.size<=sizeLine)
  (hQ:∀h' tk acc' c',(∀b o,b≠r->s.heap.get? b=some o->h'.get? b=some o)->h'.get? s.heap.objs.size=some {cls:=.type "list",dict:=none,data:=.seq acc' c',slots:=#[]}->ItemsOf (λi v=>items[items.size-1-i]?=some v) acc' items.size->Q (.ref s.heap.objs.size) {s with heap:=h',toks:=tk}) :
  wpAny (model prog w) A (call (.type "list") [.ref r]) Q E s:=by
 refine callType_codes (Q₁:=λobj s₁=>obj=.ref s.heap.objs.size/\s₁={s with heap:=s.heap.push {cls:=.type "list",data:=.seq #[]}}) PySem.F.called_list (PySem.F.typeCall_list_1 _) PySem.F.entry_list_init
  (code_list_new _ ⟨rfl,rfl⟩) λobj s₁ h₁=>?_
 obtain⟨rfl,rfl⟩:=h₁
 have hS:(s.heap.push {cls:=.type "list",data:=.seq #[]}).get? s.heap.objs.size=some {cls:=.type "list",data:=.seq #[]}:=aQ _ rfl
 have lr:r<s.heap.objs.size:=aJ hit
 have ll:l<s.heap.objs.size:=let⟨_,ho,_⟩:=hl;aJ ho
 refine⟨⟨_,hS,rfl⟩,PySem.F.args_list_init_2 _ _,Gb (A:=A.in1) (items:=items) hh (let⟨o,ho,p⟩:=hl;⟨o,aA _ ho,p⟩) (hit.at λo e=>aA _ e) hne _ (fG lr) (fG ll) hS (λh' tk acc' c' hk hS' hacc=>?_) hn⟩
 exact⟨rfl,hQ h' tk acc' c' (λb o hb e=>hk b o (aV (aJ e)) hb (aA _ e)) hS' hacc⟩
end
end BgRev
namespace L2
open PySem PySem.Spec PyProof.Rows
def qX(K:Fg)(t:TA):TE:=λσ H Q=>t σ H λvs H1=>∃p ys,vs=[.ref p]/\dC K H1 p ys/\∀l,H1 l=none->Q (.ref l) (upd H1 l (.lst ys.reverse))
section
variable{X:Cx}
theorem yO{a:Expr}{ta:TA}{p1 p2 pos pos2:Pos}(hg:Gl X "list")(hg2:Gl X "reversed")(hm:X.mg "list"=none)(hm2:X.mg "reversed"=none)(hc:X.calm=true)(ha:PA X [a] ta)
  (hs2:starEach [a] X.env=[(false,eval a X.env)]:=by rfl) (hs:starEach [.Call (.Name "reversed" p2) [a] [] pos2] X.env=[(false,eval (.Call (.Name "reversed" p2) [a] [] pos2) X.env)]:=by rfl) :
  PE X (.Call (.Name "list" p1) [.Call (.Name "reversed" p2) [a] [] pos2] [] pos) (qX X.K ta):=by
 intro pins s σ H Q I h
 refine wpAny_Call_Name_kw (lB I hg hm boot_list ?_)
 refine cb ?_ hs rfl
 rw[hs]
 show wpAny _ _ (spliced ((false,eval (.Call (.Name "reversed" p2) [a] [] pos2) X.env)::backTo pos [])) _ _ s
 refine Calls.spliced_cons ?_
 refine wpAny_Call_Name_kw (lB I hg2 hm2 boot_reversed ?_)
 refine cb (gd (ha pos2 pins s σ H _ I h) λus s1 ⟨vs,H1,I1,r1,q1⟩=>?_) hs2 rfl
 obtain⟨l,ys,rfl,hq,q⟩:=q1
 obtain⟨u,rfl,rx⟩:=m5 r1
 cases rx
 obtain⟨its,rv,pl,hz⟩:=I1.tuple hq
 have ll:l<s1.heap.objs.size:=let⟨_,ho,_⟩:=pl;aJ ho
 have hlen:=rv.length
 have hzz:(its.toArray.size:Int)<2 ^ 63:=by
  have:its.toArray.size<=sizeLine:=by rw[au,<-hlen];exact hz
  have h2:sizeLine<2 ^ 63:=by decide
  lia
 refine BgRev.call_rev pl hzz λtk1=>Calls.spliced_nil ?_
 have at_:BgRev.RvAt (s1.heap.push (BgRev.rvObj l ((its.toArray.size:Int)-1))) s1.heap.objs.size l ((its.toArray.size:Int)-1):=by
  have:(s1.heap.push (BgRev.rvObj l ((its.toArray.size:Int)-1))).get? s1.heap.objs.size=some (BgRev.rvObj l ((its.toArray.size:Int)-1)):=aQ _ rfl
  unfold BgRev.RvAt
  rw[this]
  simp[BgRev.rvObj,rawInt]
 refine BgRev.call_list_rvt (s:={s1 with heap:=s1.heap.push (BgRev.rvObj l ((its.toArray.size:Int)-1)),toks:=tk1}) (items:=its.toArray) (I1.ok.hd hc) (let⟨o,ho,p⟩:=pl;⟨o,aA _ ho,p⟩) at_ (aV ll) (by rw[au,<-hlen];exact hz) λh' tk acc c' hk hS hacc=>?_
 have sz:(s1.heap.push (BgRev.rvObj l ((its.toArray.size:Int)-1))).objs.size=s1.heap.objs.size+1:=size_push' ..
 have kp:∀b o,s1.heap.get? b=some o->h'.get? b=some o:=λb o e=>hk b o (aV (aJ e)) (aA _ e)
 refine⟨.ref (s1.heap.push (BgRev.rvObj l ((its.toArray.size:Int)-1))).objs.size,_,I1.laid (t':=tk) kp (by rw[sz];exact iJ _) (show fH X.prog X.w _ h' _ (.lst ys.reverse) from⟨by rw[List.length_reverse];exact hz,acc.toList,c',FX rv hacc,?_⟩),rfl,q _ (I1.hok.fresh (by rw[sz];exact iJ _))⟩
 rw[fu];exact hS
theorem yP{a:Expr}{ta:TA}{p1 p2 pos pos2:Pos}(hg:Gl X "list")(hg2:Gl X "reversed")(hm:X.mg "list"=none)(hm2:X.mg "reversed"=none)(hc:X.calm=true)(ha:QA X [a] ta)
  (hs2:starEach [a] X.env=[(false,eval a X.env)]:=by rfl) (hs:starEach [.Call (.Name "reversed" p2) [a] [] pos2] X.env=[(false,eval (.Call (.Name "reversed" p2) [a] [] pos2) X.env)]:=by rfl) :
  QE X (.Call (.Name "list" p1) [.Call (.Name "reversed" p2) [a] [] pos2] [] pos) (qX X.K ta):=⟨yO hg hg2 hm hm2 hc ha.up hs2 hs⟩
end
end L2
end
section
namespace PySem
open Sem (wp)
open AutoSeq1 (wpAny_loadPart')
section
variable{prog:Program}{w:World}{A:Around}{E:Value->Shared->Prop}{s:Shared}
theorem AE{ib tb:Addr}{i:Nat}{its:Array Value}{x:Value}{Q:Value->Shared->Prop}(hib:s.heap.IsTupleIter ib tb i)(htb:s.heap.IsTuple tb its)(hx:its[i]?=some x)
  (hQ:∀h',h'.IsTupleIter ib tb (i+1)->Heap.SameBut ib s.heap h'->Q x {s with heap:=h'}):wpAny (model prog w) A (Builtin.SmallTypes.nextOf (.ref ib)) Q E s:=by
 obtain⟨ob,hob,hcb,hdb⟩:=id hib
 obtain⟨ot,hot,_,nt,hdt⟩:=htb
 unfold Builtin.SmallTypes.nextOf
 refine wpAny_bind (wpAny_callSpecial?_slot (name:=Str.ofString "__next__") hib.typeIs F.slot_tuple_iterator_next (wpAny_call_entry F.slot_tuple_iterator_next hib.typeIs F.entry_tuple_iterator_next ?_ (F.args_tuple_iterator_next_1 _)))
 show wpAny _ _ (field (.ref ib) 0 >>= _) _ _ s
 refine wpAny_bind (wpAny_field hob hdb (x:=.ref tb) rfl ?_)
 show wpAny _ _ (if(Value.ref tb==Value.none)=true then _ else _) _ _ s
 rw[if_neg (show ¬((Value.ref tb==Value.none)=true) from Bool.false_ne_true)]
 show wpAny _ _ (field (.ref ib) 1 >>= _) _ _ s
 refine wpAny_bind (wpAny_field hob hdb (x:=.int i 0) rfl ?_)
 show wpAny _ _ (seqItems? (.ref tb) >>= _) _ _ s
 refine wpAny_bind (wpAny_seqItems hot hdt ?_)
 simp only[fz,hx]
 refine wpAny_bind (wpAny_setField hob hdb (by simp) (wpAny_pure ⟨x,rfl,wpAny_pure (hQ _ ?_ (Heap.SameBut.update ..))⟩))
 exact⟨_,fg _ hob (Obj.isFreed_of_fields (Obj.data_mapFields hdb _)),(Obj.cls_mapFields ..).trans hcb,by rw[Obj.data_mapFields hdb];simp[rawInt]⟩
theorem vN{ib tb:Addr}{i:Nat}{its:Array Value}{Q:Value->Shared->Prop}(hh:A.handled=none)(hib:s.heap.IsTupleIter ib tb i)(htb:s.heap.IsTuple tb its)(hx:its[i]?=none)
  (hE:∀h' e,Heap.ExtBut ib s.heap h'->(∃o,h'.get? e=some o/\o.cls=.type "StopIteration")->E (.ref e) {s with heap:=h'}):wpAny (model prog w) A (Builtin.SmallTypes.nextOf (.ref ib)) Q E s:=by
 obtain⟨ob,hob,hcb,hdb⟩:=id hib
 obtain⟨ot,hot,_,nt,hdt⟩:=htb
 unfold Builtin.SmallTypes.nextOf
 refine wpAny_bind (wpAny_callSpecial?_slot (name:=Str.ofString "__next__") hib.typeIs F.slot_tuple_iterator_next (wpAny_call_entry F.slot_tuple_iterator_next hib.typeIs F.entry_tuple_iterator_next ?_ (F.args_tuple_iterator_next_1 _)))
 show wpAny _ _ (field (.ref ib) 0 >>= _) _ _ s
 refine wpAny_bind (wpAny_field hob hdb (x:=.ref tb) rfl ?_)
 show wpAny _ _ (if(Value.ref tb==Value.none)=true then _ else _) _ _ s
 rw[if_neg (show ¬((Value.ref tb==Value.none)=true) from Bool.false_ne_true)]
 show wpAny _ _ (field (.ref ib) 1 >>= _) _ _ s
 refine wpAny_bind (wpAny_field hob hdb (x:=.int i 0) rfl ?_)
 show wpAny _ _ (seqItems? (.ref tb) >>= _) _ _ s
 refine wpAny_bind (wpAny_seqItems hot hdt ?_)
 simp only[fz,hx]
 refine wpAny_bind (wpAny_rule (wpAny_bind (wpAny_setField hob hdb (by simp) ?_)))
 show wpAny _ _ (newExc (.type "StopIteration") [] >>= _) _ _ _
 refine wpAny_bind ?_
 simp only[newExc,newTuple]
 refine wpAny_bind (wpAny_newObj_type ?_ (by size_fits))
 refine wpAny_bind (m:=firstArgMember _ _) (wpAny_of_eq (a:=Value.none) (by first|rfl|(simp only[firstArgMember];rfl)) ?_)
 refine wpAny_newObj_type ?_ (by size_fits)
 simp only[raiseNew]
 refine wpAny_bind (wpAny_handled ?_)
 first|rw[show A.in1.handled=none from hh]|rw[hh]
 refine wpAny_bind (wpAny_pure (wpAny_throw ?_))
 exact hE _ _ (((Heap.SameBut.update ..).extBut.push _).push _) ⟨_,aQ _ rfl,rfl⟩
end
theorem JE{prog:Program}{w:World}{A:Around}(hh:A.handled=none)(ib tb:Addr)(hne:tb≠ib)(its:Array Value) :
  Draws prog w A ib [ib,tb] its.size (λi v=>its[i]?=some v) (λi h=>h.IsTupleIter ib tb i/\h.IsTuple tb its) where
 live:=λ_ _ st=>let⟨o,ho,_⟩:=st.1;⟨o,ho⟩
 frame:=λ_ _ _ st hk=>⟨st.1.at λo e=>hk ib (by simp) o e,let⟨o,ho,r⟩:=st.2;⟨o,hk tb (by simp) o ho,r⟩⟩
 item:=λi s Q E hi st hQ=>AE st.1 st.2 (x:=its[i]) (by simp[hi]) λh' hit' hs'=>hQ _ h' s.toks (by simp[hi]) ⟨hit',st.2.extBut hs'.extBut hne⟩ hs'
 done:=λs Q E st hE=>vN hh st.1 st.2 (by simp) hE
theorem yB(tb:Addr)(its:Array Value)(n:Nat)(dct:Option Addr)(sl:Array (Option Value)) :
  Meets (Builtin.«enumerate.__new__» ⟨[.type "enumerate",.ref tb],[]⟩) (λ_ R s=>s.heap.get? tb=some {cls:=.type "tuple",dict:=dct,data:=.seq its n,slots:=sl}/\
   R (.ok (.ret (.ref (s.heap.push {cls:=.type "tuple_iterator",data:=.fields #[.ref tb,.int 0 0]}).objs.size)))
    {s with heap:=(s.heap.push {cls:=.type "tuple_iterator",data:=.fields #[.ref tb,.int 0 0]}).push {cls:=.type "enumerate",data:=.fields #[.none,.bool false,.ref s.heap.objs.size,rawInt 0,.none,.none]}}):=
 .of_wp λprog w A R s h=>by
  obtain⟨hp,g,d,tk,os⟩:=s;obtain⟨hl,h⟩:=h
  have hsub:=sub_enumerate
  have hL:Heap.IsTuple (Shared.heap ⟨hp,g,d,tk,os⟩) tb its:=⟨_,hl,rfl,n,rfl⟩
  wp_walk using wpAny_loadPart' hl
  refine wpAny_stack_any λst=>wpAny_pure ?_
  split
  ·rename_i c _ _ _ _ _
   cases(c==Value.type "enumerate")
   ·wp_walk using wpAny_loadPart' hl,wpAny_pyIter_tuple hL
    exact⟨_,rfl,h⟩
   ·wp_walk using wpAny_loadPart' hl,wpAny_pyIter_tuple hL
    exact⟨_,rfl,h⟩
  ·wp_walk using wpAny_loadPart' hl,wpAny_pyIter_tuple hL
   exact⟨_,rfl,h⟩
theorem zZ{prog:Program}{w:World}{A:Around}{E:Value->Shared->Prop}{s:Shared}{tb:Addr}{its:Array Value}{Q:Value->Shared->Prop}(hL:s.heap.IsTuple tb its)
  (h:∀h',IsEnum h' (s.heap.objs.size+1) s.heap.objs.size 0 .none->h'.IsTupleIter s.heap.objs.size tb 0->h'.objs.size=s.heap.objs.size+2->(∀b o,s.heap.get? b=some o->h'.get? b=some o)->Q (.ref (s.heap.objs.size+1)) {s with heap:=h'}) :
  wpAny (model prog w) A (call (.type "enumerate") [.ref tb]) Q E s:=by
 obtain⟨⟨c,dct,dt,sl⟩,hl,hc,n,hd⟩:=hL
 replace hc:c=.type "tuple":=hc
 replace hd:dt=.seq its n:=hd
 subst hc hd
 refine callType_new F.called_enumerate (by decide) (F.typeCall_enumerate_1 _) (F.newCall_enumerate_1 _) (λobj=>F.args_object_init_2 obj _) F.entry_enumerate_new (yB tb its n dct sl) ⟨hl,?_⟩
 have hz:(s.heap.push {cls:=.type "tuple_iterator",data:=.fields #[.ref tb,.int 0 0]}).objs.size=s.heap.objs.size+1:=iP ..
 show _/\_
 rw[hz]
 have he:IsEnum ((s.heap.push {cls:=.type "tuple_iterator",data:=.fields #[.ref tb,.int 0 0]}).push {cls:=.type "enumerate",data:=.fields #[.none,.bool false,.ref s.heap.objs.size,rawInt 0,.none,.none]}) (s.heap.objs.size+1) s.heap.objs.size 0 .none:=by
  have:=aQ (s.heap.push {cls:=.type "tuple_iterator",data:=.fields #[.ref tb,.int 0 0]}) (o:={cls:=.type "enumerate",data:=.fields #[.none,.bool false,.ref s.heap.objs.size,rawInt 0,.none,.none]}) rfl
  rw[hz] at this;exact this
 refine⟨⟨_,he,rfl⟩,h _ he ⟨_,aA _ (aQ _ rfl),rfl,rfl⟩ (by rw[iP,hz]) λb o x=>aA _ (aA _ x)⟩
end PySem
namespace L2
open PySem PySem.Spec PyProof.Rows
def Eg(K:Fg)(a:Addr):It:=
 ⟨λi H=>∃xs x,dC K H a xs/\xs[i]?=some x,λi H x H'=>∃p v,H p=none/\x=.ref p/\H'=upd H p (.tup [.int (i:Nat),v])/\∀xs,dC K H a xs->xs[i]?=some v,λi H=>∃xs,dC K H a xs/\xs.length<=i⟩
theorem Bh{P:Program}{w:World}{K:Fg}{elts:List Expr}{k:Nat}{pos:Pos}(a e it:Addr)(hne:e≠it) :
  uV P w K (.Tuple elts k pos) (Eg K a) [e,it] e (λi h=>(∃old,IsEnum h e it (i:Nat) old)/\h.IsTupleIter it a i) where
 mem:=by simp
 obj:=λi h st b hb=>by
  obtain⟨⟨old,he⟩,⟨o,ho,c,d⟩⟩:=st
  rcases aN.mp hb with rfl|hb
  ·exact⟨_,he,λv z=>by have z':Data.fields _=Data.cell v:=z;cases z'⟩
  ·rw[ai.mp hb]
   exact⟨o,ho,λv z=>by rw[d] at z;cases z⟩
 keep:=λi h h' st k=>⟨let⟨old,he⟩:=st.1;⟨old,k e (by simp) _ he⟩,st.2.at λo q=>k it (by simp) o q⟩
 item:=by
  intro X hP hw hK hc i pins s σ H E I hf st hg
  subst hP hw hK
  obtain⟨⟨old,he⟩,hit⟩:=st
  obtain⟨xs,x,hq,hx⟩:=hg
  obtain⟨its,rv,p,hz⟩:=I.tuple hq
  obtain⟨u,hu,ru⟩:=rv.get hx
  have p':s.heap.IsTuple a its.toArray:=p
  have hlt:i<its.toArray.size:=by have:=(af.mp hu).1;simpa using this
  have na:a≠it:=by
   intro z;subst z
   obtain⟨o,e1,c1,_⟩:=p'
   obtain⟨o',e2,c2,_⟩:=hit
   rw[e1] at e2;cases e2;rw[c1] at c2
   injection c2 with c3
   exact absurd c3 (by decide)
  have nb:e≠a:=by
   intro z;subst z
   obtain⟨o,e1,c1,_⟩:=p'
   rw[he] at e1;cases e1
   injection c1 with c3
   exact absurd c3 (by decide)
  have Dw:=JE (prog:=X.prog) (w:=X.w) (A:=X.A.in1) (show X.A.in1.handled=none from I.ok.hd hc) it a na its.toArray
  refine wpAny_pyNext_enum_itemD Dw he ⟨hit,p'⟩ hlt hne (by simp[hne,nb]) λy h1 tk hP ho st1 hT hsz hk=>?_
  have ey:y=u:=by
   have h1:its.toArray[i]?=some y:=hP
   have h2:its[i]?=some y:=by simpa using h1
   rw[hu] at h2;exact(Option.some.inj h2).symm
  subst ey
  refine⟨_,rfl,?_⟩
  have fT:oJ X pins H s.heap.objs.size:=I.fpOk (aB _) (I.hok.fresh (aB _))
  refine wpAny_letOwnedTupleGo_enum ho λh2 he2 hs2=>?_
  have helt:e<s.heap.objs.size:=aJ he
  have I1:bU X pins σ H {s with heap:=h2,toks:=tk+1}:=I.turnedL (t':=tk+1) (ch:=[e,it]) (λb o hb q=>by
   have b1:b≠e:=λz=>hb (by simp[z])
   have b2:b≠it:=λz=>hb (by simp[z])
   exact(hs2.2 b b1).trans (hk b o b1 b2 q)) hf
  have gT:h2.get? s.heap.objs.size=some {cls:=.type "tuple",data:=.seq #[.int i tk,y]}:=(hs2.2 _ (fG helt)).trans hT
  have I2:=I1.adopt (T:=s.heap.objs.size) (o:=.tup [.int (i:Nat),x]) fT (sV (X:=X) gT ⟨tk,rfl⟩ ru)
  refine⟨.ref s.heap.objs.size,_,I2,rfl,⟨s.heap.objs.size,x,fT.1,rfl,rfl,λys hy=>by rw[I.tuple_inj hy hq];exact hx⟩,⟨⟨y,?_⟩,?_⟩,λb hb=>?_⟩
  ·have e2:(((i+1:Nat):Nat):Int)=(i:Int)+1:=by lia
   show IsEnum h2 e it (((i+1:Nat):Nat):Int) y
   rw[e2];exact he2
  ·obtain⟨o,q1,q2⟩:=st1.1
   exact⟨o,(hs2.2 it (Ne.symm hne)).trans q1,q2⟩
  ·have nT:b≠s.heap.objs.size:=by
    rcases aN.mp hb with rfl|hb
    ·exact aV helt
    ·rw[ai.mp hb]
     obtain⟨o,ho,_⟩:=hit
     exact aV (aJ ho)
   rw[ax nT];exact(hf b hb).1
 done:=by
  intro X hP hw hK hc i pins s σ H E I hf st hg
  subst hP hw hK
  obtain⟨⟨old,he⟩,hit⟩:=st
  obtain⟨xs,hq,hx⟩:=hg
  obtain⟨its,rv,p,hz⟩:=I.tuple hq
  have hl:=rv.length
  have hT:s.TypeIs (.ref e) "enumerate":=⟨_,he,rfl⟩
  unfold pyNext
  refine wpAny_bind (wpAny_attempt (wpAny_callSpecial?_slot (name:=Str.ofString "__next__") hT F.slot_enumerate_next
   (wpAny_call_entry F.slot_enumerate_next hT F.entry_enumerate_next ?_ (F.args_enumerate_next_1 _))))
  show wpAny _ _ (field (.ref e) 2 >>= _) _ _ _
  refine wpAny_bind (wpAny_field he rfl (x:=.ref it) rfl ?_)
  refine wpAny_bind (vN (show X.A.in1.handled=none from I.ok.hd hc) hit (show s.heap.IsTuple a its.toArray from p) (by simp;lia) λh1 x1 eb hx1=>?_)
  obtain⟨o,ho,hcl⟩:=hx1
  refine wpAny_bind (wpAny_isInstance (T:="StopIteration") (b:=true) ⟨o,ho,hcl⟩ isSubtype_stop ?_)
  exact wpAny_pure ⟨rfl,I.turnedL (t':=s.toks) (ch:=[e,it]) (λb ob hb q=>eb b ob (λz=>hb (by simp[z])) q) hf⟩
 self:=λ_ _ _ _ _ st h=>let⟨_,he⟩:=st.1;wpAny_pyIter_enum he h
section
variable{X:Cx}{elts:List Expr}{k:Nat}{tpos:Pos}
def Am(K:Fg)(tl:TA):TI:=λσ H R=>tl σ H λvs H1=>∃a,vs=[.ref a]/\(∃xs,dC K H1 a xs)/\R (Eg K a) H1
theorem Fu{a:Expr}{ta:TA}{p pos:Pos}(hg:Gl X "enumerate")(hm:X.mg "enumerate"=none)(ha:PA X [a] ta)(hs:starEach [a] X.env=[(false,eval a X.env)]:=by rfl) :
  PI X (.Tuple elts k tpos) (.Call (.Name "enumerate" p) [a] [] pos) (Am X.K ta):=by
 intro pins s σ H R I h
 refine Call_ (lB I hg hm boot_enumerate (cb (gd (ha pos pins s σ H _ I h) λus s1 ⟨vs,H1,I1,r1,q1⟩=>?_) hs rfl))
 obtain⟨l,e,⟨xs,hq⟩,q⟩:=q1
 subst e
 cases r1 with
 |cons r rr=>
  cases rr
  cases r
  obtain⟨its,rv,pl,hz⟩:=I1.tuple hq
  refine zZ (show s1.heap.IsTuple l its.toArray from pl) λh1 he hit hsz hk=>?_
  refine wpAny_pyIter_enum he ?_
  have I2:bU X pins σ H1 {s1 with heap:=h1}:=I1.kept (t':=s1.toks) hk
  refine⟨s1.heap.objs.size+1,[s1.heap.objs.size+1,s1.heap.objs.size],_,_,H1,rfl,I2,Bh l _ _ (Nat.succ_ne_self _),⟨⟨.none,he⟩,hit⟩,λb hb=>?_,q⟩
  have hb':s1.heap.objs.size<=b:=by
   rcases aN.mp hb with rfl|hb
   ·lia
   ·rw[ai.mp hb];exact aB _
  exact I1.fpOk hb' (I1.hok.fresh hb')
theorem FF{a:Expr}{ta:TA}{p pos:Pos}(hg:Gl X "enumerate")(hm:X.mg "enumerate"=none)(ha:QA X [a] ta)(hs:starEach [a] X.env=[(false,eval a X.env)]:=by rfl):QI X (.Tuple elts k tpos) (.Call (.Name "enumerate" p) [a] [] pos) (Am X.K ta):=
 ⟨Fu hg hm ha.1 hs⟩
end
theorem CU{K:Fg}{a:Addr}{xs:List V}{g:TG}{tb:TS}{D:nh}{σ:St}{H:Hp}(Pv:Nat->St->Hp->Prop)(h0:Pv 0 σ H)(hl:∀i σ H,i<=xs.length->Pv i σ H->dC K H a xs)
  (hs:∀i x σ H p,xs[i]?=some x->H p=none->Pv i σ H->g (.ref p) σ (upd H p (.tup [.int (i:Nat),x])) λσ2 H2=>tb {D with nx:=Pv (i+1),ct:=Pv (i+1),bk:=D.nx} σ2 H2) (hd:∀σ H,Pv xs.length σ H->D.nx σ H) :
  ∃W:Nat->Nat->St->Hp->Prop,(∃m,W 0 m σ H)/\∀i m σ H,W i m σ H->
   ((Eg K a).stop i H/\D.nx σ H)\/((Eg K a).go i H/\∃N:St->Hp->Prop,(∀σ' H',N σ' H'->∃m',m'<m/\W (i+1) m' σ' H')/\∀x H',(Eg K a).yld i H x H'->g x σ H' λσ2 H2=>tb {D with nx:=N,ct:=N,bk:=D.nx} σ2 H2):=by
 refine⟨λi m σ H=>m=xs.length-i/\i<=xs.length/\Pv i σ H,⟨xs.length,by simp,cf _,h0⟩,?_⟩
 rintro i m σ H ⟨rfl,hi,p⟩
 have q:=hl i σ H hi p
 by_cases hlt:i<xs.length
 ·refine .inr ⟨⟨xs,xs[i],q,by simp[hlt]⟩,Pv (i+1),λσ' H' p'=>⟨xs.length-(i+1),by lia,rfl,hlt,p'⟩,λx H' y=>?_⟩
  obtain⟨pp,v,e1,rfl,rfl,y⟩:=y
  exact hs i v σ H pp (y xs q) e1 p
 ·have e:i=xs.length:=by lia
  subst e
  exact .inl ⟨⟨xs,q,aB _⟩,hd σ H p⟩
end L2
end
section
namespace Bg
open PySem PySem.Spec PyProof.Rows L2
def m7(i:Nat):Stmt:=PySem.Challenge.pw_beltgarth_k72_the_first_row_that_is_shor.main.body.getD i (.Pass ⟨0,0,0,0⟩)
abbrev gs:Stmt:=m7 1
theorem rE:bX oM gO (ao gs):=⟨rfl,rfl,rfl,by decide +kernel,rfl,by decide +kernel,by decide +kernel⟩
abbrev hU:Stmt:=m7 2
theorem uo:bX qE iB (ao hU):=⟨rfl,rfl,rfl,by decide +kernel,rfl,by decide +kernel,by decide +kernel⟩
abbrev eT:Stmt:=m7 4
abbrev gk:List Str:=["names","name"]
abbrev kS:List Str:=["names","name"]
def rX(K:Fg):TS:=(cR (gI (e7 K) (aj (iM [] 1 (iN K (ar 0)) (aX 2) (bP (bI (xt K) (ar 2) (ar 1))) (ar 2)) aM)))
theorem qd:bX kS gk (ao eT):=⟨rfl,rfl,rfl,by decide +kernel,rfl,by decide +kernel,by decide +kernel⟩
abbrev i5:Stmt:=m7 5
theorem vV:bX tj jh (ao i5):=⟨rfl,rfl,rfl,by decide +kernel,rfl,by decide +kernel,by decide +kernel⟩
abbrev hW:Stmt:=m7 7
theorem ur:bX qG iC (ao hW):=⟨rfl,rfl,rfl,by decide +kernel,rfl,by decide +kernel,by decide +kernel⟩
abbrev i6:Stmt:=m7 8
theorem vW:bX tm gb (ao i6):=⟨rfl,rfl,rfl,by decide +kernel,rfl,by decide +kernel,by decide +kernel⟩
abbrev i4:Stmt:=m7 9
theorem vU:bX tf fZ (ao i4):=⟨rfl,rfl,rfl,by decide +kernel,rfl,by decide +kernel,by decide +kernel⟩
abbrev hV:Stmt:=m7 10
theorem uq:bX qF gh (ao hV):=⟨rfl,rfl,rfl,by decide +kernel,rfl,by decide +kernel,by decide +kernel⟩
abbrev gu:Stmt:=m7 11
theorem rF:bX oN cU (ao gu):=⟨rfl,rfl,rfl,by decide +kernel,rfl,by decide +kernel,by decide +kernel⟩
abbrev eC:Stmt:=m7 12
theorem rG:bX oO gP (ao eC):=⟨rfl,rfl,rfl,by decide +kernel,rfl,by decide +kernel,by decide +kernel⟩
abbrev eQ:Stmt:=m7 13
theorem qb:bX kQ df (ao eQ):=⟨rfl,rfl,rfl,by decide +kernel,rfl,by decide +kernel,by decide +kernel⟩
abbrev e8:Stmt:=m7 15
theorem rH:bX kx fK (ao e8):=⟨rfl,rfl,rfl,by decide +kernel,rfl,by decide +kernel,by decide +kernel⟩
abbrev lE:Stmt:=m7 16
theorem BS:bX wD ma (ao lE):=⟨rfl,rfl,rfl,by decide +kernel,rfl,by decide +kernel,by decide +kernel⟩
abbrev mz:Stmt:=m7 17
theorem BU:bX zW md (ao mz):=⟨rfl,rfl,rfl,by decide +kernel,rfl,by decide +kernel,by decide +kernel⟩
abbrev lF:Stmt:=m7 18
theorem BV:bX wF me (ao lF):=⟨rfl,rfl,rfl,by decide +kernel,rfl,by decide +kernel,by decide +kernel⟩
abbrev dB:Stmt:=Lx (m7 20) 0
theorem mQ:bX ku eB (ao dB):=⟨rfl,rfl,rfl,by decide +kernel,rfl,by decide +kernel,by decide +kernel⟩
abbrev eP:Stmt:=m7 21
theorem qa:bX kP gf (ao eP):=⟨rfl,rfl,rfl,by decide +kernel,rfl,by decide +kernel,by decide +kernel⟩
abbrev gr:Stmt:=m7 22
theorem rD:bX oK fJ (ao gr):=⟨rfl,rfl,rfl,by decide +kernel,rfl,by decide +kernel,by decide +kernel⟩
abbrev dX:Stmt:=m7 23
theorem nF:bX lz eY (ao dX):=⟨rfl,rfl,rfl,by decide +kernel,rfl,by decide +kernel,by decide +kernel⟩
abbrev hZ:Stmt:=m7 24
abbrev iD:List Str:=["program","places"]
abbrev qH:List Str:=["program","places","k","part","outline","n","found"]
def zH(K:Fg):TS:=(cR (tC .non))
def rS(K:Fg):TS:=(dG (bP (bI (yQ) (ar 6) (tC .non))) (cR (eM (aj (ar 2) (aj (ar 5) (aj (bI (d5 K) (ar 6) (tC (.int 0))) (aj (bI (d5 K) (ar 6) (tC (.int 1))) aM)))))) cG)
def rT(K:Fg):TS:=(bB (bZ (bL (fc K) [] E0 (aj (ar 4) (aj (ar 5) (aj (ar 1) aM)))) (aX 6)) (rS K))
def rV(K:Fg):TS:=(jM (iN K (gI xu (aj (pf K (ar 4) "wants") aM))) (aX 5) (rT K))
def rW(K:Fg):TS:=(bB (bZ (Gp (dc K "Outline") (eD K) [] E0 (aj (ar 3) aM)) (aX 4)) (rV K))
def wj(K:Fg):TS:=(bB (jM (Am K (aj (ar 0) aM)) (Ak K 2 (kZ (aX 2) (kZ (aX 3) yi))) (rW K)) (zH K))
theorem uu:bX qH iD (ao hZ):=⟨rfl,rfl,rfl,by decide +kernel,rfl,by decide +kernel,by decide +kernel⟩
abbrev dY:Stmt:=m7 25
abbrev eZ:List Str:=["outline","n","places"]
abbrev lA:List Str:=["outline","n","places","names","lost","left"]
def sF(K:Fg):TS:=(cR (tC .non))
def mU(K:Fg):TS:=(bB (dG (bP (bI (u9) (gI (iO K) (aj (ar 5) aM)) (bI (uj) (ar 2) (tC (.int 1))))) (cR (eM (aj (tC (.str "behind")) (aj (ar 5) aM)))) cG) (sF K))
def mV(K:Fg):TS:=(bB (bZ (bL (dR K) [] E0 (aj (ar 0) (aj (ar 1) aM))) (aX 5)) (mU K))
def mW(K:Fg):TS:=(bB (dG (bP (bI (u9) (gI (iO K) (aj (ar 3) aM)) (ar 2))) (cR (eM (aj (tC (.str "ahead")) (aj (ar 3) aM)))) cG) (mV K))
def mX(K:Fg):TS:=(bB (dG (qj (bP (bI ((FK false)) (ar 1) (pf K (ar 0) "led"))) (bP (bI (Mx) (gI (iO K) (aj (ar 3) aM)) (ar 2)))) (cR (eM (aj (tC (.str "head")) (aj (ar 3) aM)))) cG) (mW K))
def mY(K:Fg):TS:=(bB (dG (bP (bI (u9) (gI (iO K) (aj (ar 4) aM)) (tC (.int 0)))) (cR (eM (aj (tC (.str "begin")) (aj (ar 4) aM)))) cG) (mX K))
def mZ(K:Fg):TS:=(bB (bZ (bL (gw K) [] E0 (aj (ar 0) (aj (ar 1) (aj (ar 2) aM)))) (aX 4)) (mY K))
def oC(K:Fg):TS:=(bB (bZ (mR (pf K (ar 0) "wants") (ar 1)) (aX 3)) (mZ K))
theorem nG:bX lA eZ (ao dY):=⟨rfl,rfl,rfl,by decide +kernel,rfl,by decide +kernel,by decide +kernel⟩
abbrev eR:Stmt:=m7 26
abbrev gi:List Str:=["outline","n","places"]
abbrev kR:List Str:=["outline","n","places","lies"]
def oB(K:Fg):TS:=(cR (gI (e7 K) (aj (iM [] 1 (iN K (mR (pf K (ar 0) "wants") (ar 1))) (aX 4) (qj (bP (bI ((xQ K false)) (ar 4) (pf K (ar 0) "params"))) (bP (bI ((xQ K true)) (ar 4) (ar 3)))) (ar 4)) aM)))
def vh(K:Fg):TS:=(bB (bZ (bL (e9 K) [] E0 (aj (ar 0) (aj (ar 2) aM))) (aX 3)) (oB K))
def rR(K:Fg):TS:=(bB (dG (bP (bI (xt K) (ar 1) (pf K (ar 0) "first"))) (cR (eM aM)) cG) (vh K))
theorem qc:bX kR gi (ao eR):=⟨rfl,rfl,rfl,by decide +kernel,rfl,by decide +kernel,by decide +kernel⟩
abbrev dr:Stmt:=m7 27
abbrev dO:List Str:=["outline","n"]
abbrev jO:List Str:=["outline","n","x"]
def qp(K:Fg):TS:=(cR (bL (gx K) [] E0 (aj (mR (pf K (ar 0) "wants") (bL (bW K) [] E0 (aj (pf K (ar 0) "rows") (aj (bI (dA K) (ar 1) (tC (.int 1))) aM)))) (aj (ar 2) aM))))
def lu(K:Fg):TS:=(bB (dG (bP (bI (KH) (ar 2) (tC .non))) (cR (eM aM)) cG) (qp K))
def mT(K:Fg):TS:=(bB (bZ (bL (eX K) [] E0 (aj (bI (d5 K) (pf K (ar 0) "rows") (ar 1)) aM)) (aX 2)) (lu K))
theorem lQ:bX jO dO (ao dr):=⟨rfl,rfl,rfl,by decide +kernel,rfl,by decide +kernel,by decide +kernel⟩
abbrev my:Stmt:=m7 29
theorem BR:bX zV fI (ao my):=⟨rfl,rfl,rfl,by decide +kernel,rfl,by decide +kernel,by decide +kernel⟩
abbrev jD:Stmt:=m7 30
theorem y3:bX sJ kz (ao jD):=⟨rfl,rfl,rfl,by decide +kernel,rfl,by decide +kernel,by decide +kernel⟩
abbrev j9:Stmt:=m7 31
theorem y4:bX wH kA (ao j9):=⟨rfl,rfl,rfl,by decide +kernel,rfl,by decide +kernel,by decide +kernel⟩
abbrev fN:Stmt:=m7 32
theorem qe:bX ni gm (ao fN):=⟨rfl,rfl,rfl,by decide +kernel,rfl,by decide +kernel,by decide +kernel⟩
abbrev j8:Stmt:=m7 33
theorem y0:bX wC ky (ao j8):=⟨rfl,rfl,rfl,by decide +kernel,rfl,by decide +kernel,by decide +kernel⟩
abbrev iZ:Stmt:=m7 34
theorem vT:bX sZ jg (ao iZ):=⟨rfl,rfl,rfl,by decide +kernel,rfl,by decide +kernel,by decide +kernel⟩
abbrev d6:Stmt:=m7 35
theorem qf:bX jI gp (ao d6):=⟨rfl,rfl,rfl,by decide +kernel,rfl,by decide +kernel,by decide +kernel⟩
abbrev iq:Stmt:=m7 36
theorem vS:bX pE jf (ao iq):=⟨rfl,rfl,rfl,by decide +kernel,rfl,by decide +kernel,by decide +kernel⟩
abbrev lG:Stmt:=m7 37
theorem BW:bX wG mf (ao lG):=⟨rfl,rfl,rfl,by decide +kernel,rfl,by decide +kernel,by decide +kernel⟩
abbrev gG:Stmt:=m7 38
theorem uv:bX nS iE (ao gG):=⟨rfl,rfl,rfl,by decide +kernel,rfl,by decide +kernel,by decide +kernel⟩
abbrev nE:Stmt:=m7 39
abbrev oQ:List Str:=["_law_part_here","_law_n","_law_places","_law_names_here","_law_led"]
abbrev xS:List Str:=["_law_part_here","_law_n","_law_places","_law_names_here","_law_led","_law_rows","_law_some","_law_there","_law_lost","_law_rest"]
def IZ(K:Fg):TS:=(cR (tC .non))
def Co(K:Fg):TS:=(dG (bP (bI (u9) (gI (iO K) (aj (ar 9) aM)) (bI (uj) (ar 2) (tC (.int 1))))) (cR (eM (aj (tC (.str "behind")) (aj (gI (e7 K) (aj (gI (nZ K) (aj (ar 9) aM)) aM)) aM)))) cG)
def Cp(K:Fg):TS:=(bB (dG (bP (bI ((xQ K false)) (bI (d5 K) (bI (d5 K) (ar 5) (ar 1)) (tC (.int 0))) (eM (aj (tC (.str "num")) (aj (tC (.str "op")) (aj (tC (.str "call")) aM)))))) (bB (bZ (iM [] 1 (iN K (mR (ar 3) (bL (bW K) [] E0 (aj (ar 5) (aj (bI (dA K) (ar 1) (tC (.int 1))) aM))))) (aX 10) (bP (bI (FN K) (ar 10) (bI (d5 K) (bI (d5 K) (ar 5) (ar 1)) (tC (.int 1))))) (ar 10)) (aX 9)) (Co K)) cG) (IZ K))
def Cq(K:Fg):TS:=(bB (dG (bP (bI (u9) (gI (iO K) (aj (ar 6) aM)) (ar 2))) (cR (eM (aj (tC (.str "ahead")) (aj (gI (e7 K) (aj (gI (nZ K) (aj (ar 6) aM)) aM)) aM)))) cG) (Cp K))
def Cr(K:Fg):TS:=(bB (dG (qj (bP (bI ((xQ K false)) (ar 1) (ar 4))) (bP (bI (u9) (gI (iO K) (aj (ar 6) aM)) (bI (uj) (ar 2) (tC (.int 1)))))) (cR (eM (aj (tC (.str "head")) (aj (gI (e7 K) (aj (gI (nZ K) (aj (ar 6) aM)) aM)) aM)))) cG) (Cq K))
def Cs(K:Fg):TS:=(dG (bP (bI (FN K) (ar 8) (kc aM))) (cR (eM (aj (tC (.str "begin")) (aj (gI (e7 K) (aj (gI (nZ K) (aj (ar 8) aM)) aM)) aM)))) cG)
def Ct(K:Fg):TS:=(bB (bZ (iM [] 1 (iN K (ar 6)) (aX 10) (bP (bI ((xQ K true)) (ar 10) (ar 7))) (ar 10)) (aX 8)) (Cs K))
def Cu(K:Fg):TS:=(bB (dG (bP (bI (IE K) (ar 1) (bL (bW K) [] E0 (aj (ar 5) (aj (tC (.int 0)) aM))))) (bB (bZ (A4 (zS K) (qX K (aj (bI (d5 K) (ar 0) (tC (.int 1))) aM)) gA (kE (ar 2))) (aX 7)) (Ct K)) cG) (Cr K))
def Cv(K:Fg):TS:=(bB (bZ (gI (sT K) (aj (mR (ar 3) (ar 1)) aM)) (aX 6)) (Cu K))
def Jr(K:Fg):TS:=(bB (bZ (bI (d5 K) (ar 0) (tC (.int 2))) (aX 5)) (Cv K))
theorem Ge:bX xS oQ (ao nE):=⟨rfl,rfl,rfl,by decide +kernel,rfl,by decide +kernel,by decide +kernel⟩
abbrev p9:Stmt:=m7 40
abbrev oP:List Str:=["_law_program_here","_law_places"]
abbrev Eh:List Str:=["_law_program_here","_law_places","_law_k","_law_rows","_law_names_here","_law_n","_law_found"]
def IW(K:Fg):TS:=(cR (tC .non))
def B0(K:Fg):TS:=(dG (bP (bI (yQ) (ar 6) (tC .non))) (cR (bI (dA K) (eM (aj (ar 2) (aj (ar 5) aM))) (ar 6))) cG)
def B9(K:Fg):TS:=(bB (bZ (bL (oZ K) [] E0 (aj (bI (d5 K) (ar 0) (ar 2)) (aj (ar 5) (aj (ar 1) (aj (ar 4) (aj (bL (eU K) [] E0 (aj (ar 3) aM)) aM)))))) (aX 6)) (B0 K))
def Ca(K:Fg):TS:=(jM (iN K (bL (cE K) [] E0 (aj (ar 3) aM))) (aX 5) (B9 K))
def Cb(K:Fg):TS:=(bB (bZ (bL (eV K) [] E0 (aj (ar 3) aM)) (aX 4)) (Ca K))
def Cc(K:Fg):TS:=(bB (bZ (bI (d5 K) (bI (d5 K) (ar 0) (ar 2)) (tC (.int 2))) (aX 3)) (Cb K))
def Jp(K:Fg):TS:=(bB (jM (rn (aj (gI (iO K) (aj (ar 0) aM)) aM)) (aX 2) (Cc K)) (IW K))
theorem Gc:bX Eh oP (ao p9):=⟨rfl,rfl,rfl,by decide +kernel,rfl,by decide +kernel,by decide +kernel⟩
abbrev mP:Stmt:=m7 41
abbrev tw:List Str:=["_law_script"]
abbrev Ei:List Str:=["_law_script","_law_state","_law_program_here","_law_places","_law_found","_law_more"]
def Cd(K:Fg):TS:=(cR (bI (IE K) (bL (eE K) [] E0 (aj (ar 2) (aj (tC (.int 3)) aM))) (bL (lH K) [] E0 (aj (ar 2) (aj (tC (.int 3)) aM)))))
def xD(K:Fg):TS:=(dG (qj (bP (bI (yQ) (ar 4) (tC .non))) (qj (bP (bI (yQ) (ar 5) (tC .non))) (bP (bI ((LZ K)) (A4 (zS K) (ar 5) gA (kE (tC (.int 2)))) (A4 (zS K) (ar 4) gA (kE (tC (.int 2)))))))) (cR (tC (.bl false))) cG)
def Ce(K:Fg):TS:=(bB (dG (qj (bP (bI (KH) (ar 4) (tC .non))) (bP (bI (yQ) (ar 5) (tC .non)))) (cR (tC (.bl false))) cG) (xD K))
def Cf(K:Fg):TS:=(bB (bZ (bL (eE K) [] E0 (aj (ar 2) (aj (bI (dA K) (ar 3) (tC (.int 1))) aM))) (aX 5)) (Ce K))
def Cg(K:Fg):TS:=(bB (dG (bP (bI (FN K) (ar 4) (bL (lH K) [] E0 (aj (ar 2) (aj (ar 3) aM))))) (cR (tC (.bl false))) cG) (Cf K))
def Ci(K:Fg):TS:=(bB (bZ (bL (eE K) [] E0 (aj (ar 2) (aj (ar 3) aM))) (aX 4)) (Cg K))
def Cj(K:Fg):TS:=(bB (jM (EO (aj (tC (.int 1)) (aj (tC (.int 8)) aM))) (aX 3) (Ci K)) (Cd K))
def Ck(K:Fg):TS:=(bB (bZ (bL (iI K) [] E0 (aj (ar 1) (aj (tC (.int 14)) aM))) (aX 2)) (Cj K))
def Jq(K:Fg):TS:=(bB (bZ (kc (aj (ar 0) (aj (tC (.int 0)) (aj (tC (.int 0)) aM)))) (aX 1)) (Ck K))
theorem Gd:bX Ei tw (ao mP):=⟨rfl,rfl,rfl,by decide +kernel,rfl,by decide +kernel,by decide +kernel⟩
section
variable{P:Program}{w:World}{K:Fg}{mg:Str->Option Value}{base:Heap}{f:Addr}{cdv:Value}{A:Around}{outer:List Env}{s:Shared}{H:Hp}{E:XK}
theorem x8(B:gL mg)
  (hr:dh yj (A.deeper (envOfC "as_keys" (ao eP) s.heap.objs.size f cdv))):jQ (fQ fY P w K mg base kP "as_keys" (ao eP) f cdv A outer s H E).nox (aW eP) (rM K):=by
 have nd:=qa.nd
 have hu:=hr.units0
 have hu1:=dU hr
 refine kT.up ?_
 exact(aF (bF (cw (kX rfl) rfl B.dict_ boot_dict (ab (j6 (sc:=ao eP) (N:=kP) (NY:=["numbers","n"]) (js:=[]) (k:=1) ⟨rfl,by decide +kernel,by decide +kernel,by decide +kernel,rfl,by decide +kernel⟩ rfl rfl rfl rfl (dQ (qv 0)) (λ_ _ _ _ _=>(bR (i:=1) (show List.Nodup (["numbers","n"]:List Str) by decide +kernel) rfl (Or.inl rfl))) (λ_ _ _ _ _=>j7) (λ_ _ _ _ _=>(cx (ab (qv 1) (ab mO av))))) av))))
theorem Ey(B:gL mg)
  (hr:dh EY (A.deeper (envOfC "sets" (ao i6) s.heap.objs.size f cdv))):jQ (fQ fY P w K mg base tm "sets" (ao i6) f cdv A outer s H E).nox (aW i6) (zG K):=by
 have nd:=vW.nd
 have hu:=hr.units0
 have hu1:=dU hr
 refine kT.up ?_
 exact(aw (cI (bf gZ (bA ba (qv 0) aC (λ_ _=>rfl)) (cx (ab bC (ab bC (ab bC av)))) rfl) (aF (bF (bA ba (qv 0) aC (λ_ _=>rfl)))) bK) (aF (bF ie)))
theorem Ew(B:gL mg)
  (hr:dh EW (A.deeper (envOfC "goal" (ao i4) s.heap.objs.size f cdv))):jQ (fQ fY P w K mg base tf "goal" (ao i4) f cdv A outer s H E).nox (aW i4) (zi K):=by
 have nd:=vU.nd
 have hu:=hr.units0
 have hu1:=dU hr
 refine kT.up ?_
 exact(aw (cI (bf (dP hu) (bA ba (qv 0) aC (λ_ _=>rfl)) bC rfl) (aF (bF (bA ba (qv 0) aC (λ_ _=>rfl)))) bK) (aw (cI (bf (dP hu) (bA ba (qv 0) aC (λ_ _=>rfl)) bC rfl) (aF (bF (bA ba (qv 0) aC (λ_ _=>rfl)))) bK) (aF (bF ie))))
theorem CL(B:gL mg)(c_p_goal:aI P w K mg base "goal" fZ jG (d9 K))
  (hr:dh C4 (A.deeper (envOfC "leads" (ao hV) s.heap.objs.size f cdv))):jQ (fQ fY P w K mg base qF "leads" (ao hV) f cdv A outer s H E).nox (aW hV) (we K):=by
 have nd:=uq.nd
 have hu:=hr.units0
 have hu1:=dU hr
 refine kT.up ?_
 exact(aw (bz (i:=2) nd rfl (Or.inl rfl) (bA ba (bA ba (qv 0) (qv 1) (λ_ _=>rfl)) aC (λ_ _=>rfl))) (aw (cI (bf (dP hu) (qv 2) bC rfl) (aF (bF (cx av))) bK) (aw (cI (bf (dP hu) (qv 2) bC rfl) (aF (bF (cx (ab (bQ c_p_goal (hr.mono (by decide)) rfl (ab (bA ba (qv 0) (qv 1) (λ_ _=>rfl)) av)) av)))) bK) (aw (cI (bf (dP hu) (qv 2) bC rfl) (aF (bF (cx (ab (bS cv (qv 1) aC) (ab (bQ c_p_goal (hr.mono (by decide)) rfl (ab (bA ba (qv 0) (qv 1) (λ_ _=>rfl)) av)) av))))) bK) (aF (bF (cx (ab (bS cv (qv 1) aC) av))))))))
theorem Ad(B:gL mg)(c_p_sets:aI P w K mg base "sets" gb jH (eX K))(c_p_leads:aI P w K mg base "leads" gh ke (fb K))
  (hr:dh As (A.deeper (envOfC "walked" (ao eC) s.heap.objs.size f cdv))):jQ (fQ fY P w K mg base oO "walked" (ao eC) f cdv A outer s H E).nox (aW eC) (uO K):=by
 have nd:=rG.nd
 have hu:=hr.units0
 have hu1:=dU hr
 refine kT.up ?_
 exact(aw (bz (i:=2) nd rfl (Or.inl rfl) (Iu (FH aC mO IA) rfl rfl (by simp) (by decide))) (aw (bz (i:=3) nd rfl (Or.inl rfl) (fj (ab aC av))) (aw (pX PassesOwn.never (bf ow (bO cC rfl B.len_ boot_len (ab (qv 3) av)) aC rfl) (aw (bz (i:=4) nd rfl (Or.inl rfl) (FC bN PySem.F.slot_list_pop PySem.F.type_list_pop Fc (qv 3))) (aF (cI (QW.pt (FI (bf AL (qv 1) ie rfl) (AQ (bf (nA hu) (bQ c_p_sets (hr.mono (by decide)) rfl (ab (bA ba (qv 0) (qv 4) (λ_ _=>rfl)) av)) (qv 1) rfl)))) (aF (e6 PassesOwn.never rfl (dQ (bQ c_p_leads (hr.mono (by decide)) rfl (ab (qv 0) (ab (qv 4) av)))) (bR (i:=5) nd rfl (Or.inl rfl)) (aF (cI (bf (vO hu1) (qv 5) (qv 2) rfl) (aw (jm mO (jS (qv 2) (qv 5) (qh hu1))) (aF (jB (nB bN cg ck gF (qv 3) (ab (qv 5) av))))) bK)))) bK)))) (aF (bF (bO (oT rfl) rfl B.sorted_ boot_sorted (ab (qv 2) av)))))))
theorem x9(B:gL mg)(c_p_walked_d1:pz P w K mg base "walked" gP lZ [.non] (gS K))
  (hr:dh yk (A.deeper (envOfC "come_to" (ao eQ) s.heap.objs.size f cdv))):jQ (fQ fY P w K mg base kQ "come_to" (ao eQ) f cdv A outer s H E).nox (aW eQ) (rQ K):=by
 have nd:=qb.nd
 have hu:=hr.units0
 have hu1:=dU hr
 refine kT.up ?_
 exact(aF (bF (j6 (sc:=ao eQ) (N:=kQ) (NY:=["rows","n"]) (js:=[]) (k:=1) ⟨rfl,by decide +kernel,by decide +kernel,by decide +kernel,rfl,by decide +kernel⟩ rfl rfl rfl rfl (dQ (KF c_p_walked_d1 (hr.mono (by decide)) rfl (ab (qv 0) av))) (λ_ _ _ _ _=>(bR (i:=1) (show List.Nodup (["rows","n"]:List Str) by decide +kernel) rfl (Or.inl rfl))) (λ_ _ _ _ _=>(mv (bf (nA hu) (bA ba (bA ba (qv 0) (qv 1) (λ_ _=>rfl)) aC (λ_ _=>rfl)) bC rfl))) (λ_ _ _ _ _=>(qv 1)))))
theorem Ac(B:gL mg)(c_p_goal:aI P w K mg base "goal" fZ jG (d9 K))
  (hr:dh Ar (A.deeper (envOfC "stands" (ao gu) s.heap.objs.size f cdv))):jQ (fQ fY P w K mg base oN "stands" (ao gu) f cdv A outer s H E).nox (aW gu) (uN K):=by
 have nd:=rF.nd
 have hu:=hr.units0
 have hu1:=dU hr
 refine kT.up ?_
 exact(aw (bz (i:=2) nd rfl (Or.inl rfl) (qv 1)) (aw (pX PassesOwn.never (bf (dP hu) (bA ba (bA ba (qv 0) (qv 2) (λ_ _=>rfl)) aC (λ_ _=>rfl)) bC rfl) (aF (bz (i:=2) nd rfl (Or.inl rfl) (bQ c_p_goal (hr.mono (by decide)) rfl (ab (bA ba (qv 0) (qv 2) (λ_ _=>rfl)) av))))) (aF (bF (qv 2)))))
theorem Aa(B:gL mg)(c_p_come_to:aI P w K mg base "come_to" df eO (cE K))(c_p_stands:aI P w K mg base "stands" cU eA (bW K))(c_p_goal:aI P w K mg base "goal" fZ jG (d9 K))
  (hr:dh Ap (A.deeper (envOfC "led_to" (ao gr) s.heap.objs.size f cdv))):jQ (fQ fY P w K mg base oK "led_to" (ao gr) f cdv A outer s H E).nox (aW gr) (uK K):=by
 have nd:=rD.nd
 have hu:=hr.units0
 have hu1:=dU hr
 refine kT.up ?_
 exact(aw (bz (i:=1) nd rfl (Or.inl rfl) uh) (aw (e6 PassesOwn.never rfl (dQ (bQ c_p_come_to (hr.mono (by decide)) rfl (ab (qv 0) av))) (bR (i:=2) nd rfl (Or.inl rfl)) (aw (cI (bf (dP hu) (bA ba (bA ba (qv 0) (qv 2) (λ_ _=>rfl)) aC (λ_ _=>rfl)) bC rfl) (aF (jm mO (jS (qv 1) (bQ c_p_stands (hr.mono (by decide)) rfl (ab (qv 0) (ab (bQ c_p_goal (hr.mono (by decide)) rfl (ab (bA ba (qv 0) (qv 2) (λ_ _=>rfl)) av)) av))) (qh hu1)))) bK) (aF (cI (QW.pt (jT (bf (nA hu) (bA ba (bA ba (qv 0) (qv 2) (λ_ _=>rfl)) aC (λ_ _=>rfl)) bC rfl) (jC (QW.pt (FI (bf (dP hu) (bA ba (bA ba (qv 0) (bS cv (qv 2) aC) (λ_ _=>rfl)) aC (λ_ _=>rfl)) bC rfl) (AQ (bf (dP hu) (bS cv (qv 2) aC) (bQ c_p_stands (hr.mono (by decide)) rfl (ab (qv 0) (ab aC av))) rfl))))))) (aF (jm mO (jS (qv 1) (bQ c_p_stands (hr.mono (by decide)) rfl (ab (qv 0) (ab (bS cv (qv 2) aC) av))) (qh hu1)))) bK)))) (aF (bF (bO (oT rfl) rfl B.sorted_ boot_sorted (ab (qv 1) av))))))
theorem JC(B:gL mg)(c_p_sets:aI P w K mg base "sets" gb jH (eX K))
  (hr:dh JR (A.deeper (envOfC "rows_wanting" (ao lF) s.heap.objs.size f cdv))):jQ (fQ fY P w K mg base wF "rows_wanting" (ao lF) f cdv A outer s H E).nox (aW lF) (GD K):=by
 have nd:=BV.nd
 have hu:=hr.units0
 have hu1:=dU hr
 refine kT.up ?_
 exact(aw (bz (i:=4) nd rfl (Or.inl rfl) uh) (aw (bz (i:=5) nd rfl (Or.inl rfl) (cw j4 rfl B.list_ boot_list (ab (qv 2) av))) (aw (pX PassesOwn.never (bf ow (bO cC rfl B.len_ boot_len (ab (qv 5) av)) aC rfl) (aw (bz (i:=6) nd rfl (Or.inl rfl) (FC bN PySem.F.slot_list_pop PySem.F.type_list_pop Fc (qv 5))) (aF (cI (bf (vO hu1) (qv 6) (qv 4) rfl) (aw (jm mO (jS (qv 4) (qv 6) (qh hu1))) (aF (jB (nB bN PySem.F.slot_list_extend PySem.F.type_list_extend Dn (qv 5) (ab (j6 (sc:=ao lF) (N:=wF) (NY:=["rows","ahead","readers","name","passed","waiting","n","m"]) (js:=[]) (k:=1) ⟨rfl,by decide +kernel,by decide +kernel,by decide +kernel,rfl,by decide +kernel⟩ rfl rfl rfl rfl (dQ (jA hu1 (qv 1) (qv 6) (λ_ _=>rfl))) (λ_ _ _ _ _=>(bR (i:=7) (show List.Nodup (["rows","ahead","readers","name","passed","waiting","n","m"]:List Str) by decide +kernel) rfl (Or.inl rfl))) (λ_ _ _ _ _=>(mv (bf (nA hu) (bQ c_p_sets (hr.mono (by decide)) rfl (ab (bA ba (qv 0) (qv 7) (λ_ _=>rfl)) av)) (qv 3) rfl))) (λ_ _ _ _ _=>(qv 7))) av))))) bK)))) (aF (bF (cw (z7 rfl) rfl B.list_ boot_list (ab (qv 4) av)))))))
theorem CM(B:gL mg)
  (hr:dh C6 (A.deeper (envOfC "reads" (ao hW) s.heap.objs.size f cdv))):jQ (fQ fY P w K mg base qG "reads" (ao hW) f cdv A outer s H E).nox (aW hW) (wg K):=by
 have nd:=ur.nd
 have hu:=hr.units0
 have hu1:=dU hr
 refine kT.up ?_
 exact(aw (bz (i:=1) nd rfl (Or.inl rfl) (bA ba (qv 0) aC (λ_ _=>rfl))) (aw (cI (bf (dP hu) (qv 1) bC rfl) (aF (bF (cx (ab (bA ba (qv 0) aC (λ_ _=>rfl)) (ab (bA ba (qv 0) aC (λ_ _=>rfl)) av))))) bK) (aw (cI (bf (dP hu) (qv 1) bC rfl) (aF (bF (cw cH rfl B.tuple_ boot_tuple (ab (bA ba (qv 0) aC (λ_ _=>rfl)) av)))) bK) (aw (cI (bf gZ (qv 1) (cx (ab bC (ab bC (ab bC av)))) rfl) (aF (bF (cx (ab (bA ba (qv 0) aC (λ_ _=>rfl)) av)))) bK) (aF (bF (cx av)))))))
theorem JB(B:gL mg)(c_p_come_to:aI P w K mg base "come_to" df eO (cE K))(c_p_reads:aI P w K mg base "reads" iC nO (iH K))
  (hr:dh JQ (A.deeper (envOfC "rows_that_read" (ao mz) s.heap.objs.size f cdv))):jQ (fQ fY P w K mg base zW "rows_that_read" (ao mz) f cdv A outer s H E).nox (aW mz) (GA K):=by
 have nd:=BU.nd
 have hu:=hr.units0
 have hu1:=dU hr
 refine kT.up ?_
 exact(aw (bz (i:=1) nd rfl (Or.inl rfl) uh) (aw (e6 PassesOwn.never rfl (dQ (bQ c_p_come_to (hr.mono (by decide)) rfl (ab (qv 0) av))) (bR (i:=2) nd rfl (Or.inl rfl)) (aF (e6 PassesOwn.never rfl (dQ (bQ c_p_reads (hr.mono (by decide)) rfl (ab (bA ba (qv 0) (qv 2) (λ_ _=>rfl)) av))) (bR (i:=3) nd rfl (Or.inl rfl)) (aF (jB (nB bN cg ck gF (FD (qv 1) (qv 3) (fj av) ⟨rfl,rfl,rfl,rfl⟩) (ab (qv 2) av))))))) (aF (bF (qv 1)))))
theorem JA(B:gL mg)(c_p_leads:aI P w K mg base "leads" gh ke (fb K))(c_p_stands:aI P w K mg base "stands" cU eA (bW K))(c_p_come_to:aI P w K mg base "come_to" df eO (cE K))
  (hr:dh JP (A.deeper (envOfC "rows_ahead" (ao lE) s.heap.objs.size f cdv))):jQ (fQ fY P w K mg base wD "rows_ahead" (ao lE) f cdv A outer s H E).nox (aW lE) (Gx K):=by
 have nd:=BS.nd
 have hu:=hr.units0
 have hu1:=dU hr
 refine kT.up ?_
 exact(aw (bz (i:=1) nd rfl (Or.inl rfl) (bQ c_p_come_to (hr.mono (by decide)) rfl (ab (qv 0) av))) (aw (bz (i:=2) nd rfl (Or.inl rfl) (cw (kX rfl) rfl B.dict_ boot_dict (ab (j6 (sc:=ao lE) (N:=wD) (NY:=["rows","come","ahead","n","to"]) (js:=[3]) (k:=0) ⟨rfl,by decide +kernel,by decide +kernel,by decide +kernel,rfl,by decide +kernel⟩ rfl rfl rfl rfl (dQ (qv 1)) (λ_ _ _ _ _=>(bR (i:=3) (show List.Nodup (["rows","come","ahead","n","to"]:List Str) by decide +kernel) rfl (Or.inl rfl))) (λ_ _ _ _ _=>j7) (λ_ _ _ _ _=>(cx (ab (qv 3) (ab (fj av) av))))) av))) (aw (e6 PassesOwn.never rfl (dQ (qv 1)) (bR (i:=3) nd rfl (Or.inl rfl)) (aF (e6 PassesOwn.never rfl (dQ (bQ c_p_leads (hr.mono (by decide)) rfl (ab (qv 0) (ab (qv 3) av)))) (bR (i:=4) nd rfl (Or.inl rfl)) (aF (jB (nB bN cg ck gF (jA hu1 (qv 2) (bQ c_p_stands (hr.mono (by decide)) rfl (ab (qv 0) (ab (qv 4) av))) (λ_ _=>rfl)) (ab (qv 3) av))))))) (aF (bF (qv 2))))))
theorem Ae(B:gL mg)(c_p_rw:aI P w K mg base "rows_wanting" me wz (mD K))(c_p_rt:aI P w K mg base "rows_that_read" md wu (mC K))(c_p_ra:aI P w K mg base "rows_ahead" ma wt (mB K))
  (hr:dh Au (A.deeper (envOfC "wanted" (ao e8) s.heap.objs.size f cdv))):jQ (fQ fY P w K mg base kx "wanted" (ao e8) f cdv A outer s H E).nox (aW e8) (uP K):=by
 have nd:=rH.nd
 have hu:=hr.units0
 have hu1:=dU hr
 refine kT.up ?_
 exact(aw (bz (i:=1) nd rfl (Or.inl rfl) (bQ c_p_ra (hr.mono (by decide)) rfl (ab (qv 0) av))) (aw (bz (i:=2) nd rfl (Or.inl rfl) (bQ c_p_rt (hr.mono (by decide)) rfl (ab (qv 0) av))) (aw (bz (i:=3) nd rfl (Or.inl rfl) (cw (kX rfl) rfl B.dict_ boot_dict (ab (BL (j6 (sc:=ao e8) (N:=kx) (NY:=["rows","ahead","readers","found","name","n"]) (js:=[5]) (k:=0) ⟨rfl,by decide +kernel,by decide +kernel,by decide +kernel,rfl,by decide +kernel⟩ rfl rfl rfl rfl (Iz (qv 1)) (λ_ _ _ _ _=>(bR (i:=5) (show List.Nodup (["rows","ahead","readers","found","name","n"]:List Str) by decide +kernel) rfl (Or.inl rfl))) (λ_ _ _ _ _=>j7) (λ_ _ _ _ _=>(cx (ab (qv 5) (ab (fj av) av)))))) av))) (aw (e6 PassesOwn.never rfl (dQ (bO (xX rfl) rfl B.sorted_ boot_sorted (ab (qv 2) av))) (bR (i:=4) nd rfl (Or.inl rfl)) (aF (e6 PassesOwn.never rfl (dQ (bQ c_p_rw (hr.mono (by decide)) rfl (ab (qv 0) (ab (qv 1) (ab (jA hu1 (qv 2) (qv 4) (λ_ _=>rfl)) (ab (qv 4) av)))))) (bR (i:=5) nd rfl (Or.inl rfl)) (aF (jB (nB bN cg ck gF (jA hu1 (qv 3) (qv 5) (λ_ _=>rfl)) (ab (qv 4) av))))))) (aF (bF (cw (kX rfl) rfl B.dict_ boot_dict (ab (BL (j6 (sc:=ao e8) (N:=kx) (NY:=["rows","ahead","readers","found","name","n","names"]) (js:=[5]) (k:=1) ⟨rfl,by decide +kernel,by decide +kernel,by decide +kernel,rfl,by decide +kernel⟩ rfl rfl rfl rfl (FG (qv 3) ⟨rfl,rfl⟩) (λ_ _ _ _ _=>(ui rfl (gD (bR (i:=5) (show List.Nodup (["rows","ahead","readers","found","name","n","names"]:List Str) by decide +kernel) rfl (Or.inl rfl)) (gD (bR (i:=6) (show List.Nodup (["rows","ahead","readers","found","name","n","names"]:List Str) by decide +kernel) rfl (Or.inl rfl)) nX)))) (λ_ _ _ _ _=>j7) (λ_ _ _ _ _=>(cx (ab (qv 5) (ab (cw cH rfl B.tuple_ boot_tuple (ab (qv 6) av)) av)))))) av))))))))
theorem tO(B:gL mg)(c_p_as_keys:aI P w K mg base "as_keys" gf kK (fO K))(c_p_led_to:aI P w K mg base "led_to" fJ jd (eU K))(c_p_stands:aI P w K mg base "stands" cU eA (bW K))(c_p_wanted:aI P w K mg base "wanted" fK je (eV K))
  (hr:dh tY (A.deeper (envOfC "Outline.__init__" (ao dB) s.heap.objs.size f cdv))):jQ (fQ fY P w K mg base ku "Outline.__init__" (ao dB) f cdv A outer s H E).nox (aW dB) (nH K):=by
 have nd:=mQ.nd
 have hu:=hr.units0
 have hu1:=dU hr
 refine kT.up ?_
 exact(aw (qS (qv 0) (bA ba (qv 1) aC (λ_ _=>rfl)) rfl) (aw (qS (qv 0) (bA ba (qv 1) aC (λ_ _=>rfl)) rfl) (aw (qS (qv 0) (bQ c_p_wanted (hr.mono (by decide)) rfl (ab (bA ba (qv 1) aC (λ_ _=>rfl)) av)) rfl) (aw (qS (qv 0) (bQ c_p_stands (hr.mono (by decide)) rfl (ab (bA ba (qv 1) aC (λ_ _=>rfl)) (ab aC av))) rfl) (aw (bz (i:=2) nd rfl (Or.inl rfl) (bQ c_p_led_to (hr.mono (by decide)) rfl (ab (bA ba (qv 1) aC (λ_ _=>rfl)) av))) (aw (qS (qv 0) (bQ c_p_as_keys (hr.mono (by decide)) rfl (ab (qv 2) av)) rfl) (aF (qS (qv 0) (bQ c_p_as_keys (hr.mono (by decide)) rfl (ab (bS cv (fj (ab (jj (qv 0) rfl) av)) (qv 2)) av)) rfl))))))))
theorem yb(B:gL mg)
  (hr:dh yn (A.deeper (envOfC "without" (ao eT) s.heap.objs.size f cdv))):jQ (fQ fY P w K mg base kS "without" (ao eT) f cdv A outer s H E).nox (aW eT) (rX K):=by
 have nd:=qd.nd
 have hu:=hr.units0
 have hu1:=dU hr
 refine kT.up ?_
 exact(aF (bF (cw cH rfl B.tuple_ boot_tuple (ab (j6 (sc:=ao eT) (N:=kS) (NY:=["names","name","one"]) (js:=[]) (k:=1) ⟨rfl,by decide +kernel,by decide +kernel,by decide +kernel,rfl,by decide +kernel⟩ rfl rfl rfl rfl (dQ (qv 0)) (λ_ _ _ _ _=>(bR (i:=2) (show List.Nodup (["names","name","one"]:List Str) by decide +kernel) rfl (Or.inl rfl))) (λ_ _ _ _ _=>(mv (bf (nA hu) (qv 2) (qv 1) rfl))) (λ_ _ _ _ _=>(qv 2))) av))))
theorem so(B:gL mg)(c_p_stands:aI P w K mg base "stands" cU eA (bW K))(c_p_without:aI P w K mg base "without" gk kM (gx K))(c_p_sets:aI P w K mg base "sets" gb jH (eX K))
  (hr:dh sy (A.deeper (envOfC "left_behind" (ao dr) s.heap.objs.size f cdv))):jQ (fQ fY P w K mg base jO "left_behind" (ao dr) f cdv A outer s H E).nox (aW dr) (mT K):=by
 have nd:=lQ.nd
 have hu:=hr.units0
 have hu1:=dU hr
 refine kT.up ?_
 exact(aw (bz (i:=2) nd rfl (Or.inl rfl) (bQ c_p_sets (hr.mono (by decide)) rfl (ab (bA ba (jj (qv 0) rfl) (qv 1) (λ_ _=>rfl)) av))) (aw (cI (bf AL (qv 2) ie rfl) (aF (bF (cx av))) bK) (aF (bF (bQ c_p_without (hr.mono (by decide)) rfl (ab (jA hu1 (jj (qv 0) rfl) (bQ c_p_stands (hr.mono (by decide)) rfl (ab (jj (qv 0) rfl) (ab (bS cv (qv 1) aC) av))) (λ_ _=>rfl)) (ab (qv 2) av)))))))
theorem Ab(B:gL mg)
  (hr:dh Aq (A.deeper (envOfC "pushed" (ao gs) s.heap.objs.size f cdv))):jQ (fQ fY P w K mg base oM "pushed" (ao gs) f cdv A outer s H E).nox (aW gs) (uL K):=by
 have nd:=rE.nd
 have hu:=hr.units0
 have hu1:=dU hr
 refine kT.up ?_
 exact(aF (bF (gc jq (bS cv (cx (ab (qv 1) av)) (qv 0)) g7 (g8 (bO cC rfl B.len_ boot_len (ab (qv 0) av))))))
theorem CK(B:gL mg)(c_p_pushed:aI P w K mg base "pushed" gO lY (gR K))
  (hr:dh C2 (A.deeper (envOfC "begun" (ao hU) s.heap.objs.size f cdv))):jQ (fQ fY P w K mg base qE "begun" (ao hU) f cdv A outer s H E).nox (aW hU) (wc K):=by
 have nd:=uo.nd
 have hu:=hr.units0
 have hu1:=dU hr
 refine kT.up ?_
 exact(aw (bz (i:=3) nd rfl (Or.inl rfl) (bS gC (cx (ab (qv 2) av)) (qv 0))) (aw (e6 PassesOwn.never rfl (dQ (qv 1)) (bR (i:=4) nd rfl (Or.inl rfl)) (aF (bz (i:=3) nd rfl (Or.inl rfl) (bQ c_p_pushed (hr.mono (by decide)) rfl (ab (qv 3) (ab (qv 4) av)))))) (aF (bF (qv 3)))))
theorem Ex(B:gL mg)
  (hr:dh EX (A.deeper (envOfC "seen" (ao i5) s.heap.objs.size f cdv))):jQ (fQ fY P w K mg base tj "seen" (ao i5) f cdv A outer s H E).nox (aW i5) (zF K):=by
 have nd:=vV.nd
 have hu:=hr.units0
 have hu1:=dU hr
 refine kT.up ?_
 exact(aw (bz (i:=2) nd rfl (Or.inl rfl) (fj av)) (aw (e6 PassesOwn.never rfl (dQ (qv 0)) (bR (i:=3) nd rfl (Or.inl rfl)) (aF (jB (nB bN cg ck gF (qv 2) (ab (FE (QW.pt (jT (bf gZ (qv 3) (qv 1) rfl) (jC (bf iY (qv 3) (qv 2) rfl)))) (qv 3) ie) av))))) (aF (bF (cw cH rfl B.tuple_ boot_tuple (ab (qv 2) av))))))
theorem uW(B:gL mg)(c_p_begun:aI P w K mg base "begun" iB nN (iG K))(c_p_seen:aI P w K mg base "seen" jh pC (jv K))
  (hr:dh uZ (A.deeper (envOfC "args_belt" (ao dX) s.heap.objs.size f cdv))):jQ (fQ fY P w K mg base lz "args_belt" (ao dX) f cdv A outer s H E).nox (aW dX) (oA K):=by
 have nd:=nF.nd
 have hu:=hr.units0
 have hu1:=dU hr
 refine kT.up ?_
 exact(aF (bF (bQ c_p_seen (hr.mono (by decide)) rfl (ab (bQ c_p_begun (hr.mono (by decide)) rfl (ab (qv 1) (ab (jj (qv 0) rfl) (ab ie av)))) (ab (jA hu1 (jj (qv 0) rfl) (jj (qv 0) rfl) (λ_ _=>rfl)) av)))))
theorem ya(B:gL mg)(c_p_args_belt:aI P w K mg base "args_belt" eY jx (e9 K))
  (hr:dh ym (A.deeper (envOfC "lost_at" (ao eR) s.heap.objs.size f cdv))):jQ (fQ fY P w K mg base kR "lost_at" (ao eR) f cdv A outer s H E).nox (aW eR) (rR K):=by
 have nd:=qc.nd
 have hu:=hr.units0
 have hu1:=dU hr
 refine kT.up ?_
 exact(aw (cI (bf (nA hu) (qv 1) (jj (qv 0) rfl) rfl) (aF (bF (cx av))) bK) (aw (bz (i:=3) nd rfl (Or.inr rfl) (bQ c_p_args_belt (hr.mono (by decide)) rfl (ab (qv 0) (ab (qv 2) av)))) (aF (bF (cw cH rfl B.tuple_ boot_tuple (ab (j6 (sc:=ao eR) (N:=kR) (NY:=["outline","n","places","lies","name"]) (js:=[]) (k:=1) ⟨rfl,by decide +kernel,by decide +kernel,by decide +kernel,rfl,by decide +kernel⟩ rfl rfl rfl rfl (dQ (jA hu1 (jj (qv 0) rfl) (qv 1) (λ_ _=>rfl))) (λ_ _ _ _ _=>(bR (i:=4) (show List.Nodup (["outline","n","places","lies","name"]:List Str) by decide +kernel) rfl (Or.inl rfl))) (λ_ _ _ _ _=>(mv (QW.pt (jT (bf gZ (qv 4) (jj (qv 0) rfl) rfl) (jC (bf iY (qv 4) (qv 3) rfl)))))) (λ_ _ _ _ _=>(qv 4))) av))))))
theorem uX(B:gL mg)(c_p_left_behind:aI P w K mg base "left_behind" dO ix (dR K))(c_p_lost_at:aI P w K mg base "lost_at" gi kL (gw K))
  (hr:dh u0 (A.deeper (envOfC "row_short" (ao dY) s.heap.objs.size f cdv))):jQ (fQ fY P w K mg base lA "row_short" (ao dY) f cdv A outer s H E).nox (aW dY) (oC K):=by
 have nd:=nG.nd
 have hu:=hr.units0
 have hu1:=dU hr
 refine kT.up ?_
 exact(aw (bz (i:=3) nd rfl (Or.inl rfl) (jA hu1 (jj (qv 0) rfl) (qv 1) (λ_ _=>rfl))) (aw (bz (i:=4) nd rfl (Or.inl rfl) (bQ c_p_lost_at (hr.mono (by decide)) rfl (ab (qv 0) (ab (qv 1) (ab (qv 2) av))))) (aw (cI (bf ow (bO cC rfl B.len_ boot_len (ab (qv 4) av)) aC rfl) (aF (bF (cx (ab bC (ab (qv 4) av))))) bK) (aw (cI (QW.pt (jT (bf (Kb hu1) (qv 1) (jj (qv 0) rfl) rfl) (jC (bf LI (bO cC rfl B.len_ boot_len (ab (qv 3) av)) (qv 2) rfl)))) (aF (bF (cx (ab bC (ab (qv 3) av))))) bK) (aw (cI (bf ow (bO cC rfl B.len_ boot_len (ab (qv 3) av)) (qv 2) rfl) (aF (bF (cx (ab bC (ab (qv 3) av))))) bK) (aw (bz (i:=5) nd rfl (Or.inl rfl) (bQ c_p_left_behind (hr.mono (by decide)) rfl (ab (qv 0) (ab (qv 1) av)))) (aw (cI (bf ow (bO cC rfl B.len_ boot_len (ab (qv 5) av)) (bS oY (qv 2) aC) rfl) (aF (bF (cx (ab bC (ab (qv 5) av))))) bK) (aF (bF ie)))))))))
theorem CN(B:gL mg)(mk_Outline:wB P w K mg base "Outline" (dc K "Outline") eB iV (eD K))(c_p_row_short:aI P w K mg base "row_short" eZ jz (fc K))
  (hr:dh C7 (A.deeper (envOfC "short" (ao hZ) s.heap.objs.size f cdv))):jQ (fQ fY P w K mg base qH "short" (ao hZ) f cdv A outer s H E).nox (aW hZ) (wj K):=by
 have nd:=uu.nd
 have hu:=hr.units0
 have hu1:=dU hr
 refine kT.up ?_
 exact(aw (e6 PassesOwn.never rfl (FF rfl B.enumerate_ (ab (qv 0) av)) (ui rfl (gD (bR (i:=2) nd rfl (Or.inl rfl)) (gD (bR (i:=3) nd rfl (Or.inl rfl)) nX))) (aw (bz (i:=4) nd rfl (Or.inl rfl) (Iv mk_Outline (hr.mono (by decide)) rfl (ab (qv 3) av))) (aF (e6 PassesOwn.never rfl (dQ (bO (oT rfl) rfl B.sorted_ boot_sorted (ab (jj (qv 4) rfl) av))) (bR (i:=5) nd rfl (Or.inl rfl)) (aw (bz (i:=6) nd rfl (Or.inl rfl) (bQ c_p_row_short (hr.mono (by decide)) rfl (ab (qv 4) (ab (qv 5) (ab (qv 1) av))))) (aF (cI (bf pU (qv 6) ie rfl) (aF (bF (cx (ab (qv 2) (ab (qv 5) (ab (bA ba (qv 6) aC (λ_ _=>rfl)) (ab (bA ba (qv 6) aC (λ_ _=>rfl)) av))))))) bK))))))) (aF (bF ie)))
theorem Lu(B:gL mg)(c_p_stands:aI P w K mg base "stands" cU eA (bW K))
  (hr:dh LC (A.deeper (envOfC "_law_why" (ao nE) s.heap.objs.size f cdv))):jQ (fQ fY P w K mg base xS "_law_why" (ao nE) f cdv A outer s H E).nox (aW nE) (Jr K):=by
 have nd:=Ge.nd
 have hu:=hr.units0
 have hu1:=dU hr
 have hu5:=EL hr
 refine kT.up ?_
 exact(aw (bz (i:=5) nd rfl (Or.inr rfl) (bA ba (qv 0) aC (λ_ _=>rfl))) (aw (bz (i:=6) nd rfl (Or.inl rfl) (cw j4 rfl B.list_ boot_list (ab (jA hu1 (qv 3) (qv 1) (λ_ _=>rfl)) av))) (aw (cI (bf (Fl hu5) (qv 1) (bQ c_p_stands (hr.mono (by decide)) rfl (ab (qv 5) (ab aC av))) rfl) (aw (bz (i:=7) nd rfl (Or.inr rfl) (gc jq (yP rfl rfl B.list_ B.reversed_ rfl (ab (bA ba (qv 0) aC (λ_ _=>rfl)) av)) g7 (g8 (qv 2)))) (aw (mw (i:=8) (sc:=ao nE) (N:=xS) (NY:=["_law_part_here","_law_n","_law_places","_law_names_here","_law_led","_law_rows","_law_some","_law_there","_law_lost","_law_rest","_law_name"]) (js:=[]) (k:=1) ⟨rfl,by decide +kernel,by decide +kernel,by decide +kernel,rfl,by decide +kernel⟩ rfl rfl rfl rfl (dQ (qv 6)) (λ_ _ _ _ _=>(bR (i:=10) (show List.Nodup (["_law_part_here","_law_n","_law_places","_law_names_here","_law_led","_law_rows","_law_some","_law_there","_law_lost","_law_rest","_law_name"]:List Str) by decide +kernel) rfl (Or.inl rfl))) (λ_ _ _ _ _=>(mv (bf iY (qv 10) (qv 7) rfl))) (λ_ _ _ _ _=>(qv 10)) nd rfl (Or.inl rfl) rfl) (aF (cI (bf (AM hu5) (qv 8) (fj av) rfl) (aF (bF (cx (ab bC (ab (cw cH rfl B.tuple_ boot_tuple (ab (bO kY rfl B.sorted_ boot_sorted (ab (qv 8) av)) av)) av))))) bK)))) bK) (aw (cI (QW.pt (jT (bf gZ (qv 1) (qv 4) rfl) (jC (bf ow (bO cC rfl B.len_ boot_len (ab (qv 6) av)) (bS oY (qv 2) aC) rfl)))) (aF (bF (cx (ab bC (ab (cw cH rfl B.tuple_ boot_tuple (ab (bO kY rfl B.sorted_ boot_sorted (ab (qv 6) av)) av)) av))))) bK) (aw (cI (bf ow (bO cC rfl B.len_ boot_len (ab (qv 6) av)) (qv 2) rfl) (aF (bF (cx (ab bC (ab (cw cH rfl B.tuple_ boot_tuple (ab (bO kY rfl B.sorted_ boot_sorted (ab (qv 6) av)) av)) av))))) bK) (aw (cI (bf gZ (bA ba (bA ba (qv 5) (qv 1) (λ_ _=>rfl)) aC (λ_ _=>rfl)) (cx (ab bC (ab bC (ab bC av)))) rfl) (aw (mw (i:=9) (sc:=ao nE) (N:=xS) (NY:=["_law_part_here","_law_n","_law_places","_law_names_here","_law_led","_law_rows","_law_some","_law_there","_law_lost","_law_rest","_law_name"]) (js:=[]) (k:=1) ⟨rfl,by decide +kernel,by decide +kernel,by decide +kernel,rfl,by decide +kernel⟩ rfl rfl rfl rfl (dQ (jA hu1 (qv 3) (bQ c_p_stands (hr.mono (by decide)) rfl (ab (qv 5) (ab (bS cv (qv 1) aC) av))) (λ_ _=>rfl))) (λ_ _ _ _ _=>(bR (i:=10) (show List.Nodup (["_law_part_here","_law_n","_law_places","_law_names_here","_law_led","_law_rows","_law_some","_law_there","_law_lost","_law_rest","_law_name"]:List Str) by decide +kernel) rfl (Or.inl rfl))) (λ_ _ _ _ _=>(mv (bf (AM hu5) (qv 10) (bA ba (bA ba (qv 5) (qv 1) (λ_ _=>rfl)) aC (λ_ _=>rfl)) rfl))) (λ_ _ _ _ _=>(qv 10)) nd rfl (Or.inl rfl) rfl) (aF (cI (bf ow (bO cC rfl B.len_ boot_len (ab (qv 9) av)) (bS oY (qv 2) aC) rfl) (aF (bF (cx (ab bC (ab (cw cH rfl B.tuple_ boot_tuple (ab (bO kY rfl B.sorted_ boot_sorted (ab (qv 9) av)) av)) av))))) bK))) bK) (aF (bF ie))))))))
theorem Lr(B:gL mg)(c_p_come_to:aI P w K mg base "come_to" df eO (cE K))(c_p_led_to:aI P w K mg base "led_to" fJ jd (eU K))(c_why:aI P w K mg base "_law_why" oQ Bp (oZ K))(c_p_wanted:aI P w K mg base "wanted" fK je (eV K))
  (hr:dh LA (A.deeper (envOfC "_law_due" (ao p9) s.heap.objs.size f cdv))):jQ (fQ fY P w K mg base Eh "_law_due" (ao p9) f cdv A outer s H E).nox (aW p9) (Jp K):=by
 have nd:=Gc.nd
 have hu:=hr.units0
 have hu1:=dU hr
 refine kT.up ?_
 exact(aw (e6 PassesOwn.never rfl (kg rfl B.range_ (ab (bO cC rfl B.len_ boot_len (ab (qv 0) av)) av)) (bR (i:=2) nd rfl (Or.inl rfl)) (aw (bz (i:=3) nd rfl (Or.inl rfl) (bA ba (bA ba (qv 0) (qv 2) (λ_ _=>rfl)) aC (λ_ _=>rfl))) (aw (bz (i:=4) nd rfl (Or.inl rfl) (bQ c_p_wanted (hr.mono (by decide)) rfl (ab (qv 3) av))) (aF (e6 PassesOwn.never rfl (dQ (bQ c_p_come_to (hr.mono (by decide)) rfl (ab (qv 3) av))) (bR (i:=5) nd rfl (Or.inl rfl)) (aw (bz (i:=6) nd rfl (Or.inl rfl) (bQ c_why (hr.mono (by decide)) rfl (ab (bA ba (qv 0) (qv 2) (λ_ _=>rfl)) (ab (qv 5) (ab (qv 1) (ab (qv 4) (ab (bQ c_p_led_to (hr.mono (by decide)) rfl (ab (qv 3) av)) av))))))) (aF (cI (bf pU (qv 6) ie rfl) (aF (bF (bS cv (cx (ab (qv 2) (ab (qv 5) av))) (qv 6)))) bK)))))))) (aF (bF ie)))
theorem Jz(B:gL mg)
  (hr:dh JO (A.deeper (envOfC "_law_draw" (ao my) s.heap.objs.size f cdv))):jQ (fQ fY P w K mg base zV "_law_draw" (ao my) f cdv A outer s H E).nox (aW my) (Gq K):=by
 have nd:=BR.nd
 have hu:=hr.units0
 have hu1:=dU hr
 refine kT.up ?_
 exact(aw (jm (gc jq (qv 0) g7 (g8 aC)) (Iw rfl (gD (bR (i:=2) nd rfl (Or.inl rfl)) (gD (bR (i:=3) nd rfl (Or.inl rfl)) nX)))) (aw (jm (bS cv (qv 3) aC) (jS (qv 0) aC jK)) (aw (cI (QW.pt (jT (bf rB (bS cv (bS xo (qv 3) aC) aC) (bO cC rfl B.len_ boot_len (ab (qv 2) av)) rfl) (jC (bf (dP hu) (bS ji (bA ba (qv 2) aC (λ_ _=>rfl)) aC) aC rfl)))) (aw (cI (bf (dP hu) (bS ji (qv 3) aC) aC rfl) (aF (jm (bA ba (qv 2) (bS cv (bS xo (qv 3) aC) aC) (λ_ _=>rfl)) (jS (qv 0) aC jK))) bK) (aF (cI (bf iY (bA ba (qv 0) aC (λ_ _=>rfl)) (cx (ab aC (ab (LU K7 aC) av))) rfl) (aw (jm (bO wQ rfl B.divmod_ boot_divmod (ab (bA ba (qv 0) aC (λ_ _=>rfl)) (ab (qv 1) av))) (ui rfl (gD (jS (qv 0) aC jK) (gD (bR (i:=4) nd rfl (Or.inl rfl)) nX)))) (aF (bF (qv 4)))) bK))) (aF (cI (bf rB (qv 3) (bO cC rfl B.len_ boot_len (ab (qv 2) av)) rfl) (aF (bF (bS ji (bA ba (qv 2) (qv 3) (λ_ _=>rfl)) (qv 1)))) bK))) (aw (bz (i:=5) nd rfl (Or.inl rfl) (bS cv (bS gC (qv 3) aC) aC)) (aw (cI (bf ow (bO cC rfl B.len_ boot_len (ab (qv 2) av)) aC rfl) (aF (bz (i:=5) nd rfl (Or.inl rfl) (bS cv (qv 5) (bS gC (bA ba (qv 2) (bS ji (bS gC (qv 3) aC) (bO cC rfl B.len_ boot_len (ab (qv 2) av))) (λ_ _=>rfl)) (bS cv aC (qv 3)))))) bK) (aw (bz (i:=5) nd rfl (Or.inl rfl) (bS ji (bS gC (bS ji (qv 5) aC) (bS cv (qv 3) aC)) aC)) (aw (bz (i:=5) nd rfl (Or.inl rfl) (bS ji (bS gC (qv 5) (qv 5)) aC)) (aF (bF (bS ji (bS ji (bS gC (qv 5) (qv 5)) aC) (qv 1)))))))))))
theorem Et(B:gL mg)(c_draw:aI P w K mg base "_law_draw" fI iW (bY K))
  (hr:dh EU (A.deeper (envOfC "_law_filled" (ao iq) s.heap.objs.size f cdv))):jQ (fQ fY P w K mg base pE "_law_filled" (ao iq) f cdv A outer s H E).nox (aW iq) (zg K):=by
 have nd:=vS.nd
 have hu:=hr.units0
 have hu1:=dU hr
 refine kT.up ?_
 exact(aw (bz (i:=3) nd rfl (Or.inl rfl) (fj av)) (aw (e6 PassesOwn.never rfl (Iy rfl B.enumerate_ (ab (qv 1) av)) (ui rfl (gD (bR (i:=4) nd rfl (Or.inr rfl)) (gD (bR (i:=5) nd rfl (Or.inl rfl)) nX))) (aw (bz (i:=6) nd rfl (Or.inl rfl) (fj av)) (aw (e6 PassesOwn.never rfl (dQ (gc jq (qv 5) (g8 aC) g7)) (bR (i:=7) nd rfl (Or.inl rfl)) (aw (cI (bf (dP hu) (qv 7) bC rfl) (aF (bz (i:=7) nd rfl (Or.inl rfl) (bA ba (bA ba (qv 2) (qv 4) (λ_ _=>rfl)) (bQ c_draw (hr.mono (by decide)) rfl (ab (qv 0) (ab (bO cC rfl B.len_ boot_len (ab (bA ba (qv 2) (qv 4) (λ_ _=>rfl)) av)) av))) (λ_ _=>rfl)))) (aF (cI (AO (bO Eo rfl B.isinstance_ boot_isinstance (ab (qv 7) (ab (Ir rfl B.tuple_ boot_tuple (v:=.ty "tuple") rfl) av)))) (aF (bz (i:=7) nd rfl (Or.inl rfl) (cw cH rfl B.tuple_ boot_tuple (ab (j6 (sc:=ao iq) (N:=pE) (NY:=["_law_state","_law_rows","_law_known","_law_found","_law_n","_law_row","_law_some","_law_thing","_law_one"]) (js:=[]) (k:=1) ⟨rfl,by decide +kernel,by decide +kernel,by decide +kernel,rfl,by decide +kernel⟩ rfl rfl rfl rfl (dQ (qv 7)) (λ_ _ _ _ _=>(bR (i:=8) (show List.Nodup (["_law_state","_law_rows","_law_known","_law_found","_law_n","_law_row","_law_some","_law_thing","_law_one"]:List Str) by decide +kernel) rfl (Or.inl rfl))) (λ_ _ _ _ _=>j7) (λ_ _ _ _ _=>(bA ba (bA ba (qv 2) (qv 4) (λ_ _=>rfl)) (bQ c_draw (hr.mono (by decide)) rfl (ab (qv 0) (ab (bO cC rfl B.len_ boot_len (ab (bA ba (qv 2) (qv 4) (λ_ _=>rfl)) av)) av))) (λ_ _=>rfl)))) av)))) bK))) (aF (jB (nB bN cg ck gF (qv 6) (ab (qv 7) av)))))) (aF (jB (nB bN cg ck gF (qv 3) (ab (bS cv (cx (ab (bA ba (qv 5) aC (λ_ _=>rfl)) av)) (cw cH rfl B.tuple_ boot_tuple (ab (qv 6) av))) av))))))) (aF (bF (cw cH rfl B.tuple_ boot_tuple (ab (qv 3) av))))))
theorem G5(B:gL mg)
  (hr:dh Hn (A.deeper (envOfC "_law_leads" (ao j8) s.heap.objs.size f cdv))):jQ (fQ fY P w K mg base wC "_law_leads" (ao j8) f cdv A outer s H E).nox (aW j8) (Cm K):=by
 have nd:=y0.nd
 have hu:=hr.units0
 have hu1:=dU hr
 refine kT.up ?_
 exact(aw (cI (bf (dP hu) (bA ba (bA ba (qv 0) (qv 1) (λ_ _=>rfl)) aC (λ_ _=>rfl)) bC rfl) (aF (bF (fj (ab (bA ba (bA ba (qv 0) (qv 1) (λ_ _=>rfl)) aC (λ_ _=>rfl)) av)))) bK) (aw (cI (bf (dP hu) (bA ba (bA ba (qv 0) (qv 1) (λ_ _=>rfl)) aC (λ_ _=>rfl)) bC rfl) (aF (bF (fj (ab (bS cv (qv 1) aC) (ab (bA ba (bA ba (qv 0) (qv 1) (λ_ _=>rfl)) aC (λ_ _=>rfl)) av))))) bK) (aw (cI (bf (dP hu) (bA ba (bA ba (qv 0) (qv 1) (λ_ _=>rfl)) aC (λ_ _=>rfl)) bC rfl) (aF (bF (fj av))) bK) (aF (bF (fj (ab (bS cv (qv 1) aC) av)))))))
theorem yd(B:gL mg)(c_leads:aI P w K mg base "_law_leads" ky sG (kC K))
  (hr:dh yq (A.deeper (envOfC "_law_set_names" (ao d6) s.heap.objs.size f cdv))):jQ (fQ fY P w K mg base jI "_law_set_names" (ao d6) f cdv A outer s H E).nox (aW d6) (sj K):=by
 have nd:=qf.nd
 have hu:=hr.units0
 have hu1:=dU hr
 refine kT.up ?_
 exact(aw (mw (i:=3) (sc:=ao d6) (N:=jI) (NY:=["_law_rows","_law_names_here","_law_params","_law_known","_law_more","_law_n","_law_left","_law_m","_law_kept","_law_row"]) (js:=[]) (k:=1) ⟨rfl,by decide +kernel,by decide +kernel,by decide +kernel,rfl,by decide +kernel⟩ rfl rfl rfl rfl (dQ (qv 0)) (λ_ _ _ _ _=>(bR (i:=9) (show List.Nodup (["_law_rows","_law_names_here","_law_params","_law_known","_law_more","_law_n","_law_left","_law_m","_law_kept","_law_row"]:List Str) by decide +kernel) rfl (Or.inl rfl))) (λ_ _ _ _ _=>j7) (λ_ _ _ _ _=>(cw j4 rfl B.list_ boot_list (ab (qv 1) av))) nd rfl (Or.inl rfl) rfl) (aw (jm (cw j4 rfl B.list_ boot_list (ab (qv 2) av)) (jS (qv 3) aC jK)) (aw (bz (i:=4) nd rfl (Or.inl rfl) mO) (aw (pX PassesOwn.never (AO (qv 4)) (aw (bz (i:=4) nd rfl (Or.inl rfl) mO) (aF (e6 PassesOwn.never rfl (kg rfl B.range_ (ab (bO cC rfl B.len_ boot_len (ab (qv 0) av)) av)) (bR (i:=5) nd rfl (Or.inl rfl)) (aw (bz (i:=6) nd rfl (Or.inr rfl) (bA ba (qv 3) (qv 5) (λ_ _=>rfl))) (aw (cI (bf gZ (bA ba (bA ba (qv 0) (qv 5) (λ_ _=>rfl)) aC (λ_ _=>rfl)) (cx (ab bC (ab bC (ab bC av)))) rfl) (aF (bz (i:=6) nd rfl (Or.inr rfl) (bS cv (qv 6) (fj (ab (bA ba (bA ba (qv 0) (qv 5) (λ_ _=>rfl)) aC (λ_ _=>rfl)) av))))) bK) (aF (e6 PassesOwn.never rfl (dQ (bQ c_leads (hr.mono (by decide)) rfl (ab (qv 0) (ab (qv 5) av)))) (bR (i:=7) nd rfl (Or.inl rfl)) (aw (mw (i:=8) (sc:=ao d6) (N:=jI) (NY:=["_law_rows","_law_names_here","_law_params","_law_known","_law_more","_law_n","_law_left","_law_m","_law_kept","_law_name"]) (js:=[]) (k:=1) ⟨rfl,by decide +kernel,by decide +kernel,by decide +kernel,rfl,by decide +kernel⟩ rfl rfl rfl rfl (dQ (bA ba (qv 3) (qv 7) (λ_ _=>rfl))) (λ_ _ _ _ _=>(bR (i:=9) (show List.Nodup (["_law_rows","_law_names_here","_law_params","_law_known","_law_more","_law_n","_law_left","_law_m","_law_kept","_law_name"]:List Str) by decide +kernel) rfl (Or.inl rfl))) (λ_ _ _ _ _=>(mv (bf gZ (qv 9) (qv 6) rfl))) (λ_ _ _ _ _=>(qv 9)) nd rfl (Or.inl rfl) rfl) (aF (cI (bf rB (bO cC rfl B.len_ boot_len (ab (qv 8) av)) (bO cC rfl B.len_ boot_len (ab (bA ba (qv 3) (qv 7) (λ_ _=>rfl)) av)) rfl) (aw (jm (qv 8) (jS (qv 3) (qv 7) jK)) (aF (bz (i:=4) nd rfl (Or.inl rfl) mO))) bK))))))))))) (aF (bF (qv 3)))))))
theorem Eu(B:gL mg)
  (hr:dh EV (A.deeper (envOfC "_law_mended" (ao iZ) s.heap.objs.size f cdv))):jQ (fQ fY P w K mg base sZ "_law_mended" (ao iZ) f cdv A outer s H E).nox (aW iZ) (zh K):=by
 have nd:=vT.nd
 have hu:=hr.units0
 have hu1:=dU hr
 refine kT.up ?_
 exact(aw (bz (i:=3) nd rfl (Or.inl rfl) (bS oY (bO cC rfl B.len_ boot_len (ab (qv 0) av)) aC)) (aw (cI (bf iY (bA ba (bA ba (qv 0) (qv 3) (λ_ _=>rfl)) aC (λ_ _=>rfl)) (cx (ab bC (ab bC av))) rfl) (aF (jm (cx (ab bC (ab bC av))) (jS (qv 0) (qv 3) jK))) bK) (aw (cI (QW.pt (jT (AO (qv 2)) (jT (bf (nA hu) (bA ba (bA ba (qv 0) aC (λ_ _=>rfl)) aC (λ_ _=>rfl)) bC rfl) (jC (bf ow (qv 3) aC rfl))))) (aF (jm (cx (ab bC (ab (bA ba (qv 1) aC (λ_ _=>rfl)) (ab aC av)))) (jS (qv 0) aC jK))) bK) (aw (e6 PassesOwn.never rfl (kg rfl B.range_ (ab (bO cC rfl B.len_ boot_len (ab (qv 0) av)) av)) (bR (i:=4) nd rfl (Or.inl rfl)) (aw (bz (i:=5) nd rfl (Or.inl rfl) (qv 4)) (aw (e6 PassesOwn.never rfl (dQ (qv 0)) (bR (i:=6) nd rfl (Or.inl rfl)) (aF (cI (bf (dP hu) (bA ba (bA ba (qv 0) (qv 5) (λ_ _=>rfl)) aC (λ_ _=>rfl)) bC rfl) (aF (bz (i:=5) nd rfl (Or.inl rfl) (bA ba (bA ba (qv 0) (qv 5) (λ_ _=>rfl)) aC (λ_ _=>rfl)))) bK))) (aF (cI (bf (dP hu) (bA ba (bA ba (qv 0) (qv 5) (λ_ _=>rfl)) aC (λ_ _=>rfl)) bC rfl) (aF (jm (bA ba (fj (ab (cx (ab bC (ab bC av))) (ab (cx (ab bC (ab bC av))) av))) (cw qK rfl B.int_ boot_int (ab (pW (dP hu) (qv 4) (qv 3) rfl) av)) (λ_ _=>rfl)) (jS (qv 0) (qv 4) jK))) bK))))) (aF (bF (qv 0)))))))
theorem G8(B:gL mg)(c_draw:aI P w K mg base "_law_draw" fI iW (bY K))
  (hr:dh Hq (A.deeper (envOfC "_law_worth" (ao j9) s.heap.objs.size f cdv))):jQ (fQ fY P w K mg base wH "_law_worth" (ao j9) f cdv A outer s H E).nox (aW j9) (Cw K):=by
 have nd:=y4.nd
 have hu:=hr.units0
 have hu1:=dU hr
 refine kT.up ?_
 exact(aw (cI (bf (dP hu) (bQ c_draw (hr.mono (by decide)) rfl (ab (qv 0) (ab aC av))) aC rfl) (aF (bF (bS cv (bS gC (bQ c_draw (hr.mono (by decide)) rfl (ab (qv 0) (ab (bS xp aC aC) av))) (bS xp aC aC)) (bQ c_draw (hr.mono (by decide)) rfl (ab (qv 0) (ab (bS xp aC aC) av)))))) bK) (aF (bF (bA ba (fj (ab aC (ab aC (ab (bS oY (bS oY (bS xp aC aC) aC) (bQ c_draw (hr.mono (by decide)) rfl (ab (qv 0) (ab aC av)))) (ab (bQ c_draw (hr.mono (by decide)) rfl (ab (qv 0) (ab aC av))) av))))) (bQ c_draw (hr.mono (by decide)) rfl (ab (qv 0) (ab aC av))) (λ_ _=>rfl)))))
theorem yc(B:gL mg)(c_draw:aI P w K mg base "_law_draw" fI iW (bY K))(c_worth:aI P w K mg base "_law_worth" kA sI (kD K))
  (hr:dh yo (A.deeper (envOfC "_law_rough_row" (ao fN) s.heap.objs.size f cdv))):jQ (fQ fY P w K mg base ni "_law_rough_row" (ao fN) f cdv A outer s H E).nox (aW fN) (si K):=by
 have nd:=qe.nd
 have hu:=hr.units0
 have hu1:=dU hr
 refine kT.up ?_
 exact(aw (bz (i:=4) nd rfl (Or.inl rfl) (bA ba (qv 1) (bQ c_draw (hr.mono (by decide)) rfl (ab (qv 0) (ab (bO cC rfl B.len_ boot_len (ab (qv 1) av)) av))) (λ_ _=>rfl))) (aw (bz (i:=5) nd rfl (Or.inl rfl) (bQ c_draw (hr.mono (by decide)) rfl (ab (qv 0) (ab aC av)))) (aw (cI (bf rB (qv 5) aC rfl) (aF (bF (cx (ab bC (ab (qv 4) (ab (bQ c_worth (hr.mono (by decide)) rfl (ab (qv 0) av)) av)))))) bK) (aw (cI (bf rB (qv 5) aC rfl) (aF (bF (cx (ab bC (ab (qv 4) (ab (bA ba bC (bQ c_draw (hr.mono (by decide)) rfl (ab (qv 0) (ab aC av))) (λ_ _=>rfl)) (ab bC (ab bC av)))))))) bK) (aw (cI (bf (dP hu) (qv 5) aC rfl) (aw (bz (i:=6) nd rfl (Or.inl rfl) (bQ c_draw (hr.mono (by decide)) rfl (ab (qv 0) (ab (bO cC rfl B.len_ boot_len (ab (qv 3) av)) av)))) (aF (bF (cx (ab bC (ab (qv 4) (ab (qv 6) (ab (bS gC (cx (ab bC av)) (bA ba (qv 3) (qv 6) (λ_ _=>rfl))) av)))))))) bK) (aw (cI (bf rB (qv 5) aC rfl) (aF (bF (cx (ab bC (ab bC av))))) bK) (aw (cI (bf rB (qv 5) aC rfl) (aF (bF (cx (ab bC (ab bC (ab (bQ c_draw (hr.mono (by decide)) rfl (ab (qv 0) (ab (qv 2) av))) av)))))) bK) (aF (bF (bA ba (fj (ab (cx (ab bC (ab (bQ c_draw (hr.mono (by decide)) rfl (ab (qv 0) (ab (qv 2) av))) av))) (ab (cx (ab bC (ab bC av))) av))) (bS oY (qv 5) aC) (λ_ _=>rfl)))))))))))
theorem JD(B:gL mg)(c_filled:aI P w K mg base "_law_filled" jf pA (jr K))(c_set_names:aI P w K mg base "_law_set_names" gp kO (gz K))(c_mended:aI P w K mg base "_law_mended" jg pB (jt K))(c_rough_row:aI P w K mg base "_law_rough_row" gm kN (gy K))(c_draw:aI P w K mg base "_law_draw" fI iW (bY K))
  (hr:dh JS (A.deeper (envOfC "_law_part" (ao lG) s.heap.objs.size f cdv))):jQ (fQ fY P w K mg base wG "_law_part" (ao lG) f cdv A outer s H E).nox (aW lG) (GG K):=by
 have nd:=BW.nd
 have hu:=hr.units0
 have hu1:=dU hr
 refine kT.up ?_
 exact(aw (bz (i:=6) nd rfl (Or.inr rfl) (bO (CG rfl) rfl B.max_ boot_max (ab (bS cv aC (cw qK rfl B.int_ boot_int (ab (pW (dP hu) (bO cC rfl B.len_ boot_len (ab (qv 3) av)) aC rfl) av))) (ab (bS cv aC (bQ c_draw (hr.mono (by decide)) rfl (ab (qv 0) (ab (qv 5) av)))) av)))) (aw (mw (i:=7) (sc:=ao lG) (N:=wG) (NY:=["_law_state","_law_word","_law_names_here","_law_params","_law_counts","_law_most","_law_many","_law_rows","_law_known","_law_n"]) (js:=[]) (k:=1) ⟨rfl,by decide +kernel,by decide +kernel,by decide +kernel,rfl,by decide +kernel⟩ rfl rfl rfl rfl (kg rfl B.range_ (ab (qv 6) av)) (λ_ _ _ _ _=>(bR (i:=9) (show List.Nodup (["_law_state","_law_word","_law_names_here","_law_params","_law_counts","_law_most","_law_many","_law_rows","_law_known","_law_n"]:List Str) by decide +kernel) rfl (Or.inl rfl))) (λ_ _ _ _ _=>j7) (λ_ _ _ _ _=>(bQ c_rough_row (hr.mono (by decide)) rfl (ab (qv 0) (ab (qv 2) (ab (qv 6) (ab (qv 4) av)))))) nd rfl (Or.inl rfl) rfl) (aw (bz (i:=7) nd rfl (Or.inl rfl) (bQ c_mended (hr.mono (by decide)) rfl (ab (qv 7) (ab (qv 2) (ab (pW (dP hu) (bO cC rfl B.len_ boot_len (ab (qv 3) av)) aC rfl) av))))) (aw (bz (i:=8) nd rfl (Or.inl rfl) (bQ c_set_names (hr.mono (by decide)) rfl (ab (qv 7) (ab (qv 2) (ab (qv 3) av))))) (aF (bF (cx (ab (qv 1) (ab (cw cH rfl B.tuple_ boot_tuple (ab (qv 3) av)) (ab (bQ c_filled (hr.mono (by decide)) rfl (ab (qv 0) (ab (qv 7) (ab (qv 8) av)))) av))))))))))
theorem G6(B:gL mg)(c_draw:aI P w K mg base "_law_draw" fI iW (bY K))
  (hr:dh Ho (A.deeper (envOfC "_law_names" (ao jD) s.heap.objs.size f cdv))):jQ (fQ fY P w K mg base sJ "_law_names" (ao jD) f cdv A outer s H E).nox (aW jD) (Cn K):=by
 have nd:=y3.nd
 have hu:=hr.units0
 have hu1:=dU hr
 refine kT.up ?_
 exact(aw (bz (i:=2) nd rfl (Or.inr rfl) bC) (aw (bz (i:=3) nd rfl (Or.inl rfl) (bS cv aC (bQ c_draw (hr.mono (by decide)) rfl (ab (qv 0) (ab aC av))))) (aw (bz (i:=4) nd rfl (Or.inl rfl) (bQ c_draw (hr.mono (by decide)) rfl (ab (qv 0) (ab (qv 3) av)))) (aw (bz (i:=5) nd rfl (Or.inr rfl) (bQ c_draw (hr.mono (by decide)) rfl (ab (qv 0) (ab aC av)))) (aw (mw (i:=6) (sc:=ao jD) (N:=sJ) (NY:=["_law_state","_law_many","_law_letters","_law_size","_law_at","_law_first","_law_base","_law_found","_law_k","_law_some","_law_name","_law_j"]) (js:=[]) (k:=1) ⟨rfl,by decide +kernel,by decide +kernel,by decide +kernel,rfl,by decide +kernel⟩ rfl rfl rfl rfl (kg rfl B.range_ (ab (qv 3) av)) (λ_ _ _ _ _=>(bR (i:=11) (show List.Nodup (["_law_state","_law_many","_law_letters","_law_size","_law_at","_law_first","_law_base","_law_found","_law_k","_law_some","_law_name","_law_j"]:List Str) by decide +kernel) rfl (Or.inl rfl))) (λ_ _ _ _ _=>j7) (λ_ _ _ _ _=>(bA ba (qv 2) (bS ji (bS cv (qv 5) (bS gC (bS gC aC (qv 11)) (bQ c_draw (hr.mono (by decide)) rfl (ab (qv 0) (ab aC av))))) aC) (λ_ _=>rfl))) nd rfl (Or.inl rfl) rfl) (aw (bz (i:=7) nd rfl (Or.inl rfl) (fj av)) (aw (e6 PassesOwn.never rfl (kg rfl B.range_ (ab (qv 1) av)) (bR (i:=8) nd rfl (Or.inl rfl)) (aw (bz (i:=9) nd rfl (Or.inl rfl) (bS cv (bS cv (gc jq (qv 6) g7 (g8 (qv 4))) (fj (ab (bA ba (qv 2) (bS ji (bS cv (qv 5) (bS gC aC (qv 8))) aC) (λ_ _=>rfl)) av))) (gc jq (qv 6) (g8 (bS cv (qv 4) aC)) g7))) (aw (bz (i:=10) nd rfl (Or.inl rfl) (nB PySem.F.plainAttrs_str PySem.F.slot_str_join PySem.F.type_str_join Hw bC (ab (qv 9) av))) (aw (cI (QW.pt (FI (bf gZ (qv 10) (cx (ab bC (ab bC (ab bC (ab bC (ab bC (ab bC av))))))) rfl) (AQ (QW.pt (jT (bf rB (qv 3) aC rfl) (jC (bf (dP hu) (bS ji (bS cv (qv 3) (qv 8)) aC) aC rfl))))))) (aF (bz (i:=10) nd rfl (Or.inl rfl) (bS cv (qv 10) bC))) bK) (aF (jB (nB bN cg ck gF (qv 7) (ab (qv 10) av)))))))) (aF (bF (qv 7))))))))))
theorem CO(B:gL mg)(c_part:aI P w K mg base "_law_part" mf wA (mE K))(c_draw:aI P w K mg base "_law_draw" fI iW (bY K))(c_names:aI P w K mg base "_law_names" kz sH (jL K))
  (hr:dh C9 (A.deeper (envOfC "_law_program" (ao gG) s.heap.objs.size f cdv))):jQ (fQ fY P w K mg base nS "_law_program" (ao gG) f cdv A outer s H E).nox (aW gG) (wk K):=by
 have nd:=uv.nd
 have hu:=hr.units0
 have hu1:=dU hr
 refine kT.up ?_
 exact(aw (bz (i:=2) nd rfl (Or.inl rfl) (cw qK rfl B.int_ boot_int (ab (pW (dP hu) (bS ji (bS xo (bO (wR rfl) rfl B.sum_ boot_sum (ab (gc jq (bA ba (qv 0) aC (λ_ _=>rfl)) g7 (g8 aC)) av)) aC) aC) aC rfl) av))) (aw (bz (i:=3) nd rfl (Or.inl rfl) (gc jq (bQ c_names (hr.mono (by decide)) rfl (ab (qv 0) (ab aC av))) g7 (g8 (bA ba (fj (ab (bS cv aC (bQ c_draw (hr.mono (by decide)) rfl (ab (qv 0) (ab aC av)))) (ab aC av))) (qv 2) (λ_ _=>rfl))))) (aw (bz (i:=4) nd rfl (Or.inr rfl) (bQ c_names (hr.mono (by decide)) rfl (ab (qv 0) (ab (bS cv aC (bQ c_draw (hr.mono (by decide)) rfl (ab (qv 0) (ab aC av)))) av)))) (aw (mw (i:=5) (sc:=ao gG) (N:=nS) (NY:=["_law_state","_law_most","_law_five","_law_words","_law_names_here","_law_counts","_law_found","_law_word","_law_many","_law_turn","_law_params"]) (js:=[7]) (k:=0) ⟨rfl,by decide +kernel,by decide +kernel,by decide +kernel,rfl,by decide +kernel⟩ rfl rfl rfl rfl (dQ (qv 3)) (λ_ _ _ _ _=>(bR (i:=7) (show List.Nodup (["_law_state","_law_most","_law_five","_law_words","_law_names_here","_law_counts","_law_found","_law_word","_law_many","_law_turn","_law_params"]:List Str) by decide +kernel) rfl (Or.inl rfl))) (λ_ _ _ _ _=>j7) (λ_ _ _ _ _=>(bQ c_draw (hr.mono (by decide)) rfl (ab (qv 0) (ab (bS cv (bO (CH rfl) rfl B.min_ boot_min (ab aC (ab (bO cC rfl B.len_ boot_len (ab (qv 4) av)) av))) aC) av)))) nd rfl (Or.inl rfl) rfl) (aw (bz (i:=6) nd rfl (Or.inl rfl) (fj av)) (aw (e6 PassesOwn.never rfl (KG rfl B.zip_ (ab (qv 3) (ab (qv 5) av))) (ui rfl (gD (bR (i:=7) nd rfl (Or.inl rfl)) (gD (bR (i:=8) nd rfl (Or.inl rfl)) nX))) (aw (bz (i:=9) nd rfl (Or.inl rfl) (bQ c_draw (hr.mono (by decide)) rfl (ab (qv 0) (ab (bO cC rfl B.len_ boot_len (ab (qv 4) av)) av)))) (aw (bz (i:=10) nd rfl (Or.inl rfl) (gc jq (bS cv (gc jq (qv 4) (g8 (qv 9)) g7) (gc jq (qv 4) g7 (g8 (qv 9)))) g7 (g8 (qv 8)))) (aF (jB (nB bN cg ck gF (qv 6) (ab (bQ c_part (hr.mono (by decide)) rfl (ab (qv 0) (ab (qv 7) (ab (qv 4) (ab (qv 10) (ab (qv 5) (ab (qv 1) av))))))) av))))))) (aF (bF (cw cH rfl B.tuple_ boot_tuple (ab (qv 6) av))))))))))
theorem Ls(B:gL mg)(c_p_short:aI P w K mg base "short" iD nQ (eE K))(c_due:aI P w K mg base "_law_due" oP Bn (lH K))(c_program:aI P w K mg base "_law_program" iE nR (iI K))
  (hr:dh LB (A.deeper (envOfC "law" (ao mP) s.heap.objs.size f cdv))):jQ (fQ fY P w K mg base Ei "law" (ao mP) f cdv A outer s H E).nox (aW mP) (Jq K):=by
 have nd:=Gd.nd
 have hu:=hr.units0
 have hu1:=dU hr
 have hu5:=EL hr
 refine kT.up ?_
 exact(aw (bz (i:=1) nd rfl (Or.inl rfl) (fj (ab (qv 0) (ab aC (ab aC av))))) (aw (bz (i:=2) nd rfl (Or.inl rfl) (bQ c_program (hr.mono (by decide)) rfl (ab (qv 1) (ab aC av)))) (aw (e6 PassesOwn.never rfl (DB rfl B.range_ (ab aC (ab aC av))) (bR (i:=3) nd rfl (Or.inl rfl)) (aw (bz (i:=4) nd rfl (Or.inl rfl) (bQ c_p_short (hr.mono (by decide)) rfl (ab (qv 2) (ab (qv 3) av)))) (aw (cI (bf (AM hu5) (qv 4) (bQ c_due (hr.mono (by decide)) rfl (ab (qv 2) (ab (qv 3) av))) rfl) (aF (bF mO)) bK) (aw (bz (i:=5) nd rfl (Or.inl rfl) (bQ c_p_short (hr.mono (by decide)) rfl (ab (qv 2) (ab (bS cv (qv 3) aC) av)))) (aw (cI (QW.pt (jT (bf AL (qv 4) ie rfl) (jC (bf pU (qv 5) ie rfl)))) (aF (bF mO)) bK) (aF (cI (QW.pt (jT (bf pU (qv 4) ie rfl) (jT (bf pU (qv 5) ie rfl) (jC (bf (Kc hu) (gc jq (qv 5) g7 (g8 aC)) (gc jq (qv 4) g7 (g8 aC)) rfl))))) (aF (bF mO)) bK))))))) (aF (bF (pW (Fl hu5) (bQ c_p_short (hr.mono (by decide)) rfl (ab (qv 2) (ab aC av))) (bQ c_due (hr.mono (by decide)) rfl (ab (qv 2) (ab aC av))) rfl))))))
end
end Bg
end
section
namespace Bg
open PySem L2
theorem rC{K:Fg}{st scr:Addr}{m:Int}{k:Nat}{ns:List Int}{c:Int}{H H2:Hp}{Q:VK}{o4 o5:Option V}{nx:St->Hp->Prop}(hk:k<=1000000)(m0:0<m)
  (q:∀(d:Int) (H':Hp),0<=d->d<m->kW K H' st (k+1)->fP st H H'->Q (.int d) H') (hS:H2 st=some (.lst [.ref scr,.int ((k:Int)+1),.int c])) (hscr:kU K H2 scr ns) (hns:ns.length<=63) (hB:fP st H H2) :
  qk K {nx:=nx,rt:=Q} [some (.ref st),some (.int m),some (.ref scr),some (.int (k:Nat)),o4,o5] H2:=by
 have e1:(((k+1:Nat):Nat):Int)=(k:Int)+1:=by lia
 have S2:kW K H2 st (k+1):=⟨scr,ns,c,by rw[e1];exact hS,hscr,hns⟩
 refine⟨_,rfl,.inl ⟨_,_,rfl,rfl,.inr ⟨by decide,by decide⟩,.inl ⟨_,_,rfl,rfl,?_⟩⟩⟩
 have rest:∀z:Int,zd K {nx:=nx,rt:=Q} [some (.ref st),some (.int m),some (.ref scr),some (.int (k:Nat)),o4,some (.int z)] H2:=λz=>by
  have b1:0<=z % 2147483629:=cX _ (by decide)
  have b2:z % 2147483629<2147483629:=cS _ (by decide)
  refine⟨_,rfl,_,_,rfl,rfl,(by show(0:Int)<2147483629;decide),_,rfl,.inl ⟨_,_,rfl,rfl,.inl ⟨_,_,rfl,rfl,.inl ⟨by lia,by lia⟩,_,_,rfl,rfl,(by show(0:Int)<2147483629;decide),?_⟩⟩⟩
  generalize hy:z % 2147483629*((k:Int)+3) % 2147483629=y
  have c1:0<=y:=by rw[<-hy];exact cX _ (by decide)
  have c2:y<2147483629:=by rw[<-hy];exact cS _ (by decide)
  refine⟨_,rfl,_,rfl,.inl ⟨_,_,rfl,rfl,.inl ⟨by lia,by lia⟩,_,_,rfl,rfl,(by show(0:Int)<2147483587;decide),?_⟩⟩
  generalize hx:y*y % 2147483587=x
  have d1:0<=x:=by rw[<-hx];exact cX _ (by decide)
  have d2:x<2147483587:=by rw[<-hx];exact cS _ (by decide)
  refine⟨_,rfl,_,rfl,.inl ⟨_,_,rfl,rfl,.inl ⟨by lia,by lia⟩,_,_,rfl,rfl,(by show(0:Int)<1999999973;decide),_,rfl,_,_,rfl,rfl,m0,?_⟩⟩
  exact q _ H2 (cX _ (by lia)) (cS _ m0) S2 hB
 refine⟨_,rfl,_,_,rfl,.inl ⟨_,hscr.sq,rfl⟩,_,_,rfl,rfl,_,rfl,cA (λhl=>?_) (λ_=>rest _)⟩
 rw[ae] at hl
 have hlp:0<ns.length:=by lia
 refine⟨_,rfl,_,rfl,_,rfl,.inl ⟨_,_,rfl,rfl,.inr ⟨by decide,by decide⟩,_,rfl,_,_,rfl,.inl ⟨_,hscr.sq,rfl⟩,_,_,rfl,rfl,(by rw[ae];lia),?_⟩⟩
 have i1:0<=(k:Int)*7 % ((ns.map V.int).length:Nat):=cX _ (by rw[ae];lia)
 have i2:(k:Int)*7 % ((ns.map V.int).length:Nat)<((ns.map V.int).length:Nat):=cS _ (by rw[ae];lia)
 rw[ae] at i1 i2
 have i3:((k:Int)*7 % (ns.length:Nat)).toNat<ns.length:=by lia
 refine om hscr.sq (by rw[ae];exact i1) (v:=.int ns[((k:Int)*7 % (ns.length:Nat)).toNat]) (by simp only[ae];rw[aD,aa i3];rfl) ?_
 exact⟨_,rfl,.inl ⟨_,_,rfl,rfl,.inl ⟨_,_,rfl,rfl,.inr ⟨by lia,by lia⟩,.inl ⟨_,_,rfl,rfl,rest _⟩⟩⟩⟩
theorem KL{K:Fg}{vs:List V}{H:Hp}{Q:VK}{E:XK}(h:bY K vs H Q E):Gq K {nx:=λ_ H'=>Q .non H',rt:=Q} (di zV vs) H:=by
 obtain⟨st,m,k,rfl,S,hk,m0,m1,q⟩:=h
 obtain⟨scr,ns,c,hst,hscr,hns⟩:=S
 refine⟨_,rfl,_,rfl,.inl ⟨st,_,rfl,cq.of hst,λp hp=>?_⟩⟩
 refine⟨p,_,rfl,cq.of ag,rfl,_,_,rfl,_,_,rfl,rfl,?_⟩
 have np:st≠p:=ak hst hp
 have B1:fP st H (upd H p (.lst (mh [V.ref scr,V.int (k:Nat),V.int c] none (some 2)))):=(fP.refl st H).new hp
 have h1:(upd H p (.lst (mh [V.ref scr,V.int (k:Nat),V.int c] none (some 2)))) st=some (.lst [.ref scr,.int (k:Nat),.int c]):=by rw[ax np];exact hst
 have s1:kU K (upd H p (.lst (mh [V.ref scr,V.int (k:Nat),V.int c] none (some 2)))) scr ns:=hscr.mono (.of_but B1 hst)
 generalize upd H p (.lst (mh [V.ref scr,V.int (k:Nat),V.int c] none (some 2)))=H1 at B1 h1 s1 ⊢
 refine⟨_,rfl,.inl ⟨_,_,rfl,rfl,_,rfl,y8 h1 (by decide) (by show 1<3;decide) ?_⟩⟩
 have B2:fP st H (upd H1 st (.lst [.ref scr,.int ((k:Int)+1),.int c])):=B1.trans .upd_at
 have h2:(upd H1 st (.lst [.ref scr,.int ((k:Int)+1),.int c])) st=some (.lst [.ref scr,.int ((k:Int)+1),.int c]):=ag
 have s2:kU K (upd H1 st (.lst [.ref scr,.int ((k:Int)+1),.int c])) scr ns:=s1.mono (.of_but .upd_at h1)
 show zf K _ [some (.ref st),some (.int m),some (.ref scr),some (.int (k:Nat)),none,none] (upd H1 st (.lst [.ref scr,.int ((k:Int)+1),.int c]))
 generalize upd H1 st (.lst [.ref scr,.int ((k:Int)+1),.int c])=H2 at B2 h2 s2 ⊢
 have tail:=@rC K st scr m k ns c H H2 Q none none (λ_ H'=>Q .non H') hk m0 q h2 s2 hns B2
 have dig:∀(c':Int) (H3:Hp),H3 st=some (.lst [.ref scr,.int ((k:Int)+1),.int c'])->kU K H3 scr ns->fP st H H3->
   ze K {nx:=qk K {nx:=λ_ H'=>Q .non H',rt:=Q},rt:=Q} [some (.ref st),some (.int m),some (.ref scr),some (.int (k:Nat)),none,none] H3:=λc' H3 h3 s3 B3=>by
  refine⟨_,rfl,om (cq.of h3) (by decide) rfl ?_⟩
  refine⟨_,rfl,(by show 2<=sizeLine;decide),λt ht=>⟨t,_,rfl,.inr (dC.of ag),rfl,rfl,_,rfl,?_⟩⟩
  have n3:st≠t:=ak h3 ht
  have B4:fP st H (upd H3 t (.tup [.int 0,.int (-1)])):=B3.new ht
  have h4:(upd H3 t (.tup [.int 0,.int (-1)])) st=some (.lst [.ref scr,.int ((k:Int)+1),.int c']):=by rw[ax n3];exact h3
  have s4:kU K (upd H3 t (.tup [.int 0,.int (-1)])) scr ns:=s3.mono (.of_same ((aT.refl H3).new ht))
  refine vJ (λ_=>?_) (λ_=>?_)
  ·-- _law_state[2],_law_digit=divmod(_law_state[2],_law_many)
   refine⟨_,rfl,.inl ⟨st,_,_,_,rfl,rfl,cq.of h4,wN (by decide) rfl,_,rfl,_,_,rfl,⟨m0,m1⟩,λp2 hp2=>?_⟩⟩
   have n4:st≠p2:=ak h4 hp2
   refine⟨p2,_,rfl,dC.of ag,rfl,_,_,rfl,_,rfl,y8 (by rw[ax n4];exact h4) (by decide) (by show 2<3;decide) ?_⟩
   refine⟨_,_,rfl,rfl,_,rfl,?_⟩
   have B5:=(B4.new (o:=.tup [.int (c' / m),.int (c' % m)]) hp2)
   have s5:kU K (upd (upd H3 t (.tup [.int 0,.int (-1)])) p2 (.tup [.int (c' / m),.int (c' % m)])) scr ns:=s4.mono (.of_same ((aT.refl _).new hp2))
   have h5:(upd (upd H3 t (.tup [.int 0,.int (-1)])) p2 (.tup [.int (c' / m),.int (c' % m)])) st=some (.lst [.ref scr,.int ((k:Int)+1),.int c']):=by rw[ax n4];exact h4
   refine q _ _ (cX _ (by lia)) (cS _ m0) ⟨scr,ns,c' / m,?_,s5.mono (.of_but .upd_at h5),hns⟩ (B5.trans .upd_at)
   have e1:(((k+1:Nat):Nat):Int)=(k:Int)+1:=by lia
   rw[ag,e1]
   rfl
  ·exact rC hk m0 q h4 s4 hns B4
 have e1:(((k+1:Nat):Nat):Int)=(k:Int)+1:=by lia
 have elif:dG (bP (bI xr (ar 3) (gI (iO K) (aj (ar 2) aM)))) (cR (bI lh (bI (d5 K) (ar 2) (ar 3)) (ar 1))) cG
   {nx:=qk K {nx:=λ_ H'=>Q V.non H',rt:=Q},rt:=Q} [some (V.ref st),some (V.int m),some (V.ref scr),some (V.int (k:Nat)),none,none] H2:=by
  refine⟨_,rfl,_,rfl,_,_,rfl,.inl ⟨_,s2.sq,rfl⟩,_,_,rfl,rfl,_,rfl,cA (λhlt=>?_) (λ_=>tail)⟩
  rw[ae] at hlt
  have j2:((k:Nat):Int).toNat<ns.length:=by lia
  refine⟨_,rfl,_,rfl,om s2.sq (by lia) (v:=.int ns[((k:Nat):Int).toNat]) (by rw[aD,aa j2];rfl) ?_⟩
  refine⟨_,rfl,_,_,rfl,rfl,m0,?_⟩
  exact q _ H2 (cX _ (by lia)) (cS _ m0) ⟨scr,ns,c,by rw[e1];exact h2,s2,hns⟩ B2
 refine⟨_,rfl,_,_,rfl,rfl,⟨by decide,by decide⟩,.inl ⟨_,_,rfl,rfl,_,rfl,_,_,rfl,.inl ⟨_,s2.sq,rfl⟩,_,_,rfl,rfl,_,rfl,cA (λhlt=>?_) (λ_=>?_)⟩⟩
 ·rw[ae] at hlt
  have hlp:0<ns.length:=by lia
  have i0:(ns.map V.int)[(0:Int).toNat]?=some (.int ns[0]):=by
   show(ns.map V.int)[0]?=_
   rw[aD,aa hlp];rfl
  refine⟨_,rfl,om s2.sq (by decide) i0 ⟨_,_,rfl,rfl,(by show(0:Int)<2;decide),.inl ⟨rfl,_,rfl,cA (λ_=>?_) (λ_=>?_)⟩⟩⟩
  ·-- if _law_k % 12==0
   refine⟨_,rfl,_,_,rfl,rfl,(by show(0:Int)<12;decide),.inl ⟨rfl,_,rfl,cA (λ_=>?_) (λ_=>dig c H2 h2 s2 B2)⟩⟩
   have j2:((k:Int) / 12+1).toNat<ns.length:=by lia
   refine⟨_,rfl,_,rfl,_,_,rfl,rfl,⟨by decide,by decide⟩,.inl ⟨_,_,rfl,rfl,om s2.sq (by lia) (v:=.int ns[((k:Int) / 12+1).toNat]) (by rw[aD,aa j2];rfl) ?_⟩⟩
   refine⟨_,rfl,y8 h2 (by decide) (by show 2<3;decide) ?_⟩
   exact dig _ _ ag (s2.mono (.of_but .upd_at h2)) (B2.trans .upd_at)
  ·exact elif
 ·exact j5 elif
theorem IH{K:Fg}{vs:List V}{H:Hp}{Q:VK}{E:XK}(h:kD K vs H Q E):Cw K {nx:=λ_ H'=>Q .non H',rt:=Q} (di wH vs) H:=by
 obtain⟨st,k,rfl,S,hk,q⟩:=h
 have e31:(2:Int) ^ d7 31=2147483648:=by decide
 have e33:(2:Int) ^ d7 33=8589934592:=by decide
 have e64:(2:Int) ^ d7 64=18446744073709551616:=by decide
 have f64:(2:Int) ^ 64=18446744073709551616:=by decide
 refine⟨_,rfl,st,2,k,rfl,S,by lia,by decide,by decide,λd H1 d0 d1 S1 B1=>?_⟩
 refine .inl ⟨rfl,_,rfl,cA (λ_=>?_) (λ_=>?_)⟩
 ·refine⟨_,rfl,_,_,rfl,rfl,⟨by decide,by decide,by decide⟩,st,_,k+1,rfl,S1,by lia,by rw[e31];decide,by rw[e31];decide,λd2 H2 a0 a1 S2 B2=>?_⟩
  rw[e31] at a1
  refine⟨_,_,rfl,rfl,⟨by decide,by decide,by decide⟩,.inl ⟨_,_,rfl,rfl,.inl ⟨by lia,by lia⟩,?_⟩⟩
  refine⟨_,rfl,_,_,rfl,rfl,⟨by decide,by decide,by decide⟩,st,_,k+2,rfl,S2,by lia,by rw[e31];decide,by rw[e31];decide,λd3 H3 b0 b1 S3 B3=>?_⟩
  rw[e31] at b1
  refine .inl ⟨_,_,rfl,rfl,q _ _ H3 ?_ ?_ S3 (by lia) ((B1.trans B2).trans B3)⟩
  ·show 0<=d2*(2:Int) ^ d7 33+d3
   rw[e33];lia
  ·show d2*(2:Int) ^ d7 33+d3<2 ^ 64
   rw[e33,f64];lia
 ·refine⟨_,_,rfl,rfl,⟨by decide,by decide,by decide⟩,_,_,rfl,rfl,_,rfl,st,3,k+1,rfl,S1,by lia,by decide,by decide,λd2 H2 a0 a1 S2 B2=>?_⟩
  refine⟨_,_,rfl,rfl,_,rfl,st,12,k+2,rfl,S2,by lia,by decide,by decide,λd3 H3 b0 b1 S3 B3=>?_⟩
  refine⟨(by show 4<=sizeLine;decide),λl hl=>?_⟩
  refine⟨_,rfl,st,4,k+3,rfl,S3.new hl,by lia,by decide,by decide,λd4 H4 c0 c1 S4 B4=>?_⟩
  obtain⟨ys,hys⟩:=S3.lst
  have nl:l≠st:=λz=>by rw[z,hys] at hl;cases hl
  have h4:=B4 l _ nl ag
  have B5:fP st H H4:=(((B1.trans B2).trans B3).new hl).trans B4
  have fin:∀z:Int,0<=z->z<2 ^ 64->Q (.int z) H4:=λz z0 z1=>q z _ H4 z0 z1 S4 (by lia) B5
  rcases(by lia:d4=0\/d4=1\/d4=2\/d4=3) with rfl|rfl|rfl|rfl
  ·exact om (cq.of h4) (by decide) rfl (fin _ (by decide) (by decide))
  ·exact om (cq.of h4) (by decide) rfl (fin _ (by decide) (by decide))
  ·refine om (cq.of h4) (by decide) rfl (fin _ ?_ ?_)
   ·show 0<=(2:Int) ^ d7 64-1-d2
    rw[e64];lia
   ·show(2:Int) ^ d7 64-1-d2<2 ^ 64
    rw[e64,f64];lia
  ·exact om (cq.of h4) (by decide) rfl (fin _ (by lia) (by lia))
theorem lN{K:Fg}{p:Addr}{xs:List V}{i:Int}{v:V}{H:Hp}{Q:VK}(h:H p=some (.lst xs)\/H p=some (.tup xs))(h0:0<=i)(e:xs[i.toNat]?=some v)(q:Q v H):d5 K (.ref p) (.int i) H Q:=by
 rcases h with h|h
 ·exact om (cq.of h) h0 e q
 ·exact dE h h0 e q
theorem IF{K:Fg}{vs:List V}{H:Hp}{Q:VK}{E:XK}(h:kC K vs H Q E):Cm K {nx:=λ_ H'=>Q .non H',rt:=Q} (di wC vs) H:=by
 obtain⟨rt,n,rvs,v,r,rfl,hrt,hv,hr,q⟩:=h
 have hn:rvs[((n:Nat):Int).toNat]?=some v:=by simpa using hv
 have n0:(0:Int)<=((n:Nat):Int):=by lia
 have e1:(((n+1:Nat):Nat):Int)=(n:Int)+1:=by lia
 cases r with
 |num x z=>
  obtain⟨p,rfl,h⟩:=hr
  refine⟨_,rfl,_,rfl,lN hrt n0 hn (dE h (by decide) rfl (.inl ⟨rfl,_,rfl,no (by decide +kernel) ?_⟩))⟩
  refine⟨_,rfl,_,rfl,lN hrt n0 hn (dE h (by decide) rfl (.inl ⟨rfl,_,rfl,no (by decide +kernel) ?_⟩))⟩
  refine⟨_,rfl,_,rfl,lN hrt n0 hn (dE h (by decide) rfl (.inl ⟨rfl,_,rfl,no (by decide +kernel) ?_⟩))⟩
  exact⟨_,rfl,.inl ⟨_,_,rfl,rfl,⟨(by show 1<=sizeLine;decide),λt ht=>(by have z:=q t ht;unfold aU cc at z;simp only[bq,cy,e1] at z;exact z)⟩⟩⟩
 |op x s a b=>
  obtain⟨p,rfl,h⟩:=hr
  refine⟨_,rfl,_,rfl,lN hrt n0 hn (dE h (by decide) rfl (.inl ⟨rfl,_,rfl,no (by decide +kernel) ?_⟩))⟩
  refine⟨_,rfl,_,rfl,lN hrt n0 hn (dE h (by decide) rfl (.inl ⟨rfl,_,rfl,no (by decide +kernel) ?_⟩))⟩
  refine⟨_,rfl,_,rfl,lN hrt n0 hn (dE h (by decide) rfl (.inl ⟨rfl,_,rfl,no (by decide +kernel) ?_⟩))⟩
  exact⟨_,rfl,.inl ⟨_,_,rfl,rfl,⟨(by show 1<=sizeLine;decide),λt ht=>(by have z:=q t ht;unfold aU cc at z;simp only[bq,cy,e1] at z;exact z)⟩⟩⟩
 |call x k as=>
  obtain⟨p,q1,rfl,h,h1⟩:=hr
  refine⟨_,rfl,_,rfl,lN hrt n0 hn (dE h (by decide) rfl (.inl ⟨rfl,_,rfl,no (by decide +kernel) ?_⟩))⟩
  refine⟨_,rfl,_,rfl,lN hrt n0 hn (dE h (by decide) rfl (.inl ⟨rfl,_,rfl,no (by decide +kernel) ?_⟩))⟩
  refine⟨_,rfl,_,rfl,lN hrt n0 hn (dE h (by decide) rfl (.inl ⟨rfl,_,rfl,no (by decide +kernel) ?_⟩))⟩
  exact⟨_,rfl,.inl ⟨_,_,rfl,rfl,⟨(by show 1<=sizeLine;decide),λt ht=>(by have z:=q t ht;unfold aU cc at z;simp only[bq,cy,e1] at z;exact z)⟩⟩⟩
 |say a=>
  obtain⟨p,rfl,h⟩:=hr
  refine⟨_,rfl,_,rfl,lN hrt n0 hn (dE h (by decide) rfl (.inl ⟨rfl,_,rfl,no (by decide +kernel) ?_⟩))⟩
  refine⟨_,rfl,_,rfl,lN hrt n0 hn (dE h (by decide) rfl (.inl ⟨rfl,_,rfl,no (by decide +kernel) ?_⟩))⟩
  refine⟨_,rfl,_,rfl,lN hrt n0 hn (dE h (by decide) rfl (.inl ⟨rfl,_,rfl,no (by decide +kernel) ?_⟩))⟩
  exact⟨_,rfl,.inl ⟨_,_,rfl,rfl,⟨(by show 1<=sizeLine;decide),λt ht=>(by have z:=q t ht;unfold aU cc at z;simp only[bq,cy,e1] at z;exact z)⟩⟩⟩
 |jump to=>
  obtain⟨p,rfl,h⟩:=hr
  refine⟨_,rfl,_,rfl,lN hrt n0 hn (dE h (by decide) rfl (.inl ⟨rfl,_,rfl,GR ?_⟩))⟩
  exact⟨_,rfl,_,rfl,lN hrt n0 hn (dE h (by decide) rfl ⟨(by show 1<=sizeLine;decide),λt ht=>(by have z:=q t ht;unfold aU cc at z;simp only[bq,cy,e1] at z;exact z)⟩)⟩
 |test a to=>
  obtain⟨p,rfl,h⟩:=hr
  refine⟨_,rfl,_,rfl,lN hrt n0 hn (dE h (by decide) rfl (.inl ⟨rfl,_,rfl,no (by decide +kernel) ?_⟩))⟩
  refine⟨_,rfl,_,rfl,lN hrt n0 hn (dE h (by decide) rfl (.inl ⟨rfl,_,rfl,GR ?_⟩))⟩
  exact⟨_,rfl,.inl ⟨_,_,rfl,rfl,⟨_,rfl,_,rfl,lN hrt n0 hn (dE h (by decide) rfl ⟨(by show 2<=sizeLine;decide),λt ht=>(by have z:=q t ht;unfold aU cc at z;simp only[bq,cy,e1] at z;exact z)⟩)⟩⟩⟩
 |give a=>
  obtain⟨p,rfl,h⟩:=hr
  refine⟨_,rfl,_,rfl,lN hrt n0 hn (dE h (by decide) rfl (.inl ⟨rfl,_,rfl,no (by decide +kernel) ?_⟩))⟩
  refine⟨_,rfl,_,rfl,lN hrt n0 hn (dE h (by decide) rfl (.inl ⟨rfl,_,rfl,no (by decide +kernel) ?_⟩))⟩
  refine⟨_,rfl,_,rfl,lN hrt n0 hn (dE h (by decide) rfl (.inl ⟨rfl,_,rfl,GR ?_⟩))⟩
  exact⟨(by show 0<=sizeLine;decide),λt ht=>(by have z:=q t ht;unfold aU cc at z;simp only[bq,cy,e1] at z;exact z)⟩
theorem EE(c:Nat):(aH c [V.str ""]).flatten=(aH c ("":Str)).map V.str:=by
 induction c with
 |zero=>rfl
 |succ c ih=>rw[cM,fA,ih,cM,bq];rfl
theorem IQ:∀i:Nat,i<5->∃c,("+-*<=":Str).cps.toList[i]?=some c/\(⟨#[c]⟩:Str)∈BY
 |0,_=>⟨43,by decide +kernel,by decide +kernel⟩
 |1,_=>⟨45,by decide +kernel,by decide +kernel⟩
 |2,_=>⟨42,by decide +kernel,by decide +kernel⟩
 |3,_=>⟨60,by decide +kernel,by decide +kernel⟩
 |4,_=>⟨61,by decide +kernel,by decide +kernel⟩
 |n+5,h=>by lia
theorem yV{K:Fg}{vs:List V}{H:Hp}{Q:VK}{E:XK}(h:gy K vs H Q E):si K {nx:=λ_ H'=>Q .non H',rt:=Q} (di ni vs) H:=by
 obtain⟨st,nm,cn,n,k,ys,cs,rfl,S,hk,hnm,ysne,ysl,n1,n2,hcn,csne,csl,cs4,nnm,ncn,q⟩:=h
 have yl:0<ys.length:=eF.mpr ysne
 have cl:0<cs.length:=eF.mpr csne
 refine⟨_,rfl,_,rfl,_,rfl,_,_,rfl,.inl ⟨_,cq.of hnm,rfl⟩,st,_,k,rfl,S,by lia,by rw[ae];lia,by rw[ae];lia,λd H1 d0 d1 S1 B1=>?_⟩
 rw[ae] at d1
 have dl:d.toNat<ys.length:=by lia
 refine om (cq.of (B1 nm _ nnm hnm)) d0 (zb (aa dl)) ?_
 have hx:ys[d.toNat]∈ys:=fW dl
 generalize ys[d.toNat]=x at hx ⊢
 refine⟨_,rfl,st,12,k+1,rfl,S1,by lia,by decide,by decide,λs H2 s0 s1 S2 B2'=>?_⟩
 have B2:fP st H H2:=B1.trans B2'
 have hcn2:=B2 cn _ ncn hcn
 refine⟨_,rfl,_,_,rfl,rfl,_,rfl,cA (λ_=>?_) (λhs2=>?_)⟩
 ·refine⟨_,rfl,_,rfl,st,k+2,rfl,S2,by lia,λz k3 H3 z0 z1 S3 l3 B3=>⟨(by show 3<=sizeLine;decide),λp hp=>?_⟩⟩
  exact q _ (.num x z) _ _ ⟨p,rfl,ag⟩ ⟨hx,z0,z1⟩ (S3.new hp) (by lia) ((B2.trans B3).new hp)
 refine⟨_,rfl,_,_,rfl,rfl,_,rfl,cA (λ_=>?_) (λhs6=>?_)⟩
 ·refine⟨_,rfl,_,rfl,st,5,k+2,rfl,S2,by lia,by decide,by decide,λe H3 e0 e1 S3 B3=>?_⟩
  obtain⟨c,c1,c2⟩:=IQ e.toNat (by lia)
  refine Mv (by decide +kernel) e0 c1 ⟨(by show 5<=sizeLine;decide),λp hp=>?_⟩
  exact q _ (.op x ⟨#[c]⟩ "" "") _ _ ⟨p,rfl,ag⟩ ⟨hx,c2,rfl,rfl⟩ (S3.new hp) (by lia) ((B2.trans B3).new hp)
 refine⟨_,rfl,.inl ⟨rfl,_,rfl,cA (λ_=>?_) (λ_=>?_)⟩⟩
 ·refine⟨_,rfl,_,rfl,_,_,rfl,.inl ⟨_,cq.of hcn2,rfl⟩,st,_,k+2,rfl,S2,by lia,by rw[bV];lia,by rw[bV];lia,λe H3 e0 e1 S3 B3=>?_⟩
  rw[bV] at e1
  obtain⟨j,rfl⟩:∃j:Nat,e=(j:Int):=⟨e.toNat,by lia⟩
  have jl:j<cs.length:=by lia
  have hcn3:=B3 cn _ ncn hcn2
  have cj:cs[j]?=some cs[j]:=aa jl
  have c4:cs[j]<=4:=cs4 _ (fW jl)
  generalize cs[j]=c at cj c4
  refine⟨_,rfl,_,rfl,(by show 1<=sizeLine;decide),λp1 hp1=>?_⟩
  have nc1:cn≠p1:=ak hcn3 hp1
  refine⟨_,rfl,_,rfl,om (cq.of (by rw[ax nc1];exact hcn3)) (by lia) (v:=.int (c:Nat)) (by simpa using vK cj) ?_⟩
  have S4:=S3.new (o:=.tup [V.str ""]) hp1
  have B4:=(B2.trans B3).new (o:=.tup [V.str ""]) hp1
  have c5:1*c<=sizeLine:=bx (by lia) (show 100<=sizeLine by decide)
  refine .inr ⟨p1,c,[V.str ""],rfl,rfl,dC.of ag,by simp,c5,λh1=>⟨(by show 4<=sizeLine;decide),λp hp=>?_⟩,λhne p2 hp2=>⟨(by show 4<=sizeLine;decide),λp hp=>?_⟩⟩
  ·have n1p:p1≠p:=ak ag hp
   subst h1
   refine q _ (.call x j [""]) _ _ ⟨p,p1,rfl,ag,by rw[ax n1p,ag];rfl⟩ ⟨hx,1,cj,rfl⟩ (S4.new hp) (by lia) (B4.new hp)
  ·have n2p:p2≠p:=ak ag hp
   refine q _ (.call x j (aH c "")) _ _ ⟨p,p2,rfl,ag,by rw[ax n2p,ag,EE]⟩ ⟨hx,c,cj,rfl⟩ ((S4.new hp2).new hp) (by lia) ((B4.new hp2).new hp)
 refine⟨_,rfl,_,_,rfl,rfl,_,rfl,cA (λ_=>?_) (λhs8=>?_)⟩
 ·exact⟨(by show 2<=sizeLine;decide),λp hp=>q _ (.say "") _ _ ⟨p,rfl,ag⟩ rfl (S2.new hp) (by lia) (B2.new hp)⟩
 refine⟨_,rfl,_,_,rfl,rfl,_,rfl,cA (λ_=>?_) (λhs10=>?_)⟩
 ·refine⟨_,rfl,_,rfl,st,_,k+2,rfl,S2,by lia,by lia,by lia,λe H3 e0 e1 S3 B3=>⟨(by show 3<=sizeLine;decide),λp hp=>?_⟩⟩
  obtain⟨j,rfl⟩:∃j:Nat,e=(j:Int):=⟨e.toNat,by lia⟩
  exact q _ (.test "" j) _ _ ⟨p,rfl,ag⟩ ⟨rfl,by lia⟩ (S3.new hp) (by lia) ((B2.trans B3).new hp)
 refine⟨_,rfl,_,rfl,st,_,k+2,rfl,S2,by lia,by lia,by lia,λe H3 e0 e1 S3 B3=>⟨(by show 2<=sizeLine;decide),λp hp=>?_⟩⟩
 obtain⟨j,rfl⟩:∃j:Nat,e=(j:Int):=⟨e.toNat,by lia⟩
 refine⟨(by show 2<=sizeLine;decide),λp2 hp2=>⟨(by show 2<=sizeLine;decide),λl hl=>?_⟩⟩
 have n12:p≠p2:=ak ag hp2
 have n2l:p2≠l:=ak ag hl
 have n1l:p≠l:=ak (by rw[ax n12];exact ag) hl
 have S4:=((S3.new (o:=.tup [V.str "jump",V.int (j:Nat)]) hp).new (o:=.tup [V.str "give",V.str ""]) hp2).new (o:=.lst [V.ref p,V.ref p2]) hl
 have B4:=(((B2.trans B3).new (o:=.tup [V.str "jump",V.int (j:Nat)]) hp).new (o:=.tup [V.str "give",V.str ""]) hp2).new (o:=.lst [V.ref p,V.ref p2]) hl
 refine⟨_,rfl,_,_,rfl,rfl,?_⟩
 rcases(by lia:s=10\/s=11) with rfl|rfl
 ·exact om (cq.of ag) (by decide) rfl (q _ (.jump j) _ _ ⟨p,rfl,by rw[ax n1l,ax n12,ag]⟩ (by show j<n;lia) S4 (by lia) B4)
 ·exact om (cq.of ag) (by decide) rfl (q _ (.give "") _ _ ⟨p2,rfl,by rw[ax n2l,ag]⟩ rfl S4 (by lia) B4)
def MU(st nm cn fd wl:Addr)(m:Nat)(f:Int)(ws ys:List Str)(cs:List Nat)(H:Hp)(K:Fg)(k i:Nat):St->Hp->Prop:=λσ' H'=>∃(pvs:List V) (bs:List ic) (k':Nat) (o7 o8 o9 o10:Option V),σ'=[some (.ref st),some (.int (m:Nat)),some (.int f),some (.ref wl),some (.ref nm),some (.ref cn),some (.ref fd),o7,o8,o9,o10]/\
 H' fd=some (.lst pvs)/\cT (nq H') pvs bs/\bs.length=i/\(∀b∈bs,oR ys cs b/\b.rows.length<=m+1)/\bs.map (·.name)=ws.take i/\bs.map (·.params.length)=cs.take i/\kW K H' st k'/\k'<=k+1001*i/\uT st fd H H'
theorem DG{K:Fg}{vs:List V}{H:Hp}{Q:VK}{E:XK}(h:iI K vs H Q E):wk K {nx:=λ_ H'=>Q .non H',rt:=Q} (di nS vs) H:=by
 obtain⟨st,m,k,rfl,S,hk,m1,m50,q⟩:=h
 obtain⟨scr,ns,c,hst,hscr,hns⟩:=id S
 refine⟨_,rfl,om (cq.of hst) (by decide) rfl ⟨_,rfl,.inl ⟨scr,_,rfl,hscr.sq,λp hp=>?_⟩⟩⟩
 rw[show((1:Int))=((1:Nat):Int) from rfl,jJ,<-dw]
 refine⟨p,ns.take 1,rfl,cq.of ag,λz=>⟨_,_,rfl,rfl,⟨by decide,by decide⟩,_,_,rfl,rfl,(by show(0:Int)<16;decide),.inl ⟨rfl,.inr ⟨_,rfl,?_⟩⟩⟩⟩
 have S1:=S.new (o:=.lst ((ns.take 1).map V.int)) hp
 have B1:=(fP.refl st H).new (o:=.lst ((ns.take 1).map V.int)) hp
 generalize upd H p (.lst ((ns.take 1).map V.int))=H1 at S1 B1 ⊢
 obtain⟨f,hf,f01⟩:∃f:Int,(if decide (V.int (z / 4 % 16)=V.int 5)=true then(1:Int) else 0)=f/\(f=0\/f=1):=by
  cases decide (V.int (z / 4 % 16)=V.int 5) with
  |true=>exact⟨1,rfl,.inr rfl⟩
  |false=>exact⟨0,rfl,.inl rfl⟩
 rw[hf]
 show sh K _ [some (.ref st),some (.int (m:Nat)),some (.int f),none,none,none,none,none,none,none,none] H1
 refine⟨_,rfl,st,5,k,rfl,S1,by lia,by decide,λl ws k1 H2 hl wl wnd wok h2 S2 l2 B2=>?_⟩
 have nl:l≠st:=λz=>by obtain⟨_,e⟩:=S1.lst;rw[z,e] at hl;cases hl
 refine⟨_,rfl,st,3,k1,rfl,S2,by lia,by decide,by decide,λd H3 d0 d1 S3 B3=>.inl ⟨_,_,rfl,rfl,(by show 2<=sizeLine;decide),λl4 hl4=>?_⟩⟩
 have h3:=B3 l _ nl h2
 have S4:=S3.new (o:=.lst [V.int (1+d),V.int 5]) hl4
 have B4:=(((B1.trans B2).trans B3).new (o:=.lst [V.int (1+d),V.int 5]) hl4)
 have h4:(upd H3 l4 (.lst [V.int (1+d),V.int 5])) l=some (.lst (ws.map V.str)):=by rw[ax (ak h3 hl4)];exact h3
 have g4:(upd H3 l4 (.lst [V.int (1+d),V.int 5])) l4=some (.lst [V.int (1+d),V.int 5]):=ag
 have words:∀c5:Nat,1<=c5->c5<=5->zS K (V.ref l) none (some (c5:Int)) (upd H3 l4 (.lst [V.int (1+d),V.int 5])) λx H1=>sg K {nx:=λ_ H'=>Q .non H',rt:=Q} [some (.ref st),some (.int (m:Nat)),some (.int f),some x,none,none,none,none,none,none,none] H1:=λc5 c1 c2=>by
  generalize upd H3 l4 (.lst [V.int (1+d),V.int 5])=H4 at S4 B4 h4
  refine .inl ⟨l,_,rfl,cq.of h4,λwp hwp=>?_⟩
  rw[jJ,<-dw]
  have wlen:(ws.take c5).length=c5:=by rw[bg];lia
  have S5:=S4.new (o:=.lst ((ws.take c5).map V.str)) hwp
  have B5:=B4.new (o:=.lst ((ws.take c5).map V.str)) hwp
  have h5:(upd H4 wp (.lst ((ws.take c5).map V.str))) wp=some (.lst ((ws.take c5).map V.str)):=ag
  have nwp:wp≠st:=λz=>by obtain⟨_,e⟩:=S4.lst;rw[z,e] at hwp;cases hwp
  have wwnd:(ws.take c5).Nodup:=(gK c5 ws).nodup wnd
  have wwnm:∀y∈ws.take c5,Nm y:=λy hy=>wok y (dZ hy)
  generalize ws.take c5=ww at wlen S5 B5 h5 wwnd wwnm ⊢
  generalize upd H4 wp (.lst (ww.map V.str))=H5 at S5 B5 h5 ⊢
  refine⟨_,rfl,_,rfl,st,5,k1+1,rfl,S5,by lia,by decide,by decide,λe H6 e0 e1 S6 B6=>.inl ⟨_,_,rfl,rfl,?_⟩⟩
  obtain⟨n,hn,n2,n6⟩:∃n:Nat,(2:Int)+e=(n:Int)/\2<=n/\n<=6:=⟨(2+e).toNat,by lia,by lia,by lia⟩
  refine⟨st,n,k1+2,by show[V.ref st,V.int (2+e)]=_;rw[hn],S6,by lia,by lia,λnm ys k7 H7 hnm yl ynd yok h7 S7 l7 B7=>?_⟩
  have nnm:nm≠st:=λz=>by obtain⟨_,e⟩:=S6.lst;rw[z,e] at hnm;cases hnm
  have nwn:wp≠nm:=ak (B6 wp _ nwp h5) hnm
  have w7:=B7 wp _ nwp (B6 wp _ nwp h5)
  have BH7:=(B5.trans B6).trans B7
  have yne:∀y∈ys,y≠"":=λy hy=>(yok y hy).ne
  have ysne:ys≠[]:=λz=>by rw[z] at yl;simp at yl;lia
  show sf K _ [some (.ref st),some (.int (m:Nat)),some (.int f),some (.ref wp),some (.ref nm),none,none,none,none,none,none] H7
  refine .inl ⟨_,rfl,wp,rfl,⟨_,cq.of w7⟩,λcn hcn=>?_⟩
  have ncn:cn≠st:=λz=>by obtain⟨_,e⟩:=S7.lst;rw[z,e] at hcn;cases hcn
  have nwc:wp≠cn:=ak w7 hcn
  have nnc:nm≠cn:=ak h7 hcn
  refine iK (xs:=ww.map V.str) (λi σ' H'=>∃(cs:List Nat) (k':Nat) (o:Option V),σ'=[some (.ref st),some (.int (m:Nat)),some (.int f),some (.ref wp),some (.ref nm),none,none,o,none,none,none]/\H' cn=some (.lst (aU cs))/\cs.length=i/\(∀x∈cs,x<=4/\x<=ys.length)/\kW K H' st k'/\k'<=k7+i/\fP st H7 H') ?_ ?_ ?_ ?_
  ·exact⟨[],k7,none,rfl,ag,rfl,by simp,S7.new hcn,by lia,(fP.refl st H7).new hcn⟩
  ·rintro i σ' H' _ ⟨_,_,_,_,_,_,_,_,_,B⟩
   exact cq.of (B wp _ nwp w7)
  ·rintro i x σ' H' hx ⟨cs,k',o,rfl,hc,cl,c4,S',hk',B'⟩
   have il:i<ww.length:=by have:=(af.mp hx).1;rw[ae] at this;exact this
   refine jZ ⟨_,rfl,_,rfl,_,_,rfl,.inl ⟨_,cq.of (B' nm _ nnm h7),rfl⟩,_,_,rfl,.inl ⟨_,_,rfl,rfl,?_⟩⟩
   rw[ae]
   refine⟨st,_,k',rfl,S',by lia,?_,?_,λg H8 g0 g1 S8 B8=>?_⟩
   ·by_cases z:((ys.length:Nat):Int)<4
    ·rw[if_pos z];lia
    ·rw[if_neg z];lia
   ·by_cases z:((ys.length:Nat):Int)<4
    ·rw[if_pos z];lia
    ·rw[if_neg z];lia
   obtain⟨gn,rfl⟩:∃j:Nat,g=(j:Int):=⟨g.toNat,by lia⟩
   have g4:gn<=4/\gn<=ys.length:=by
    by_cases z:((ys.length:Nat):Int)<4
    ·rw[if_pos z] at g1;lia
    ·rw[if_neg z] at g1;lia
   have h8:=B8 cn _ ncn hc
   refine⟨_,h8,cF (by rw[bV];lia),cs++[gn],k'+1,_,rfl,?_,by simp[cl],λx hx=>?_,S8.mono .upd_at h8 (Ne.symm ncn),by lia,?_⟩
   ·rw[ag];unfold aU;rw[aL];rfl
   ·rcases aE.mp hx with z|z
    ·exact c4 x z
    ·rw[ai.mp z];exact g4
   ·exact fP.past (B'.trans B8) hcn .upd_at
  ·rintro σ' H8 ⟨cs,k8,o,_,hc,cl,c4,S8,hk8,B8⟩
   rw[ae] at cl hk8
   have csne:cs≠[]:=λz=>by rw[z] at cl;simp at cl;lia
   have w8:=B8 wp _ nwp w7
   have n8:=B8 nm _ nnm h7
   have BH8:=BH7.trans B8
   show se K _ [some (.ref st),some (.int (m:Nat)),some (.int f),some (.ref wp),some (.ref nm),some (.ref cn),none,none,none,none,none] H8
   refine⟨(by show 0<=sizeLine;decide),λfd hfd=>?_⟩
   have nfd:fd≠st:=λz=>by obtain⟨_,e⟩:=S8.lst;rw[z,e] at hfd;cases hfd
   have s9:aT H8 (upd H8 fd (.lst [])):=(aT.refl H8).new hfd
   have g9:(upd H8 fd (.lst [])) fd=some (.lst []):=ag
   have HF:H fd=none:=BH8.free nfd hfd
   have nwf:wp≠fd:=ak w8 hfd
   have nnf:nm≠fd:=ak n8 hfd
   have ncf:cn≠fd:=ak hc hfd
   show sd K _ [some (.ref st),some (.int (m:Nat)),some (.int f),some (.ref wp),some (.ref nm),some (.ref cn),some (.ref fd),none,none,none,none] (upd H8 fd (.lst []))
   generalize upd H8 fd (.lst [])=H9 at s9 g9 ⊢
   refine⟨_,rfl,_,rfl,wp,cn,rfl,⟨_,cq.of (s9 _ _ w8)⟩,⟨_,cq.of (s9 _ _ hc)⟩,Hh (xs:=ww.map V.str) (ys:=aU cs) (by rw[ae,bV,cl]) (MU st nm cn fd wp m f ww ys cs H9 K k8) ?_ ?_ ?_ ?_⟩
   ·exact⟨[],[],k8,none,none,none,none,rfl,g9,.nil,rfl,by simp,rfl,rfl,S8.same s9,by lia,.refl _ _ _⟩
   ·rintro i σ' H' _ ⟨_,_,_,_,_,_,_,_,_,_,_,_,_,_,_,_,B⟩
    exact⟨cq.of (B wp _ nwp nwf (s9 _ _ w8)),cq.of (B cn _ ncn ncf (s9 _ _ hc))⟩
   ·rintro i x y σ' H' tp hx hy htp ⟨pvs,bs,k',o7,o8,o9,o10,rfl,hpv,hA,bl,b100,bnm,bct,S',hk',B'⟩
    have il:i<ww.length:=by have:=(af.mp hx).1;rw[ae] at this;exact this
    obtain⟨c,hcc,rfl⟩:=pO hy
    rw[aD,aa il] at hx
    obtain⟨w,hw,rfl⟩:∃w:Str,ww[i]?=some w/\x=.str w:=⟨ww[i],aa il,(Option.some.inj hx).symm⟩
    have s2:aT H' (upd H' tp (.tup [.str w,.int (c:Nat)])):=(aT.refl H').new htp
    have g2:(upd H' tp (.tup [.str w,.int (c:Nat)])) tp=some (.tup [.str w,.int (c:Nat)]):=ag
    generalize upd H' tp (.tup [.str w,.int (c:Nat)])=H10 at s2 g2 ⊢
    refine⟨tp,_,rfl,dC.of g2,rfl,_,_,rfl,_,_,rfl,rfl,?_⟩
    show r8 K _ [some (.ref st),some (.int (m:Nat)),some (.int f),some (.ref wp),some (.ref nm),some (.ref cn),some (.ref fd),some (.str w),some (.int (c:Nat)),o9,o10] H10
    have nm10:=s2 _ _ (B' nm _ nnm nnf (s9 _ _ n8))
    have cn10:=s2 _ _ (B' cn _ ncn ncf (s9 _ _ hc))
    have fd10:=s2 _ _ hpv
    refine⟨_,rfl,_,rfl,_,_,rfl,.inl ⟨_,cq.of nm10,rfl⟩,st,_,k',rfl,S'.same s2,by lia,by rw[ae];lia,by rw[ae];lia,λt H11 t0 t1 S11 B11=>?_⟩
    obtain⟨tn,rfl⟩:∃j:Nat,t=(j:Int):=⟨t.toNat,by lia⟩
    show rZ K _ [some (.ref st),some (.int (m:Nat)),some (.int f),some (.ref wp),some (.ref nm),some (.ref cn),some (.ref fd),some (.str w),some (.int (c:Nat)),some (.int (tn:Nat)),o10] H11
    have nm11:=B11 nm _ nnm nm10
    have cn11:=B11 cn _ ncn cn10
    have fd11:=B11 fd _ nfd fd10
    refine⟨_,rfl,_,rfl,_,rfl,.inl ⟨nm,_,rfl,cq.of nm11,λa1 ha1=>?_⟩⟩
    rw[x6,<-oq]
    have nm12:(upd H11 a1 (.lst ((ys.drop tn).map V.str))) nm=some (.lst (ys.map V.str)):=by rw[ax (ak nm11 ha1)];exact nm11
    refine⟨_,rfl,_,rfl,_,rfl,.inl ⟨nm,_,rfl,cq.of nm12,λa2 ha2=>?_⟩⟩
    rw[jJ,<-dw]
    have n12:a1≠a2:=ak ag ha2
    refine .inr (.inr (.inl ⟨a1,a2,_,_,rfl,rfl,by rw[ax n12,ag],ag,?_,λa3 ha3=>?_⟩))
    ·have:=cF (n:=100) (by decide)
     rw[ae,ae,dJ,bg];lia
    rw[<-aL]
    refine⟨_,rfl,_,rfl,.inl ⟨a3,_,rfl,cq.of ag,λpr hpr=>?_⟩⟩
    rw[jJ,<-dw]
    have pin:∀y∈(ys.drop tn++ys.take tn).take c,y∈ys:=λy hy=>by
     rcases aE.mp (dZ hy) with z|z
     ·exact List.mem_of_mem_drop z
     ·exact dZ z
    have pnd:((ys.drop tn++ys.take tn).take c).Nodup:=by
     refine(gK c _).nodup ?_
     have z:(ys.take tn++ys.drop tn).Nodup:=by rw[List.take_append_drop];exact ynd
     exact(List.perm_append_comm.nodup_iff).mp z
    have plc:((ys.drop tn++ys.take tn).take c).length=c:=by
     have:=(c4 c (az hcc)).2
     rw[bg,ay,dJ,bg];lia
    have pl:((ys.drop tn++ys.take tn).take c).length<=100:=by
     rw[bg,ay,dJ,bg];lia
    have s13:aT H11 (upd (upd (upd (upd H11 a1 (.lst ((ys.drop tn).map V.str))) a2 (.lst ((ys.take tn).map V.str))) a3 (.lst ((ys.drop tn++ys.take tn).map V.str))) pr (.lst (((ys.drop tn++ys.take tn).take c).map V.str))):=((((aT.refl H11).new ha1).new ha2).new ha3).new hpr
    have g13:(upd (upd (upd (upd H11 a1 (.lst ((ys.drop tn).map V.str))) a2 (.lst ((ys.take tn).map V.str))) a3 (.lst ((ys.drop tn++ys.take tn).map V.str))) pr (.lst (((ys.drop tn++ys.take tn).take c).map V.str))) pr=some (.lst (((ys.drop tn++ys.take tn).take c).map V.str)):=ag
    show rY K _ [some (.ref st),some (.int (m:Nat)),some (.int f),some (.ref wp),some (.ref nm),some (.ref cn),some (.ref fd),some (.str w),some (.int (c:Nat)),some (.int (tn:Nat)),some (.ref pr)] (upd (upd (upd (upd H11 a1 (.lst ((ys.drop tn).map V.str))) a2 (.lst ((ys.take tn).map V.str))) a3 (.lst ((ys.drop tn++ys.take tn).map V.str))) pr (.lst (((ys.drop tn++ys.take tn).take c).map V.str)))
    generalize upd (upd (upd (upd H11 a1 (.lst ((ys.drop tn).map V.str))) a2 (.lst ((ys.take tn).map V.str))) a3 (.lst ((ys.drop tn++ys.take tn).map V.str))) pr (.lst (((ys.drop tn++ys.take tn).take c).map V.str))=H13 at s13 g13 ⊢
    generalize (ys.drop tn++ys.take tn).take c=ps at pin pl pnd plc g13
    have S13:=S11.same s13
    have npr:pr≠st:=λz=>by
     have:=Cy S13 (v:=.ref pr) ⟨pr,rfl,g13⟩
     exact this (by rw[z])
    have fd13:=s13 _ _ fd11
    refine⟨_,rfl,.inl ⟨rfl,_,cq.of fd13⟩,_,rfl,_,rfl,_,rfl,_,rfl,_,rfl,_,rfl,st,nm,pr,cn,w,m,k'+1,ys,ps,cs,rfl,S13,by lia,s13 _ _ nm11,ysne,by lia,yne,g13,pl,pnd,pin,s13 _ _ cn11,csne,by lia,λx hx=>(c4 x hx).1,m1,m50,nnm,npr,ncn,λv b k14 H14 hv hbn hbp bok br S14 l14 B14=>?_⟩
    have fd14:=B14 fd _ nfd fd13
    obtain⟨_,e11⟩:=(S'.same s2).lst
    obtain⟨_,e13⟩:=S13.lst
    have t14:Tp H' H14:=(((Tp.of_same s2).trans (.of_but B11 e11)).trans (.of_same s13)).trans (.of_but B14 e13)
    have t15:Tp H14 (upd H14 fd (.lst (pvs++[v]))):=(Tp.refl H14).lst fd14
    refine⟨fd,_,_,rfl,rfl,fd14,cF (by rw[hA.len];lia),?_⟩
    refine⟨pvs++[v],bs++[b],k14,_,_,_,_,rfl,ag,(hA.imp λ_ _ z=>(z.mono t14).mono t15).snoc (hv.mono t15),by simp[bl],λb' hb'=>(aE.mp hb').elim (b100 b') (λz=>by rw[ai.mp z];exact⟨bok,br⟩),by rw[aL,bnm,fF,hw,List.map_singleton,hbn];rfl,by rw[aL,bct,fF,hcc,List.map_singleton,hbp,plc];rfl,S14.mono .upd_at fd14 (Ne.symm nfd),by lia,?_⟩
    exact λe u n1 n2 h=>by rw[ax n2];exact B14 e u n1 (s13 _ _ (B11 e u n1 (s2 _ _ (B' e u n1 n2 h))))
   ·rintro σ' H' ⟨pvs,bs,k',o7,o8,o9,o10,rfl,hpv,hA,bl,b100,bnm,bct,S',hk',B'⟩
    rw[ae] at bl hk'
    refine⟨_,rfl,fd,_,rfl,.inl ⟨cq.of hpv,λl hl=>?_⟩⟩
    rw[ae,<-cl] at bct
    rw[ae] at bnm
    rw[bH] at bnm bct
    have ok:qI ys cs bs:=⟨ynd,yok,by lia,by lia,by lia,by lia,by rw[bnm];exact wwnd,λb hb=>wwnm _ (by rw[<-bnm];exact List.mem_map_of_mem hb),bct,λx hx=>(c4 x hx).1,λb hb=>(b100 b hb).1⟩
    refine q l pvs bs ys cs k' _ ag (hA.imp λ_ _ z=>z.mono ((Tp.refl H').new hl)) ok (λb hb=>(b100 b hb).2) (S'.new hl) (by lia) (fP.new ?_ hl)
    exact λe u n1 h=>B' e u n1 (ak h HF) (s9 _ _ (BH8 e u n1 h))
 rcases f01 with rfl|rfl
 ·refine⟨_,rfl,om (cq.of g4) (by decide) rfl ⟨_,rfl,?_⟩⟩
  obtain⟨c5,h5,c1,c2⟩:∃c5:Nat,(1:Int)+d=(c5:Int)/\1<=c5/\c5<=5:=⟨(1+d).toNat,by lia,by lia,by lia⟩
  have z:=words c5 c1 c2
  rw[<-h5] at z
  exact z
 ·refine⟨_,rfl,om (cq.of g4) (by decide) rfl ⟨_,rfl,?_⟩⟩
  exact words 5 (by decide) (by decide)
theorem vP(b:List V)(x:V):(lP b x).length=b.length:=by
 unfold lP;rw[bg,bG];omega
theorem IJ(n:Nat)(x:V):(aH n [x]).flatten=aH n x:=by
 induction n with
 |zero=>rfl
 |succ n ih=>rw[cM,fA,ih,cM];rfl
theorem AU{K:Fg}{vs:List V}{H:Hp}{Q:VK}{E:XK}(h:gR K vs H Q E):uL K {nx:=λ_ H'=>Q .non H',rt:=Q} (di oM vs) H:=by
 obtain⟨b,x,xs,rfl,hb,hne,hl,q⟩:=h
 refine⟨_,rfl,(by show 1<=sizeLine;decide),λt ht=>⟨_,rfl,?_⟩⟩
 have hb1:(upd H t (.tup [x])) b=some (.tup xs):=by rw[ax (ak hb ht)];exact hb
 refine .inr (.inr (.inr ⟨t,b,[x],xs,rfl,rfl,dC.of ag,dC.of hb1,by simp,?_,λz=>absurd z hne,λ_ p hp=>?_⟩))
 ·exact dW (cF (by rw[bo];omega))
 have hb2:(upd (upd H t (.tup [x])) p (.tup ([x]++xs))) b=some (.tup xs):=by rw[ax (ak hb1 hp)];exact hb1
 refine⟨_,rfl,_,_,rfl,.inr ⟨xs,dC.of hb2,rfl⟩,_,rfl,.inr ⟨p,_,rfl,dC.of ag,?_,λp2 hp2=>?_⟩⟩
 ·rintro⟨_,z⟩
  rw[HT.sIx_nat] at z
  simp at z
 ·refine q p2 _ ?_ (((aT.refl H).new ht).new hp |>.new hp2)
  rw[ag,jJ]
  rfl
theorem DC{K:Fg}{vs:List V}{H:Hp}{Q:VK}{E:XK}(h:iG K vs H Q E):wc K {nx:=λ_ H'=>Q .non H',rt:=Q} (di qE vs) H:=by
 obtain⟨n,a,e,xs,rfl,ha,n1,nl,q⟩:=h
 have rep:(aH n [e]).flatten=aH n e:=IJ n e
 have main:∀(p:Addr) (H1:Hp),H1 p=some (.tup (aH n e))->aT H H1->rP K {nx:=λ_ H'=>Q .non H',rt:=Q} [some (.int (n:Nat)),some (.ref a),some e,some (.ref p),none] H1:=λp H1 h1 s1=>by
  have turn:∀(i:Nat) x (σ':St) (H':Hp) (D:nh),xs[i]?=some x->(∃pp o,σ'=[some (.int (n:Nat)),some (.ref a),some e,some (.ref pp),o]/\H' pp=some (.tup ((xs.take i).foldl lP (aH n e)))/\aT H H')->
    (∀σ2 H2,(∃pp o,σ2=[some (.int (n:Nat)),some (.ref a),some e,some (.ref pp),o]/\H2 pp=some (.tup ((xs.take (i+1)).foldl lP (aH n e)))/\aT H H2)->D.nx σ2 H2)->
    aX 4 x σ' H' λσ2 H2=>rO K D σ2 H2:=by
   rintro i x σ' H' D hx ⟨pp,o,rfl,hp,s'⟩ hD
   refine⟨_,rfl,_,rfl,pp,x,_,rfl,hp,?_,?_,λp2 H2 h2 s2=>?_⟩
   ·intro z
    have l0:∀(ys b:List V),(ys.foldl lP b).length=b.length:=λys=>by
     induction ys with
     |nil=>intro b;rfl
     |cons y r ih=>intro b;rw[gB,ih,vP]
    have:=l0 (xs.take i) (aH n e)
    rw[z,bE] at this
    simp at this;omega
   ·have l0:∀(ys b:List V),(ys.foldl lP b).length=b.length:=λys=>by
     induction ys with
     |nil=>intro b;rfl
     |cons y r ih=>intro b;rw[gB,ih,vP]
    rw[l0,bE];exact nl
   ·refine hD _ _ ⟨p2,_,rfl,?_,s'.trans s2⟩
    rw[h2]
    have et:xs.take (i+1)=xs.take i++[x]:=by
     rw[fF,hx];rfl
    rw[et,iR]
    rfl
  have fin:∀(σ':St) (H':Hp),(∃pp o,σ'=[some (.int (n:Nat)),some (.ref a),some e,some (.ref pp),o]/\H' pp=some (.tup ((xs.take xs.length).foldl lP (aH n e)))/\aT H H')->
    rN K {nx:=λ_ H'=>Q .non H',rt:=Q} σ' H':=by
   rintro σ' H' ⟨pp,o,rfl,hp,s'⟩
   rw[bH] at hp
   exact⟨_,rfl,q pp _ hp s'⟩
  rcases ha with ha|ha
  ·refine .inl ⟨_,rfl,a,rfl,⟨_,cq.of (s1 _ _ ha)⟩,gQ (xs:=xs) (λi σ' H'=>∃pp o,σ'=[some (.int (n:Nat)),some (.ref a),some e,some (.ref pp),o]/\H' pp=some (.tup ((xs.take i).foldl lP (aH n e)))/\aT H H') ⟨p,_,rfl,h1,s1⟩ ?_ ?_ fin⟩
   ·rintro i σ' H' _ ⟨pp,o,_,_,s'⟩;exact cq.of (s' _ _ ha)
   ·intro i x σ' H' hx hi
    exact turn i x σ' H' _ hx hi λσ2 H2 z=>z
  ·refine .inr ⟨_,rfl,a,rfl,⟨_,dC.of (s1 _ _ ha)⟩,mi (xs:=xs) (λi σ' H'=>∃pp o,σ'=[some (.int (n:Nat)),some (.ref a),some e,some (.ref pp),o]/\H' pp=some (.tup ((xs.take i).foldl lP (aH n e)))/\aT H H') ⟨p,_,rfl,h1,s1⟩ ?_ ?_ fin⟩
   ·rintro i σ' H' _ ⟨pp,o,_,_,s'⟩;exact dC.of (s' _ _ ha)
   ·intro i x σ' H' hx hi
    exact turn i x σ' H' _ hx hi λσ2 H2 z=>z
 refine⟨_,rfl,(by show 1<=sizeLine;decide),λt ht=>⟨_,rfl,.inr ⟨t,n,[e],rfl,rfl,dC.of ag,by simp,?_,λz=>?_,λ_ p hp=>?_⟩⟩⟩
 ·exact dW (cF (by rw[bo];omega))
 ·subst z
  exact main t _ ag ((aT.refl H).new ht)
 ·exact main p _ (by rw[ag,rep]) (((aT.refl H).new ht).new hp)
end Bg
end
section
namespace Bg
open PySem PySem.Spec PyProof.Rows L2
end Bg
end
section
namespace Bg
open PySem L2
theorem D0{α:Type}{xs:List α}{i:Nat}{x:α}(h:xs[i]?=some x):xs.take (i+1)=xs.take i++[x]:=by rw[fF,h];rfl
theorem FR{K:Fg}{vs:List V}{H:Hp}{Q:VK}{E:XK}(h:jv K vs H Q E):zF K {nx:=λ_ H'=>Q .non H',rt:=Q} (di tj vs) H:=by
 obtain⟨b,n,os,ns,rfl,hb,hn,ol,q⟩:=h
 refine⟨(by show 0<=sizeLine;decide),λT nT=>?_⟩
 have hb1:upd H T (.lst []) b=some (.tup (oX os)):=by rw[ax (ak hb nT)];exact hb
 show uM K _ [some (.ref b),some (.ref n),some (.ref T),none] (upd H T (.lst []))
 refine .inr ⟨_,rfl,b,rfl,⟨_,dC.of hb1⟩,?_⟩
 refine mi (xs:=oX os) (λi σ' H'=>∃o,σ'=[some (.ref b),some (.ref n),some (.ref T),o]/\H' T=some (.lst (oX ((os.take i).foldl (gE ns) [])))/\aT H H') ?_ ?_ ?_ ?_
 ·exact⟨none,rfl,by rw[List.take_zero];exact ag,(aT.refl H).new nT⟩
 ·rintro i σ' H' _ ⟨o,_,_,s'⟩
  exact dC.of (s' _ _ hb)
 ·rintro i x σ' H' hx ⟨o,rfl,hT,s'⟩
  obtain⟨ox,ex,rfl⟩:=J1 hx
  have hn':=s' _ _ hn
  have li:(oX ((os.take i).foldl (gE ns) [])).length<=1000:=by rw[xf,rJ,bg];simp;omega
  have app:∀w:V,w=oV (if ox∈ns.map some/\ox∉(os.take i).foldl (gE ns) [] then ox else none)->iy (.ref T) [w] H' λ_ H1=>∃o,[some (V.ref b),some (V.ref n),some (V.ref T),some (oV ox)]=[some (.ref b),some (.ref n),some (.ref T),o]/\H1 T=some (.lst (oX ((os.take (i+1)).foldl (gE ns) [])))/\aT H H1:=by
   rintro w rfl
   refine⟨T,_,_,rfl,rfl,hT,cF (by omega),_,rfl,?_,λc oc hc=>?_⟩
   ·rw[ag,D0 ex,iR]
    show some (HO.lst _)=some (HO.lst (oX (gE ns ((os.take i).foldl (gE ns) []) ox)))
    unfold gE oX
    rw[aL]
    rfl
   ·rw[ax (ak hc nT)];exact s' c oc hc
  refine⟨_,rfl,.inl ⟨rfl,_,cq.of hT⟩,_,rfl,_,rfl,n,_,rfl,.inr (dC.of hn'),xc _,qM _,_,rfl,?_⟩
  show if m6 (oV ox) (ns.map V.str)=true then _ else _
  rw[K6,ES]
  refine cA (λm=>⟨_,rfl,_,rfl,T,_,rfl,.inl (cq.of hT),xc _,Fh _,_,rfl,?_⟩) (λm=>j5 (app _ ?_))
  ·show if(!m6 (oV ox) (oX _))=true then _ else _
   rw[ES]
   refine fR (λm2=>⟨_,rfl,app _ ?_⟩) (λm2=>app _ ?_)
   ·rw[if_pos ⟨m,m2⟩]
   ·rw[if_neg λz=>z.2 m2];rfl
  ·rw[if_neg λz=>m z.1];rfl
 ·rintro σ' H' ⟨o,rfl,hT,s'⟩
  rw[xf,bH] at hT
  exact⟨_,rfl,T,_,rfl,.inl ⟨cq.of hT,λP nP=>q P _ ag (s'.new nP)⟩⟩
def oS(F:List Nat)(t:Nat):List Nat:=if t∈F then F else F++[t]
theorem pH{F:List Nat}{t x:Nat}:x∈oS F t↔x∈F\/x=t:=by
 unfold oS
 split
 ·rename_i h
  exact⟨.inl,λz=>z.elim id λe=>e ▸ h⟩
 ·rw[aE,ai]
theorem wL{F:List Nat}(h:F.Nodup)(t:Nat):(oS F t).Nodup:=by
 unfold oS
 split
 ·exact h
 ·rename_i c
  exact dy.mpr ⟨h,by simp,λa ha b hb=>by rw[ai.mp hb];exact λe=>c (e ▸ ha)⟩
theorem LR(F:List Nat)(t:Nat):iF (dz F) (Sum.inl (t:Int)) (V.bl true)=dz (oS F t):=by
 unfold oS
 split
 ·rename_i h
  unfold iF
  rw[if_pos]
  ·unfold dz
   rw[cP]
   refine fS λn hn=>?_
   show(if(Sum.inl (n:Int):dS)=Sum.inl (t:Int) then _ else _)=_
   split<;>rfl
  ·rw[gU]
   exact⟨(Sum.inl (t:Int),V.bl true),cQ.mpr ⟨t,h,rfl⟩,by simp⟩
 ·rename_i h
  exact putF h
theorem Fb:∀(G F:List Nat),gq (dz F) (dz G)=dz (G.foldl oS F)
 |[],F=>rfl
 |x::G,F=>by
  show gq (iF (dz F) (Sum.inl (x:Int)) (V.bl true)) (dz G)=_
  rw[LR,Fb G (oS F x)];rfl
theorem vA:∀(G:List Nat) {F:List Nat},F.Nodup->(G.foldl oS F).Nodup
 |[],F,h=>h
 |x::G,F,h=>vA G (wL h x)
theorem tI:∀(G:List Nat) {F:List Nat} {t:Nat},t∈G.foldl oS F↔t∈F\/t∈G
 |[],F,t=>by simp
 |x::G,F,t=>by
  show t∈G.foldl oS (oS F x)↔_
  rw[tI G,pH,aN,or_assoc]
theorem Hr{F:List Nat}{j:Nat}{k:dS}{v:V}(h:(dz F)[j]?=some (k,v)):∃n,F[j]?=some n/\k=Sum.inl (n:Int)/\v=.bl true:=by
 unfold dz at h
 rw[aD] at h
 cases e:F[j]? with
 |none=>rw[e] at h;cases h
 |some n=>rw[e] at h;cases h;exact⟨n,rfl,rfl,rfl⟩
structure Mj(H:Hp)(D:Addr)(ns:List Nat)(H':Hp)(i:Nat)(ts:List Addr):Prop where
 hD:H' D=some (.lst (ts.map V.ref))
 len:ts.length=(ns.take i).length
 at_:∀(j:Nat) t n,ts[j]?=some t->(ns.take i)[j]?=some n->H' t=some (.tup [.int (n:Nat),.bl true])
 sm:aT H H'
theorem yR{K:Fg}{vs:List V}{H:Hp}{Q:VK}{E:XK}(h:fO K vs H Q E):rM K {nx:=λ_ H'=>Q .non H',rt:=Q} (di kP vs) H:=by
 obtain⟨l,ns,rfl,hl,few,q⟩:=h
 refine .inl ⟨_,rfl,l,rfl,⟨_,cq.of hl⟩,λD nD=>?_⟩
 refine iK (xs:=aU ns) (λi σ' H'=>∃(o:Option V) (ts:List Addr),σ'=[some (.ref l),o]/\Mj H D ns H' i ts) ?_ ?_ ?_ ?_
 ·exact⟨none,[],rfl,ag,rfl,λj t n e=>by simp at e,(aT.refl H).new nD⟩
 ·rintro i σ' H' _ ⟨_,_,_,A⟩
  exact cq.of (A.sm _ _ hl)
 ·rintro i x σ' H1 hx ⟨o,ts,rfl,A⟩
  obtain⟨n,hn,rfl⟩:=mj hx
  have il:=(af.mp hn).1
  have tk:ns.take (i+1)=ns.take i++[n]:=by rw[cL,hn];rfl
  have al:=A.len
  refine jZ ⟨_,rfl,(by show 2<=sizeLine;decide),λp np=>?_⟩
  have s2:aT H1 (upd H1 p (.tup [.int (n:Nat),.bl true])):=(aT.refl H1).new np
  have hp2:upd H1 p (.tup [.int (n:Nat),.bl true]) p=some (.tup [.int (n:Nat),.bl true]):=ag
  generalize upd H1 p (.tup [.int (n:Nat),.bl true])=H2 at s2 hp2 ⊢
  have hD2:=s2 _ _ A.hD
  refine⟨_,hD2,cF (by rw[ae,al,bg];lia),_,ts++[p],rfl,?_,?_,λj t m e1 e2=>?_,λb u e=>?_⟩
  ·rw[ag,aL];rfl
  ·rw[tk,ay,ay,al];rfl
  ·have ht:H2 t=some (.tup [.int (m:Nat),.bl true]):=by
    rw[tk] at e2
    rcases Nat.lt_or_ge j ts.length with hj|hj
    ·rw[bM hj] at e1
     rw[bM (by rw[<-al];exact hj)] at e2
     exact s2 _ _ (A.at_ j t m e1 e2)
    ·rw[bh hj] at e1
     rw[bh (by rw[<-al];exact hj),<-al] at e2
     cases ej:j-ts.length with
     |zero=>rw[ej] at e1 e2;cases e1;cases e2;exact hp2
     |succ k=>rw[ej] at e1;simp at e1
   rw[ax (iL ht hD2 (by intro z;cases z))];exact ht
  ·rw[ax (ak e nD)];exact s2 _ _ (A.sm b u e)
 ·rintro σ' H1 ⟨o,ts,rfl,A⟩
  obtain⟨a1,a2,a3,a4⟩:=A
  rw[bV,bH] at a2 a3
  refine⟨D,_,dz ns,rfl,a1,?_,?_,λj x k v e1 e2=>?_,λd ndd=>?_⟩
  ·unfold dz;rw[ae,ae];exact a2
  ·unfold dz;rw[ae];lia
  ·obtain⟨n,en,rfl,rfl⟩:=Hr e2
   rw[aD] at e1
   cases et:ts[j]? with
   |none=>rw[et] at e1;cases e1
   |some t=>rw[et] at e1;cases e1;exact⟨t,rfl,a3 j t n et en⟩
  ·have e0:gq [] (dz ns)=dz (ns.foldl oS []):=Fb ns []
   rw[e0]
   have Hd:H d=none:=by
    cases ee:H d with
    |none=>rfl
    |some u=>rw[a4 _ _ ee] at ndd;cases ndd
   exact q d _ _ ag (vA ns fX) (λt=>by rw[tI];simp) Hd (a4.new ndd)
theorem D6{r:aZ}(h:oo r="give"):∃a,r=.give a:=by
 cases r with
 |give a=>exact⟨a,rfl⟩
 |num x z=>exact absurd h (by show ¬("num":Str)="give";decide +kernel)
 |op x s a b=>exact absurd h (by show ¬("op":Str)="give";decide +kernel)
 |call x k as=>exact absurd h (by show ¬("call":Str)="give";decide +kernel)
 |say a=>exact absurd h (by show ¬("say":Str)="give";decide +kernel)
 |test a to=>exact absurd h (by show ¬("test":Str)="give";decide +kernel)
 |jump to=>exact absurd h (by show ¬("jump":Str)="give";decide +kernel)
theorem D8{r:aZ}(h:oo r="test"):∃a to,r=.test a to:=by
 cases r with
 |test a to=>exact⟨a,to,rfl⟩
 |num x z=>exact absurd h (by show ¬("num":Str)="test";decide +kernel)
 |op x s a b=>exact absurd h (by show ¬("op":Str)="test";decide +kernel)
 |call x k as=>exact absurd h (by show ¬("call":Str)="test";decide +kernel)
 |say a=>exact absurd h (by show ¬("say":Str)="test";decide +kernel)
 |give a=>exact absurd h (by show ¬("give":Str)="test";decide +kernel)
 |jump to=>exact absurd h (by show ¬("jump":Str)="test";decide +kernel)
theorem He{r:aZ}(h:¬oo r="give")(hj:gH r=false):zU r=true:=by
 cases r with
 |give a=>exact absurd rfl h
 |jump to=>cases hj
 |_=>rfl
theorem C0{ns:List Int}(h:∀x∈ns,0<=x):ns=(ns.map d7).map λ(n:Nat)=>(n:Int):=by
 rw[cP]
 have:ns.map id=ns.map ((λ(n:Nat)=>(n:Int)) ∘ d7):=fS λx hx=>by have:=h x hx;show x=((x.toNat:Nat):Int);lia
 rw[<-this,rg]
theorem Lq(ms:List Nat):(ms.map λ(n:Nat)=>(n:Int)).map V.int=aU ms:=by unfold aU;rw[cP];rfl
theorem vY{ns:List Int}{F:List Nat}(hm:∀x,x∈ns↔x∈F.map λ(n:Nat)=>(n:Int))(nd:ns.Nodup)(srt:ns.Pairwise (·<=·)):∃ms:List Nat,ns.map V.int=aU ms/\ms.Pairwise (·<·)/\∀t,t∈ms↔t∈F:=by
 have h0:∀x∈ns,0<=x:=λx hx=>by
  obtain⟨n,_,rfl⟩:=cQ.mp ((hm x).mp hx)
  lia
 have hc:=C0 h0
 refine⟨ns.map d7,?_,?_,λt=>?_⟩
 ·rw[<-Lq,<-hc]
 ·rw[fE]
  have both:ns.Pairwise λa b=>a<=b/\a≠b:=srt.and nd
  exact List.Pairwise.imp_of_mem (λ{a b} ha hb z=>by have:=h0 a ha;have:=h0 b hb;lia) both
 ·rw[cQ]
  constructor
  ·rintro⟨x,hx,rfl⟩
   obtain⟨n,hn,e⟩:=cQ.mp ((hm x).mp hx)
   rw[<-e];simpa using hn
  ·intro ht
   exact⟨(t:Int),(hm _).mpr (cQ.mpr ⟨t,ht,rfl⟩),by simp⟩
structure sk(H:Hp)(d l0:Addr)(rs:List aZ)(ns:List Nat)(H':Hp)(F:List Nat)(P:Nat->Prop):Prop where
 hl:H' l0=some (.lst (aU ns))
 hd:H' d=some (.dK (dz F))
 nd:F.Nodup
 mem:∀t,t∈F↔P t
 few:F.length<=64
 sm:aT H H'
theorem sk.put{H:Hp}{d l0:Addr}{rs:List aZ}{ns:List Nat}{H':Hp}{F:List Nat}{P:Nat->Prop}(A:sk H d l0 rs ns H' F P)(nd0:H d=none)(t:Nat)(hb:∀x∈oS F t,x<rs.length)(r64:rs.length<64) :
  sk H d l0 rs ns (upd H' d (.dK (iF (dz F) (nk t) (V.bl true)))) (oS F t) (λx=>P x\/x=t):=by
 refine⟨by rw[ax (iL A.hl A.hd (by intro z;cases z))];exact A.hl,by rw[ag];exact congrArg (λz=>some (HO.dK z)) (LR F t),wL A.nd t,λx=>by rw[pH,A.mem],?_,λb u e=>by rw[ax (ak e nd0)];exact A.sm b u e⟩
 have:=fM (wL A.nd t) hb
 lia
theorem AS{K:Fg}{vs:List V}{H:Hp}{Q:VK}{E:XK}(h:eU K vs H Q E):uK K {nx:=λ_ H'=>Q .non H',rt:=Q} (di oK vs) H:=by
 obtain⟨rt,rs,rfl,⟨rvs,hrt,hA,g⟩,q⟩:=h
 have rlen:rvs.length=rs.length:=hA.len
 have r64:=g.few
 refine λd nd=>?_
 have s0:aT H (upd H d (.dK [])):=(aT.refl H).new nd
 have hd0:upd H d (.dK []) d=some (.dK (dz [])):=ag
 show qo K _ [some (.ref rt),some (.ref d),none] (upd H d (.dK []))
 generalize upd H d (.dK [])=H1 at s0 hd0 ⊢
 refine .inl ⟨_,rfl,rt,rvs,rs,rfl,s0 _ _ hrt,hA.imp λ_ _ z=>z.mono (.of_same s0),g,λl0 ns H2 hn hp hl0 nl0 s1=>⟨l0,rfl,⟨_,cq.of hl0⟩,?_⟩⟩
 refine gQ (xs:=aU ns) (λi σ' H'=>∃(o2:Option V) (F:List Nat),σ'=[some (.ref rt),some (.ref d),o2]/\sk H d l0 rs ns H' F (λt=>∃n∈ns.take i,Ea rs n t\/D9 rs n t))
  ⟨none,[],rfl,hl0,s1 _ _ hd0,fX,λt=>by simp,cf _,s0.trans s1⟩ ?_ ?_ ?_
 ·rintro i σ' H' _ ⟨_,_,_,A⟩
  exact cq.of A.hl
 ·rintro i x σ' H3 hx ⟨o2,F,rfl,A⟩
  obtain⟨n,hni,rfl⟩:=mj hx
  have stn:=(hn n).mp (az hni)
  have nlt:=eI g stn
  obtain⟨v,r,ev,er,ra⟩:=hA.get nlt
  obtain⟨p,xs,rfl,hp0⟩:=ra.ref
  have tk:ns.take (i+1)=ns.take i++[n]:=by rw[cL,hni];rfl
  have ev':rvs[((n:Nat):Int).toNat]?=some (.ref p):=by simpa using ev
  have oldb:∀{F':List Nat} {H':Hp} {P:Nat->Prop},sk H d l0 rs ns H' F' P->(∀t,P t->Ld rs t)->∀x∈F',x<rs.length:=λA' hP x hx=>eI g (pP g (hP x ((A'.mem x).mp hx)))
  have oldP:∀t,(∃n∈ns.take i,Ea rs n t\/D9 rs n t)->Ld rs t:=λt ⟨m,hm,z⟩=>⟨m,(hn m).mp (dZ hm),z⟩
  have half:∀(F1:List Nat) (H4:Hp),sk H d l0 rs ns H4 F1 (λt=>(∃n∈ns.take i,Ea rs n t\/D9 rs n t)\/Ea rs n t)->
    ql K {nx:=λσ' H'=>∃(o2:Option V) (F:List Nat),σ'=[some (.ref rt),some (.ref d),o2]/\sk H d l0 rs ns H' F (λt=>∃n∈ns.take (i+1),Ea rs n t\/D9 rs n t),rt:=Q,bk:=mH K {nx:=λ_ H'=>Q .non H',rt:=Q},ct:=λσ' H'=>∃(o2:Option V) (F:List Nat),σ'=[some (.ref rt),some (.ref d),o2]/\sk H d l0 rs ns H' F (λt=>∃n∈ns.take (i+1),Ea rs n t\/D9 rs n t)} [some (.ref rt),some (.ref d),some (.int (n:Nat))] H4:=λF1 H4 A1=>by
   have S4:=A1.sm
   have fin:∀{F2:List Nat} {H5:Hp} {P:Nat->Prop},sk H d l0 rs ns H5 F2 P->(∀t,P t↔((∃n∈ns.take i,Ea rs n t\/D9 rs n t)\/Ea rs n t)\/D9 rs n t)->∃(o2:Option V) (F:List Nat),[some (.ref rt),some (.ref d),some (.int (n:Nat))]=[some (V.ref rt),some (V.ref d),o2]/\sk H d l0 rs ns H5 F (λt=>∃n∈ns.take (i+1),Ea rs n t\/D9 rs n t):=λA2 hP=>by
    refine⟨_,_,rfl,A2.hl,A2.hd,A2.nd,λt=>?_,A2.few,A2.sm⟩
    rw[A2.mem,hP,tk]
    constructor
    ·rintro((⟨m,hm,z⟩|z)|z)
     ·exact⟨m,bt _ hm,z⟩
     ·exact⟨n,aS _ aP,.inl z⟩
     ·exact⟨n,aS _ aP,.inr z⟩
    ·rintro⟨m,hm,z⟩
     rcases aE.mp hm with hm|hm
     ·exact .inl (.inl ⟨m,hm,z⟩)
     ·rw[ai.mp hm] at z
      exact z.elim (λz=>.inl (.inr z)) .inr
   refine⟨_,rfl,_,rfl,dE (S4 _ _ hrt) (by lia) ev' (dE (S4 _ _ hp0) (by decide) rfl (.inl ⟨rfl,_,rfl,fR (λc=>?_) (λc=>j5 ?_)⟩))⟩
   ·have hf:zU r=true:=He (λz=>c (by rw[z])) (stn.2 r er)
    have n1:n+1<rs.length:=g.inr n (n+1) r er (kB hf)
    obtain⟨v',r',ev1,er1,ra1⟩:=hA.get n1
    obtain⟨p',xs',rfl,hp1⟩:=ra1.ref
    have ev1':rvs[((n:Nat)+1:Int).toNat]?=some (.ref p'):=by rw[show((n:Nat)+1:Int).toNat=n+1 by lia];exact ev1
    have put:(D9 rs n (Sd rs (n+1)))->bZ (tC (.bl true)) (oj (ar 1) (bL (bW K) [] E0 (aj (ar 0) (aj (bI (dA K) (ar 2) (tC (.int 1))) aM))) vQ) {nx:=λσ' H'=>∃(o2:Option V) (F:List Nat),σ'=[some (.ref rt),some (.ref d),o2]/\sk H d l0 rs ns H' F (λt=>∃n∈ns.take (i+1),Ea rs n t\/D9 rs n t),rt:=Q,bk:=mH K {nx:=λ_ H'=>Q .non H',rt:=Q},ct:=λσ' H'=>∃(o2:Option V) (F:List Nat),σ'=[some (.ref rt),some (.ref d),o2]/\sk H d l0 rs ns H' F (λt=>∃n∈ns.take (i+1),Ea rs n t\/D9 rs n t)} [some (.ref rt),some (.ref d),some (.int (n:Nat))] H4:=λhL=>by
     refine⟨_,rfl,_,rfl,_,rfl,.inl ⟨_,_,rfl,rfl,rt,n+1,rvs,rs,rfl,S4 _ _ hrt,hA.imp λ_ _ z=>z.mono (.of_same S4),g,n1,d,_,rfl,xR.k (k:=nk (Sd rs (n+1))) A1.hd (cF (by unfold dz;rw[ae];have:=A1.few;lia)),?_⟩⟩
     refine fin (A1.put nd _ (λx hx=>?_) r64) λt=>?_
     ·rcases pH.mp hx with z|z
      ·exact oldb A1 (λt z=>z.elim (oldP t) λz=>⟨n,stn,.inl z⟩) x z
      ·rw[z];exact sU g _ n1
     ·refine or_congr Iff.rfl ⟨λe=>e ▸ hL,λ⟨_,_,_,_,e⟩=>e⟩
    refine⟨_,rfl,_,rfl,.inl ⟨_,_,rfl,rfl,dE (S4 _ _ hrt) (by lia) ev1' (dE (S4 _ _ hp1) (by decide) rfl (.inl ⟨rfl,_,rfl,cA (λc1=>?_) (λc1=>?_)⟩))⟩⟩
    ·obtain⟨to,rfl⟩:=oh (mF c1)
     exact uY (put ⟨r,er,hf,.inl ⟨to,er1⟩,rfl⟩)
    ·refine⟨_,rfl,.inl ⟨_,_,rfl,rfl,_,rfl,rt,0,rvs,rs,rfl,S4 _ _ hrt,hA.imp λ_ _ z=>z.mono (.of_same S4),g,g.pos,.inl ⟨rfl,_,rfl,cA (λc2=>?_) (λc2=>?_)⟩⟩⟩
     ·have e2:n+1=Sd rs 0:=by injection c2 with c2;have c3:((n:Int)+1)=((Sd rs 0:Nat):Int):=c2;lia
      exact put ⟨r,er,hf,.inr e2,rfl⟩
     ·refine fin A1 λt=>⟨.inl,λz=>z.elim id λ⟨r2,hr2,hf2,z2,_⟩=>?_⟩
      exfalso
      rcases z2 with⟨to,z2⟩|z2
      ·rw[er1] at z2;cases z2
       exact c1 rfl
      ·exact c2 (by show V.int ((n:Int)+1)=V.int ((Sd rs 0:Nat):Int);rw[<-z2];rfl)
   ·obtain⟨a,rfl⟩:=D6 (mF c)
    refine fin A1 λt=>⟨.inl,λz=>z.elim id λ⟨r2,hr2,hf2,_⟩=>?_⟩
    rw[er] at hr2;cases hr2;cases hf2
  show qm K _ [some (.ref rt),some (.ref d),some (.int (n:Nat))] H3
  have S3:=A.sm
  refine⟨_,rfl,_,rfl,dE (S3 _ _ hrt) (by lia) ev' (dE (S3 _ _ hp0) (by decide) rfl (.inl ⟨rfl,_,rfl,cA (λc=>?_) (λc=>?_)⟩))⟩
  ·obtain⟨a,to,rfl⟩:=D8 (mF c)
   have tolt:to<rs.length:=g.inr n to _ er (by simp[cc])
   refine⟨_,rfl,_,rfl,_,rfl,_,rfl,dE (S3 _ _ hrt) (by lia) ev' ⟨.ref p,.test a to,rfl,ra.mono (.of_same S3),rt,to,rvs,rs,rfl,S3 _ _ hrt,hA.imp λ_ _ z=>z.mono (.of_same S3),g,tolt,d,_,rfl,xR.k (k:=nk (Sd rs to)) A.hd (cF (by unfold dz;rw[ae];have:=A.few;lia)),?_⟩⟩
   have A1:=A.put nd (Sd rs to) (λx hx=>by
    rcases pH.mp hx with z|z
    ·exact oldb A oldP x z
    ·rw[z];exact sU g _ tolt) r64
   refine half _ _ ⟨A1.hl,A1.hd,A1.nd,λt=>?_,A1.few,A1.sm⟩
   rw[A1.mem]
   refine or_congr Iff.rfl ⟨λe=>⟨a,to,er,e⟩,λ⟨a',to',e1,e2⟩=>?_⟩
   rw[er] at e1;cases e1;exact e2
  ·refine half F H3 ⟨A.hl,A.hd,A.nd,λt=>?_,A.few,A.sm⟩
   rw[A.mem]
   refine⟨.inl,λz=>z.elim id λ⟨a',to',e1,e2⟩=>?_⟩
   rw[er] at e1;cases e1
   exact absurd rfl c
 ·rintro σ' H3 ⟨o2,F,rfl,A⟩
  rw[bV,bH] at A
  have hL:∀t,t∈F↔Ld rs t:=λt=>by
   rw[A.mem]
   exact⟨λ⟨m,hm,z⟩=>⟨m,(hn m).mp hm,z⟩,λ⟨m,hm,z⟩=>⟨m,(hn m).mpr hm,z⟩⟩
  have flt:=fM A.nd λx hx=>eI g (pP g ((hL x).mp hx))
  refine⟨_,rfl,d,dz F,F.map λ(n:Nat)=>(n:Int),rfl,A.hd,by unfold dz;rw[cP,cP];rfl,by rw[ae];lia,λl ns' nl perm srt=>?_⟩
  obtain⟨ms,e1,e2,e3⟩:=vY (F:=F) (λx=>perm.mem_iff) (perm.nodup_iff.mpr (by unfold List.Nodup;rw[fE];exact A.nd.imp λh e=>h (by lia))) srt
  rw[e1]
  have Hl:H l=none:=by
   cases ee:H l with
   |none=>rfl
   |some u=>rw[A.sm _ _ ee] at nl;cases nl
  exact q l ms _ (λt=>by rw[e3,hL]) e2 ag Hl (A.sm.new nl)
theorem Ek.tp{H H':Hp}{rt:Addr}{rs:List aZ}(h:Ek H rt rs)(t:Tp H H'):Ek H' rt rs:=by
 obtain⟨rvs,a,b,c⟩:=h
 exact⟨rvs,t _ _ a,b.imp λ_ _ z=>z.mono t,c⟩
theorem GP.same{H H':Hp}{wd:Addr}{rs:List aZ}(h:GP H wd rs)(s:aT H H'):GP H' wd rs:=by
 obtain⟨ns,ts,wss,ss,a,b,c,d,e,f⟩:=h
 exact⟨ns,ts,wss,ss,s _ _ a,b,c,d,λj t ws x y=>s _ _ (e j t ws x y),f⟩
theorem xT.same{K:Fg}{H H':Hp}{o:Addr}{rs:List aZ}{ps:List Str}(h:xT K H o rs ps)(s:aT H H'):xT K H' o rs ps:=by
 obtain⟨dx,pa,rt,wd,ld,hd,F,a,b,c,d,e,f⟩:=h
 exact⟨dx,pa,rt,wd,ld,hd,F,s _ _ a,s _ _ b,c.same s,d.same s,s _ _ e,f⟩
theorem q9{H:Hp}{wd:Addr}{rs:List aZ}{n:Nat}{ws:List Str}(h:GP H wd rs)(st:cV rs n)(W:Ws rs n ws):∃t,ng H wd (.int (n:Nat)) (some (.ref t))/\H t=some (.tup (ws.map V.str)):=by
 obtain⟨ns,ts,wss,ss,a,b,c,d,e,f⟩:=h
 obtain⟨j,hj⟩:=List.getElem?_of_mem ((c n).mpr st)
 have jl:=(af.mp hj).1
 obtain⟨t,et⟩:∃t,ts[j]?=some t:=⟨_,aa (by rw[b];exact jl)⟩
 obtain⟨w,ew⟩:∃w,wss[j]?=some w:=⟨_,aa (by rw[f.len];exact jl)⟩
 obtain⟨g1,g2⟩:=f.at_ j n w hj ew
 have ew':w=ws:=xq ((qV f.srt).sublist g1) W.srt (f.nd.sublist g1) W.nd λx=>by rw[g2,W.mem]
 subst ew'
 have knd:(ns.map nk).Nodup:=by
  unfold List.Nodup
  rw[fE]
  exact d.imp λh e=>aV h (Fe e)
 have gg:=ng.k (k:=nk n) a
 rw[zN knd (j:=j) (by rw[aD,hj];rfl) (by rw[aD,et];rfl)] at gg
 exact⟨t,gg,e j t w et ew⟩
theorem uk{K:Fg}(T:qJ K){vs:List V}{H:Hp}{Q:VK}{E:XK}(h:eD K vs H Q E):nH K {nx:=λ_ H'=>Q .non H',rt:=Q} (di ku vs) H:=by
 obtain⟨x,dx,pt,rt,rs,ps,zs,rfl,hx,⟨wv,pa,hpt,hpa⟩,R,W,nxp,q⟩:=h
 have tpx:∀{A B:Hp} {fs:List (Str×V)},A x=some (.ins (dc K "Outline") dx fs)->fP x A B->Tp A B:=λhA B p xs e=>B p _ (λz=>by rw[z,hA] at e;cases e) e
 have g:=let⟨_,_,_,g⟩:=R;g
 refine⟨_,rfl,dE hpt (by decide) rfl ⟨_,rfl,x,_,dx,_,rfl,hx,T.cl,T.n1,(by show 0<1000;decide),?_⟩⟩
 have hx1:upd H x (.ins (dc K "Outline") dx (L2.putF "params" (.ref pa) [])) x=some (.ins (dc K "Outline") dx [("params",.ref pa)]):=ag
 have B1:fP x H (upd H x (.ins (dc K "Outline") dx (L2.putF "params" (.ref pa) []))):=fP.upd_at
 show lW K _ [some (.ref x),some (.ref pt),none] _
 generalize upd H x (.ins (dc K "Outline") dx (L2.putF "params" (.ref pa) []))=H1 at hx1 B1 ⊢
 have P1:=tpx hx B1
 refine⟨_,rfl,dE (P1 _ _ hpt) (by decide) rfl ⟨_,rfl,x,_,dx,_,rfl,hx1,T.cl,T.n2,(by show 1<1000;decide),?_⟩⟩
 have hx2:upd H1 x (.ins (dc K "Outline") dx (L2.putF "rows" (.ref rt) [("params",.ref pa)])) x=some (.ins (dc K "Outline") dx [("params",.ref pa),("rows",.ref rt)]):=ag
 have B2:fP x H (upd H1 x (.ins (dc K "Outline") dx (L2.putF "rows" (.ref rt) [("params",.ref pa)]))):=B1.trans fP.upd_at
 show lV K _ [some (.ref x),some (.ref pt),none] _
 generalize upd H1 x (.ins (dc K "Outline") dx (L2.putF "rows" (.ref rt) [("params",.ref pa)]))=H2 at hx2 B2 ⊢
 have P2:=tpx hx B2
 obtain⟨rv2,a2,b2,_⟩:=R.tp P2
 refine⟨_,rfl,dE (P2 _ _ hpt) (by decide) rfl ⟨rt,rv2,rs,zs,rfl,a2,b2,g,W.r100,by have:=W.z64;lia,W.zin,λwd ns ts wss ss H3 hn hp hwd tl tt want nwd s3=>⟨_,rfl,x,_,dx,_,rfl,s3 _ _ hx2,T.cl,T.n3,(by show 2<1000;decide),?_⟩⟩⟩
 have W3:GP H3 wd rs:=⟨ns,ts,wss,ss,hwd,tl,hn,hp,tt,want⟩
 have hx3:upd H3 x (.ins (dc K "Outline") dx (L2.putF "wants" (.ref wd) [("params",.ref pa),("rows",.ref rt)])) x=some (.ins (dc K "Outline") dx [("params",.ref pa),("rows",.ref rt),("wants",.ref wd)]):=ag
 have C3:fP x H3 (upd H3 x (.ins (dc K "Outline") dx (L2.putF "wants" (.ref wd) [("params",.ref pa),("rows",.ref rt)]))):=fP.upd_at
 show lU K _ [some (.ref x),some (.ref pt),none] _
 generalize upd H3 x (.ins (dc K "Outline") dx (L2.putF "wants" (.ref wd) [("params",.ref pa),("rows",.ref rt)]))=H4 at hx3 C3 ⊢
 have B4:fP x H H4:=λb u n e=>C3 b u n (s3 b u (B2 b u n e))
 have P4:=tpx hx B4
 obtain⟨rv4,a4,b4,_⟩:=R.tp P4
 have hx3':=s3 _ _ hx2
 have wdx:wd≠x:=λz=>by rw[z,hx3'] at hwd;cases hwd
 have keepW:∀{B:Hp},fP x H3 B->GP B wd rs:=λ{B} C=>⟨ns,ts,wss,ss,C _ _ wdx hwd,tl,hn,hp,λj t ws a b=>C _ _ (λz=>by have:=tt j t ws a b;rw[z,hx3'] at this;cases this) (tt j t ws a b),want⟩
 refine⟨_,rfl,dE (P4 _ _ hpt) (by decide) rfl ⟨rt,0,rv4,rs,rfl,a4,b4,g,g.pos,_,rfl,x,_,dx,_,rfl,hx3,T.cl,T.n4,(by show 3<1000;decide),?_⟩⟩
 have hx5:upd H4 x (.ins (dc K "Outline") dx (L2.putF "first" (.int (Sd rs 0:Nat)) [("params",.ref pa),("rows",.ref rt),("wants",.ref wd)])) x=some (.ins (dc K "Outline") dx [("params",.ref pa),("rows",.ref rt),("wants",.ref wd),("first",.int (Sd rs 0:Nat))]):=ag
 have C5:fP x H4 (upd H4 x (.ins (dc K "Outline") dx (L2.putF "first" (.int (Sd rs 0:Nat)) [("params",.ref pa),("rows",.ref rt),("wants",.ref wd)]))):=fP.upd_at
 show lT K _ [some (.ref x),some (.ref pt),none] (upd H4 x (.ins (dc K "Outline") dx (L2.putF "first" (.int (Sd rs 0:Nat)) [("params",.ref pa),("rows",.ref rt),("wants",.ref wd)])))
 generalize upd H4 x (.ins (dc K "Outline") dx (L2.putF "first" (.int (Sd rs 0:Nat)) [("params",.ref pa),("rows",.ref rt),("wants",.ref wd)]))=H5 at hx5 C5 ⊢
 have B5:=B4.trans C5
 have P5:=tpx hx B5
 refine⟨_,rfl,dE (P5 _ _ hpt) (by decide) rfl ⟨rt,rs,rfl,R.tp P5,λl ms H6 hm mp hl nl s6=>?_⟩⟩
 show lS K _ [some (.ref x),some (.ref pt),some (.ref l)] H6
 have m64:=fM (mp.imp λz=>aV z) λy hy=>eI g (pP g ((hm y).mp hy))
 have r64:=g.few
 refine⟨_,rfl,l,ms,rfl,hl,by lia,λld F H7 hld fnd fm nld s7=>⟨_,rfl,x,_,dx,_,rfl,s7 _ _ (s6 _ _ hx5),T.cl,T.n5,(by show 4<1000;decide),?_⟩⟩
 have hx7:=s7 _ _ (s6 _ _ hx5)
 have hx8:upd H7 x (.ins (dc K "Outline") dx (L2.putF "led" (.ref ld) [("params",.ref pa),("rows",.ref rt),("wants",.ref wd),("first",.int (Sd rs 0:Nat))])) x=some (.ins (dc K "Outline") dx [("params",.ref pa),("rows",.ref rt),("wants",.ref wd),("first",.int (Sd rs 0:Nat)),("led",.ref ld)]):=ag
 have C8:fP x H7 (upd H7 x (.ins (dc K "Outline") dx (L2.putF "led" (.ref ld) [("params",.ref pa),("rows",.ref rt),("wants",.ref wd),("first",.int (Sd rs 0:Nat))]))):=fP.upd_at
 show lR K _ [some (.ref x),some (.ref pt),some (.ref l)] _
 generalize upd H7 x (.ins (dc K "Outline") dx (L2.putF "led" (.ref ld) [("params",.ref pa),("rows",.ref rt),("wants",.ref wd),("first",.int (Sd rs 0:Nat))]))=H8 at hx8 C8 ⊢
 have ldx:ld≠x:=λz=>by rw[z,hx7] at hld;cases hld
 have lx:l≠x:=λz=>by rw[z,s6 _ _ hx5] at hl;cases hl
 have hld8:=C8 _ _ ldx hld
 have hl8:=C8 _ _ lx (s7 _ _ hl)
 refine⟨_,rfl,x,_,dx,_,_,rfl,hx8,T.cl,T.n4,rfl,(by show 1<=sizeLine;decide),λl9 n9=>⟨_,rfl,.inr (.inr (.inl ⟨l9,l,_,_,rfl,rfl,ag,by rw[ax (ak hl8 n9)];exact hl8,dW (cF (by rw[bV];show 1+ms.length<=100000;lia)),λl10 n10=>?_⟩))⟩⟩
 have S10:aT H8 (upd (upd H8 l9 (.lst [V.int (Sd rs 0:Nat)])) l10 (.lst ([V.int (Sd rs 0:Nat)]++aU ms))):=((aT.refl H8).new n9).new n10
 have h10:(upd (upd H8 l9 (.lst [V.int (Sd rs 0:Nat)])) l10 (.lst ([V.int (Sd rs 0:Nat)]++aU ms))) l10=some (.lst (aU (Sd rs 0::ms))):=ag
 generalize upd (upd H8 l9 (.lst [V.int (Sd rs 0:Nat)])) l10 (.lst ([V.int (Sd rs 0:Nat)]++aU ms))=H10 at S10 h10 ⊢
 refine⟨l10,Sd rs 0::ms,rfl,h10,by rw[bG];lia,λhd F2 H11 hhd _ _ nhd s11=>⟨_,rfl,x,_,dx,_,rfl,s11 _ _ (S10 _ _ hx8),T.cl,T.n6,(by show 5<1000;decide),?_⟩⟩
 have S11:=S10.trans s11
 have hx11:=S11 _ _ hx8
 have C12:fP x H8 (upd H11 x (.ins (dc K "Outline") dx (L2.putF "heads" (.ref hd) [("params",.ref pa),("rows",.ref rt),("wants",.ref wd),("first",.int (Sd rs 0:Nat)),("led",.ref ld)]))):=λb u n e=>by rw[ax n];exact S11 b u e
 have D7:fP x H5 H8:=λb u n e=>C8 b u n (s7 _ _ (s6 b u e))
 have D12:=D7.trans C12
 have C3':fP x H3 (upd H11 x (.ins (dc K "Outline") dx (L2.putF "heads" (.ref hd) [("params",.ref pa),("rows",.ref rt),("wants",.ref wd),("first",.int (Sd rs 0:Nat)),("led",.ref ld)]))):=(C3.trans C5).trans D12
 have B12:fP x H (upd H11 x (.ins (dc K "Outline") dx (L2.putF "heads" (.ref hd) [("params",.ref pa),("rows",.ref rt),("wants",.ref wd),("first",.int (Sd rs 0:Nat)),("led",.ref ld)]))):=B5.trans D12
 refine q _ ⟨dx,pa,rt,wd,ld,hd,F,ag,tpx hx B12 _ _ hpa,R.tp (tpx hx B12),keepW C3',C12 _ _ ldx hld8,λt=>by rw[fm,hm]⟩ B12
theorem yH(a:List (Option Str))(n:Nat):oX (a.take n)=(oX a).take n:=by unfold oX;rw[dw]
def En(ps:List Str)(n:Nat):List (Option Str):=(ps.reverse.map some++aH n none).take n
theorem Bv(ps:List Str)(n:Nat):(En ps n).length=n:=by
 unfold En
 rw[bg,ay,bE];lia
theorem CF(n:Nat)(ps:List Str):wO n (ps.map V.str) .non=oX (En ps n):=by
 rw[<-jF ps]
 induction ps.reverse with
 |nil=>
  unfold wO En oX
  simp[oV]
 |cons y r ih=>
  unfold wO at ih ⊢
  rw[gJ,aL,iR,ih]
  show lP (oX (En r.reverse n)) (V.str y)=_
  unfold lP
  rw[xf,Bv]
  unfold En
  rw[List.reverse_append,jF]
  show(oV (some y)::oX (((r.map some++aH n none)).take n)).take n=oX ((some y::(r.map some++aH n none)).take n)
  cases n with
  |zero=>rfl
  |succ k=>
   rw[jW,jW]
   show _::_=oV (some y)::oX _
   rw[yH,yH,List.take_take,Nat.min_eq_left (iJ k)]
theorem Gf(ns:List Str)(os:List (Option Str))(nd:(os.filterMap id).Nodup):BX os ns=os.map λo=>if o∈ns.map some then o else none:=by
 rw[<-jF os] at nd ⊢
 generalize os.reverse=qs at nd ⊢
 induction qs with
 |nil=>rfl
 |cons o r ih=>
  rw[gJ,List.filterMap_append] at nd
  have nd1:=(dy.mp nd).1
  have ih:=ih nd1
  unfold BX at ih ⊢
  rw[gJ,iR,ih,aL]
  show gE ns _ o=_
  unfold gE
  congr 1
  show[_]=[if o∈ns.map some then o else none]
  by_cases c:o∈ns.map some
  ·have hm:¬o∈r.reverse.map λo=>if o∈ns.map some then o else none:=λm=>by
    obtain⟨o',mo,e⟩:=cQ.mp m
    obtain⟨y,_,rfl⟩:=cQ.mp c
    split at e
    ·subst e
     have m1:y∈r.reverse.filterMap id:=kj.mpr ⟨some y,mo,rfl⟩
     exact(dy.mp nd).2.2 y m1 y (by simp) rfl
    ·cases e
   rw[if_pos c,if_pos ⟨c,hm⟩]
  ·rw[if_neg c,if_neg λz=>c z.1]
theorem Jx{ps:List Str}(n:Nat)(nd:ps.Nodup):((En ps n).filterMap id).Nodup:=by
 have h1:((ps.reverse.map some++aH n (none:Option Str)).filterMap id)=ps.reverse:=by
  rw[List.filterMap_append]
  have e2:(aH n (none:Option Str)).filterMap id=[]:=by
   rw[List.filterMap_eq_nil_iff];intro a ha;rw[(dM.mp ha).2];rfl
  rw[e2,ir,List.filterMap_map]
  show ps.reverse.filterMap some=_
  rw[List.filterMap_some]
 have h2:((En ps n).filterMap id).Sublist ps.reverse:=by
  rw[<-h1]
  exact(gK _ _).filterMap id
 exact((List.reverse_perm ps).nodup_iff.mpr nd).sublist h2
theorem DM(ps ws:List Str)(n:Nat)(nd:ps.Nodup):BX (En ps n) ws=Du ps ws n:=by
 rw[Gf ws _ (Jx n nd)]
 unfold En Du
 rw[dw,aL,cP,ki]
 congr 2
 ·refine fS λy _=>?_
  show(if some y∈ws.map some then some y else none)=if y∈ws then some y else none
  have:some y∈ws.map some↔y∈ws:=by simp
  by_cases c:y∈ws
  ·rw[if_pos c,if_pos (this.mpr c)]
  ·rw[if_neg c,if_neg λz=>c (this.mp z)]
 ·rw[if_neg (by simp)]
theorem vc{K:Fg}(T:qJ K){vs:List V}{H:Hp}{Q:VK}{E:XK}(h:e9 K vs H Q E):oA K {nx:=λ_ H'=>Q .non H',rt:=Q} (di lz vs) H:=by
 obtain⟨o,pl,rs,ps,ws,rfl,O,W,pnd,p100,l1,l100,q⟩:=h
 obtain⟨dx,pa,rt,wd,ld,hd,F,ho,hpa,R,WD,hld,fm⟩:=id O
 have g:=let⟨_,_,_,g⟩:=R;g
 refine⟨_,rfl,_,rfl,o,_,dx,_,_,rfl,ho,T.cl,T.n1,rfl,pl,pa,.non,ps.map V.str,rfl,.inr hpa,l1,by lia,λp H1 hp s1=>?_⟩
 rw[CF] at hp
 obtain⟨t,dg,ht⟩:=q9 (WD.same s1) (D1 g (.inl rfl)) W
 refine⟨_,rfl,o,_,dx,_,_,rfl,s1 _ _ ho,T.cl,T.n3,rfl,_,rfl,o,_,dx,_,_,rfl,s1 _ _ ho,T.cl,T.n4,rfl,wd,_,rfl,dg,p,t,En ps pl,ws,rfl,hp,ht,by rw[Bv];lia,λp2 H2 hp2 s2=>?_⟩
 rw[DM ps ws pl pnd] at hp2
 exact q (.ref p2) H2 ⟨p2,rfl,hp2⟩ (s1.trans s2)
theorem zP{H:Hp}{wd:Addr}{rs:List aZ}{n:Nat}(h:GP H wd rs)(st:cV rs n):∃ws,Ws rs n ws:=by
 obtain⟨ns,ts,wss,ss,a,b,c,d,e,f⟩:=h
 obtain⟨j,hj⟩:=List.getElem?_of_mem ((c n).mpr st)
 obtain⟨w,ew⟩:∃w,wss[j]?=some w:=⟨_,aa (by rw[f.len];exact(af.mp hj).1)⟩
 obtain⟨g1,g2⟩:=f.at_ j n w hj ew
 exact⟨w,(qV f.srt).sublist g1,f.nd.sublist g1,g2⟩
theorem xO{rs:List aZ}{zs:List Str}(g:cB rs)(R:Lp rs zs){n:Nat}{ws:List Str}(st:cV rs n)(W:Ws rs n ws):ws.length<=6:=by
 refine bx (JY W.nd λy hy=>?_) R.z64
 obtain⟨x,_,r,hr,hy'⟩:=zQ g ((W.mem y).mp hy) st
 exact R.zin r (az hr) y hy'
theorem rf{rs:List aZ}{n:Nat}{ws:List Str}(W:Ws rs n ws):wsF rs n=ws:=by
 unfold wsF
 have h:∃ws,Ws rs n ws:=⟨_,W⟩
 rw[dif_pos h]
 have W':=Classical.choose_spec h
 exact xq W'.srt W.srt W'.nd W.nd λx=>by rw[W'.mem,W.mem]
theorem Gj{rs:List aZ}(g:cB rs){ns:List Nat}(hm:∀m,m∈ns↔cV rs m)(hp:ns.Pairwise (·<·)):stL rs=ns:=by
 classical
 unfold stL
 refine yE (List.Pairwise.filter _ List.pairwise_lt_range) hp λx=>?_
 rw[eg,ko,hm]
 constructor
 ·exact λh=>of_decide_eq_true h.2
 ·exact λh=>⟨eI g h,decide_eq_true h⟩
theorem AA{ps ws:List Str}{p q:Nat}(h:p<=q):pR ps ws p=[]->pR ps ws q=[]:=by
 intro e
 unfold pR at e ⊢
 rw[List.filter_eq_nil_iff] at e ⊢
 intro y hy
 have:=e y hy
 have h1:y∈ps.reverse.take p:=by simpa using this
 have h2:y∈ps.reverse.take q:=by
  have:(ps.reverse.take p).Sublist (ps.reverse.take q):=by
   rw[show p=min p q by lia,<-List.take_take]
   exact gK _ _
  exact this.subset h1
 simpa using h2
theorem wq{rs:List aZ}{ps:List Str}{p q n:Nat}(h:p<=q)(e:whyO rs ps p n=none):whyO rs ps q n=none:=by
 unfold whyO at e ⊢
 have l0:lostF rs ps p n=[]->lostF rs ps q n=[]:=by
  unfold lostF
  split
  ·exact AA h
  ·exact id
 by_cases c1:lostF rs ps p n≠[]
 ·rw[if_pos c1] at e;cases e
 rw[if_neg c1] at e
 have c1':=Classical.not_not.mp c1
 rw[if_neg (Classical.not_not.mpr (l0 c1'))]
 by_cases c2:Ld rs n/\p<=(wsF rs n).length
 ·rw[if_pos c2] at e;cases e
 rw[if_neg c2] at e
 rw[if_neg λz=>c2 ⟨z.1,by have:=z.2;lia⟩]
 by_cases c3:p<(wsF rs n).length
 ·rw[if_pos c3] at e;cases e
 rw[if_neg c3] at e
 rw[if_neg (by lia)]
 by_cases c4:p<=(leftL rs n).length
 ·rw[if_pos c4] at e;cases e
 rw[if_neg (by lia)]
theorem lM{α:Type}{f g:Nat->Option α}(h:∀n,f n=none->g n=none):∀(l:List Nat),l.Pairwise (·<·)->∀{m:Nat} {y:α},lL g l=some (m,y)->∃n x,lL f l=some (n,x)/\n<=m/\n∈l/\m∈l
 |[],_,_,_,e=>by cases e
 |a::r,pw,m,y,e=>by
  have pw':=du.mp pw
  unfold lL at e ⊢
  cases hf:f a with
  |some x=>
   refine⟨a,x,rfl,?_,aP,?_⟩
   ·cases hg:g a with
    |some z=>rw[hg] at e;cases e;exact aB _
    |none=>
     rw[hg] at e
     obtain⟨_,_,_,_,_,z⟩:=lM h r pw'.2 e
     exact dW (pw'.1 m z)
   ·cases hg:g a with
    |some z=>rw[hg] at e;cases e;exact aP
    |none=>
     rw[hg] at e
     obtain⟨_,_,_,_,_,z⟩:=lM h r pw'.2 e
     exact bu _ z
  |none=>
   rw[h a hf] at e
   obtain⟨n,x,e1,e2,e3,e4⟩:=lM h r pw'.2 e
   exact⟨n,x,e1,e2,bu _ e3,bu _ e4⟩
theorem Gk(rs:List aZ):(stL rs).Pairwise (·<·):=by
 unfold stL
 exact List.Pairwise.filter _ List.pairwise_lt_range
theorem vX(pl:Nat):∀(bs:List ic) (k:Nat) {a:Nat} {x:Nat×Str×List Str},shFrom pl k bs=some (a,x)->k<=a
 |[],_,_,_,e=>by cases e
 |b::r,k,a,x,e=>by
  unfold shFrom at e
  split at e
  ·cases e;exact aB _
  ·have:=vX pl r (k+1) e;lia
theorem rK{p q:Nat}(h:p<=q):∀(bs:List ic) (k:Nat) {a m:Nat} {y:Str×List Str},shFrom q k bs=some (a,m,y)->∃c n x,shFrom p k bs=some (c,n,x)/\(c<a\/(c=a/\n<=m))
 |[],_,_,_,_,e=>by cases e
 |b::r,k,a,m,y,e=>by
  unfold shFrom at e ⊢
  cases hf:lL (whyO b.rows b.params p) (stL b.rows) with
  |some x=>
   obtain⟨n,x⟩:=x
   refine⟨k,n,x,rfl,?_⟩
   cases hg:lL (whyO b.rows b.params q) (stL b.rows) with
   |some z=>
    rw[hg] at e
    cases e
    obtain⟨n',x',e1,e2,_⟩:=lM (λn=>wq h) _ (Gk _) hg
    rw[hf] at e1;cases e1
    exact .inr ⟨rfl,e2⟩
   |none=>
    rw[hg] at e
    have:=vX q r (k+1) e
    exact .inl (by lia)
  |none=>
   cases hg:lL (whyO b.rows b.params q) (stL b.rows) with
   |some z=>
    obtain⟨n',x',e1,e2,_⟩:=lM (λn=>wq h) _ (Gk _) (show lL (whyO b.rows b.params q) (stL b.rows)=some (z.1,z.2) from hg)
    rw[hf] at e1;cases e1
   |none=>
    rw[hg] at e
    exact rK h r (k+1) e
theorem mn{ps:List Str}{rs:List aZ}{kss:List (List Str)}(g:cB rs)(len:kss.length=rs.length)(K:Bq ps rs kss){y:Str}:∀(k m:Nat),m<rs.length->(∃ks,kss[runJ rs k m]?=some ks/\y∈ks)->∃ks,kss[m]?=some ks/\y∈ks
 |0,_,_,h=>h
 |k+1,m,hm,h=>by
  have h':∃ks,kss[runJ rs k (stp rs m)]?=some ks/\y∈ks:=h
  cases er:rs[m]? with
  |none=>rw[List.getElem?_eq_none_iff] at er;lia
  |some r=>
   cases r with
   |jump to=>
    have es:stp rs m=to:=by unfold stp;rw[er]
    rw[es] at h'
    have tol:to<rs.length:=g.inr m to _ er (by simp[cc])
    obtain⟨km,e1,e2⟩:=mn g len K k to tol h'
    obtain⟨ks,e3⟩:∃ks,kss[m]?=some ks:=⟨_,aa (by rw[len];exact hm)⟩
    rcases K.on m to _ ks km er (by simp[cc]) e3 e1 y e2 with z|z
    ·exact⟨ks,e3,z⟩
    ·cases z
   |_=>
    have es:stp rs m=m:=by unfold stp;rw[er]
    rw[es] at h'
    exact mn g len K k m hm h'
theorem Di{ps:List Str}{rs:List aZ}{kss:List (List Str)}(g:cB rs)(len:kss.length=rs.length)(K:Bq ps rs kss)(hr:∀(n:Nat) r ks,rs[n]?=some r->kss[n]?=some ks->∀y∈d8 r,y∈ks){y:Str}{n:Nat}(h:zX rs y n):∃ks,kss[n]?=some ks/\y∈ks:=by
 have at_:∀{n:Nat} {r:aZ},rs[n]?=some r->∃ks,kss[n]?=some ks:=λe=>⟨_,aa (by rw[len];exact(af.mp e).1)⟩
 induction h with
 |here e h=>
  obtain⟨ks,ek⟩:=at_ e
  exact⟨ks,ek,hr _ _ _ e ek _ h⟩
 |on e hs he h ih=>
  obtain⟨ks,ek⟩:=at_ e
  obtain⟨r',m,er,hm,rfl⟩:=he
  rw[e] at er;cases er
  have ml:=g.inr _ _ _ e hm
  obtain⟨km,e1,e2⟩:=mn g len K _ m ml ih
  rcases K.on _ m _ ks km e hm ek e1 y e2 with z|z
  ·exact⟨ks,ek,z⟩
  ·exact absurd z hs
theorem D5{ys:List Str}{cs:List Nat}{b:ic}(po:oR ys cs b){y:Str}(h:zX b.rows y (Sd b.rows 0)):y∈b.params:=by
 obtain⟨kss,len,K,hr⟩:=po.known
 have g:=po.good
 obtain⟨ks,e1,e2⟩:=Di g len K hr h
 obtain⟨k0,e3,e4⟩:=mn g len K _ 0 g.pos ⟨ks,e1,e2⟩
 exact K.zero k0 e3 y e4
theorem yN{ps ws:List Str}{pl:Nat}{y:Str}(hy:y∈ws):some y∈Du ps ws pl↔y∈ps.reverse.take pl:=by
 unfold Du
 rw[List.take_append,aE]
 constructor
 ·rintro(h|h)
  ·rw[<-dw] at h
   obtain⟨z,hz,e⟩:=cQ.mp h
   split at e
   ·cases e;exact hz
   ·cases e
  ·have:=dZ h
   rw[dM] at this
   cases this.2
 ·intro h
  left
  rw[<-dw]
  exact cQ.mpr ⟨y,h,by rw[if_pos hy]⟩
theorem Bl{ys:List Str}{cs:List Nat}{bs:List ic}(ok:qI ys cs bs){b:ic}(hb:b∈bs):Lp b.rows ys:=by
 have po:=ok.part b hb
 refine⟨λr' hr'=>?_,ok.y6,λr' hr' y hy=>?_⟩
 ·have ro':=po.rows r' hr'
  cases r' with
  |call x k as=>exact bx (ok.c4 _ (az ro'.2.1)) (by decide)
  |_=>simp[d8]
 ·have ro':=po.rows r' hr'
  cases r' with
  |num x z=>cases hy
  |jump t=>cases hy
  |op x s a c=>
   rcases aN.mp hy with e|e
   ·rw[e];exact ro'.2.2.1
   ·rw[ai.mp e];exact ro'.2.2.2
  |call x k as=>exact ro'.2.2 y hy
  |say a=>rw[ai.mp hy];exact ro'
  |test a t=>rw[ai.mp hy];exact ro'.1
  |give a=>rw[ai.mp hy];exact ro'
theorem Fy{ys:List Str}{cs:List Nat}{bs:List ic}(ok:qI ys cs bs){b:ic}(hb:b∈bs){pl:Nat}(l1:1<=pl)(l2:pl<=100):Mc b.rows b.params ys pl:=by
 have po:=ok.part b hb
 have p4:b.params.length<=4:=ok.c4 _ (by rw[<-ok.cnt];exact cQ.mpr ⟨b,hb,rfl⟩)
 exact⟨Bl ok hb,po.pnd,by lia,l1,l2,λy h=>D5 po h⟩
theorem sR(f:Str->Bool){ss:List Str}{i:Nat}{y:Str}(hy:ss[i]?=some y):(ss.take (i+1)).filter f=(ss.take i).filter f++if f y=true then[y] else[]:=by
 rw[cL,hy,kh]
 congr 1
 show[y].filter f=_
 rw[List.filter_cons]
 split<;>simp_all
theorem pN(f:Str->Bool)(ss:List Str)(i:Nat):((ss.take i).filter f).length<=ss.length:=bx (cD _ _) (by rw[bg];exact jb _ _)
theorem pK(y x:Str):decide (V.str y=V.str x)=decide (y=x):=by
 by_cases e:y=x
 ·subst e;simp
 ·have:V.str y≠V.str x:=λh=>e (by injection h)
  simp[e]
theorem Ly{K:Fg}{neg:Bool}{H:Hp}{p:Addr}{y:Str}{ls:List Str}{Q:VK}(hp:cq K H p (ls.map V.str)\/dC K H p (ls.map V.str))(h:Q (.bl (if neg then !decide (y∈ls) else decide (y∈ls))) H):xQ K neg (.str y) (.ref p) H Q:=by
 refine⟨p,_,rfl,hp,rfl,qM ls,?_⟩
 rw[tS]
 exact h
theorem JG(os:List (Option Str)):(oX os).all ip=true:=by
 unfold oX
 rw[List.all_map,dI]
 intro o _
 cases o<;>rfl
theorem yU{K:Fg}{vs:List V}{H:Hp}{Q:VK}{E:XK}(h:gx K vs H Q E):rX K {nx:=λ_ H'=>Q .non H',rt:=Q} (di kS vs) H:=by
 obtain⟨t,x,ss,rfl,ht,hl,q⟩:=h
 refine .inr ⟨_,rfl,t,rfl,⟨_,dC.of ht⟩,λD nD=>?_⟩
 refine pJ (xs:=ss.map V.str) (λi σ' H'=>∃o,σ'=[some (.ref t),some (.str x),o]/\H' D=some (.lst (((ss.take i).filter λy=>!decide (y=x)).map V.str))/\aT H H') ?_ ?_ ?_ ?_
 ·exact⟨none,rfl,ag,(aT.refl H).new nD⟩
 ·rintro i σ' H' _ ⟨o,_,_,s⟩
  exact dC.of (s _ _ ht)
 ·rintro i v σ' H1 hx ⟨o,rfl,hD,s⟩
  obtain⟨y,hy,rfl⟩:=mG hx
  have fl:=pN (λy=>!decide (y=x)) ss i
  refine⟨_,rfl,_,rfl,.inl ⟨rfl,_,rfl,?_⟩⟩
  have tk:=sR (λy=>!decide (y=x)) hy
  show if(!decide (V.str y=V.str x))=true then _ else _
  rw[pK]
  refine fR (λhs=>?_) (λhs=>?_)
  ·refine⟨_,rfl,_,hD,cF (by rw[ae];lia),_,rfl,?_,λb u e=>by rw[ax (ak e nD)];exact s b u e⟩
   rw[ag,tk,decide_eq_false hs,aL];rfl
  ·refine⟨_,rfl,?_,s⟩
   rw[tk,decide_eq_true hs]
   simpa using hD
 ·rintro σ' H1 ⟨o,_,hD,s⟩
  rw[ae,bH] at hD
  exact⟨D,_,rfl,.inl ⟨cq.of hD,λp np=>q p _ ag (s.new np)⟩⟩
theorem yT{K:Fg}(T:qJ K){vs:List V}{H:Hp}{Q:VK}{E:XK}(h:gw K vs H Q E):rR K {nx:=λ_ H'=>Q .non H',rt:=Q} (di kR vs) H:=by
 obtain⟨o,n,pl,rs,ps,zs,rfl,O,P,st,q⟩:=h
 obtain⟨dx,pa,rt,wd,ld,hd,F,ho,hpa,R,WD,hld,fm⟩:=id O
 have g:=let⟨_,_,_,g⟩:=R;g
 refine⟨_,rfl,_,rfl,o,_,dx,_,_,rfl,ho,T.cl,T.n4,rfl,.inl ⟨rfl,_,rfl,fR (λc=>?_) (λc=>?_)⟩⟩
 ·have en:n≠Sd rs 0:=λz=>c (by rw[z])
  refine⟨(by show 0<=sizeLine;decide),λp np=>q p _ ?_ ((aT.refl H).new np)⟩
  unfold lostF
  rw[if_neg en,ag];rfl
 ·have en:n=Sd rs 0:=by injection c with c;lia
  subst en
  obtain⟨ws,W⟩:=zP WD st
  have w6:=xO g P.rw_ st W
  have elost:lostF rs ps pl (Sd rs 0)=pR ps ws pl:=by unfold lostF;rw[if_pos rfl,rf W]
  rw[elost] at q
  refine⟨_,rfl,_,rfl,o,pl,rs,ps,ws,rfl,O,W,P.pnd,P.p100,P.l1,P.l100,λv H1 TA s1=>?_⟩
  obtain⟨p,rfl,hp⟩:=TA
  show oB K _ [some (.ref o),some (.int (Sd rs 0:Nat)),some (.int (pl:Nat)),some (.ref p)] H1
  obtain⟨t,dg,ht⟩:=q9 (WD.same s1) st W
  refine .inr ⟨_,rfl,o,_,dx,_,_,rfl,s1 _ _ ho,T.cl,T.n3,rfl,_,rfl,wd,_,rfl,dg,t,rfl,⟨_,dC.of ht⟩,λD nD=>?_⟩
  refine pJ (xs:=ws.map V.str) (λi σ' H'=>∃o4,σ'=[some (.ref o),some (.int (Sd rs 0:Nat)),some (.int (pl:Nat)),some (.ref p),o4]/\H' D=some (.lst (((ws.take i).filter λy=>!decide (y∈ps.reverse.take pl)).map V.str))/\aT H1 H') ?_ ?_ ?_ ?_
  ·exact⟨none,rfl,ag,(aT.refl H1).new nD⟩
  ·rintro i σ' H' _ ⟨_,_,_,s⟩
   exact dC.of (s _ _ ht)
  ·rintro i v σ' H2 hx ⟨o4,rfl,hD,s2⟩
   obtain⟨y,hy,rfl⟩:=mG hx
   have yw:y∈ws:=az hy
   have yp:y∈ps:=P.wp y ((W.mem y).mp yw)
   have fl:=pN (λy=>!decide (y∈ps.reverse.take pl)) ws i
   have tk:=sR (λy=>!decide (y∈ps.reverse.take pl)) hy
   have S2:=s1.trans s2
   refine⟨_,rfl,_,rfl,o,_,dx,_,_,rfl,S2 _ _ ho,T.cl,T.n1,rfl,Ly (.inr (dC.of (S2 _ _ hpa))) ⟨_,rfl,?_⟩⟩
   refine cA (λ_=>?_) (λz=>absurd yp z)
   refine⟨_,rfl,_,rfl,p,_,rfl,.inr (dC.of (s2 _ _ hp)),rfl,JG _,?_⟩
   have e1:m6 (.str y) (oX (Du ps ws pl))=decide (y∈ps.reverse.take pl):=by
    rw[show V.str y=oV (some y) from rfl,ES]
    by_cases c:y∈ps.reverse.take pl
    ·rw[decide_eq_true c,decide_eq_true ((yN yw).mpr c)]
    ·rw[decide_eq_false c,decide_eq_false λz=>c ((yN yw).mp z)]
   rw[e1]
   refine⟨_,rfl,fR (λhs=>?_) (λhs=>?_)⟩
   ·refine⟨_,rfl,_,hD,cF (by rw[ae];lia),_,rfl,?_,λb u e=>by rw[ax (ak e nD)];exact s2 b u e⟩
    rw[ag,tk,decide_eq_false hs,aL];rfl
   ·refine⟨_,rfl,?_,s2⟩
    rw[tk,decide_eq_true hs]
    simpa using hD
  ·rintro σ' H2 ⟨o4,_,hD,s2⟩
   rw[ae,bH] at hD
   exact⟨D,_,rfl,.inl ⟨cq.of hD,λp np=>q p _ ag ((s1.trans s2).new np)⟩⟩
theorem DN{r:aZ}:gv r=(match uw r with|some x=>.str x|none=>.non):=by cases r<;>rfl
theorem og{r:aZ}{x:Str}(h:uw r=some x):zU r=true:=by cases r<;>first|rfl|(cases h)
theorem ub{rs:List aZ}(g:cB rs){n:Nat}{r:aZ}(st:cV rs n)(er:rs[n]?=some r)(hf:zU r=true):cV rs (Sd rs (n+1)):=qg g (.step st.1 er (λy z=>by cases z) (kB hf))
theorem sE{K:Fg}(T:qJ K){vs:List V}{H:Hp}{Q:VK}{E:XK}(h:dR K vs H Q E):mT K {nx:=λ_ H'=>Q .non H',rt:=Q} (di jO vs) H:=by
 obtain⟨o,n,rs,ps,zs,rfl,O,RW,st,q⟩:=h
 obtain⟨dx,pa,rt,wd,ld,hd,F,ho,hpa,R,WD,hld,fm⟩:=id O
 obtain⟨rvs,hrt,hA,g⟩:=id R
 have nlt:=eI g st
 obtain⟨v,r,ev,er,ra⟩:=hA.get nlt
 have ev':rvs[((n:Nat):Int).toNat]?=some v:=by simpa using ev
 refine⟨_,rfl,o,_,dx,_,_,rfl,ho,T.cl,T.n2,rfl,_,rfl,dE hrt (by lia) ev' ⟨v,r,rfl,ra,λH1 s1=>?_⟩⟩
 show lu K _ [some (.ref o),some (.int (n:Nat)),some (gv r)] H1
 rw[DN]
 cases hs:uw r with
 |none=>
  refine⟨_,rfl,rfl,_,rfl,?_⟩
  show if decide (V.non=V.non)=true then _ else _
  refine cA (λ_=>?_) (λz=>absurd rfl z)
  refine⟨(by show 0<=sizeLine;decide),λp np=>q p _ ?_ (s1.new np)⟩
  have:leftL rs n=[]:=by unfold leftL;rw[er];show(match uw r with|some x=>restL rs n x|none=>[])=[];rw[hs]
  rw[this,ag];rfl
 |some x=>
  refine⟨_,rfl,rfl,_,rfl,?_⟩
  show if decide (V.str x=V.non)=true then _ else _
  refine cA (λz=>by cases z) (λ_=>?_)
  have st2:=ub g st er (og hs)
  have n1:n+1<rs.length:=g.inr n (n+1) r er (kB (og hs))
  obtain⟨ws,W⟩:=zP WD st2
  have w6:=xO g RW st2 W
  obtain⟨t,dg,ht⟩:=q9 (WD.same s1) st2 W
  have:leftL rs n=ws.filter λy=>!decide (y=x):=by
   unfold leftL;rw[er];show(match uw r with|some x=>restL rs n x|none=>[])=_;rw[hs]
   show restL rs n x=_
   unfold restL
   rw[rf W]
  rw[this] at q
  refine⟨_,rfl,o,_,dx,_,_,rfl,s1 _ _ ho,T.cl,T.n3,rfl,_,rfl,o,_,dx,_,_,rfl,s1 _ _ ho,T.cl,T.n2,rfl,_,rfl,.inl ⟨_,_,rfl,rfl,rt,n+1,rvs,rs,rfl,s1 _ _ hrt,hA.imp λ_ _ z=>z.mono (.of_same s1),g,n1,wd,_,rfl,dg,_,rfl,t,x,ws,rfl,ht,by lia,λp H2 hp s2=>q p H2 hp (s1.trans s2)⟩⟩
theorem vd{K:Fg}(T:qJ K){vs:List V}{H:Hp}{Q:VK}{E:XK}(h:fc K vs H Q E):oC K {nx:=λ_ H'=>Q .non H',rt:=Q} (di lA vs) H:=by
 obtain⟨o,n,pl,rs,ps,zs,rfl,O,P,st,q⟩:=h
 obtain⟨dx,pa,rt,wd,ld,hd,F,ho,hpa,R,WD,hld,fm⟩:=id O
 have g:=let⟨_,_,_,g⟩:=R;g
 obtain⟨ws,W⟩:=zP WD st
 obtain⟨t,dg,ht⟩:=q9 WD st W
 have ew:=rf W
 refine⟨_,rfl,o,_,dx,_,_,rfl,ho,T.cl,T.n3,rfl,_,rfl,wd,_,rfl,dg,?_⟩
 show mZ K _ [some (.ref o),some (.int (n:Nat)),some (.int (pl:Nat)),some (.ref t),none,none] H
 refine⟨_,rfl,_,rfl,_,rfl,o,n,pl,rs,ps,zs,rfl,O,P,st,λlp H1 hlp s1=>?_⟩
 show mY K _ [some (.ref o),some (.int (n:Nat)),some (.int (pl:Nat)),some (.ref t),some (.ref lp),none] H1
 have l1:=P.l1
 unfold whyO at q
 rw[ew] at q
 refine⟨_,rfl,_,_,rfl,.inr ⟨_,dC.of hlp,rfl⟩,_,_,rfl,rfl,_,rfl,cA (λc=>?_) (λc=>?_)⟩
 ·have ne:lostF rs ps pl n≠[]:=λz=>by rw[z] at c;simp at c
  rw[if_pos ne] at q
  refine⟨_,rfl,(by show 2<=sizeLine;decide),λp np=>q _ _ ⟨p,lp,rfl,ag,?_⟩ (s1.new np)⟩
  rw[ax (ak hlp np)];exact hlp
 have el:lostF rs ps pl n=[]:=by
  cases hh:lostF rs ps pl n with
  |nil=>rfl
  |cons a r=>rw[hh] at c;exact absurd (by show(0:Int)<(((a::r).map V.str).length:Nat);rw[ae,bG];lia) c
 rw[if_neg (λz=>z el)] at q
 show mX K _ [some (.ref o),some (.int (n:Nat)),some (.int (pl:Nat)),some (.ref t),some (.ref lp),none] H1
 refine⟨_,rfl,_,rfl,o,_,dx,_,_,rfl,s1 _ _ ho,T.cl,T.n5,rfl,ld,_,rfl,ng.k (k:=nk n) (s1 _ _ hld),_,rfl,?_⟩
 have hv:(gM (dz F) (nk n)).isSome=decide (n∈F):=GK F n
 show if((gM (dz F) (nk n)).isSome)=true then _ else _
 rw[hv]
 have ht1:=s1 _ _ ht
 have rest:¬(Ld rs n/\pl<=ws.length)->mW K {nx:=λ_ H'=>Q .non H',rt:=Q} [some (.ref o),some (.int (n:Nat)),some (.int (pl:Nat)),some (.ref t),some (.ref lp),none] H1:=λnl=>by
  rw[if_neg nl] at q
  refine⟨_,rfl,_,_,rfl,.inr ⟨_,dC.of ht1,rfl⟩,_,rfl,_,_,rfl,rfl,_,rfl,cA (λc=>?_) (λc=>?_)⟩
  ·have c':pl<ws.length:=by rw[ae] at c;lia
   rw[if_pos c'] at q
   refine⟨_,rfl,(by show 2<=sizeLine;decide),λp np=>q _ _ ⟨p,t,rfl,ag,?_⟩ (s1.new np)⟩
   rw[ax (ak ht1 np)];exact ht1
  ·have c':¬pl<ws.length:=by rw[ae] at c;lia
   rw[if_neg c'] at q
   show mV K _ [some (.ref o),some (.int (n:Nat)),some (.int (pl:Nat)),some (.ref t),some (.ref lp),none] H1
   refine⟨_,rfl,_,rfl,o,n,rs,ps,zs,rfl,O.same s1,P.rw_,st,λl2 H2 hl2 s2=>?_⟩
   show mU K _ [some (.ref o),some (.int (n:Nat)),some (.int (pl:Nat)),some (.ref t),some (.ref lp),some (.ref l2)] H2
   refine⟨_,rfl,_,_,rfl,.inr ⟨_,dC.of hl2,rfl⟩,_,rfl,_,_,rfl,rfl,_,_,rfl,rfl,_,rfl,cA (λc=>?_) (λc=>?_)⟩
   ·have c':pl<=(leftL rs n).length:=by rw[ae] at c;lia
    rw[if_pos c'] at q
    refine⟨_,rfl,(by show 2<=sizeLine;decide),λp np=>q _ _ ⟨p,l2,rfl,ag,?_⟩ ((s1.trans s2).new np)⟩
    rw[ax (ak hl2 np)];exact hl2
   ·have c':¬pl<=(leftL rs n).length:=by rw[ae] at c;lia
    rw[if_neg c'] at q
    exact q _ _ rfl (s1.trans s2)
 refine cA (λc=>?_) (λc=>?_)
 ·refine⟨_,rfl,_,_,rfl,.inr ⟨_,dC.of ht1,rfl⟩,_,rfl,_,_,rfl,rfl,_,rfl,cA (λc2=>?_) (λc2=>?_)⟩
  ·have c':pl<=ws.length:=by rw[ae] at c2;lia
   rw[if_pos ⟨(fm n).mp c,c'⟩] at q
   refine⟨_,rfl,(by show 2<=sizeLine;decide),λp np=>q _ _ ⟨p,t,rfl,ag,?_⟩ (s1.new np)⟩
   rw[ax (ak ht1 np)];exact ht1
  ·exact rest λz=>c2 (by have:=z.2;rw[ae];lia)
 ·exact j5 (rest λz=>c ((fm n).mpr z.1))
theorem ER(n:Nat)(ls:List Nat):m6 (.int (n:Nat)) (aU ls)=decide (n∈ls):=by
 unfold m6 aU
 rw[pq,Bool.eq_iff_iff,gU,decide_eq_true_eq]
 constructor
 ·rintro⟨m,hm,e⟩
  have e':sO (V.int (m:Nat)) (V.int (n:Nat))=true:=e
  have:(m:Int)=(n:Int):=by simpa[sO] using e'
  have:m=n:=by lia
  rw[<-this];exact hm
 ·intro h
  exact⟨n,h,by show sO (V.int (n:Nat)) (V.int (n:Nat))=true;simp[sO]⟩
theorem Mu{K:Fg}{H:Hp}{p:Addr}{n:Nat}{ls:List Nat}{Q:VK}(hp:H p=some (.lst (aU ls)))(h:Q (.bl (decide (n∈ls))) H):xQ K false (.int (n:Nat)) (.ref p) H Q:=by
 refine⟨p,_,rfl,.inl (cq.of hp),rfl,?_,?_⟩
 ·unfold aU
  rw[List.all_map,dI]
  intro m _;rfl
 ·rw[ER];exact h
theorem mx{K:Fg}{σ:St}{H:Hp}{D:nh}{k:Nat}{w:Str}{l:Addr}{ss:List Str}(hσ:σ[k]?=some (some (.ref l)))(hl:H l=some (.lst (ss.map V.str)))(sp:ss.Pairwise zR)(nd:ss.Nodup)(few:ss.length<64)(q:∀v H',Ml H' v (some (w,ss))->aT H H'->D.rt v H') :
  cR (eM (aj (tC (.str w)) (aj (gI (e7 K) (aj (gI (nZ K) (aj (ar k) aM)) aM)) aM))) D σ H:=by
 refine⟨_,hσ,l,ss,rfl,cq.of hl,few,λl1 ss' n1 perm srt=>⟨l1,_,rfl,.inl ⟨cq.of ag,λt nt=>⟨(by show 2<=sizeLine;decide),λp np=>?_⟩⟩⟩⟩
 have es:ss'=ss:=xq (qV srt) sp (perm.nodup_iff.mpr nd) nd λx=>perm.mem_iff
 subst es
 refine q _ _ ⟨p,t,rfl,ag,?_⟩ (((aT.refl H).new n1).new nt |>.new np)
 rw[ax (ak ag np),ag]
theorem IK{H:Hp}{v:V}{r:aZ}(h:dD H v r):∃p w xs,v=.ref p/\H p=some (.tup (.str w::xs))/\(m6 (.str w) [.str "num",.str "op",.str "call"]=(uw r).isSome)/\∀x,uw r=some x->xs[0]?=some (.str x):=by
 cases r with
 |num x z=>obtain⟨p,rfl,h⟩:=h;exact⟨p,"num",_,rfl,h,(by show m6 _ _=true;decide +kernel),λy e=>by cases e;rfl⟩
 |op x s a b=>obtain⟨p,rfl,h⟩:=h;exact⟨p,"op",_,rfl,h,(by show m6 _ _=true;decide +kernel),λy e=>by cases e;rfl⟩
 |call x k as=>obtain⟨p,q,rfl,h,_⟩:=h;exact⟨p,"call",_,rfl,h,(by show m6 _ _=true;decide +kernel),λy e=>by cases e;rfl⟩
 |say a=>obtain⟨p,rfl,h⟩:=h;exact⟨p,"say",_,rfl,h,(by show m6 _ _=false;decide +kernel),λy e=>by cases e⟩
 |jump to=>obtain⟨p,rfl,h⟩:=h;exact⟨p,"jump",_,rfl,h,(by show m6 _ _=false;decide +kernel),λy e=>by cases e⟩
 |test a to=>obtain⟨p,rfl,h⟩:=h;exact⟨p,"test",_,rfl,h,(by show m6 _ _=false;decide +kernel),λy e=>by cases e⟩
 |give a=>obtain⟨p,rfl,h⟩:=h;exact⟨p,"give",_,rfl,h,(by show m6 _ _=false;decide +kernel),λy e=>by cases e⟩
theorem L8{K:Fg}{vs:List V}{H:Hp}{Q:VK}{E:XK}(h:oZ K vs H Q E):Jr K {nx:=λ_ H'=>Q .non H',rt:=Q} (di xS vs) H:=by
 obtain⟨pt,rt,wd,ll,n,pl,rs,ps,zs,ls,rfl,⟨wv,pa,hpt,hpa⟩,R,WD,hll,fm,P,st,q⟩:=h
 obtain⟨rvs,hrt,hA,g⟩:=id R
 obtain⟨ws,W⟩:=zP WD st
 have w6:=xO g P.rw_ st W
 have p1:=P.l1
 obtain⟨t,dg,ht⟩:=q9 WD st W
 refine⟨_,rfl,dE hpt (by decide) rfl ?_⟩
 show Cv K _ [some (.ref pt),some (.int (n:Nat)),some (.int (pl:Nat)),some (.ref wd),some (.ref ll),some (.ref rt),none,none,none,none] H
 refine⟨_,rfl,_,rfl,wd,_,rfl,dg,t,_,rfl,.inr (dC.of ht),λl nl=>?_⟩
 have s1:aT H (upd H l (.lst (ws.map V.str))):=(aT.refl H).new nl
 have h1:upd H l (.lst (ws.map V.str)) l=some (.lst (ws.map V.str)):=ag
 show Cu K _ [some (.ref pt),some (.int (n:Nat)),some (.int (pl:Nat)),some (.ref wd),some (.ref ll),some (.ref rt),some (.ref l),none,none,none] _
 generalize upd H l (.lst (ws.map V.str))=H1 at s1 h1 ⊢
 unfold whyO at q
 rw[rf W] at q
 have tail:∀(o7 o8:Option V) (H2:Hp),aT H1 H2->lostF rs ps pl n=[]->Cr K {nx:=λ_ H'=>Q .non H',rt:=Q} [some (.ref pt),some (.int (n:Nat)),some (.int (pl:Nat)),some (.ref wd),some (.ref ll),some (.ref rt),some (.ref l),o7,o8,none] H2:=λo7 o8 H2 s2 el=>by
  have q:=q
  rw[if_neg (λz=>z el)] at q
  have S2:=s1.trans s2
  have h2:=s2 _ _ h1
  have rest:¬(Ld rs n/\pl<=ws.length)->Cq K {nx:=λ_ H'=>Q .non H',rt:=Q} [some (.ref pt),some (.int (n:Nat)),some (.int (pl:Nat)),some (.ref wd),some (.ref ll),some (.ref rt),some (.ref l),o7,o8,none] H2:=λnl=>by
   rw[if_neg nl] at q
   refine⟨_,rfl,_,_,rfl,.inl ⟨_,cq.of h2,rfl⟩,_,rfl,_,_,rfl,rfl,_,rfl,cA (λc=>?_) (λc=>?_)⟩
   ·have c':pl<ws.length:=by rw[ae] at c;lia
    rw[if_pos c'] at q
    exact mx rfl h2 W.srt W.nd (by lia) λv H' a s=>q v H' a (S2.trans s)
   have c':¬pl<ws.length:=by rw[ae] at c;lia
   rw[if_neg c'] at q
   show Cp K _ [some (.ref pt),some (.int (n:Nat)),some (.int (pl:Nat)),some (.ref wd),some (.ref ll),some (.ref rt),some (.ref l),o7,o8,none] H2
   obtain⟨v,r,ev,er,ra⟩:=hA.get (eI g st)
   have ev':rvs[((n:Nat):Int).toNat]?=some v:=by simpa using ev
   obtain⟨p,w,xs,rfl,hp,ein,ex⟩:=IK ra
   refine⟨_,rfl,_,rfl,dE (S2 _ _ hrt) (by lia) ev' (dE (S2 _ _ hp) (by decide) rfl ⟨(by show 3<=sizeLine;decide),λtt ntt=>⟨tt,_,rfl,.inr (dC.of ag),rfl,rfl,_,rfl,?_⟩⟩)⟩
   have s3:aT H2 (upd H2 tt (.tup [.str "num",.str "op",.str "call"])):=(aT.refl H2).new ntt
   show if m6 (.str w) [.str "num",.str "op",.str "call"]=true then _ else _
   rw[ein]
   cases hs:uw r with
   |none=>
    refine j5 ?_
    have el2:leftL rs n=[]:=by unfold leftL;rw[er];show(match uw r with|some x=>restL rs n x|none=>[])=[];rw[hs]
    rw[if_neg (by rw[el2];show ¬pl<=0;lia)] at q
    exact q _ _ rfl (S2.trans s3)
   |some x=>
    refine uY ?_
    have S3:=S2.trans s3
    have st2:=ub g st er (og hs)
    have n1:n+1<rs.length:=g.inr n (n+1) r er (kB (og hs))
    show bB _ _ _ _ (upd H2 tt (.tup [.str "num",.str "op",.str "call"]))
    generalize upd H2 tt (.tup [.str "num",.str "op",.str "call"])=H3 at s3 S3 ⊢
    obtain⟨w2,W2⟩:=zP WD st2
    have w26:=xO g P.rw_ st2 W2
    obtain⟨t2,dg2,ht2⟩:=q9 (WD.same S3) st2 W2
    have el2:leftL rs n=w2.filter λy=>!decide (y=x):=by
     unfold leftL;rw[er];show(match uw r with|some x=>restL rs n x|none=>[])=_;rw[hs]
     show restL rs n x=_
     unfold restL
     rw[rf W2]
    rw[el2] at q
    refine .inr ⟨_,rfl,_,rfl,_,rfl,.inl ⟨_,_,rfl,rfl,rt,n+1,rvs,rs,rfl,S3 _ _ hrt,hA.imp λ_ _ z=>z.mono (.of_same S3),g,n1,wd,_,rfl,dg2,t2,rfl,⟨_,dC.of ht2⟩,λD nD=>?_⟩⟩
    refine pJ (xs:=w2.map V.str) (λi σ' H'=>∃o,σ'=[some (.ref pt),some (.int (n:Nat)),some (.int (pl:Nat)),some (.ref wd),some (.ref ll),some (.ref rt),some (.ref l),o7,o8,none,o]/\H' D=some (.lst (((w2.take i).filter λy=>!decide (y=x)).map V.str))/\aT H3 H') ?_ ?_ ?_ ?_
    ·exact⟨none,rfl,ag,(aT.refl H3).new nD⟩
    ·rintro i σ' H' _ ⟨_,_,_,s⟩
     exact dC.of (s _ _ ht2)
    ·rintro i v σ' H4 hx ⟨o,rfl,hD,s4⟩
     obtain⟨y,hy,rfl⟩:=mG hx
     have fl:=pN (λy=>!decide (y=x)) w2 i
     have tk:=sR (λy=>!decide (y=x)) hy
     have S4:=S3.trans s4
     refine⟨_,rfl,_,rfl,_,rfl,dE (S4 _ _ hrt) (by lia) ev' (dE (v:=.str x) (S4 _ _ hp) (by decide) (ex x hs) (.inr (.inr (.inl ⟨rfl,_,rfl,?_⟩))))⟩
     show if(!decide (V.str y=V.str x))=true then _ else _
     rw[pK]
     refine fR (λhs=>?_) (λhs=>?_)
     ·refine⟨_,rfl,_,hD,cF (by rw[ae];lia),_,rfl,?_,λb u e=>by rw[ax (ak e nD)];exact s4 b u e⟩
      rw[ag,tk,decide_eq_false hs,aL];rfl
     ·refine⟨_,rfl,?_,s4⟩
      rw[tk,decide_eq_true hs]
      simpa using hD
    ·rintro σ' H4 ⟨o,_,hD,s4⟩
     rw[ae,bH] at hD
     show Co K _ [some (.ref pt),some (.int (n:Nat)),some (.int (pl:Nat)),some (.ref wd),some (.ref ll),some (.ref rt),some (.ref l),o7,o8,some (.ref D)] H4
     have S4:=S3.trans s4
     have few:(w2.filter λy=>!decide (y=x)).length<=w2.length:=cD _ _
     refine⟨_,rfl,_,_,rfl,.inl ⟨_,cq.of hD,rfl⟩,_,rfl,_,_,rfl,rfl,_,_,rfl,rfl,_,rfl,cA (λc=>?_) (λc=>?_)⟩
     ·have c':pl<=(w2.filter λy=>!decide (y=x)).length:=by rw[ae] at c;lia
      rw[if_pos c'] at q
      exact mx rfl hD (W2.srt.filter _) (W2.nd.filter _) (by lia) λv H' a s=>q v H' a (S4.trans s)
     ·have c':¬pl<=(w2.filter λy=>!decide (y=x)).length:=by rw[ae] at c;lia
      rw[if_neg c'] at q
      exact q _ _ rfl S4
  refine⟨_,rfl,_,rfl,Mu (S2 _ _ hll) ⟨_,rfl,cA (λc=>?_) (λc=>?_)⟩⟩
  ·refine⟨_,rfl,_,_,rfl,.inl ⟨_,cq.of h2,rfl⟩,_,rfl,_,_,rfl,rfl,_,_,rfl,rfl,_,rfl,cA (λc2=>?_) (λc2=>?_)⟩
   ·have c':pl<=ws.length:=by rw[ae] at c2;lia
    rw[if_pos ⟨(fm n).mp c,c'⟩] at q
    exact mx rfl h2 W.srt W.nd (by lia) λv H' a s=>q v H' a (S2.trans s)
   ·exact rest λz=>c2 (by have:=z.2;rw[ae];lia)
  ·exact j5 (rest λz=>c ((fm n).mpr z.1))
 refine⟨_,rfl,_,rfl,rt,0,rvs,rs,rfl,s1 _ _ hrt,hA.imp λ_ _ z=>z.mono (.of_same s1),g,g.pos,.inr (.inr (.inl ⟨rfl,_,rfl,cA (λc=>?_) (λc=>?_)⟩))⟩
 ·have en:n=Sd rs 0:=by injection c with c;have c':(n:Int)=((Sd rs 0:Nat):Int):=c;lia
  have el:lostF rs ps pl n=pR ps ws pl:=by unfold lostF;rw[if_pos en,rf W]
  refine⟨_,rfl,dE (s1 _ _ hpt) (by decide) rfl ⟨pa,_,rfl,dC.of (s1 _ _ hpa),λl2 n2=>⟨_,rfl,_,rfl,.inl ⟨l2,_,rfl,cq.of ag,λl3 n3=>?_⟩⟩⟩⟩
  have s3:aT H1 (upd (upd H1 l2 (.lst (ps.map V.str).reverse)) l3 (.lst (mh (ps.map V.str).reverse none (some ((pl:Nat):Int))))):=((aT.refl H1).new n2).new n3
  have h3:upd (upd H1 l2 (.lst (ps.map V.str).reverse)) l3 (.lst (mh (ps.map V.str).reverse none (some ((pl:Nat):Int)))) l3=some (.lst ((ps.reverse.take pl).map V.str)):=by rw[ag,jJ,<-List.map_reverse,<-dw]
  show Ct K _ [some (.ref pt),some (.int (n:Nat)),some (.int (pl:Nat)),some (.ref wd),some (.ref ll),some (.ref rt),some (.ref l),some (.ref l3),none,none] _
  generalize upd (upd H1 l2 (.lst (ps.map V.str).reverse)) l3 (.lst (mh (ps.map V.str).reverse none (some ((pl:Nat):Int))))=H3 at s3 h3 ⊢
  refine .inl ⟨_,rfl,l,rfl,⟨_,cq.of (s3 _ _ h1)⟩,λD nD=>iK (xs:=ws.map V.str) (λi σ' H'=>∃o,σ'=[some (.ref pt),some (.int (n:Nat)),some (.int (pl:Nat)),some (.ref wd),some (.ref ll),some (.ref rt),some (.ref l),some (.ref l3),none,none,o]/\H' D=some (.lst (((ws.take i).filter λy=>!decide (y∈ps.reverse.take pl)).map V.str))/\aT H3 H') ?_ ?_ ?_ ?_⟩
  ·exact⟨none,rfl,ag,(aT.refl H3).new nD⟩
  ·rintro i σ' H' _ ⟨_,_,_,s⟩
   exact cq.of (s _ _ (s3 _ _ h1))
  ·rintro i v σ' H4 hx ⟨o,rfl,hD,s4⟩
   obtain⟨y,hy,rfl⟩:=mG hx
   have fl:=pN (λy=>!decide (y∈ps.reverse.take pl)) ws i
   have tk:=sR (λy=>!decide (y∈ps.reverse.take pl)) hy
   refine⟨_,rfl,_,rfl,Ly (.inl (cq.of (s4 _ _ h3))) ⟨_,rfl,fR (λhs=>?_) (λhs=>?_)⟩⟩
   ·refine⟨_,rfl,_,hD,cF (by rw[ae];lia),_,rfl,?_,λb u e=>by rw[ax (ak e nD)];exact s4 b u e⟩
    rw[ag,tk,decide_eq_false hs,aL];rfl
   ·refine⟨_,rfl,?_,s4⟩
    rw[tk,decide_eq_true hs]
    simpa using hD
  ·rintro σ' H4 ⟨o,_,hD,s4⟩
   rw[ae,bH] at hD
   have hD':H4 D=some (.lst ((pR ps ws pl).map V.str)):=hD
   show Cs K _ [some (.ref pt),some (.int (n:Nat)),some (.int (pl:Nat)),some (.ref wd),some (.ref ll),some (.ref rt),some (.ref l),some (.ref l3),some (.ref D),none] H4
   have S4:=s3.trans s4
   refine⟨_,rfl,(by show 0<=sizeLine;decide),λle nle=>?_⟩
   have s5:aT H4 (upd H4 le (.lst [])):=(aT.refl H4).new nle
   have h5:upd H4 le (.lst []) le=some (.lst []):=ag
   generalize upd H4 le (.lst [])=H5 at s5 h5 ⊢
   have few:(pR ps ws pl).length<=ws.length:=cD _ _
   refine .inl ⟨D,le,_,_,rfl,rfl,.inl ⟨cq.of (s5 _ _ hD'),cq.of h5⟩,?_⟩
   by_cases c2:pR ps ws pl=[]
   ·refine .inr ⟨[],by rw[c2];rfl,by rw[c2];rfl,λj a b e _ hb=>(by cases hb),_,rfl,j5 ?_⟩
    exact tail _ _ _ (S4.trans s5) (by rw[el];exact c2)
   ·refine .inl ⟨λz=>c2 (by rw[ae] at z;exact List.eq_nil_of_length_eq_zero z),_,rfl,uY ?_⟩
    rw[if_pos (by rw[el];exact c2),el] at q
    exact mx rfl (s5 _ _ hD') (W.srt.filter _) (W.nd.filter _) (by lia) λv H' a s=>q v H' a (((s1.trans S4).trans s5).trans s)
 ·have en:n≠Sd rs 0:=λz=>c (by rw[z];rfl)
  exact tail _ _ _ (aT.refl H1) (by unfold lostF;rw[if_neg en])
theorem sN{α:Type}{l:List α}{i:Nat}{x:α}(h:l[i]?=some x):l.drop i=x::l.drop (i+1):=by
 obtain⟨lt,e⟩:=af.mp h
 rw[ia lt,e]
theorem ux{pl k i:Nat}{bs:List ic}{b:ic}{x:Nat×Str×List Str}(hb:bs[i]?=some b)(h:lL (whyO b.rows b.params pl) (stL b.rows)=some x):shFrom pl k (bs.drop i)=some (k,x):=by
 rw[sN hb];unfold shFrom;rw[h]
theorem rL{pl k i:Nat}{bs:List ic}{b:ic}(hb:bs[i]?=some b)(h:lL (whyO b.rows b.params pl) (stL b.rows)=none):shFrom pl k (bs.drop i)=shFrom pl (k+1) (bs.drop (i+1)):=by
 rw[sN hb];conv=>lhs;unfold shFrom
 rw[h]
theorem yh{α:Type}{f:Nat->Option α}{l:List Nat}{j n:Nat}{x:α}(hn:l[j]?=some n)(h:f n=some x):lL f (l.drop j)=some (n,x):=by
 rw[sN hn];unfold lL;rw[h]
theorem vI{α:Type}{f:Nat->Option α}{l:List Nat}{j n:Nat}(hn:l[j]?=some n)(h:f n=none):lL f (l.drop j)=lL f (l.drop (j+1)):=by
 rw[sN hn];conv=>lhs;unfold lL
 rw[h]
theorem DF{K:Fg}(T:qJ K){vs:List V}{H:Hp}{Q:VK}{E:XK}(h:eE K vs H Q E):wj K {nx:=λ_ H'=>Q .non H',rt:=Q} (di qH vs) H:=by
 obtain⟨pp,pl,pvs,bs,ys,cs,rfl,hpp,hA,ok,l1,l100,q⟩:=h
 refine⟨_,rfl,pp,rfl,⟨_,dC.of hpp⟩,CU (xs:=pvs) (λi σ' H'=>∃o2 o3 o4 o5 o6,σ'=[some (.ref pp),some (.int (pl:Nat)),o2,o3,o4,o5,o6]/\aT H H'/\shFrom pl 0 bs=shFrom pl i (bs.drop i)) ⟨_,_,_,_,_,rfl,aT.refl H,rfl⟩ ?_ ?_ ?_⟩
 ·rintro i σ' H' _ ⟨_,_,_,_,_,_,s,_⟩
  exact dC.of (s _ _ hpp)
 ·rintro i x σ' H1 p hx np ⟨o2,o3,o4,o5,o6,rfl,s1,inv⟩
  obtain⟨b,hb,hP⟩:=hA.of_v hx
  have bm:=az hb
  have po:=ok.part b bm
  have g:=po.good
  have r64:=g.few
  obtain⟨pt,pa,rt,rvs,rfl,hpt,hpa,hrt,hR⟩:=hP.mono (.of_same s1)
  refine⟨p,_,rfl,dC.of ag,rfl,_,_,rfl,_,_,rfl,rfl,?_⟩
  have s2:aT H1 (upd H1 p (.tup [.int (i:Nat),.ref pt])):=(aT.refl H1).new np
  show rW K _ [some (.ref pp),some (.int (pl:Nat)),some (.int (i:Nat)),some (.ref pt),o4,o5,o6] _
  generalize upd H1 p (.tup [.int (i:Nat),.ref pt])=H2 at s2 ⊢
  refine⟨_,rfl,λx dx nx ndx ne=>?_⟩
  have s3:aT H2 (upd (upd H2 dx (.own x)) x (.ins (dc K "Outline") dx [])):=((aT.refl H2).new ndx).new (by rw[ax (Ne.symm ne)];exact nx)
  have h3:upd (upd H2 dx (.own x)) x (.ins (dc K "Outline") dx []) x=some (.ins (dc K "Outline") dx []):=ag
  generalize upd (upd H2 dx (.own x)) x (.ins (dc K "Outline") dx [])=H3 at s3 h3 ⊢
  have S3:=s2.trans s3
  have hpt2:=s2 _ _ hpt
  refine⟨x,dx,pt,rt,b.rows,b.params,ys,rfl,h3,⟨_,pa,S3 _ _ hpt,S3 _ _ hpa⟩,⟨rvs,S3 _ _ hrt,hR.imp λ_ _ z=>z.mono (.of_same S3),g⟩,Bl ok bm,(λz=>by rw[<-z,nx] at hpt2;cases hpt2),λH4 O B4=>⟨rfl,?_⟩⟩
  have s4:aT H2 H4:=λb u e=>B4 b u (ak e nx) (s3 b u e)
  have S4:aT H H4:=s1.trans (s2.trans s4)
  show rV K _ [some (.ref pp),some (.int (pl:Nat)),some (.int (i:Nat)),some (.ref pt),some (.ref x),o5,o6] H4
  obtain⟨dx',pa',rt',wd,ld,hd,F,ho,hpa',R',WD,hld,fm⟩:=id O
  obtain⟨ns,ts,wss,ss,hwd,tl,hm,hp,tt,want⟩:=id WD
  have ns64:=fM (hp.imp λz=>aV z) λx hx=>eI g ((hm x).mp hx)
  refine .inl ⟨_,rfl,x,_,dx',_,_,rfl,ho,T.cl,T.n3,rfl,wd,_,ns.map λ(n:Nat)=>(n:Int),rfl,hwd,?_,by rw[ae];lia,λl ns' nl perm srt=>?_⟩
  ·rw[ja (by rw[ae,ae];lia),cP];rfl
  obtain⟨ms,e1,e2,e3⟩:=vY (F:=ns) (λx=>perm.mem_iff) (perm.nodup_iff.mpr (by unfold List.Nodup;rw[fE];exact hp.imp λh e=>absurd h (by lia))) srt
  rw[e1]
  have est:stL b.rows=ms:=Gj g (λm=>by rw[e3,hm]) e2
  have s5:aT H4 (upd H4 l (.lst (aU ms))):=(aT.refl H4).new nl
  have h5:upd H4 l (.lst (aU ms)) l=some (.lst (aU ms)):=ag
  generalize upd H4 l (.lst (aU ms))=H5 at s5 h5 ⊢
  refine⟨l,rfl,⟨_,cq.of h5⟩,gQ (xs:=aU ms) (λj σ' H'=>∃o5 o6,σ'=[some (.ref pp),some (.int (pl:Nat)),some (.int (i:Nat)),some (.ref pt),some (.ref x),o5,o6]/\aT H5 H'/\lL (whyO b.rows b.params pl) ms=lL (whyO b.rows b.params pl) (ms.drop j)) ⟨_,_,rfl,aT.refl H5,rfl⟩ ?_ ?_ ?_⟩
  ·rintro j σ' H' _ ⟨_,_,_,s,_⟩
   exact cq.of (s _ _ h5)
  ·rintro j v σ' H6 hv ⟨o5,o6,rfl,s6,inv2⟩
   obtain⟨n,hn,rfl⟩:=mj hv
   have st:cV b.rows n:=(hm n).mp ((e3 n).mp (az hn))
   show rT K _ [some (.ref pp),some (.int (pl:Nat)),some (.int (i:Nat)),some (.ref pt),some (.ref x),some (.int (n:Nat)),o6] H6
   refine⟨_,rfl,_,rfl,_,rfl,x,n,pl,b.rows,b.params,ys,rfl,O.same (s5.trans s6),Fy ok bm l1 l100,st,λv H7 fd s7=>?_⟩
   show rS K _ [some (.ref pp),some (.int (pl:Nat)),some (.int (i:Nat)),some (.ref pt),some (.ref x),some (.int (n:Nat)),some v] H7
   have S7:aT H H7:=((S4.trans s5).trans s6).trans s7
   refine⟨_,rfl,rfl,_,rfl,?_⟩
   cases hw:whyO b.rows b.params pl n with
   |none=>
    rw[hw] at fd
    have:v=.non:=fd
    subst this
    show if(!decide (V.non=V.non))=true then _ else _
    refine fR (λz=>absurd rfl z) (λ_=>?_)
    exact⟨_,_,rfl,s6.trans s7,by rw[inv2,vI hn hw]⟩
   |some wx=>
    obtain⟨w,xs⟩:=wx
    rw[hw] at fd
    obtain⟨p1,q1,rfl,hp1,hq1⟩:=fd
    show if(!decide (V.ref p1=V.non))=true then _ else _
    refine fR (λ_=>?_) (λz=>by cases z)
    have eS:shFrom pl 0 bs=some (i,n,w,xs):=by
     rw[inv]
     exact ux hb (by rw[est,inv2];exact yh hn hw)
    rw[eS] at q
    refine⟨_,rfl,_,rfl,_,rfl,dE hp1 (by decide) rfl ⟨_,rfl,dE hp1 (by decide) rfl ⟨(by show 4<=sizeLine;decide),λp2 n2=>q _ _ ⟨p2,q1,rfl,ag,?_⟩ (S7.new n2)⟩⟩⟩
    rw[ax (ak hq1 n2)];exact hq1
  ·rintro σ' H6 ⟨o5,o6,rfl,s6,inv2⟩
   rw[bV,gW] at inv2
   exact⟨_,_,_,_,_,rfl,(S4.trans s5).trans s6,by rw[inv];exact rL hb (by rw[est,inv2];rfl)⟩
 ·rintro σ' H1 ⟨o2,o3,o4,o5,o6,rfl,s1,inv⟩
  have el:pvs.length=bs.length:=hA.1
  rw[el,gW] at inv
  rw[inv] at q
  exact q _ _ rfl s1
theorem L6{K:Fg}{vs:List V}{H:Hp}{Q:VK}{E:XK}(h:lH K vs H Q E):Jp K {nx:=λ_ H'=>Q .non H',rt:=Q} (di Eh vs) H:=by
 obtain⟨pp,pl,pvs,bs,ys,cs,rfl,hpp,hA,ok,l1,l100,q⟩:=h
 have el:pvs.length=bs.length:=hA.1
 have b5:=ok.few
 refine⟨_,rfl,_,_,rfl,.inr ⟨_,dC.of hpp,rfl⟩,_,rfl,by lia,by lia,kf (λi σ' H'=>∃o2 o3 o4 o5 o6,σ'=[some (.ref pp),some (.int (pl:Nat)),o2,o3,o4,o5,o6]/\aT H H'/\shFrom pl 0 bs=shFrom pl i (bs.drop i)) ⟨_,_,_,_,_,rfl,aT.refl H,rfl⟩ ?_ ?_⟩
 ·rintro i σ' H1 hi ⟨o2,o3,o4,o5,o6,rfl,s1,inv⟩
  rw[show(0:Int)+(i:Nat)=((i:Nat):Int) by lia]
  have il:i<pvs.length:=by lia
  obtain⟨x,b,hx,hb,hP⟩:=hA.get (show i<bs.length by lia)
  have bm:=az hb
  have po:=ok.part b bm
  have g:=po.good
  have r64:=g.few
  have RW:=Bl ok bm
  have y6:=ok.y6
  obtain⟨pt,pa,rt,rvs,rfl,hpt,hpa,hrt,hR⟩:=hP.mono (.of_same s1)
  have hx':pvs[((i:Nat):Int).toNat]?=some (.ref pt):=by simpa using hx
  show Cc K _ [some (.ref pp),some (.int (pl:Nat)),some (.int (i:Nat)),o3,o4,o5,o6] H1
  refine⟨_,rfl,_,rfl,dE (s1 _ _ hpp) (by lia) hx' (dE hpt (by decide) rfl ?_)⟩
  show Cb K _ [some (.ref pp),some (.int (pl:Nat)),some (.int (i:Nat)),some (.ref rt),o4,o5,o6] H1
  refine⟨_,rfl,rt,rvs,b.rows,ys,rfl,hrt,hR,g,RW.r100,by lia,RW.zin,λwd ns ts wss ss H2 hn hpn hwd tl tt want nwd s2=>?_⟩
  have WD:GP H2 wd b.rows:=⟨ns,ts,wss,ss,hwd,tl,hn,hpn,tt,want⟩
  show Ca K _ [some (.ref pp),some (.int (pl:Nat)),some (.int (i:Nat)),some (.ref rt),some (.ref wd),o5,o6] H2
  refine .inl ⟨_,rfl,rt,rvs,b.rows,rfl,s2 _ _ hrt,hR.imp λ_ _ z=>z.mono (.of_same s2),g,λl ms H3 hm hp hl nl s3=>⟨l,rfl,⟨_,cq.of hl⟩,?_⟩⟩
  have S3:aT H H3:=(s1.trans s2).trans s3
  have S31:aT H1 H3:=s2.trans s3
  have est:stL b.rows=ms:=Gj g hm hp
  refine gQ (xs:=aU ms) (λj σ' H'=>∃o5 o6,σ'=[some (.ref pp),some (.int (pl:Nat)),some (.int (i:Nat)),some (.ref rt),some (.ref wd),o5,o6]/\aT H3 H'/\lL (whyO b.rows b.params pl) ms=lL (whyO b.rows b.params pl) (ms.drop j)) ⟨_,_,rfl,aT.refl H3,rfl⟩ ?_ ?_ ?_
  ·rintro j σ' H' _ ⟨_,_,_,s,_⟩
   exact cq.of (s _ _ hl)
  ·rintro j v σ' H6 hv ⟨o5,o6,rfl,s6,inv2⟩
   obtain⟨n,hn',rfl⟩:=mj hv
   have st:cV b.rows n:=(hm n).mp (az hn')
   show B9 K _ [some (.ref pp),some (.int (pl:Nat)),some (.int (i:Nat)),some (.ref rt),some (.ref wd),some (.int (n:Nat)),o6] H6
   have S6:=S31.trans s6
   have R6:Ek H6 rt b.rows:=⟨rvs,S6 _ _ hrt,hR.imp λ_ _ z=>z.mono (.of_same S6),g⟩
   refine⟨_,rfl,_,rfl,dE ((S3.trans s6) _ _ hpp) (by lia) hx' ⟨_,rfl,_,rfl,_,rfl,_,rfl,rt,b.rows,rfl,R6,λll ls H7 hml hpl hll nll s7=>?_⟩⟩
   have S7:=S6.trans s7
   refine⟨pt,rt,wd,ll,n,pl,b.rows,b.params,ys,ls,rfl,⟨_,pa,S7 _ _ hpt,S7 _ _ hpa⟩,R6.same s7,WD.same ((s3.trans s6).trans s7),hll,hml,Fy ok bm l1 l100,st,λv H8 fd s8=>?_⟩
   show B0 K _ [some (.ref pp),some (.int (pl:Nat)),some (.int (i:Nat)),some (.ref rt),some (.ref wd),some (.int (n:Nat)),some v] H8
   have S8:aT H H8:=((S3.trans s6).trans s7).trans s8
   refine⟨_,rfl,rfl,_,rfl,?_⟩
   cases hw:whyO b.rows b.params pl n with
   |none=>
    rw[hw] at fd
    have:v=.non:=fd
    subst this
    show if(!decide (V.non=V.non))=true then _ else _
    refine fR (λz=>absurd rfl z) (λ_=>?_)
    exact⟨_,_,rfl,(s6.trans s7).trans s8,by rw[inv2,vI hn' hw]⟩
   |some wx=>
    obtain⟨w,xs⟩:=wx
    rw[hw] at fd
    obtain⟨p1,q1,rfl,hp1,hq1⟩:=fd
    show if(!decide (V.ref p1=V.non))=true then _ else _
    refine fR (λ_=>?_) (λz=>by cases z)
    have eS:shFrom pl 0 bs=some (i,n,w,xs):=by
     rw[inv]
     exact ux hb (by rw[est,inv2];exact yh hn' hw)
    rw[eS] at q
    refine⟨_,rfl,_,rfl,(by show 2<=sizeLine;decide),λp2 n2=>⟨_,rfl,?_⟩⟩
    have hp1':upd H8 p2 (.tup [.int (i:Nat),.int (n:Nat)]) p1=some (.tup [.str w,.ref q1]):=by rw[ax (ak hp1 n2)];exact hp1
    have hq1':upd H8 p2 (.tup [.int (i:Nat),.int (n:Nat)]) q1=some (.tup (xs.map V.str)):=by rw[ax (ak hq1 n2)];exact hq1
    refine .inr (.inr (.inr ⟨p2,p1,_,_,rfl,rfl,dC.of ag,dC.of hp1',by simp,(by show 2+2<=sizeLine;decide),λz=>(by cases z),λ_ p3 n3=>q _ _ ⟨p3,q1,rfl,ag,?_⟩ ((S8.new n2).new n3)⟩))
    rw[ax (ak hq1' n3)];exact hq1'
  ·rintro σ' H6 ⟨o5,o6,rfl,s6,inv2⟩
   rw[bV,gW] at inv2
   exact⟨_,_,_,_,_,rfl,S3.trans s6,by rw[inv];exact rL hb (by rw[est,inv2];rfl)⟩
 ·rintro σ' H1 ⟨o2,o3,o4,o5,o6,rfl,s1,inv⟩
  rw[show(((pvs.length:Nat):Int)).toNat=bs.length by lia,gW] at inv
  rw[inv] at q
  exact q _ _ rfl s1
theorem sP(K:Fg)(H:Hp)(d:Nat){x:V}(hx:ip x=true)(e:sO x x=true):Bm K H d x x true:=by
 have:=Bm.flat (K:=K) (H:=H) (d:=d) (x:=x) (y:=x) hx hx
 rw[e] at this;exact this
theorem Hc{K:Fg}{H:Hp}{p q:Addr}{xs:List Str}{d:Nat}(hp:H p=some (.tup (xs.map V.str)))(hq:H q=some (.tup (xs.map V.str))):Bm K H (d+1) (.ref p) (.ref q) true:=by
 by_cases c:p=q
 ·subst c;exact .same
 ·have:=Bm.tups (K:=K) (H:=H) (d:=d) (es:=aH (xs.map V.str).length true) c (dC.of hp) (dC.of hq) rfl (by simp) λj x y b hx hy hb=>by
   rw[hx] at hy;cases hy
   have:b=true:=(dM.mp (az hb)).2
   subst this
   obtain⟨y,_,rfl⟩:=mG hx
   exact sP K H d rfl (by simp[sO])
  have e:(aH (xs.map V.str).length true).all id=true:=by simp
  rw[e] at this;exact this
theorem Gg{K:Fg}{neg:Bool}{H:Hp}{p u q w:Addr}{k n:Nat}{s:Str}{xs:List Str}{Q:VK}(hp:H p=some (.tup [.int (k:Nat),.int (n:Nat),.str s,.ref q]))(hq:H q=some (.tup (xs.map V.str)))(hu:H u=some (.tup [.int (k:Nat),.int (n:Nat),.str s,.ref w]))(hw:H w=some (.tup (xs.map V.str)))(h:Q (.bl (!neg)) H):FJ K neg (.ref p) (.ref u) H Q:=by
 refine⟨p,u,_,_,rfl,rfl,.inr ⟨dC.of hp,dC.of hu,rfl⟩,.inr ⟨[true,true,true,true],rfl,rfl,λj x y b hx hy hb=>?_,?_⟩⟩
 ·match j with
  |0=>cases hx;cases hy;cases hb;exact sP K H 4 rfl (by simp[sO])
  |1=>cases hx;cases hy;cases hb;exact sP K H 4 rfl (by simp[sO])
  |2=>cases hx;cases hy;cases hb;exact sP K H 4 rfl (by simp[sO])
  |3=>cases hx;cases hy;cases hb;exact Hc hq hw
  |j+4=>cases hb
 ·cases neg<;>exact h
theorem Ma{K:Fg}{H:Hp}{v u:V}{o:Option (Nat×Nat×Str×List Str)}{Q:VK}(a:El H v o)(b:El H u o)(q:Q (.bl false) H):FN K v u H Q:=by
 match o,a,b with
 |none,a,b=>
  have a:v=.non:=a
  have b:u=.non:=b
  subst a;subst b
  exact .inr (.inr (.inl ⟨rfl,q⟩))
 |some (k,n,s,xs),a,b=>
  obtain⟨p,w,rfl,hp,hw⟩:=a
  obtain⟨p',w',rfl,hp',hw'⟩:=b
  exact .inl (Gg hp hw hp' hw' q)
theorem L9{K:Fg}{H:Hp}{v u:V}{o:Option (Nat×Nat×Str×List Str)}{Q:VK}(a:El H v o)(b:El H u o)(q:Q (.bl true) H):IE K v u H Q:=by
 match o,a,b with
 |none,a,b=>
  have a:v=.non:=a
  have b:u=.non:=b
  subst a;subst b
  exact .inr (.inr (.inl ⟨rfl,q⟩))
 |some (k,n,s,xs),a,b=>
  obtain⟨p,w,rfl,hp,hw⟩:=a
  obtain⟨p',w',rfl,hp',hw'⟩:=b
  exact .inl (Gg hp hw hp' hw' q)
theorem El.same{H H':Hp}{v:V}{o:Option (Nat×Nat×Str×List Str)}(h:El H v o)(s:aT H H'):El H' v o:=by
 match o,h with
 |none,h=>exact h
 |some (k,n,w,xs),h=>
  obtain⟨p,q,e,h1,h2⟩:=h
  exact⟨p,q,e,s _ _ h1,s _ _ h2⟩
theorem Gi{K:Fg}{H:Hp}{p q:Addr}{k n:Nat}{s:Str}{Q:VK}(hp:H p=some (.tup [.int (k:Nat),.int (n:Nat),.str s,.ref q]))(h:∀(t:Addr) (H':Hp),H' t=some (.tup (([(k:Int),(n:Int)]).map V.int))->aT H H'->Q (.ref t) H'):zS K (.ref p) none (some 2) H Q:=by
 refine .inr ⟨p,_,rfl,dC.of hp,λz=>?_,λt nt=>h t _ ?_ ((aT.refl H).new nt)⟩
 ·have:=z.2
  rw[show(2:Int)=((2:Nat):Int) from rfl,HT.sIx_nat] at this
  simp at this
 ·rw[ag,show(2:Int)=((2:Nat):Int) from rfl,jJ];rfl
theorem L7{K:Fg}{vs:List V}{H:Hp}{Q:VK}{E:XK}(h:sp_law K vs H Q E):Jq K {nx:=λ_ H'=>Q .non H',rt:=Q} (di Ei vs) H:=by
 obtain⟨scr,zs,rfl,hscr,hzs,q⟩:=h
 refine⟨_,rfl,(by show 3<=sizeLine;decide),λst hst=>?_⟩
 have S1:kW K (upd H st (.lst [.ref scr,.int 0,.int 0])) st 0:=⟨scr,zs,0,ag,hscr.mono (.of_same ((aT.refl H).new hst)),hzs⟩
 show Ck K _ [some (.ref scr),some (.ref st),none,none,none,none] (upd H st (.lst [.ref scr,.int 0,.int 0]))
 generalize upd H st (.lst [.ref scr,.int 0,.int 0])=H1 at S1 ⊢
 refine⟨_,rfl,st,14,0,rfl,S1,by decide,by decide,by decide,λpp pvs bs ys cs k4 H4 hpp hA ok _ S4 l4 B4=>?_⟩
 show Cj K _ [some (.ref scr),some (.ref st),some (.ref pp),none,none,none] H4
 have ask:∀{pl:Nat} {H5:Hp} {R:VK},aT H4 H5->1<=pl->pl<=100->(∀v H',El H' v (shFrom pl 0 bs)->aT H5 H'->R v H')->eE K [.ref pp,.int (pl:Nat)] H5 R E0:=λs a b r=>⟨pp,_,pvs,bs,ys,cs,rfl,s _ _ hpp,hA.imp λ_ _ z=>z.mono (.of_same s),ok,a,b,r⟩
 have ask2:∀{pl:Nat} {H5:Hp} {R:VK},aT H4 H5->1<=pl->pl<=100->(∀v H',El H' v (shFrom pl 0 bs)->aT H5 H'->R v H')->lH K [.ref pp,.int (pl:Nat)] H5 R E0:=λs a b r=>⟨pp,_,pvs,bs,ys,cs,rfl,s _ _ hpp,hA.imp λ_ _ z=>z.mono (.of_same s),ok,a,b,r⟩
 refine⟨1,8,rfl,⟨by decide,by decide,by decide,by decide⟩,kf (λi σ' H'=>∃o3 o4 o5,σ'=[some (.ref scr),some (.ref st),some (.ref pp),o3,o4,o5]/\aT H4 H') ⟨_,_,_,rfl,aT.refl H4⟩ ?_ ?_⟩
 ·rintro i σ' H5 hi ⟨o3,o4,o5,rfl,s5⟩
  have hi':i<7:=hi
  rw[show(1:Int)+(i:Nat)=((i+1:Nat):Int) by lia]
  obtain⟨pl,epl⟩:∃pl,pl=i+1:=⟨_,rfl⟩
  rw[<-epl]
  show Ci K _ [some (.ref scr),some (.ref st),some (.ref pp),some (.int (pl:Nat)),o4,o5] H5
  refine⟨_,rfl,_,rfl,ask s5 (by lia) (by lia) λv H6 sv s6=>?_⟩
  show Cg K _ [some (.ref scr),some (.ref st),some (.ref pp),some (.int (pl:Nat)),some v,o5] H6
  refine⟨_,rfl,_,rfl,_,rfl,ask2 (s5.trans s6) (by lia) (by lia) λu H7 su s7=>Ma (sv.same s7) su ⟨_,rfl,j5 ?_⟩⟩
  show Cf K _ [some (.ref scr),some (.ref st),some (.ref pp),some (.int (pl:Nat)),some v,o5] H7
  have S7:aT H4 H7:=(s5.trans s6).trans s7
  refine⟨_,rfl,_,rfl,.inl ⟨_,_,rfl,rfl,?_⟩⟩
  show eE K [.ref pp,.int ((pl+1:Nat):Int)] H7 _ E0
  refine ask S7 (by lia) (by lia) λm H8 sm s8=>?_
  show Ce K _ [some (.ref scr),some (.ref st),some (.ref pp),some (.int (pl:Nat)),some v,some m] H8
  have sv8:=sv.same (s7.trans s8)
  have fin:∀H9,aT H8 H9->∃o3 o4 o5,[some (V.ref scr),some (.ref st),some (.ref pp),some (.int (pl:Nat)),some v,some m]=[some (.ref scr),some (.ref st),some (.ref pp),o3,o4,o5]/\aT H4 H9:=λH9 s9=>⟨_,_,_,rfl,(S7.trans s8).trans s9⟩
  refine⟨_,rfl,rfl,_,rfl,?_⟩
  cases hm:shFrom (pl+1) 0 bs with
  |none=>
   rw[hm] at sm
   have sm:m=.non:=sm
   subst sm
   have two:xD K {nx:=λσ' H'=>∃o3 o4 o5,σ'=[some (.ref scr),some (.ref st),some (.ref pp),o3,o4,o5]/\aT H4 H',rt:=Q,bk:=Cd K {nx:=λ_ H'=>Q .non H',rt:=Q},ct:=λσ' H'=>∃o3 o4 o5,σ'=[some (.ref scr),some (.ref st),some (.ref pp),o3,o4,o5]/\aT H4 H'} [some (.ref scr),some (.ref st),some (.ref pp),some (.int (pl:Nat)),some v,some V.non] H8:=by
    refine⟨_,rfl,rfl,_,rfl,?_⟩
    refine fR (λ_=>?_) (λ_=>j5 (fin H8 (aT.refl H8)))
    refine⟨_,rfl,rfl,_,rfl,?_⟩
    show if(!decide (V.non=V.non))=true then _ else _
    exact fR (λz=>absurd rfl z) (λ_=>j5 (fin H8 (aT.refl H8)))
   refine cA (λ_=>?_) (λ_=>j5 two)
   refine⟨_,rfl,rfl,_,rfl,?_⟩
   show if(!decide (V.non=V.non))=true then _ else _
   exact fR (λz=>absurd rfl z) (λ_=>two)
  |some x=>
   obtain⟨a,mm,y⟩:=x
   obtain⟨c,n,z,ep,hlt⟩:=rK (show pl<=pl+1 by lia) bs 0 hm
   rw[hm] at sm
   rw[ep] at sv8
   obtain⟨w1,x1⟩:=y
   obtain⟨w2,x2⟩:=z
   obtain⟨p1,q1,rfl,hp1,hq1⟩:=sm
   obtain⟨p2,q2,rfl,hp2,hq2⟩:=sv8
   refine cA (λz=>by cases z) (λ_=>j5 ?_)
   show xD K _ [some (.ref scr),some (.ref st),some (.ref pp),some (.int (pl:Nat)),some (.ref p2),some (.ref p1)] H8
   refine⟨_,rfl,rfl,_,rfl,?_⟩
   refine fR (λ_=>?_) (λz=>by cases z)
   refine⟨_,rfl,rfl,_,rfl,?_⟩
   refine fR (λ_=>?_) (λz=>by cases z)
   refine⟨_,rfl,_,rfl,Gi hp1 λt1 H9 ht1 s9=>⟨_,rfl,_,rfl,Gi (s9 _ _ hp2) λt2 H10 ht2 s10=>⟨t1,t2,_,_,rfl,rfl,dC.of (s10 _ _ ht1),dC.of ht2,_,rfl,?_⟩⟩⟩
   have lf:HT.lexLt [(a:Int),(mm:Int)] [(c:Int),(n:Int)]=false:=by
    rw[HT.lexLt_cons]
    split
    ·rw[HT.lexLt_cons]
     split
     ·rfl
     ·exact decide_eq_false (by lia)
    ·exact decide_eq_false (by lia)
   rw[lf]
   exact j5 (fin H10 (s9.trans s10))
 ·rintro σ' H5 ⟨o3,o4,o5,rfl,s5⟩
  refine⟨_,rfl,?_⟩
  show eE K [.ref pp,.int ((3:Nat):Int)] H5 _ E0
  refine ask s5 (by decide) (by decide) λv H6 sv s6=>⟨_,rfl,?_⟩
  show lH K [.ref pp,.int ((3:Nat):Int)] H6 _ E0
  exact ask2 (s5.trans s6) (by decide) (by decide) λu H7 su s7=>L9 (sv.same s7) su (q H7)
end Bg
end
namespace Bg
open PySem PySem.Spec PyProof.Rows L2
section
variable{P:Program}{w:World}{K:Fg}{mg:Str->Option Value}{base:Heap}
theorem u1{vs:List V}{H:Hp}{Q:VK}{E:XK}(h:fO K vs H Q E):vs.length=gf.length:=by
 first|(obtain⟨_,_,rfl,_⟩:=h;rfl)
theorem xg{f:Addr}{fd:FuncData}(F:lX K "as_keys" "as_keys" eP f fd)(B:gL mg) :eG P w K mg base fY kK f fd gf (fO K):=
 F.ok qa (λvs H Q E h=>u1 h) λcdv A outer s H vs Q E hr h=>⟨_,x8 B hr,yR (E:=E) h⟩
theorem Az{vs:List V}{H:Hp}{Q:VK}{E:XK}(h:eX K vs H Q E):vs.length=gb.length:=by
 first|(obtain⟨_,_,rfl,_⟩:=h;rfl)
theorem Dt{f:Addr}{fd:FuncData}(F:lX K "sets" "sets" i6 f fd)(B:gL mg) :eG P w K mg base fY jH f fd gb (eX K):=
 F.ok vW (λvs H Q E h=>Az h) λcdv A outer s H vs Q E hr h=>⟨_,Ey B hr,FS (E:=E) h⟩
theorem Ax{vs:List V}{H:Hp}{Q:VK}{E:XK}(h:d9 K vs H Q E):vs.length=fZ.length:=by
 first|(obtain⟨_,_,rfl,_⟩:=h;rfl)
theorem Dr{f:Addr}{fd:FuncData}(F:lX K "goal" "goal" i4 f fd)(B:gL mg) :eG P w K mg base fY jG f fd fZ (d9 K):=
 F.ok vU (λvs H Q E h=>Ax h) λcdv A outer s H vs Q E hr h=>⟨_,Ew B hr,FQ (E:=E) h⟩
theorem yv{vs:List V}{H:Hp}{Q:VK}{E:XK}(h:fb K vs H Q E):vs.length=gh.length:=by
 first|(obtain⟨rfl,_⟩:=h;rfl)|(obtain⟨_,rfl,_⟩:=h;rfl)|(obtain⟨_,_,rfl,_⟩:=h;rfl)|(obtain⟨_,_,_,rfl,_⟩:=h;rfl)|(obtain⟨_,_,_,_,rfl,_⟩:=h;rfl)|(obtain⟨_,_,_,_,_,rfl,_⟩:=h;rfl)|(obtain⟨_,_,_,_,_,_,rfl,_⟩:=h;rfl)|(obtain⟨_,_,_,_,_,_,_,rfl,_⟩:=h;rfl)|(obtain⟨_,_,_,_,_,_,_,_,rfl,_⟩:=h;rfl)|(obtain⟨_,_,_,_,_,_,_,_,_,rfl,_⟩:=h;rfl)|(obtain⟨_,_,_,_,_,_,_,_,_,_,rfl,_⟩:=h;rfl)|(obtain⟨_,_,_,_,_,_,_,_,_,_,_,rfl,_⟩:=h;rfl)|(obtain⟨_,_,_,_,_,_,_,_,_,_,_,_,rfl,_⟩:=h;rfl)|(obtain⟨_,_,_,_,_,_,_,_,_,_,_,_,_,rfl,_⟩:=h;rfl)|(obtain⟨_,_,_,_,_,_,_,_,_,_,_,_,_,_,rfl,_⟩:=h;rfl)|(obtain⟨_,_,_,_,_,_,_,_,_,_,_,_,_,_,_,rfl,_⟩:=h;rfl)|(obtain⟨_,_,_,_,_,_,_,_,_,_,_,_,_,_,_,_,rfl,_⟩:=h;rfl)|(obtain⟨_,_,_,_,_,_,_,_,_,_,_,_,_,_,_,_,_,rfl,_⟩:=h;rfl)|(obtain⟨_,_,_,_,_,_,_,_,_,_,_,_,_,_,_,_,_,_,rfl,_⟩:=h;rfl)|(obtain⟨_,_,_,_,_,_,_,_,_,_,_,_,_,_,_,_,_,_,_,rfl,_⟩:=h;rfl)|(obtain⟨_,_,_,_,_,_,_,_,_,_,_,_,_,_,_,_,_,_,_,_,rfl,_⟩:=h;rfl)|(obtain⟨_,_,_,_,_,_,_,_,_,_,_,_,_,_,_,_,_,_,_,_,_,rfl,_⟩:=h;rfl)|(obtain⟨_,_,_,_,_,_,_,_,_,_,_,_,_,_,_,_,_,_,_,_,_,_,rfl,_⟩:=h;rfl)|(obtain⟨_,_,_,_,_,_,_,_,_,_,_,_,_,_,_,_,_,_,_,_,_,_,_,rfl,_⟩:=h;rfl)|(obtain⟨_,_,_,_,_,_,_,_,_,_,_,_,_,_,_,_,_,_,_,_,_,_,_,_,rfl,_⟩:=h;rfl)|(obtain⟨_,_,_,_,_,_,_,_,_,_,_,_,_,_,_,_,_,_,_,_,_,_,_,_,_,rfl,_⟩:=h;rfl)
theorem AG{f:Addr}{fd:FuncData}(F:lX K "leads" "leads" hV f fd)(B:gL mg)(c_p_goal:aI P w K mg base "goal" fZ jG (d9 K)):eG P w K mg base fY ke f fd gh (fb K):=
 F.ok uq (λvs H Q E h=>yv h) λcdv A outer s H vs Q E hr h=>⟨_,CL B c_p_goal hr,DD (E:=E) h⟩
theorem w9{vs:List V}{H:Hp}{Q:VK}{E:XK}(h:gS K vs H Q E):vs.length=gP.length:=by
 first|(obtain⟨_,_,_,_,rfl,_⟩:=h;rfl)
theorem yL{f:Addr}{fd:FuncData}{dV:Value}(F:GU K "walked" "walked" eC dV f fd)(B:gL mg)(c_p_sets:aI P w K mg base "sets" gb jH (eX K))(c_p_leads:aI P w K mg base "leads" gh ke (fb K)):eG P w K mg base fY lZ f fd gP (gS K):=
 F.ok rG (λvs H Q E h=>w9 h) λcdv A outer s H vs Q E hr h=>⟨_,Ad B c_p_sets c_p_leads hr,AW (E:=E) h⟩
theorem u2{vs:List V}{H:Hp}{Q:VK}{E:XK}(h:cE K vs H Q E):vs.length=df.length:=by
 first|(obtain⟨rfl,_⟩:=h;rfl)|(obtain⟨_,rfl,_⟩:=h;rfl)|(obtain⟨_,_,rfl,_⟩:=h;rfl)|(obtain⟨_,_,_,rfl,_⟩:=h;rfl)|(obtain⟨_,_,_,_,rfl,_⟩:=h;rfl)|(obtain⟨_,_,_,_,_,rfl,_⟩:=h;rfl)|(obtain⟨_,_,_,_,_,_,rfl,_⟩:=h;rfl)|(obtain⟨_,_,_,_,_,_,_,rfl,_⟩:=h;rfl)|(obtain⟨_,_,_,_,_,_,_,_,rfl,_⟩:=h;rfl)|(obtain⟨_,_,_,_,_,_,_,_,_,rfl,_⟩:=h;rfl)|(obtain⟨_,_,_,_,_,_,_,_,_,_,rfl,_⟩:=h;rfl)|(obtain⟨_,_,_,_,_,_,_,_,_,_,_,rfl,_⟩:=h;rfl)|(obtain⟨_,_,_,_,_,_,_,_,_,_,_,_,rfl,_⟩:=h;rfl)|(obtain⟨_,_,_,_,_,_,_,_,_,_,_,_,_,rfl,_⟩:=h;rfl)|(obtain⟨_,_,_,_,_,_,_,_,_,_,_,_,_,_,rfl,_⟩:=h;rfl)|(obtain⟨_,_,_,_,_,_,_,_,_,_,_,_,_,_,_,rfl,_⟩:=h;rfl)|(obtain⟨_,_,_,_,_,_,_,_,_,_,_,_,_,_,_,_,rfl,_⟩:=h;rfl)|(obtain⟨_,_,_,_,_,_,_,_,_,_,_,_,_,_,_,_,_,rfl,_⟩:=h;rfl)|(obtain⟨_,_,_,_,_,_,_,_,_,_,_,_,_,_,_,_,_,_,rfl,_⟩:=h;rfl)|(obtain⟨_,_,_,_,_,_,_,_,_,_,_,_,_,_,_,_,_,_,_,rfl,_⟩:=h;rfl)|(obtain⟨_,_,_,_,_,_,_,_,_,_,_,_,_,_,_,_,_,_,_,_,rfl,_⟩:=h;rfl)|(obtain⟨_,_,_,_,_,_,_,_,_,_,_,_,_,_,_,_,_,_,_,_,_,rfl,_⟩:=h;rfl)|(obtain⟨_,_,_,_,_,_,_,_,_,_,_,_,_,_,_,_,_,_,_,_,_,_,rfl,_⟩:=h;rfl)|(obtain⟨_,_,_,_,_,_,_,_,_,_,_,_,_,_,_,_,_,_,_,_,_,_,_,rfl,_⟩:=h;rfl)|(obtain⟨_,_,_,_,_,_,_,_,_,_,_,_,_,_,_,_,_,_,_,_,_,_,_,_,rfl,_⟩:=h;rfl)|(obtain⟨_,_,_,_,_,_,_,_,_,_,_,_,_,_,_,_,_,_,_,_,_,_,_,_,_,rfl,_⟩:=h;rfl)
theorem xh{f:Addr}{fd:FuncData}(F:lX K "come_to" "come_to" eQ f fd)(B:gL mg)(c_p_walked_d1:pz P w K mg base "walked" gP lZ [.non] (gS K)):eG P w K mg base fY eO f fd df (cE K):=
 F.ok qb (λvs H Q E h=>u2 h) λcdv A outer s H vs Q E hr h=>⟨_,x9 B c_p_walked_d1 hr,yS (E:=E) h⟩
theorem w5{vs:List V}{H:Hp}{Q:VK}{E:XK}(h:bW K vs H Q E):vs.length=cU.length:=by
 first|(obtain⟨_,_,_,_,rfl,_⟩:=h;rfl)
theorem yK{f:Addr}{fd:FuncData}(F:lX K "stands" "stands" gu f fd)(B:gL mg)(c_p_goal:aI P w K mg base "goal" fZ jG (d9 K)):eG P w K mg base fY eA f fd cU (bW K):=
 F.ok rF (λvs H Q E h=>w5 h) λcdv A outer s H vs Q E hr h=>⟨_,Ac B c_p_goal hr,AV (E:=E) h⟩
theorem wZ{vs:List V}{H:Hp}{Q:VK}{E:XK}(h:eU K vs H Q E):vs.length=fJ.length:=by
 first|(obtain⟨_,_,rfl,_⟩:=h;rfl)
theorem yI{f:Addr}{fd:FuncData}(F:lX K "led_to" "led_to" gr f fd)(B:gL mg)(c_p_come_to:aI P w K mg base "come_to" df eO (cE K))(c_p_stands:aI P w K mg base "stands" cU eA (bW K))(c_p_goal:aI P w K mg base "goal" fZ jG (d9 K)):eG P w K mg base fY jd f fd fJ (eU K):=
 F.ok rD (λvs H Q E h=>wZ h) λcdv A outer s H vs Q E hr h=>⟨_,Aa B c_p_come_to c_p_stands c_p_goal hr,AS (E:=E) h⟩
theorem E7{vs:List V}{H:Hp}{Q:VK}{E:XK}(h:mD K vs H Q E):vs.length=me.length:=by
 first|(obtain⟨_,_,_,_,_,_,_,_,_,_,rfl,_⟩:=h;rfl)
theorem HE{f:Addr}{fd:FuncData}(F:lX K "rows_wanting" "rows_wanting" lF f fd)(B:gL mg)(c_p_sets:aI P w K mg base "sets" gb jH (eX K)):eG P w K mg base fY wz f fd me (mD K):=
 F.ok BV (λvs H Q E h=>E7 h) λcdv A outer s H vs Q E hr h=>⟨_,JC B c_p_sets hr,KO (E:=E) h⟩
theorem yx{vs:List V}{H:Hp}{Q:VK}{E:XK}(h:iH K vs H Q E):vs.length=iC.length:=by
 first|(obtain⟨rfl,_⟩:=h;rfl)|(obtain⟨_,rfl,_⟩:=h;rfl)|(obtain⟨_,_,rfl,_⟩:=h;rfl)|(obtain⟨_,_,_,rfl,_⟩:=h;rfl)|(obtain⟨_,_,_,_,rfl,_⟩:=h;rfl)|(obtain⟨_,_,_,_,_,rfl,_⟩:=h;rfl)|(obtain⟨_,_,_,_,_,_,rfl,_⟩:=h;rfl)|(obtain⟨_,_,_,_,_,_,_,rfl,_⟩:=h;rfl)|(obtain⟨_,_,_,_,_,_,_,_,rfl,_⟩:=h;rfl)|(obtain⟨_,_,_,_,_,_,_,_,_,rfl,_⟩:=h;rfl)|(obtain⟨_,_,_,_,_,_,_,_,_,_,rfl,_⟩:=h;rfl)|(obtain⟨_,_,_,_,_,_,_,_,_,_,_,rfl,_⟩:=h;rfl)|(obtain⟨_,_,_,_,_,_,_,_,_,_,_,_,rfl,_⟩:=h;rfl)|(obtain⟨_,_,_,_,_,_,_,_,_,_,_,_,_,rfl,_⟩:=h;rfl)|(obtain⟨_,_,_,_,_,_,_,_,_,_,_,_,_,_,rfl,_⟩:=h;rfl)|(obtain⟨_,_,_,_,_,_,_,_,_,_,_,_,_,_,_,rfl,_⟩:=h;rfl)|(obtain⟨_,_,_,_,_,_,_,_,_,_,_,_,_,_,_,_,rfl,_⟩:=h;rfl)|(obtain⟨_,_,_,_,_,_,_,_,_,_,_,_,_,_,_,_,_,rfl,_⟩:=h;rfl)|(obtain⟨_,_,_,_,_,_,_,_,_,_,_,_,_,_,_,_,_,_,rfl,_⟩:=h;rfl)|(obtain⟨_,_,_,_,_,_,_,_,_,_,_,_,_,_,_,_,_,_,_,rfl,_⟩:=h;rfl)|(obtain⟨_,_,_,_,_,_,_,_,_,_,_,_,_,_,_,_,_,_,_,_,rfl,_⟩:=h;rfl)|(obtain⟨_,_,_,_,_,_,_,_,_,_,_,_,_,_,_,_,_,_,_,_,_,rfl,_⟩:=h;rfl)|(obtain⟨_,_,_,_,_,_,_,_,_,_,_,_,_,_,_,_,_,_,_,_,_,_,rfl,_⟩:=h;rfl)|(obtain⟨_,_,_,_,_,_,_,_,_,_,_,_,_,_,_,_,_,_,_,_,_,_,_,rfl,_⟩:=h;rfl)|(obtain⟨_,_,_,_,_,_,_,_,_,_,_,_,_,_,_,_,_,_,_,_,_,_,_,_,rfl,_⟩:=h;rfl)|(obtain⟨_,_,_,_,_,_,_,_,_,_,_,_,_,_,_,_,_,_,_,_,_,_,_,_,_,rfl,_⟩:=h;rfl)
theorem AH{f:Addr}{fd:FuncData}(F:lX K "reads" "reads" hW f fd)(B:gL mg) :eG P w K mg base fY nO f fd iC (iH K):=
 F.ok ur (λvs H Q E h=>yx h) λcdv A outer s H vs Q E hr h=>⟨_,CM B hr,DE (E:=E) h⟩
theorem E6{vs:List V}{H:Hp}{Q:VK}{E:XK}(h:mC K vs H Q E):vs.length=md.length:=by
 first|(obtain⟨_,_,_,rfl,_⟩:=h;rfl)
theorem HC{f:Addr}{fd:FuncData}(F:lX K "rows_that_read" "rows_that_read" mz f fd)(B:gL mg)(c_p_come_to:aI P w K mg base "come_to" df eO (cE K))(c_p_reads:aI P w K mg base "reads" iC nO (iH K)):eG P w K mg base fY wu f fd md (mC K):=
 F.ok BU (λvs H Q E h=>E6 h) λcdv A outer s H vs Q E hr h=>⟨_,JB B c_p_come_to c_p_reads hr,KN (E:=E) h⟩
theorem E5{vs:List V}{H:Hp}{Q:VK}{E:XK}(h:mB K vs H Q E):vs.length=ma.length:=by
 first|(obtain⟨_,_,_,rfl,_⟩:=h;rfl)
theorem HB{f:Addr}{fd:FuncData}(F:lX K "rows_ahead" "rows_ahead" lE f fd)(B:gL mg)(c_p_leads:aI P w K mg base "leads" gh ke (fb K))(c_p_stands:aI P w K mg base "stands" cU eA (bW K))(c_p_come_to:aI P w K mg base "come_to" df eO (cE K)):eG P w K mg base fY wt f fd ma (mB K):=
 F.ok BS (λvs H Q E h=>E5 h) λcdv A outer s H vs Q E hr h=>⟨_,JA B c_p_leads c_p_stands c_p_come_to hr,KM (E:=E) h⟩
theorem xa{vs:List V}{H:Hp}{Q:VK}{E:XK}(h:eV K vs H Q E):vs.length=fK.length:=by
 first|(obtain⟨_,_,_,_,rfl,_⟩:=h;rfl)
theorem yM{f:Addr}{fd:FuncData}(F:lX K "wanted" "wanted" e8 f fd)(B:gL mg)(c_p_rw:aI P w K mg base "rows_wanting" me wz (mD K))(c_p_rt:aI P w K mg base "rows_that_read" md wu (mC K))(c_p_ra:aI P w K mg base "rows_ahead" ma wt (mB K)):eG P w K mg base fY je f fd fK (eV K):=
 F.ok rH (λvs H Q E h=>xa h) λcdv A outer s H vs Q E hr h=>⟨_,Ae B c_p_rw c_p_rt c_p_ra hr,AX (E:=E) h⟩
theorem qP{vs:List V}{H:Hp}{Q:VK}{E:XK}(h:eD K vs H Q E):vs.length=eB.length:=by
 first|(obtain⟨_,_,_,_,_,_,_,rfl,_⟩:=h;rfl)
theorem sD{f:Addr}{fd:FuncData}(F:lX K "__init__" "Outline.__init__" dB f fd)(B:gL mg)(T:qJ K)(c_p_as_keys:aI P w K mg base "as_keys" gf kK (fO K))(c_p_led_to:aI P w K mg base "led_to" fJ jd (eU K))(c_p_stands:aI P w K mg base "stands" cU eA (bW K))(c_p_wanted:aI P w K mg base "wanted" fK je (eV K)):eG P w K mg base fY iV f fd eB (eD K):=
 F.ok mQ (λvs H Q E h=>qP h) λcdv A outer s H vs Q E hr h=>⟨_,tO B c_p_as_keys c_p_led_to c_p_stands c_p_wanted hr,uk T (E:=E) h⟩
theorem u4{vs:List V}{H:Hp}{Q:VK}{E:XK}(h:gx K vs H Q E):vs.length=gk.length:=by
 first|(obtain⟨_,_,_,rfl,_⟩:=h;rfl)
theorem xj{f:Addr}{fd:FuncData}(F:lX K "without" "without" eT f fd)(B:gL mg) :eG P w K mg base fY kM f fd gk (gx K):=
 F.ok qd (λvs H Q E h=>u4 h) λcdv A outer s H vs Q E hr h=>⟨_,yb B hr,yU (E:=E) h⟩
theorem pQ{vs:List V}{H:Hp}{Q:VK}{E:XK}(h:dR K vs H Q E):vs.length=dO.length:=by
 first|(obtain⟨_,_,_,_,_,rfl,_⟩:=h;rfl)
theorem qR{f:Addr}{fd:FuncData}(F:lX K "left_behind" "left_behind" dr f fd)(B:gL mg)(T:qJ K)(c_p_stands:aI P w K mg base "stands" cU eA (bW K))(c_p_without:aI P w K mg base "without" gk kM (gx K))(c_p_sets:aI P w K mg base "sets" gb jH (eX K)):eG P w K mg base fY ix f fd dO (dR K):=
 F.ok lQ (λvs H Q E h=>pQ h) λcdv A outer s H vs Q E hr h=>⟨_,so B c_p_stands c_p_without c_p_sets hr,sE T (E:=E) h⟩
theorem w4{vs:List V}{H:Hp}{Q:VK}{E:XK}(h:gR K vs H Q E):vs.length=gO.length:=by
 first|(obtain⟨_,_,_,rfl,_⟩:=h;rfl)
theorem yJ{f:Addr}{fd:FuncData}(F:lX K "pushed" "pushed" gs f fd)(B:gL mg) :eG P w K mg base fY lY f fd gO (gR K):=
 F.ok rE (λvs H Q E h=>w4 h) λcdv A outer s H vs Q E hr h=>⟨_,Ab B hr,AU (E:=E) h⟩
theorem yu{vs:List V}{H:Hp}{Q:VK}{E:XK}(h:iG K vs H Q E):vs.length=iB.length:=by
 first|(obtain⟨_,_,_,_,rfl,_⟩:=h;rfl)
theorem AF{f:Addr}{fd:FuncData}(F:lX K "begun" "begun" hU f fd)(B:gL mg)(c_p_pushed:aI P w K mg base "pushed" gO lY (gR K)):eG P w K mg base fY nN f fd iB (iG K):=
 F.ok uo (λvs H Q E h=>yu h) λcdv A outer s H vs Q E hr h=>⟨_,CK B c_p_pushed hr,DC (E:=E) h⟩
theorem Ay{vs:List V}{H:Hp}{Q:VK}{E:XK}(h:jv K vs H Q E):vs.length=jh.length:=by
 first|(obtain⟨_,_,_,_,rfl,_⟩:=h;rfl)
theorem Ds{f:Addr}{fd:FuncData}(F:lX K "seen" "seen" i5 f fd)(B:gL mg) :eG P w K mg base fY pC f fd jh (jv K):=
 F.ok vV (λvs H Q E h=>Ay h) λcdv A outer s H vs Q E hr h=>⟨_,Ex B hr,FR (E:=E) h⟩
theorem sA{vs:List V}{H:Hp}{Q:VK}{E:XK}(h:e9 K vs H Q E):vs.length=eY.length:=by
 first|(obtain⟨_,_,_,_,_,rfl,_⟩:=h;rfl)
theorem ue{f:Addr}{fd:FuncData}(F:lX K "args_belt" "args_belt" dX f fd)(B:gL mg)(T:qJ K)(c_p_begun:aI P w K mg base "begun" iB nN (iG K))(c_p_seen:aI P w K mg base "seen" jh pC (jv K)):eG P w K mg base fY jx f fd eY (e9 K):=
 F.ok nF (λvs H Q E h=>sA h) λcdv A outer s H vs Q E hr h=>⟨_,uW B c_p_begun c_p_seen hr,vc T (E:=E) h⟩
theorem u3{vs:List V}{H:Hp}{Q:VK}{E:XK}(h:gw K vs H Q E):vs.length=gi.length:=by
 first|(obtain⟨_,_,_,_,_,_,rfl,_⟩:=h;rfl)
theorem xi{f:Addr}{fd:FuncData}(F:lX K "lost_at" "lost_at" eR f fd)(B:gL mg)(T:qJ K)(c_p_args_belt:aI P w K mg base "args_belt" eY jx (e9 K)):eG P w K mg base fY kL f fd gi (gw K):=
 F.ok qc (λvs H Q E h=>u3 h) λcdv A outer s H vs Q E hr h=>⟨_,ya B c_p_args_belt hr,yT T (E:=E) h⟩
theorem sC{vs:List V}{H:Hp}{Q:VK}{E:XK}(h:fc K vs H Q E):vs.length=eZ.length:=by
 first|(obtain⟨_,_,_,_,_,_,rfl,_⟩:=h;rfl)
theorem uf{f:Addr}{fd:FuncData}(F:lX K "row_short" "row_short" dY f fd)(B:gL mg)(T:qJ K)(c_p_left_behind:aI P w K mg base "left_behind" dO ix (dR K))(c_p_lost_at:aI P w K mg base "lost_at" gi kL (gw K)):eG P w K mg base fY jz f fd eZ (fc K):=
 F.ok nG (λvs H Q E h=>sC h) λcdv A outer s H vs Q E hr h=>⟨_,uX B c_p_left_behind c_p_lost_at hr,vd T (E:=E) h⟩
theorem yy{vs:List V}{H:Hp}{Q:VK}{E:XK}(h:eE K vs H Q E):vs.length=iD.length:=by
 first|(obtain⟨_,_,_,_,_,_,rfl,_⟩:=h;rfl)
theorem AI{f:Addr}{fd:FuncData}(F:lX K "short" "short" hZ f fd)(B:gL mg)(T:qJ K)(mk_Outline:wB P w K mg base "Outline" (dc K "Outline") eB iV (eD K))(c_p_row_short:aI P w K mg base "row_short" eZ jz (fc K)):eG P w K mg base fY nQ f fd iD (eE K):=
 F.ok uu (λvs H Q E h=>yy h) λcdv A outer s H vs Q E hr h=>⟨_,CN B mk_Outline c_p_row_short hr,DF T (E:=E) h⟩
theorem Hv{vs:List V}{H:Hp}{Q:VK}{E:XK}(h:oZ K vs H Q E):vs.length=oQ.length:=by
 first|(obtain⟨_,_,_,_,_,_,_,_,_,_,rfl,_⟩:=h;rfl)
theorem J4{f:Addr}{fd:FuncData}(F:lX K "_law_why" "_law_why" nE f fd)(B:gL mg)(c_p_stands:aI P w K mg base "stands" cU eA (bW K)):eG P w K mg base fY Bp f fd oQ (oZ K):=
 F.ok Ge (λvs H Q E h=>Hv h) λcdv A outer s H vs Q E hr h=>⟨_,Lu B c_p_stands hr,L8 (E:=E) h⟩
theorem Hs{vs:List V}{H:Hp}{Q:VK}{E:XK}(h:lH K vs H Q E):vs.length=oP.length:=by
 first|(obtain⟨_,_,_,_,_,rfl,_⟩:=h;rfl)|(obtain⟨_,_,_,_,_,_,rfl,_⟩:=h;rfl)
theorem J2{f:Addr}{fd:FuncData}(F:lX K "_law_due" "_law_due" p9 f fd)(B:gL mg)(c_p_come_to:aI P w K mg base "come_to" df eO (cE K))(c_p_led_to:aI P w K mg base "led_to" fJ jd (eU K))(c_why:aI P w K mg base "_law_why" oQ Bp (oZ K))(c_p_wanted:aI P w K mg base "wanted" fK je (eV K)):eG P w K mg base fY Bn f fd oP (lH K):=
 F.ok Gc (λvs H Q E h=>Hs h) λcdv A outer s H vs Q E hr h=>⟨_,Lr B c_p_come_to c_p_led_to c_why c_p_wanted hr,L6 (E:=E) h⟩
theorem E4{vs:List V}{H:Hp}{Q:VK}{E:XK}(h:bY K vs H Q E):vs.length=fI.length:=by
 first|(obtain⟨_,_,_,rfl,_⟩:=h;rfl)
theorem HA{f:Addr}{fd:FuncData}(F:lX K "_law_draw" "_law_draw" my f fd)(B:gL mg) :eG P w K mg base fY iW f fd fI (bY K):=
 F.ok BR (λvs H Q E h=>E4 h) λcdv A outer s H vs Q E hr h=>⟨_,Jz B hr,KL (E:=E) h⟩
theorem Av{vs:List V}{H:Hp}{Q:VK}{E:XK}(h:jr K vs H Q E):vs.length=jf.length:=by
 first|(obtain⟨_,_,_,_,_,_,_,_,_,_,rfl,_⟩:=h;rfl)
theorem Dp{f:Addr}{fd:FuncData}(F:lX K "_law_filled" "_law_filled" iq f fd)(B:gL mg)(c_draw:aI P w K mg base "_law_draw" fI iW (bY K)):eG P w K mg base fY pA f fd jf (jr K):=
 F.ok vS (λvs H Q E h=>Av h) λcdv A outer s H vs Q E hr h=>⟨_,Et B c_draw hr,FO (E:=E) h⟩
theorem Dj{vs:List V}{H:Hp}{Q:VK}{E:XK}(h:kC K vs H Q E):vs.length=ky.length:=by
 first|(obtain⟨_,_,_,_,_,rfl,_⟩:=h;rfl)
theorem Fi{f:Addr}{fd:FuncData}(F:lX K "_law_leads" "_law_leads" j8 f fd)(B:gL mg) :eG P w K mg base fY sG f fd ky (kC K):=
 F.ok y0 (λvs H Q E h=>Dj h) λcdv A outer s H vs Q E hr h=>⟨_,G5 B hr,IF (E:=E) h⟩
theorem u6{vs:List V}{H:Hp}{Q:VK}{E:XK}(h:gz K vs H Q E):vs.length=gp.length:=by
 first|(obtain⟨_,_,_,_,_,_,_,_,rfl,_⟩:=h;rfl)
theorem xm{f:Addr}{fd:FuncData}(F:lX K "_law_set_names" "_law_set_names" d6 f fd)(B:gL mg)(c_leads:aI P w K mg base "_law_leads" ky sG (kC K)):eG P w K mg base fY kO f fd gp (gz K):=
 F.ok qf (λvs H Q E h=>u6 h) λcdv A outer s H vs Q E hr h=>⟨_,yd B c_leads hr,yW (E:=E) h⟩
theorem Aw{vs:List V}{H:Hp}{Q:VK}{E:XK}(h:jt K vs H Q E):vs.length=jg.length:=by
 first|(obtain⟨_,_,_,_,_,_,_,rfl,_⟩:=h;rfl)
theorem Dq{f:Addr}{fd:FuncData}(F:lX K "_law_mended" "_law_mended" iZ f fd)(B:gL mg) :eG P w K mg base fY pB f fd jg (jt K):=
 F.ok vT (λvs H Q E h=>Aw h) λcdv A outer s H vs Q E hr h=>⟨_,Eu B hr,FP (E:=E) h⟩
theorem Dl{vs:List V}{H:Hp}{Q:VK}{E:XK}(h:kD K vs H Q E):vs.length=kA.length:=by
 first|(obtain⟨_,_,rfl,_⟩:=h;rfl)
theorem Fk{f:Addr}{fd:FuncData}(F:lX K "_law_worth" "_law_worth" j9 f fd)(B:gL mg)(c_draw:aI P w K mg base "_law_draw" fI iW (bY K)):eG P w K mg base fY sI f fd kA (kD K):=
 F.ok y4 (λvs H Q E h=>Dl h) λcdv A outer s H vs Q E hr h=>⟨_,G8 B c_draw hr,IH (E:=E) h⟩
theorem u5{vs:List V}{H:Hp}{Q:VK}{E:XK}(h:gy K vs H Q E):vs.length=gm.length:=by
 first|(obtain⟨_,_,_,_,_,_,_,rfl,_⟩:=h;rfl)
theorem xk{f:Addr}{fd:FuncData}(F:lX K "_law_rough_row" "_law_rough_row" fN f fd)(B:gL mg)(c_draw:aI P w K mg base "_law_draw" fI iW (bY K))(c_worth:aI P w K mg base "_law_worth" kA sI (kD K)):eG P w K mg base fY kN f fd gm (gy K):=
 F.ok qe (λvs H Q E h=>u5 h) λcdv A outer s H vs Q E hr h=>⟨_,yc B c_draw c_worth hr,yV (E:=E) h⟩
theorem E8{vs:List V}{H:Hp}{Q:VK}{E:XK}(h:mE K vs H Q E):vs.length=mf.length:=by
 first|(obtain⟨_,_,_,_,_,_,_,_,_,_,rfl,_⟩:=h;rfl)
theorem HG{f:Addr}{fd:FuncData}(F:lX K "_law_part" "_law_part" lG f fd)(B:gL mg)(c_filled:aI P w K mg base "_law_filled" jf pA (jr K))(c_set_names:aI P w K mg base "_law_set_names" gp kO (gz K))(c_mended:aI P w K mg base "_law_mended" jg pB (jt K))(c_rough_row:aI P w K mg base "_law_rough_row" gm kN (gy K))(c_draw:aI P w K mg base "_law_draw" fI iW (bY K)):eG P w K mg base fY wA f fd mf (mE K):=
 F.ok BW (λvs H Q E h=>E8 h) λcdv A outer s H vs Q E hr h=>⟨_,JD B c_filled c_set_names c_mended c_rough_row c_draw hr,KP (E:=E) h⟩
theorem Dk{vs:List V}{H:Hp}{Q:VK}{E:XK}(h:jL K vs H Q E):vs.length=kz.length:=by
 first|(obtain⟨_,_,_,rfl,_⟩:=h;rfl)
theorem Fj{f:Addr}{fd:FuncData}(F:lX K "_law_names" "_law_names" jD f fd)(B:gL mg)(c_draw:aI P w K mg base "_law_draw" fI iW (bY K)):eG P w K mg base fY sH f fd kz (jL K):=
 F.ok y3 (λvs H Q E h=>Dk h) λcdv A outer s H vs Q E hr h=>⟨_,G6 B c_draw hr,IG (E:=E) h⟩
theorem yz{vs:List V}{H:Hp}{Q:VK}{E:XK}(h:iI K vs H Q E):vs.length=iE.length:=by
 first|(obtain⟨_,_,_,rfl,_⟩:=h;rfl)
theorem AJ{f:Addr}{fd:FuncData}(F:lX K "_law_program" "_law_program" gG f fd)(B:gL mg)(c_part:aI P w K mg base "_law_part" mf wA (mE K))(c_draw:aI P w K mg base "_law_draw" fI iW (bY K))(c_names:aI P w K mg base "_law_names" kz sH (jL K)):eG P w K mg base fY nR f fd iE (iI K):=
 F.ok uv (λvs H Q E h=>yz h) λcdv A outer s H vs Q E hr h=>⟨_,CO B c_part c_draw c_names hr,DG (E:=E) h⟩
theorem Ht{vs:List V}{H:Hp}{Q:VK}{E:XK}(h:sp_law K vs H Q E):vs.length=tw.length:=by
 first|(obtain⟨_,_,rfl,_⟩:=h;rfl)
theorem J3{f:Addr}{fd:FuncData}(F:lX K "law" "law" mP f fd)(B:gL mg)(c_p_short:aI P w K mg base "short" iD nQ (eE K))(c_due:aI P w K mg base "_law_due" oP Bn (lH K))(c_program:aI P w K mg base "_law_program" iE nR (iI K)):eG P w K mg base fY Bo f fd tw (sp_law K):=
 F.ok Gd (λvs H Q E h=>Ht h) λcdv A outer s H vs Q E hr h=>⟨_,Ls B c_p_short c_due c_program hr,L7 (E:=E) h⟩
end
theorem all_mk{l:PySem.W.OpenLaw}{w:World}{K:Fg}{h:Heap}{mg:Str->Option Value}{fa:Addr}(X:K.In h)(G:h.Ns mainGlobals mg)(hfa:mg "law"=some (.ref fa))
  {C_Outline:Addr} (zc_Outline:aG K mainGlobals "Outline"=some (some (.ref C_Outline))) (pg_Outline:jc K C_Outline Str.empty=true) (hd_Outline:iU K C_Outline=true) (po_Outline:kJ K C_Outline=true) (sa_Outline:cz K (.ref C_Outline) "__setattr__"=some (some (.builtin "object.__setattr__"))) (ma_Outline:mL K C_Outline=true) (kp_Outline:aK K (.ref C_Outline)=true)
  (no_0:cz K (.ref C_Outline) "params"=some none)
  (no_1:cz K (.ref C_Outline) "rows"=some none)
  (no_2:cz K (.ref C_Outline) "wants"=some none)
  (no_3:cz K (.ref C_Outline) "first"=some none)
  (no_4:cz K (.ref C_Outline) "led"=some none)
  (no_5:cz K (.ref C_Outline) "heads"=some none)
  {od0 an0:Option Addr} {sl0:Array (Option Value)} {oc0 kV0 dc0 pm0 cd0 ct0:Value} {f0:Addr}
  (a0:aG K mainGlobals "as_keys"=some (some (.ref f0)))
  (l0:K.lookup f0=some ⟨oc0,od0,.func (aR "as_keys" "as_keys" (bT eP) (aW eP) (ao eP) .none kV0 dc0 pm0 an0 cd0 ct0),sl0⟩) (c0:aO K cd0 "as_keys"=true) (k0:aK K (.ref f0)=true)
  {od1 an1:Option Addr} {sl1:Array (Option Value)} {oc1 kV1 dc1 pm1 cd1 ct1:Value} {f1:Addr}
  (a1:aG K mainGlobals "sets"=some (some (.ref f1)))
  (l1:K.lookup f1=some ⟨oc1,od1,.func (aR "sets" "sets" (bT i6) (aW i6) (ao i6) .none kV1 dc1 pm1 an1 cd1 ct1),sl1⟩) (c1:aO K cd1 "sets"=true) (k1:aK K (.ref f1)=true)
  {od2 an2:Option Addr} {sl2:Array (Option Value)} {oc2 kV2 dc2 pm2 cd2 ct2:Value} {f2:Addr}
  (a2:aG K mainGlobals "goal"=some (some (.ref f2)))
  (l2:K.lookup f2=some ⟨oc2,od2,.func (aR "goal" "goal" (bT i4) (aW i4) (ao i4) .none kV2 dc2 pm2 an2 cd2 ct2),sl2⟩) (c2:aO K cd2 "goal"=true) (k2:aK K (.ref f2)=true)
  {od3 an3:Option Addr} {sl3:Array (Option Value)} {oc3 kV3 dc3 pm3 cd3 ct3:Value} {f3:Addr}
  (a3:aG K mainGlobals "leads"=some (some (.ref f3)))
  (l3:K.lookup f3=some ⟨oc3,od3,.func (aR "leads" "leads" (bT hV) (aW hV) (ao hV) .none kV3 dc3 pm3 an3 cd3 ct3),sl3⟩) (c3:aO K cd3 "leads"=true) (k3:aK K (.ref f3)=true)
  {od4 an4:Option Addr} {sl4:Array (Option Value)} {oc4 kV4 dc4 pm4 cd4 ct4:Value} {f4:Addr}
  {T4:Addr} {ocT4:Value} {odT4:Option Addr} {nT4:Nat} {slT4:Array (Option Value)}
  (a4:aG K mainGlobals "walked"=some (some (.ref f4)))
  (l4:K.lookup f4=some ⟨oc4,od4,.func (aR "walked" "walked" (bT eC) (aW eC) (ao eC) (.ref T4) kV4 dc4 pm4 an4 cd4 ct4),sl4⟩) (c4:aO K cd4 "walked"=true) (k4:aK K (.ref f4)=true)
  (t4:K.lookup T4=some ⟨ocT4,odT4,.seq #[Value.none] nT4,slT4⟩)
  {od5 an5:Option Addr} {sl5:Array (Option Value)} {oc5 kV5 dc5 pm5 cd5 ct5:Value} {f5:Addr}
  (a5:aG K mainGlobals "come_to"=some (some (.ref f5)))
  (l5:K.lookup f5=some ⟨oc5,od5,.func (aR "come_to" "come_to" (bT eQ) (aW eQ) (ao eQ) .none kV5 dc5 pm5 an5 cd5 ct5),sl5⟩) (c5:aO K cd5 "come_to"=true) (k5:aK K (.ref f5)=true)
  {od6 an6:Option Addr} {sl6:Array (Option Value)} {oc6 kV6 dc6 pm6 cd6 ct6:Value} {f6:Addr}
  (a6:aG K mainGlobals "stands"=some (some (.ref f6)))
  (l6:K.lookup f6=some ⟨oc6,od6,.func (aR "stands" "stands" (bT gu) (aW gu) (ao gu) .none kV6 dc6 pm6 an6 cd6 ct6),sl6⟩) (c6:aO K cd6 "stands"=true) (k6:aK K (.ref f6)=true)
  {od7 an7:Option Addr} {sl7:Array (Option Value)} {oc7 kV7 dc7 pm7 cd7 ct7:Value} {f7:Addr}
  (a7:aG K mainGlobals "led_to"=some (some (.ref f7)))
  (l7:K.lookup f7=some ⟨oc7,od7,.func (aR "led_to" "led_to" (bT gr) (aW gr) (ao gr) .none kV7 dc7 pm7 an7 cd7 ct7),sl7⟩) (c7:aO K cd7 "led_to"=true) (k7:aK K (.ref f7)=true)
  {od8 an8:Option Addr} {sl8:Array (Option Value)} {oc8 kV8 dc8 pm8 cd8 ct8:Value} {f8:Addr}
  (a8:aG K mainGlobals "rows_wanting"=some (some (.ref f8)))
  (l8:K.lookup f8=some ⟨oc8,od8,.func (aR "rows_wanting" "rows_wanting" (bT lF) (aW lF) (ao lF) .none kV8 dc8 pm8 an8 cd8 ct8),sl8⟩) (c8:aO K cd8 "rows_wanting"=true) (k8:aK K (.ref f8)=true)
  {od9 an9:Option Addr} {sl9:Array (Option Value)} {oc9 kV9 dc9 pm9 cd9 ct9:Value} {f9:Addr}
  (a9:aG K mainGlobals "reads"=some (some (.ref f9)))
  (l9:K.lookup f9=some ⟨oc9,od9,.func (aR "reads" "reads" (bT hW) (aW hW) (ao hW) .none kV9 dc9 pm9 an9 cd9 ct9),sl9⟩) (c9:aO K cd9 "reads"=true) (k9:aK K (.ref f9)=true)
  {od10 an10:Option Addr} {sl10:Array (Option Value)} {oc10 kV10 dc10 pm10 cd10 ct10:Value} {f10:Addr}
  (a10:aG K mainGlobals "rows_that_read"=some (some (.ref f10)))
  (l10:K.lookup f10=some ⟨oc10,od10,.func (aR "rows_that_read" "rows_that_read" (bT mz) (aW mz) (ao mz) .none kV10 dc10 pm10 an10 cd10 ct10),sl10⟩) (c10:aO K cd10 "rows_that_read"=true) (k10:aK K (.ref f10)=true)
  {od11 an11:Option Addr} {sl11:Array (Option Value)} {oc11 kV11 dc11 pm11 cd11 ct11:Value} {f11:Addr}
  (a11:aG K mainGlobals "rows_ahead"=some (some (.ref f11)))
  (l11:K.lookup f11=some ⟨oc11,od11,.func (aR "rows_ahead" "rows_ahead" (bT lE) (aW lE) (ao lE) .none kV11 dc11 pm11 an11 cd11 ct11),sl11⟩) (c11:aO K cd11 "rows_ahead"=true) (k11:aK K (.ref f11)=true)
  {od12 an12:Option Addr} {sl12:Array (Option Value)} {oc12 kV12 dc12 pm12 cd12 ct12:Value} {f12:Addr}
  (a12:aG K mainGlobals "wanted"=some (some (.ref f12)))
  (l12:K.lookup f12=some ⟨oc12,od12,.func (aR "wanted" "wanted" (bT e8) (aW e8) (ao e8) .none kV12 dc12 pm12 an12 cd12 ct12),sl12⟩) (c12:aO K cd12 "wanted"=true) (k12:aK K (.ref f12)=true)
  {od13 an13:Option Addr} {sl13:Array (Option Value)} {oc13 kV13 dc13 pm13 cd13 ct13:Value} {f13:Addr}
  (a13:cz K (.ref C_Outline) "__init__"=some (some (.ref f13)))
  (l13:K.lookup f13=some ⟨oc13,od13,.func (aR "__init__" "Outline.__init__" (bT dB) (aW dB) (ao dB) .none kV13 dc13 pm13 an13 cd13 ct13),sl13⟩) (c13:aO K cd13 "Outline.__init__"=true) (k13:aK K (.ref f13)=true)
  (i13:PySem.W.isFn K (.ref f13)=true)
  {od14 an14:Option Addr} {sl14:Array (Option Value)} {oc14 kV14 dc14 pm14 cd14 ct14:Value} {f14:Addr}
  (a14:aG K mainGlobals "without"=some (some (.ref f14)))
  (l14:K.lookup f14=some ⟨oc14,od14,.func (aR "without" "without" (bT eT) (aW eT) (ao eT) .none kV14 dc14 pm14 an14 cd14 ct14),sl14⟩) (c14:aO K cd14 "without"=true) (k14:aK K (.ref f14)=true)
  {od15 an15:Option Addr} {sl15:Array (Option Value)} {oc15 kV15 dc15 pm15 cd15 ct15:Value} {f15:Addr}
  (a15:aG K mainGlobals "left_behind"=some (some (.ref f15)))
  (l15:K.lookup f15=some ⟨oc15,od15,.func (aR "left_behind" "left_behind" (bT dr) (aW dr) (ao dr) .none kV15 dc15 pm15 an15 cd15 ct15),sl15⟩) (c15:aO K cd15 "left_behind"=true) (k15:aK K (.ref f15)=true)
  {od16 an16:Option Addr} {sl16:Array (Option Value)} {oc16 kV16 dc16 pm16 cd16 ct16:Value} {f16:Addr}
  (a16:aG K mainGlobals "pushed"=some (some (.ref f16)))
  (l16:K.lookup f16=some ⟨oc16,od16,.func (aR "pushed" "pushed" (bT gs) (aW gs) (ao gs) .none kV16 dc16 pm16 an16 cd16 ct16),sl16⟩) (c16:aO K cd16 "pushed"=true) (k16:aK K (.ref f16)=true)
  {od17 an17:Option Addr} {sl17:Array (Option Value)} {oc17 kV17 dc17 pm17 cd17 ct17:Value} {f17:Addr}
  (a17:aG K mainGlobals "begun"=some (some (.ref f17)))
  (l17:K.lookup f17=some ⟨oc17,od17,.func (aR "begun" "begun" (bT hU) (aW hU) (ao hU) .none kV17 dc17 pm17 an17 cd17 ct17),sl17⟩) (c17:aO K cd17 "begun"=true) (k17:aK K (.ref f17)=true)
  {od18 an18:Option Addr} {sl18:Array (Option Value)} {oc18 kV18 dc18 pm18 cd18 ct18:Value} {f18:Addr}
  (a18:aG K mainGlobals "seen"=some (some (.ref f18)))
  (l18:K.lookup f18=some ⟨oc18,od18,.func (aR "seen" "seen" (bT i5) (aW i5) (ao i5) .none kV18 dc18 pm18 an18 cd18 ct18),sl18⟩) (c18:aO K cd18 "seen"=true) (k18:aK K (.ref f18)=true)
  {od19 an19:Option Addr} {sl19:Array (Option Value)} {oc19 kV19 dc19 pm19 cd19 ct19:Value} {f19:Addr}
  (a19:aG K mainGlobals "args_belt"=some (some (.ref f19)))
  (l19:K.lookup f19=some ⟨oc19,od19,.func (aR "args_belt" "args_belt" (bT dX) (aW dX) (ao dX) .none kV19 dc19 pm19 an19 cd19 ct19),sl19⟩) (c19:aO K cd19 "args_belt"=true) (k19:aK K (.ref f19)=true)
  {od20 an20:Option Addr} {sl20:Array (Option Value)} {oc20 kV20 dc20 pm20 cd20 ct20:Value} {f20:Addr}
  (a20:aG K mainGlobals "lost_at"=some (some (.ref f20)))
  (l20:K.lookup f20=some ⟨oc20,od20,.func (aR "lost_at" "lost_at" (bT eR) (aW eR) (ao eR) .none kV20 dc20 pm20 an20 cd20 ct20),sl20⟩) (c20:aO K cd20 "lost_at"=true) (k20:aK K (.ref f20)=true)
  {od21 an21:Option Addr} {sl21:Array (Option Value)} {oc21 kV21 dc21 pm21 cd21 ct21:Value} {f21:Addr}
  (a21:aG K mainGlobals "row_short"=some (some (.ref f21)))
  (l21:K.lookup f21=some ⟨oc21,od21,.func (aR "row_short" "row_short" (bT dY) (aW dY) (ao dY) .none kV21 dc21 pm21 an21 cd21 ct21),sl21⟩) (c21:aO K cd21 "row_short"=true) (k21:aK K (.ref f21)=true)
  {od22 an22:Option Addr} {sl22:Array (Option Value)} {oc22 kV22 dc22 pm22 cd22 ct22:Value} {f22:Addr}
  (a22:aG K mainGlobals "short"=some (some (.ref f22)))
  (l22:K.lookup f22=some ⟨oc22,od22,.func (aR "short" "short" (bT hZ) (aW hZ) (ao hZ) .none kV22 dc22 pm22 an22 cd22 ct22),sl22⟩) (c22:aO K cd22 "short"=true) (k22:aK K (.ref f22)=true)
  {od23 an23:Option Addr} {sl23:Array (Option Value)} {oc23 kV23 dc23 pm23 cd23 ct23:Value} {f23:Addr}
  (a23:aG K mainGlobals "_law_why"=some (some (.ref f23)))
  (l23:K.lookup f23=some ⟨oc23,od23,.func (aR "_law_why" "_law_why" (bT nE) (aW nE) (ao nE) .none kV23 dc23 pm23 an23 cd23 ct23),sl23⟩) (c23:aO K cd23 "_law_why"=true) (k23:aK K (.ref f23)=true)
  {od24 an24:Option Addr} {sl24:Array (Option Value)} {oc24 kV24 dc24 pm24 cd24 ct24:Value} {f24:Addr}
  (a24:aG K mainGlobals "_law_due"=some (some (.ref f24)))
  (l24:K.lookup f24=some ⟨oc24,od24,.func (aR "_law_due" "_law_due" (bT p9) (aW p9) (ao p9) .none kV24 dc24 pm24 an24 cd24 ct24),sl24⟩) (c24:aO K cd24 "_law_due"=true) (k24:aK K (.ref f24)=true)
  {od25 an25:Option Addr} {sl25:Array (Option Value)} {oc25 kV25 dc25 pm25 cd25 ct25:Value} {f25:Addr}
  (a25:aG K mainGlobals "_law_draw"=some (some (.ref f25)))
  (l25:K.lookup f25=some ⟨oc25,od25,.func (aR "_law_draw" "_law_draw" (bT my) (aW my) (ao my) .none kV25 dc25 pm25 an25 cd25 ct25),sl25⟩) (c25:aO K cd25 "_law_draw"=true) (k25:aK K (.ref f25)=true)
  {od26 an26:Option Addr} {sl26:Array (Option Value)} {oc26 kV26 dc26 pm26 cd26 ct26:Value} {f26:Addr}
  (a26:aG K mainGlobals "_law_filled"=some (some (.ref f26)))
  (l26:K.lookup f26=some ⟨oc26,od26,.func (aR "_law_filled" "_law_filled" (bT iq) (aW iq) (ao iq) .none kV26 dc26 pm26 an26 cd26 ct26),sl26⟩) (c26:aO K cd26 "_law_filled"=true) (k26:aK K (.ref f26)=true)
  {od27 an27:Option Addr} {sl27:Array (Option Value)} {oc27 kV27 dc27 pm27 cd27 ct27:Value} {f27:Addr}
  (a27:aG K mainGlobals "_law_leads"=some (some (.ref f27)))
  (l27:K.lookup f27=some ⟨oc27,od27,.func (aR "_law_leads" "_law_leads" (bT j8) (aW j8) (ao j8) .none kV27 dc27 pm27 an27 cd27 ct27),sl27⟩) (c27:aO K cd27 "_law_leads"=true) (k27:aK K (.ref f27)=true)
  {od28 an28:Option Addr} {sl28:Array (Option Value)} {oc28 kV28 dc28 pm28 cd28 ct28:Value} {f28:Addr}
  (a28:aG K mainGlobals "_law_set_names"=some (some (.ref f28)))
  (l28:K.lookup f28=some ⟨oc28,od28,.func (aR "_law_set_names" "_law_set_names" (bT d6) (aW d6) (ao d6) .none kV28 dc28 pm28 an28 cd28 ct28),sl28⟩) (c28:aO K cd28 "_law_set_names"=true) (k28:aK K (.ref f28)=true)
  {od29 an29:Option Addr} {sl29:Array (Option Value)} {oc29 kV29 dc29 pm29 cd29 ct29:Value} {f29:Addr}
  (a29:aG K mainGlobals "_law_mended"=some (some (.ref f29)))
  (l29:K.lookup f29=some ⟨oc29,od29,.func (aR "_law_mended" "_law_mended" (bT iZ) (aW iZ) (ao iZ) .none kV29 dc29 pm29 an29 cd29 ct29),sl29⟩) (c29:aO K cd29 "_law_mended"=true) (k29:aK K (.ref f29)=true)
  {od30 an30:Option Addr} {sl30:Array (Option Value)} {oc30 kV30 dc30 pm30 cd30 ct30:Value} {f30:Addr}
  (a30:aG K mainGlobals "_law_worth"=some (some (.ref f30)))
  (l30:K.lookup f30=some ⟨oc30,od30,.func (aR "_law_worth" "_law_worth" (bT j9) (aW j9) (ao j9) .none kV30 dc30 pm30 an30 cd30 ct30),sl30⟩) (c30:aO K cd30 "_law_worth"=true) (k30:aK K (.ref f30)=true)
  {od31 an31:Option Addr} {sl31:Array (Option Value)} {oc31 kV31 dc31 pm31 cd31 ct31:Value} {f31:Addr}
  (a31:aG K mainGlobals "_law_rough_row"=some (some (.ref f31)))
  (l31:K.lookup f31=some ⟨oc31,od31,.func (aR "_law_rough_row" "_law_rough_row" (bT fN) (aW fN) (ao fN) .none kV31 dc31 pm31 an31 cd31 ct31),sl31⟩) (c31:aO K cd31 "_law_rough_row"=true) (k31:aK K (.ref f31)=true)
  {od32 an32:Option Addr} {sl32:Array (Option Value)} {oc32 kV32 dc32 pm32 cd32 ct32:Value} {f32:Addr}
  (a32:aG K mainGlobals "_law_part"=some (some (.ref f32)))
  (l32:K.lookup f32=some ⟨oc32,od32,.func (aR "_law_part" "_law_part" (bT lG) (aW lG) (ao lG) .none kV32 dc32 pm32 an32 cd32 ct32),sl32⟩) (c32:aO K cd32 "_law_part"=true) (k32:aK K (.ref f32)=true)
  {od33 an33:Option Addr} {sl33:Array (Option Value)} {oc33 kV33 dc33 pm33 cd33 ct33:Value} {f33:Addr}
  (a33:aG K mainGlobals "_law_names"=some (some (.ref f33)))
  (l33:K.lookup f33=some ⟨oc33,od33,.func (aR "_law_names" "_law_names" (bT jD) (aW jD) (ao jD) .none kV33 dc33 pm33 an33 cd33 ct33),sl33⟩) (c33:aO K cd33 "_law_names"=true) (k33:aK K (.ref f33)=true)
  {od34 an34:Option Addr} {sl34:Array (Option Value)} {oc34 kV34 dc34 pm34 cd34 ct34:Value} {f34:Addr}
  (a34:aG K mainGlobals "_law_program"=some (some (.ref f34)))
  (l34:K.lookup f34=some ⟨oc34,od34,.func (aR "_law_program" "_law_program" (bT gG) (aW gG) (ao gG) .none kV34 dc34 pm34 an34 cd34 ct34),sl34⟩) (c34:aO K cd34 "_law_program"=true) (k34:aK K (.ref f34)=true)
  {od35 an35:Option Addr} {sl35:Array (Option Value)} {oc35 kV35 dc35 pm35 cd35 ct35:Value} {f35:Addr}
  (a35:aG K mainGlobals "law"=some (some (.ref f35)))
  (l35:K.lookup f35=some ⟨oc35,od35,.func (aR "law" "law" (bT mP) (aW mP) (ao mP) .none kV35 dc35 pm35 an35 cd35 ct35),sl35⟩) (c35:aO K cd35 "law"=true) (k35:aK K (.ref f35)=true)
  (z_len:aG K mainGlobals "len"=some none) (z_range:aG K mainGlobals "range"=some none) (z_divmod:aG K mainGlobals "divmod"=some none) (z_max:aG K mainGlobals "max"=some none) (z_min:aG K mainGlobals "min"=some none) (z_sum:aG K mainGlobals "sum"=some none) (z_all:aG K mainGlobals "all"=some none) (z_isinstance:aG K mainGlobals "isinstance"=some none) (z_int:aG K mainGlobals "int"=some none) (z_bool:aG K mainGlobals "bool"=some none) (z_list:aG K mainGlobals "list"=some none) (z_tuple:aG K mainGlobals "tuple"=some none) (z_enumerate:aG K mainGlobals "enumerate"=some none) (z_zip:aG K mainGlobals "zip"=some none) (z_sorted:aG K mainGlobals "sorted"=some none) (z_set:aG K mainGlobals "set"=some none) (z_dict:aG K mainGlobals "dict"=some none) (z_str:aG K mainGlobals "str"=some none) (z_any:aG K mainGlobals "any"=some none) (z_reversed:aG K mainGlobals "reversed"=some none) (z_abs:aG K mainGlobals "abs"=some none) :
  ∃fd:FuncData,(∀(s:Shared) (v:Value),BindsTo s fd ⟨[v],[]⟩ [("_law_script",v)])/\∀base:Heap,K.In base->base.Ns mainGlobals mg->eG l.prog w K mg base fY Bo fa fd tw (sp_law K):=by
 have e:=hfa.symm.trans (aY X G a35)
 cases e
 have B:gL mg:=⟨bp X G z_len,bp X G z_range,bp X G z_divmod,bp X G z_max,bp X G z_min,bp X G z_sum,bp X G z_all,bp X G z_isinstance,bp X G z_int,bp X G z_bool,bp X G z_list,bp X G z_tuple,bp X G z_enumerate,bp X G z_zip,bp X G z_sorted,bp X G z_set,bp X G z_dict,bp X G z_str,bp X G z_any,bp X G z_reversed,bp X G z_abs⟩
 have eC_Outline:dc K "Outline"=C_Outline:=Ep zc_Outline
 have cl_Outline:Jb K (dc K "Outline"):=by rw[eC_Outline];exact⟨pg_Outline,hd_Outline,po_Outline,sa_Outline⟩
 have T:qJ K:=⟨cl_Outline,(by rw[eC_Outline];exact no_0),(by rw[eC_Outline];exact no_1),(by rw[eC_Outline];exact no_2),(by rw[eC_Outline];exact no_3),(by rw[eC_Outline];exact no_4),(by rw[eC_Outline];exact no_5)⟩
 have F0:=cW (st:=eP) l0 c0 k0
 have b0:=F0.binds (ps:=gf) λ_ _ _ _ _ _ us hl=>by(obtain⟨_,rfl⟩:=E1 (us:=us) hl);rfl
 have F1:=cW (st:=i6) l1 c1 k1
 have b1:=F1.binds (ps:=gb) λ_ _ _ _ _ _ us hl=>by(obtain⟨_,rfl⟩:=E1 (us:=us) hl);rfl
 have F2:=cW (st:=i4) l2 c2 k2
 have b2:=F2.binds (ps:=fZ) λ_ _ _ _ _ _ us hl=>by(obtain⟨_,rfl⟩:=E1 (us:=us) hl);rfl
 have F3:=cW (st:=hV) l3 c3 k3
 have b3:=F3.binds (ps:=gh) λ_ _ _ _ _ _ us hl=>by(obtain⟨_,_,rfl⟩:=BI (us:=us) hl);rfl
 have F4:=Hi (st:=eC) l4 c4 k4
 have F5:=cW (st:=eQ) l5 c5 k5
 have b5:=F5.binds (ps:=df) λ_ _ _ _ _ _ us hl=>by(obtain⟨_,rfl⟩:=E1 (us:=us) hl);rfl
 have F6:=cW (st:=gu) l6 c6 k6
 have b6:=F6.binds (ps:=cU) λ_ _ _ _ _ _ us hl=>by(obtain⟨_,_,rfl⟩:=BI (us:=us) hl);rfl
 have F7:=cW (st:=gr) l7 c7 k7
 have b7:=F7.binds (ps:=fJ) λ_ _ _ _ _ _ us hl=>by(obtain⟨_,rfl⟩:=E1 (us:=us) hl);rfl
 have F8:=cW (st:=lF) l8 c8 k8
 have b8:=F8.binds (ps:=me) λ_ _ _ _ _ _ us hl=>by(obtain⟨_,_,_,_,rfl⟩:=ML (us:=us) hl);rfl
 have F9:=cW (st:=hW) l9 c9 k9
 have b9:=F9.binds (ps:=iC) λ_ _ _ _ _ _ us hl=>by(obtain⟨_,rfl⟩:=E1 (us:=us) hl);rfl
 have F10:=cW (st:=mz) l10 c10 k10
 have b10:=F10.binds (ps:=md) λ_ _ _ _ _ _ us hl=>by(obtain⟨_,rfl⟩:=E1 (us:=us) hl);rfl
 have F11:=cW (st:=lE) l11 c11 k11
 have b11:=F11.binds (ps:=ma) λ_ _ _ _ _ _ us hl=>by(obtain⟨_,rfl⟩:=E1 (us:=us) hl);rfl
 have F12:=cW (st:=e8) l12 c12 k12
 have b12:=F12.binds (ps:=fK) λ_ _ _ _ _ _ us hl=>by(obtain⟨_,rfl⟩:=E1 (us:=us) hl);rfl
 have F13:=cW (st:=dB) l13 c13 k13
 have b13:=F13.binds (ps:=eB) λ_ _ _ _ _ _ us hl=>by(obtain⟨_,_,rfl⟩:=BI (us:=us) hl);rfl
 have F14:=cW (st:=eT) l14 c14 k14
 have b14:=F14.binds (ps:=gk) λ_ _ _ _ _ _ us hl=>by(obtain⟨_,_,rfl⟩:=BI (us:=us) hl);rfl
 have F15:=cW (st:=dr) l15 c15 k15
 have b15:=F15.binds (ps:=dO) λ_ _ _ _ _ _ us hl=>by(obtain⟨_,_,rfl⟩:=BI (us:=us) hl);rfl
 have F16:=cW (st:=gs) l16 c16 k16
 have b16:=F16.binds (ps:=gO) λ_ _ _ _ _ _ us hl=>by(obtain⟨_,_,rfl⟩:=BI (us:=us) hl);rfl
 have F17:=cW (st:=hU) l17 c17 k17
 have b17:=F17.binds (ps:=iB) λ_ _ _ _ _ _ us hl=>by(obtain⟨_,_,_,rfl⟩:=Lb (us:=us) hl);rfl
 have F18:=cW (st:=i5) l18 c18 k18
 have b18:=F18.binds (ps:=jh) λ_ _ _ _ _ _ us hl=>by(obtain⟨_,_,rfl⟩:=BI (us:=us) hl);rfl
 have F19:=cW (st:=dX) l19 c19 k19
 have b19:=F19.binds (ps:=eY) λ_ _ _ _ _ _ us hl=>by(obtain⟨_,_,rfl⟩:=BI (us:=us) hl);rfl
 have F20:=cW (st:=eR) l20 c20 k20
 have b20:=F20.binds (ps:=gi) λ_ _ _ _ _ _ us hl=>by(obtain⟨_,_,_,rfl⟩:=Lb (us:=us) hl);rfl
 have F21:=cW (st:=dY) l21 c21 k21
 have b21:=F21.binds (ps:=eZ) λ_ _ _ _ _ _ us hl=>by(obtain⟨_,_,_,rfl⟩:=Lb (us:=us) hl);rfl
 have F22:=cW (st:=hZ) l22 c22 k22
 have b22:=F22.binds (ps:=iD) λ_ _ _ _ _ _ us hl=>by(obtain⟨_,_,rfl⟩:=BI (us:=us) hl);rfl
 have F23:=cW (st:=nE) l23 c23 k23
 have b23:=F23.binds (ps:=oQ) λ_ _ _ _ _ _ us hl=>by(obtain⟨_,_,_,_,_,rfl⟩:=MY (us:=us) hl);rfl
 have F24:=cW (st:=p9) l24 c24 k24
 have b24:=F24.binds (ps:=oP) λ_ _ _ _ _ _ us hl=>by(obtain⟨_,_,rfl⟩:=BI (us:=us) hl);rfl
 have F25:=cW (st:=my) l25 c25 k25
 have b25:=F25.binds (ps:=fI) λ_ _ _ _ _ _ us hl=>by(obtain⟨_,_,rfl⟩:=BI (us:=us) hl);rfl
 have F26:=cW (st:=iq) l26 c26 k26
 have b26:=F26.binds (ps:=jf) λ_ _ _ _ _ _ us hl=>by(obtain⟨_,_,_,rfl⟩:=Lb (us:=us) hl);rfl
 have F27:=cW (st:=j8) l27 c27 k27
 have b27:=F27.binds (ps:=ky) λ_ _ _ _ _ _ us hl=>by(obtain⟨_,_,rfl⟩:=BI (us:=us) hl);rfl
 have F28:=cW (st:=d6) l28 c28 k28
 have b28:=F28.binds (ps:=gp) λ_ _ _ _ _ _ us hl=>by(obtain⟨_,_,_,rfl⟩:=Lb (us:=us) hl);rfl
 have F29:=cW (st:=iZ) l29 c29 k29
 have b29:=F29.binds (ps:=jg) λ_ _ _ _ _ _ us hl=>by(obtain⟨_,_,_,rfl⟩:=Lb (us:=us) hl);rfl
 have F30:=cW (st:=j9) l30 c30 k30
 have b30:=F30.binds (ps:=kA) λ_ _ _ _ _ _ us hl=>by(obtain⟨_,rfl⟩:=E1 (us:=us) hl);rfl
 have F31:=cW (st:=fN) l31 c31 k31
 have b31:=F31.binds (ps:=gm) λ_ _ _ _ _ _ us hl=>by(obtain⟨_,_,_,_,rfl⟩:=ML (us:=us) hl);rfl
 have F32:=cW (st:=lG) l32 c32 k32
 have b32:=F32.binds (ps:=mf) λ_ _ _ _ _ _ us hl=>by(obtain⟨_,_,_,_,_,_,rfl⟩:=MZ (us:=us) hl);rfl
 have F33:=cW (st:=jD) l33 c33 k33
 have b33:=F33.binds (ps:=kz) λ_ _ _ _ _ _ us hl=>by(obtain⟨_,_,rfl⟩:=BI (us:=us) hl);rfl
 have F34:=cW (st:=gG) l34 c34 k34
 have b34:=F34.binds (ps:=iE) λ_ _ _ _ _ _ us hl=>by(obtain⟨_,_,rfl⟩:=BI (us:=us) hl);rfl
 have F35:=cW (st:=mP) l35 c35 k35
 refine⟨aR "law" "law" (bT mP) (aW mP) (ao mP) .none kV35 dc35 pm35 an35 cd35 ct35,λs v=>.of_eq rfl,λbase _ _=>?_⟩
 have c_p_as_keys:aI l.prog w K mg base "as_keys" gf kK (fO K):=⟨⟨_,_,aY X G a0,k0,b0,xg F0 B⟩⟩
 have c_p_sets:aI l.prog w K mg base "sets" gb jH (eX K):=⟨⟨_,_,aY X G a1,k1,b1,Dt F1 B⟩⟩
 have c_p_goal:aI l.prog w K mg base "goal" fZ jG (d9 K):=⟨⟨_,_,aY X G a2,k2,b2,Dr F2 B⟩⟩
 have c_p_leads:aI l.prog w K mg base "leads" gh ke (fb K):=⟨⟨_,_,aY X G a3,k3,b3,AG F3 B c_p_goal⟩⟩
 have b4_1:nc K _ gP [Value.none]:=λs us X hl=>by(obtain⟨_,rfl⟩:=E1 (us:=us) (show us.length=1 from by rw[ay] at hl;exact Nat.succ.inj hl));exact PySem.W.binds_K (fd:=aR "walked" "walked" (bT eC) (aW eC) (ao eC) (.ref T4) kV4 dc4 pm4 an4 cd4 ct4) X rfl t4 rfl rfl rfl
 have c_p_walked_d1:pz l.prog w K mg base "walked" gP lZ [.non] (gS K):=⟨⟨_,_,_,aY X G a4,k4,b4_1,.cons rfl .nil,yL F4 B c_p_sets c_p_leads⟩⟩
 have c_p_come_to:aI l.prog w K mg base "come_to" df eO (cE K):=⟨⟨_,_,aY X G a5,k5,b5,xh F5 B c_p_walked_d1⟩⟩
 have c_p_stands:aI l.prog w K mg base "stands" cU eA (bW K):=⟨⟨_,_,aY X G a6,k6,b6,yK F6 B c_p_goal⟩⟩
 have c_p_led_to:aI l.prog w K mg base "led_to" fJ jd (eU K):=⟨⟨_,_,aY X G a7,k7,b7,yI F7 B c_p_come_to c_p_stands c_p_goal⟩⟩
 have c_p_rw:aI l.prog w K mg base "rows_wanting" me wz (mD K):=⟨⟨_,_,aY X G a8,k8,b8,HE F8 B c_p_sets⟩⟩
 have c_p_reads:aI l.prog w K mg base "reads" iC nO (iH K):=⟨⟨_,_,aY X G a9,k9,b9,AH F9 B⟩⟩
 have c_p_rt:aI l.prog w K mg base "rows_that_read" md wu (mC K):=⟨⟨_,_,aY X G a10,k10,b10,HC F10 B c_p_come_to c_p_reads⟩⟩
 have c_p_ra:aI l.prog w K mg base "rows_ahead" ma wt (mB K):=⟨⟨_,_,aY X G a11,k11,b11,HB F11 B c_p_leads c_p_stands c_p_come_to⟩⟩
 have c_p_wanted:aI l.prog w K mg base "wanted" fK je (eV K):=⟨⟨_,_,aY X G a12,k12,b12,yM F12 B c_p_rw c_p_rt c_p_ra⟩⟩
 have mk_Outline:wB l.prog w K mg base "Outline" (dc K "Outline") eB iV (eD K):=⟨⟨f13,_,aY X G zc_Outline |>.trans (by rw[eC_Outline]),by rw[eC_Outline];exact⟨ma_Outline,a13,i13,kp_Outline⟩,b13,sD F13 B T c_p_as_keys c_p_led_to c_p_stands c_p_wanted⟩⟩
 have c_p_without:aI l.prog w K mg base "without" gk kM (gx K):=⟨⟨_,_,aY X G a14,k14,b14,xj F14 B⟩⟩
 have c_p_left_behind:aI l.prog w K mg base "left_behind" dO ix (dR K):=⟨⟨_,_,aY X G a15,k15,b15,qR F15 B T c_p_stands c_p_without c_p_sets⟩⟩
 have c_p_pushed:aI l.prog w K mg base "pushed" gO lY (gR K):=⟨⟨_,_,aY X G a16,k16,b16,yJ F16 B⟩⟩
 have c_p_begun:aI l.prog w K mg base "begun" iB nN (iG K):=⟨⟨_,_,aY X G a17,k17,b17,AF F17 B c_p_pushed⟩⟩
 have c_p_seen:aI l.prog w K mg base "seen" jh pC (jv K):=⟨⟨_,_,aY X G a18,k18,b18,Ds F18 B⟩⟩
 have c_p_args_belt:aI l.prog w K mg base "args_belt" eY jx (e9 K):=⟨⟨_,_,aY X G a19,k19,b19,ue F19 B T c_p_begun c_p_seen⟩⟩
 have c_p_lost_at:aI l.prog w K mg base "lost_at" gi kL (gw K):=⟨⟨_,_,aY X G a20,k20,b20,xi F20 B T c_p_args_belt⟩⟩
 have c_p_row_short:aI l.prog w K mg base "row_short" eZ jz (fc K):=⟨⟨_,_,aY X G a21,k21,b21,uf F21 B T c_p_left_behind c_p_lost_at⟩⟩
 have c_p_short:aI l.prog w K mg base "short" iD nQ (eE K):=⟨⟨_,_,aY X G a22,k22,b22,AI F22 B T mk_Outline c_p_row_short⟩⟩
 have c_why:aI l.prog w K mg base "_law_why" oQ Bp (oZ K):=⟨⟨_,_,aY X G a23,k23,b23,J4 F23 B c_p_stands⟩⟩
 have c_due:aI l.prog w K mg base "_law_due" oP Bn (lH K):=⟨⟨_,_,aY X G a24,k24,b24,J2 F24 B c_p_come_to c_p_led_to c_why c_p_wanted⟩⟩
 have c_draw:aI l.prog w K mg base "_law_draw" fI iW (bY K):=⟨⟨_,_,aY X G a25,k25,b25,HA F25 B⟩⟩
 have c_filled:aI l.prog w K mg base "_law_filled" jf pA (jr K):=⟨⟨_,_,aY X G a26,k26,b26,Dp F26 B c_draw⟩⟩
 have c_leads:aI l.prog w K mg base "_law_leads" ky sG (kC K):=⟨⟨_,_,aY X G a27,k27,b27,Fi F27 B⟩⟩
 have c_set_names:aI l.prog w K mg base "_law_set_names" gp kO (gz K):=⟨⟨_,_,aY X G a28,k28,b28,xm F28 B c_leads⟩⟩
 have c_mended:aI l.prog w K mg base "_law_mended" jg pB (jt K):=⟨⟨_,_,aY X G a29,k29,b29,Dq F29 B⟩⟩
 have c_worth:aI l.prog w K mg base "_law_worth" kA sI (kD K):=⟨⟨_,_,aY X G a30,k30,b30,Fk F30 B c_draw⟩⟩
 have c_rough_row:aI l.prog w K mg base "_law_rough_row" gm kN (gy K):=⟨⟨_,_,aY X G a31,k31,b31,xk F31 B c_draw c_worth⟩⟩
 have c_part:aI l.prog w K mg base "_law_part" mf wA (mE K):=⟨⟨_,_,aY X G a32,k32,b32,HG F32 B c_filled c_set_names c_mended c_rough_row c_draw⟩⟩
 have c_names:aI l.prog w K mg base "_law_names" kz sH (jL K):=⟨⟨_,_,aY X G a33,k33,b33,Fj F33 B c_draw⟩⟩
 have c_program:aI l.prog w K mg base "_law_program" iE nR (iI K):=⟨⟨_,_,aY X G a34,k34,b34,AJ F34 B c_part c_draw c_names⟩⟩
 exact J3 F35 B c_p_short c_due c_program
theorem KU{K:Fg}{H:Hp}{a:Addr}{ns:List Int}(o:GV H)(h:cq K H a (ns.map V.int)):kU K H a ns:=by
 rcases h with(h|h)|h
 ·rcases o a with z|⟨ob,xs,z⟩<;>rw[h] at z<;>cases z
 ·exact .inl h
 ·exact .inr h
theorem walk{l:PySem.W.OpenLaw}{q:Program}{loose:List Str}{XP:(Str->Option Value)->Heap->Prop}{YP:World->Heap->Prop}{d:DefRec}{K:Params->Fg}(hn:l.most=some 63)(hdf:d.params.defaults=[])
  (hY:∀(w:World) (h:Heap),YP w h->(K w.params).In h)
  (F:∀(w:World) (mg:Str->Option Value) (fa:Addr) (h:Heap),(K w.params).In h->h.Ns mainGlobals mg->mg d.name=some (.ref fa)->
   ∃fd:FuncData,(∀(s:Shared) (u:Value),BindsTo s fd ⟨[u],[]⟩ [("_law_script",u)])/\∀base:Heap,(K w.params).In base->base.Ns mainGlobals mg->eG l.prog w (K w.params) mg base fY Bo fa fd tw (sp_law (K w.params))) :
  PySem.W.WalkO q loose XP YP l.row.toRowW d [] (λf vs=>sX f vs):=
 L2.walk_of (n:=63) (k:=Bo) (x:="_law_script") (CX:=λ_=>fY) (sp:=λw=>sp_law (K w.params)) hn (by decide) hdf ⟨rfl,by decide,by decide⟩ hY F (λ_ _ a ns hl hO hS=>⟨a,ns,rfl,KU hO hS,hl,λ_=>rfl⟩) λ_ _ _ _ _ z=>z
end Bg
open PySem PySem.W PyProof.Rows
def PySem.W.Fast.tw4717709951316083241:Unit:=()
theorem PySem.W.Fast.te4717709951316083241:True:=trivial
def PySem.W.Fast.tw6171719611761473902:Unit:=()
theorem PySem.W.Fast.te6171719611761473902:True:=trivial
def PySem.W.Fast.tw1063117225776390675:Unit:=()
theorem PySem.W.Fast.te1063117225776390675:True:=trivial
def PySem.W.Fast.tw15155223733479418384:Unit:=()
theorem PySem.W.Fast.te15155223733479418384:True:=trivial
def PySem.W.Fast.tw16936273562415797400:Unit:=()
theorem PySem.W.Fast.te16936273562415797400:True:=trivial
def PySem.W.Fast.tw14479349733344627090:Unit:=()
theorem PySem.W.Fast.te14479349733344627090:True:=trivial
def PySem.W.Fast.tw10880995087295846880:Unit:=()
theorem PySem.W.Fast.te10880995087295846880:True:=trivial
def PySem.W.Fast.tw5597915997798086954:Unit:=()
theorem PySem.W.Fast.te5597915997798086954:True:=trivial
def PySem.W.Fast.tw15342673477596083053:Unit:=()
theorem PySem.W.Fast.te15342673477596083053:True:=trivial
def PySem.W.Fast.tw5329445618299599079:Unit:=()
theorem PySem.W.Fast.te5329445618299599079:True:=trivial
def PySem.W.Fast.tw6248809701085364925:Unit:=()
theorem PySem.W.Fast.te6248809701085364925:True:=trivial
def PySem.W.Fast.tw1437860857964333168:Unit:=()
theorem PySem.W.Fast.te1437860857964333168:True:=trivial
def PySem.W.Fast.tw5099849512699650131:Unit:=()
theorem PySem.W.Fast.te5099849512699650131:True:=trivial
set_option maxRecDepth 100000 in
set_option maxHeartbeats 0 in
theorem PySem.Challenge.cw_beltgarth_k72_the_first_row_that_is_shor_holds : PySem.Challenge.rw_beltgarth_k72_the_first_row_that_is_shor.Holds := by
 w_on;o_law;k_head;(case hw=>w_witness2)
 k_fill
 refine Bg.walk (l:=PySem.Challenge.rw_beltgarth_k72_the_first_row_that_is_shor) rfl rfl (λw h Y=>PySem.W.kIn_of Y) ?F
 case F=>
  intro w mg fa h KX G hmg
  refine' Bg.all_mk KX G hmg ?zc_Outline ?pg_Outline ?hd_Outline ?po_Outline ?sa_Outline ?ma_Outline ?kp_Outline ?no_0 ?no_1 ?no_2 ?no_3 ?no_4 ?no_5 ?a0 ?l0 ?c0 ?k0 ?a1 ?l1 ?c1 ?k1 ?a2 ?l2 ?c2 ?k2 ?a3 ?l3 ?c3 ?k3 ?a4 ?l4 ?c4 ?k4 ?t4 ?a5 ?l5 ?c5 ?k5 ?a6 ?l6 ?c6 ?k6 ?a7 ?l7 ?c7 ?k7 ?a8 ?l8 ?c8 ?k8 ?a9 ?l9 ?c9 ?k9 ?a10 ?l10 ?c10 ?k10 ?a11 ?l11 ?c11 ?k11 ?a12 ?l12 ?c12 ?k12 ?a13 ?l13 ?c13 ?k13 ?i13 ?a14 ?l14 ?c14 ?k14 ?a15 ?l15 ?c15 ?k15 ?a16 ?l16 ?c16 ?k16 ?a17 ?l17 ?c17 ?k17 ?a18 ?l18 ?c18 ?k18 ?a19 ?l19 ?c19 ?k19 ?a20 ?l20 ?c20 ?k20 ?a21 ?l21 ?c21 ?k21 ?a22 ?l22 ?c22 ?k22 ?a23 ?l23 ?c23 ?k23 ?a24 ?l24 ?c24 ?k24 ?a25 ?l25 ?c25 ?k25 ?a26 ?l26 ?c26 ?k26 ?a27 ?l27 ?c27 ?k27 ?a28 ?l28 ?c28 ?k28 ?a29 ?l29 ?c29 ?k29 ?a30 ?l30 ?c30 ?k30 ?a31 ?l31 ?c31 ?k31 ?a32 ?l32 ?c32 ?k32 ?a33 ?l33 ?c33 ?k33 ?a34 ?l34 ?c34 ?k34 ?a35 ?l35 ?c35 ?k35 ?z_len ?z_range ?z_divmod ?z_max ?z_min ?z_sum ?z_all ?z_isinstance ?z_int ?z_bool ?z_list ?z_tuple ?z_enumerate ?z_zip ?z_sorted ?z_set ?z_dict ?z_str ?z_any ?z_reversed ?z_abs
  (case zc_Outline=>k_is)
  (case pg_Outline=>k_is)
  (case hd_Outline=>k_is)
  (case po_Outline=>k_is)
  (case sa_Outline=>k_is)
  (case ma_Outline=>k_is)
  (case kp_Outline=>k_is)
  (case no_0=>k_is)
  (case no_1=>k_is)
  (case no_2=>k_is)
  (case no_3=>k_is)
  (case no_4=>k_is)
  (case no_5=>k_is)
  (case a0=>k_is)
  (case l0=>k_is)
  (case c0=>k_is)
  (case k0=>k_is)
  (case a1=>k_is)
  (case l1=>k_is)
  (case c1=>k_is)
  (case k1=>k_is)
  (case a2=>k_is)
  (case l2=>k_is)
  (case c2=>k_is)
  (case k2=>k_is)
  (case a3=>k_is)
  (case l3=>k_is)
  (case c3=>k_is)
  (case k3=>k_is)
  (case a4=>k_is)
  (case l4=>k_is)
  (case c4=>k_is)
  (case k4=>k_is)
  (case t4=>k_is)
  (case a5=>k_is)
  (case l5=>k_is)
  (case c5=>k_is)
  (case k5=>k_is)
  (case a6=>k_is)
  (case l6=>k_is)
  (case c6=>k_is)
  (case k6=>k_is)
  (case a7=>k_is)
  (case l7=>k_is)
  (case c7=>k_is)
  (case k7=>k_is)
  (case a8=>k_is)
  (case l8=>k_is)
  (case c8=>k_is)
  (case k8=>k_is)
  (case a9=>k_is)
  (case l9=>k_is)
  (case c9=>k_is)
  (case k9=>k_is)
  (case a10=>k_is)
  (case l10=>k_is)
  (case c10=>k_is)
  (case k10=>k_is)
  (case a11=>k_is)
  (case l11=>k_is)
  (case c11=>k_is)
  (case k11=>k_is)
  (case a12=>k_is)
  (case l12=>k_is)
  (case c12=>k_is)
  (case k12=>k_is)
  (case a13=>k_is)
  (case l13=>k_is)
  (case c13=>k_is)
  (case k13=>k_is)
  (case i13=>k_is)
  (case a14=>k_is)
  (case l14=>k_is)
  (case c14=>k_is)
  (case k14=>k_is)
  (case a15=>k_is)
  (case l15=>k_is)
  (case c15=>k_is)
  (case k15=>k_is)
  (case a16=>k_is)
  (case l16=>k_is)
  (case c16=>k_is)
  (case k16=>k_is)
  (case a17=>k_is)
  (case l17=>k_is)
  (case c17=>k_is)
  (case k17=>k_is)
  (case a18=>k_is)
  (case l18=>k_is)
  (case c18=>k_is)
  (case k18=>k_is)
  (case a19=>k_is)
  (case l19=>k_is)
  (case c19=>k_is)
  (case k19=>k_is)
  (case a20=>k_is)
  (case l20=>k_is)
  (case c20=>k_is)
  (case k20=>k_is)
  (case a21=>k_is)
  (case l21=>k_is)
  (case c21=>k_is)
  (case k21=>k_is)
  (case a22=>k_is)
  (case l22=>k_is)
  (case c22=>k_is)
  (case k22=>k_is)
  (case a23=>k_is)
  (case l23=>k_is)
  (case c23=>k_is)
  (case k23=>k_is)
  (case a24=>k_is)
  (case l24=>k_is)
  (case c24=>k_is)
  (case k24=>k_is)
  (case a25=>k_is)
  (case l25=>k_is)
  (case c25=>k_is)
  (case k25=>k_is)
  (case a26=>k_is)
  (case l26=>k_is)
  (case c26=>k_is)
  (case k26=>k_is)
  (case a27=>k_is)
  (case l27=>k_is)
  (case c27=>k_is)
  (case k27=>k_is)
  (case a28=>k_is)
  (case l28=>k_is)
  (case c28=>k_is)
  (case k28=>k_is)
  (case a29=>k_is)
  (case l29=>k_is)
  (case c29=>k_is)
  (case k29=>k_is)
  (case a30=>k_is)
  (case l30=>k_is)
  (case c30=>k_is)
  (case k30=>k_is)
  (case a31=>k_is)
  (case l31=>k_is)
  (case c31=>k_is)
  (case k31=>k_is)
  (case a32=>k_is)
  (case l32=>k_is)
  (case c32=>k_is)
  (case k32=>k_is)
  (case a33=>k_is)
  (case l33=>k_is)
  (case c33=>k_is)
  (case k33=>k_is)
  (case a34=>k_is)
  (case l34=>k_is)
  (case c34=>k_is)
  (case k34=>k_is)
  (case a35=>k_is)
  (case l35=>k_is)
  (case c35=>k_is)
  (case k35=>k_is)
  (case z_len=>k_is)
  (case z_range=>k_is)
  (case z_divmod=>k_is)
  (case z_max=>k_is)
  (case z_min=>k_is)
  (case z_sum=>k_is)
  (case z_all=>k_is)
  (case z_isinstance=>k_is)
  (case z_int=>k_is)
  (case z_bool=>k_is)
  (case z_list=>k_is)
  (case z_tuple=>k_is)
  (case z_enumerate=>k_is)
  (case z_zip=>k_is)
  (case z_sorted=>k_is)
  (case z_set=>k_is)
  (case z_dict=>k_is)
  (case z_str=>k_is)
  (case z_any=>k_is)
  (case z_reversed=>k_is)
  (case z_abs=>k_is)
