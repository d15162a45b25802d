import PyProof.Rows.All
import Wide.All
import OpenK.AllK
import Wide.FinOn
import Lean
import PyProof.EqAt
import PyProof.EqKinds
import PyProof.TupleCall
import PyProof.SetKind
import PyProof.Rows.SetFrom
import PyProof.FactsAll.set
import PyProof.DictIter
import PyProof.DictWalks
import PyProof.WalksMore
import PyProof.MakeMany
import PyProof.FactsAll.subtypes_4
import KE.KDictSum
import PySem.Challenge.RW_beltgarth_k13_unset_names
set_option Elab.async false
set_option autoImplicit true
set_option linter.all false
set_option maxHeartbeats 1000000
set_option maxHeartbeats 3200000
set_option maxHeartbeats 4000000
set_option maxRecDepth 100000
set_option relaxedAutoImplicit true
open List renaming getElem?_eq_getElem → ai, getElem?_eq_some_iff → aj, mem_singleton → ak, length_map → ao, size_toArray → ax, length_append → aG, mem_of_getElem? → aH, mem_cons → aU, getElem?_map → aX, mem_append → aY, map_append → aZ, map_cons → ba, length_take → bg, getElem?_set_self → bp, mem_append_right → bB, length_singleton → bC, replicate → bD, getElem?_append_right → bJ, getElem?_set_ne → bM, map_nil → bO, getLast?_eq_getElem? → bT, take_of_length_le → bZ, mem_append_left → cc, getElem?_append_left → cq, take_add_one → cu, length_replicate → cv, length_cons → cA, mem_iff_getElem → cD, mem_cons_self → cG, range → cH, mem_cons_of_mem → cP, length_eq_zero_iff → dc, length_pos_iff → dn, getElem?_eq_none → dy, mem_map → dJ, replicate_succ → dS, length_filter_le → dX, length_drop → dZ, length_range → eF, append_nil → eK, length_set → eL, nodup_cons → eM, map_map → eT, getElem_mem → e8, lookup_cons → e9, not_mem_nil → fb, getD_eq_getElem?_getD → ff, find?_cons → fq, getElem?_take_of_lt → fJ, all_eq_true → fU, contains_cons → gi, mem_filter → gA, range_succ → gB, flatten_cons → gH, lookup → gL, mem_of_mem_take → gM, pairwise_iff_getElem → ia, filterMap_cons → ic, getElem?_range → ig, map_take → ik, getElem?_replicate → iS, head?_eq_getElem? → iV, take_sublist → iW, any_cons → jB, length → jG, pairwise_append → jH, length_nil → jP, map_congr_left → jZ, filter_append → kF, mem_range → kG, ext_getElem? → lh, filter_cons → lW, foldl_cons → ny, of_mem_zip → nz, drop_zero → nM, map_drop → oS, foldl → ua
open PySem.Heap renaming get?_push_of_some → az, lt_size → aJ, get?_push_size → aW, get?_update_other → bY, get?_update_self → cX, size_push → dz
open Nat renaming le_refl → aC, lt_of_lt_of_le → aV, ne_of_lt → bh, le_trans → ck, not_lt_zero → cB, lt_irrefl → cI, zero_le → dh, lt_succ_iff_lt_or_eq → dA, lt_succ_of_lt → fA, lt_of_le_of_lt → iC, le_of_lt → iX, ne_of_gt → iY, sub_self → j7, le_succ → lj, lt_trichotomy → ll, lt_succ_self → lX, lt_or_ge → mH, le_of_eq → pR, lt_trans → pS, not_lt → ub
open PySem.W renaming nsIn → aD, keepIn → aI, codeIn → aK, fnOf → aM, mg_of → aN, mg_none_of → bj, findIn → cN, mroIn → cV, emptyDict → eG, typeIn → iZ, isClsIn → jQ, looks_clsIn → j4, methodObj → lq, specialIn → lu, clsIn → lL, subIn → oU
open PySem.F renaming plainAttrs_list → bF, slot_list_append → b5, type_list_append → cb, excBase_ValueError → gN
open Array renaming getElem?_eq_some_iff → bI, length_toList → bX, getElem?_toList → dW, toList_append → jY
open PyProof.Rows renaming callWith_type1 → cK
open Option renaming map_some → cT, map_eq_some_iff → dM, bind_some → fc, getD_some → g7, isSome_iff_exists → iq, isSome_map → lp, getD_none → lY
open PySem renaming mem_of_lookup → cW, strKind → jC, call → uc
open Int renaming emod_lt_of_pos → dg, emod_nonneg → di, toNat → fS, toNat_natCast → gG, zero_add → gZ
abbrev Fg := PySem.W.Frag
section
namespace Bg
theorem Nv{α:Type}{P:List α->Prop}{us:List α}(h:us.length=0)(k:P []):P us:=by cases us with|nil=>exact k|cons a r=>cases h
theorem Ng{α:Type}{P:List α->Prop}{us:List α}(h:us.length=1)(k:∀x0,P [x0]):P us:=by cases us with|nil=>cases h|cons a r=>exact Nv (P:=λr=>P (a::r)) (Nat.succ.inj h) (k a)
theorem Nh{α:Type}{P:List α->Prop}{us:List α}(h:us.length=2)(k:∀x0 x1,P [x0,x1]):P us:=by cases us with|nil=>cases h|cons a r=>exact Ng (P:=λr=>P (a::r)) (Nat.succ.inj h) (k a)
theorem Ni{α:Type}{P:List α->Prop}{us:List α}(h:us.length=3)(k:∀x0 x1 x2,P [x0,x1,x2]):P us:=by cases us with|nil=>cases h|cons a r=>exact Nh (P:=λr=>P (a::r)) (Nat.succ.inj h) (k a)
theorem Nj{α:Type}{P:List α->Prop}{us:List α}(h:us.length=4)(k:∀x0 x1 x2 x3,P [x0,x1,x2,x3]):P us:=by cases us with|nil=>cases h|cons a r=>exact Ni (P:=λr=>P (a::r)) (Nat.succ.inj h) (k a)
theorem Nw{α:Type}{P:List α->Prop}{us:List α}(h:us.length=5)(k:∀x0 x1 x2 x3 x4,P [x0,x1,x2,x3,x4]):P us:=by cases us with|nil=>cases h|cons a r=>exact Nj (P:=λr=>P (a::r)) (Nat.succ.inj h) (k a)
theorem Ny{α:Type}{P:List α->Prop}{us:List α}(h:us.length=6)(k:∀x0 x1 x2 x3 x4 x5,P [x0,x1,x2,x3,x4,x5]):P us:=by cases us with|nil=>cases h|cons a r=>exact Nw (P:=λr=>P (a::r)) (Nat.succ.inj h) (k a)
theorem Cr{α:Type}{us:List α}(h:us.length=1):∃x0,us=[x0]:=Ng (P:=λus=>∃x0,us=[x0]) h λx0=>⟨x0,rfl⟩
theorem AA{α:Type}{us:List α}(h:us.length=2):∃x0 x1,us=[x0,x1]:=Nh (P:=λus=>∃x0 x1,us=[x0,x1]) h λx0 x1=>⟨x0,x1,rfl⟩
theorem LH{α:Type}{us:List α}(h:us.length=3):∃x0 x1 x2,us=[x0,x1,x2]:=Ni (P:=λus=>∃x0 x1 x2,us=[x0,x1,x2]) h λx0 x1 x2=>⟨x0,x1,x2,rfl⟩
theorem Nf{α:Type}{us:List α}(h:us.length=4):∃x0 x1 x2 x3,us=[x0,x1,x2,x3]:=Nj (P:=λus=>∃x0 x1 x2 x3,us=[x0,x1,x2,x3]) h λx0 x1 x2 x3=>⟨x0,x1,x2,x3,rfl⟩
theorem Nu{α:Type}{us:List α}(h:us.length=6):∃x0 x1 x2 x3 x4 x5,us=[x0,x1,x2,x3,x4,x5]:=Ny (P:=λus=>∃x0 x1 x2 x3 x4 x5,us=[x0,x1,x2,x3,x4,x5]) h λx0 x1 x2 x3 x4 x5=>⟨x0,x1,x2,x3,x4,x5,rfl⟩
end Bg
end
section
namespace L2
open PySem PySem.Spec PyProof.Rows
abbrev gC:=Sum Int Str
def wz:gC->Value->Bool
 |.inl k,v=>Value.isInt k v
 |.inr x,v=>Value.isStrOf x v
def MY(w:World):gC->Int
 |.inl k=>hashInt k
 |.inr x=>hashStr w x
theorem fB:∀{k:gC} {v:Value},wz k v=true->(∃i t,k=Sum.inl i/\v=Value.int i t)\/(∃x t,k=Sum.inr x/\v=Value.str x t)
 |.inl i,v,h=>by
  obtain⟨t,e⟩:=Value.isInt_shape (k:=i) (v:=v) h
  exact .inl ⟨i,t,rfl,e⟩
 |.inr x,v,h=>by
  obtain⟨t,e⟩:=Value.isStrOf_shape (x:=x) (v:=v) h
  exact .inr ⟨x,t,rfl,e⟩
theorem DG(i:Int)(t:Tok):wz (.inl i) (.int i t)=true:=by simp[wz,Value.isInt]
theorem DH(x:Str)(t:Tok):wz (.inr x) (.str x t)=true:=by simp[wz,Value.isStrOf]
theorem Kq(a b:Int):decide ((Sum.inl a:gC)=Sum.inl b)=(a==b):=by
 by_cases e:a=b
 ·subst e;simp
 ·have h:¬(Sum.inl a:gC)=Sum.inl b:=λq=>e (Sum.inl.inj q)
  rw[decide_eq_false h]
  exact(beq_eq_false_iff_ne.mpr e).symm
theorem Kt(a b:Str):decide ((Sum.inr a:gC)=Sum.inr b)=decide (a=b):=by
 by_cases e:a=b
 ·subst e;simp
 ·have h:¬(Sum.inr a:gC)=Sum.inr b:=λq=>e (Sum.inr.inj q)
  rw[decide_eq_false h,decide_eq_false e]
theorem Kr(a:Int)(b:Str):decide ((Sum.inl a:gC)=Sum.inr b)=false:=decide_eq_false (λq=>nomatch q)
theorem Ks(a:Str)(b:Int):decide ((Sum.inr a:gC)=Sum.inl b)=false:=decide_eq_false (λq=>nomatch q)
def eW(prog:Program)(w:World):PySem.KeyKind prog w gC where
 is:=wz
 hash:=MY w
 inj:=λv a b ha hb=>by
  rcases fB ha with⟨i,t,rfl,rfl⟩|⟨x,t,rfl,rfl⟩
  ·rcases fB hb with⟨j,u,rfl,e⟩|⟨y,u,rfl,e⟩
   ·injection e with e1 _;rw[e1]
   ·exact nomatch e
  ·rcases fB hb with⟨j,u,rfl,e⟩|⟨y,u,rfl,e⟩
   ·exact nomatch e
   ·injection e with e1 _;rw[e1]
 byValue:=λk v h=>by
  rcases fB h with⟨i,t,rfl,rfl⟩|⟨x,t,rfl,rfl⟩<;>rfl
 pyHash:=λhv h=>by
  rcases fB hv with⟨i,t,rfl,rfl⟩|⟨x,t,rfl,rfl⟩
  ·exact wpAny_pyHash_int h
  ·exact wpAny_pyHash_str h
 eqBool:=λhu hv h=>by
  rcases fB hu with⟨i,t,rfl,rfl⟩|⟨x,t,rfl,rfl⟩
  ·rcases fB hv with⟨j,u,rfl,rfl⟩|⟨y,u,rfl,rfl⟩
   ·rw[Kq] at h;exact wpAny_eqBool_int h
   ·rw[Kr] at h;exact SeqAt.EqAt.int_str i t y u _ _ _ _ h
  ·rcases fB hv with⟨j,u,rfl,rfl⟩|⟨y,u,rfl,rfl⟩
   ·rw[Ks] at h;exact SeqAt.EqAt.str_int x t j u _ _ _ _ h
   ·rw[Kt] at h;exact wpAny_eqBool_str h
 «strs»:=λk x t v h=>by
  rcases fB h with⟨i,u,rfl,e⟩|⟨y,u,rfl,e⟩
  ·exact nomatch e
  ·injection e with e1 _
   subst e1
   cases v<;>rfl
theorem zi(prog:Program)(w:World)(i:Int)(t:Tok):(eW prog w).is (.inl i) (.int i t)=true:=DG i t
theorem zj(prog:Program)(w:World)(x:Str)(t:Tok):(eW prog w).is (.inr x) (.str x t)=true:=DH x t
inductive V where
 |non|bl (b:Bool)|int (i:Int)|str (x:Str)|byt (b:Array UInt8)|flt (b:UInt64)|ref (a:Addr)|ty (n:String)
 deriving DecidableEq
def de:V->Value->Prop
 |.non,u=>u=Value.none
 |.bl b,u=>u=Value.bool b
 |.int i,u=>∃t,u=Value.int i t
 |.str x,u=>∃t,u=Value.str x t
 |.byt b,u=>∃t,u=Value.bytes b t
 |.flt b,u=>∃t,u=Value.float b t
 |.ref a,u=>u=Value.ref a
 |.ty n,u=>u=Value.type n
abbrev cO:List V->List Value->Prop:=Paired de
theorem cO.length{xs:List V}{us:List Value}(r:cO xs us):xs.length=us.length:=Paired.length r
theorem cO.get:∀{xs:List V} {us:List Value} {i:Nat} {x:V},cO xs us->xs[i]?=some x->∃u,us[i]?=some u/\de x u
 |_,_,_,_,.nil,e=>by simp at e
 |_,_,0,_,.cons r _,e=>by simp at e;subst e;exact⟨_,rfl,r⟩
 |_,_,i+1,x,.cons _ t,e=>by
  obtain⟨u,h1,h2⟩:=cO.get (i:=i) (x:=x) t (by simpa using e)
  exact⟨u,by simpa using h1,h2⟩
theorem cO.set{x:V}{u:Value}(r:de x u):∀{xs:List V} {us:List Value} (i:Nat),cO xs us->cO (xs.set i x) (us.set i u)
 |_,_,_,.nil=>.nil
 |_,_,0,.cons _ t=>.cons r t
 |_,_,i+1,.cons q t=>.cons q (cO.set r i t)
theorem cO.append:∀{xs ys:List V} {us ws:List Value},cO xs us->cO ys ws->cO (xs++ys) (us++ws)
 |_,_,_,_,.nil,s=>s
 |_,_,_,_,.cons r t,s=>.cons r (cO.append t s)
theorem cO.take:∀{xs:List V} {us:List Value} (n:Nat),cO xs us->cO (xs.take n) (us.take n)
 |_,_,0,_=>.nil
 |_,_,_+1,.nil=>.nil
 |_,_,n+1,.cons r t=>.cons r (cO.take n t)
theorem cO.drop:∀{xs:List V} {us:List Value} (n:Nat),cO xs us->cO (xs.drop n) (us.drop n)
 |_,_,0,r=>r
 |_,_,_+1,.nil=>.nil
 |_,_,n+1,.cons _ t=>cO.drop n t
def pG:Option V->Option Value->Prop
 |some v,some u=>de v u
 |none,none=>True
 |_,_=>False
def KV{κ:Type}:List (κ×V)->List (κ×Value)->Prop:=Paired λ(p:κ×V) (q:κ×Value)=>p.1=q.1/\de p.2 q.2
def kV:gC->V
 |.inl i=>.int i
 |.inr x=>.str x
inductive HO where
  |lst (xs:List V)
  |tup (xs:List V)
  |dK (kvs:List (gC×V))|dT (kvs:List (List gC×V))
  |set (S:Int->Bool) (n:Nat)
  |ins (C dx:Addr) (fs:List (Str×V))
  |own (x:Addr)
  |xd (fs:List (Str×V))
  |met (f x:Addr)
  |rng (lo hi:Int)
  |frz (o:Obj) (u:HO)
  |tbl (ps:Array Value)
  |ext (φ:Heap->Prop)
abbrev Hp:=Addr->Option HO
def upd(H:Hp)(a:Addr)(o:HO):Hp:=λb=>if b=a then some o else H b
theorem ag{H:Hp}{a:Addr}{o:HO}:upd H a o a=some o:=by unfold upd;rw[if_pos rfl]
theorem aA{H:Hp}{a b:Addr}{o:HO}(h:b≠a):upd H a o b=H b:=by unfold upd;rw[if_neg h]
theorem nu{H:Hp}{a:Addr}{o u:HO}:upd (upd H a o) a u=upd H a u:=by
 funext b;unfold upd;split<;>rfl
theorem JS{H:Hp}{a b:Addr}{o u:HO}(h:H a=some o)(h':H b=some u)(d:o≠u):a≠b:=by
 intro e;subst e;rw[h] at h';exact d (Option.some.inj h')
theorem ar{H:Hp}{a b:Addr}{o:HO}(h:H a=some o)(h':H b=none):a≠b:=by
 intro e;subst e;rw[h] at h';cases h'
def lM(h:Heap)(a:Addr)(items:Array Value):Prop:=∃o,h.get? a=some o/\(o.cls=.type "tuple"/\o.dict=none)/\∃n,o.data=.seq items n
theorem lM.tup{h:Heap}{a:Addr}{items:Array Value}(x:lM h a items):IsTup h a items:=let⟨o,e,c,n⟩:=x;⟨o,e,c.1,n⟩
theorem lM.lt{h:Heap}{a:Addr}{items:Array Value}(x:lM h a items):a<h.objs.size:=let⟨_,e,_⟩:=x;aJ e
theorem lM.new(h:Heap)(items:Array Value):lM (h.push {cls:=.type "tuple",data:=.seq items}) h.objs.size items:=⟨_,aW _ rfl,⟨rfl,rfl⟩,_,rfl⟩
section
variable(P:Program)(w:World)
def eB(H:Hp)(h:Heap)(a:Addr):HO->Prop
 |.lst xs=>xs.length<=sizeLine/\∃(its:List Value) (n:Nat),cO xs its/\h.get? a=some {cls:=.type "list",data:=.seq its.toArray n}
 |.tup xs=>xs.length<=sizeLine/\∃its:List Value,cO xs its/\lM h a its.toArray
 |.dK kvs=>kvs.length<=sizeLine/\(a==sysModules)=false/\∃vs,KV kvs vs/\h.DictOf (eW P w) a vs
 |.dT kvs=>kvs.length<=sizeLine/\(a==sysModules)=false/\∃xs:List (List gC×Addr×Value),
   Paired (λ(p:List gC×V) (q:List gC×Addr×Value)=>p.1=q.1/\H q.2.1=some (.tup (p.1.map kV))/\de p.2 q.2.2) kvs xs/\
   ∃o es ep,h.get? a=some o/\o.ExactDict/\o.data=.dict es ep/\es.toList=xs.map (entryOfKey (tupleKind (eW P w)))/\(xs.map (·.1)).Nodup
 |.set S n=>h.SetOf (intKind P w) a S n
 |.ins C dx fs=>H dx=some (.own a)/\fs.length<=1000/\dx≠a/\h.get? a=some (PySem.W.instObj C dx)/\
   ∃mA,h.Ns1 dx mA/\(∀f,pG (fs.lookup f) (mA f))/\PySem.Within mA (fs.map (·.1))
 |.own _=>∃o,h.get? a=some o
 |.xd fs=>∃mA,h.Ns1 a mA/\∀f,pG (fs.lookup f) (mA f)
 |.rng lo hi=>∃t u v,h.get? a=some {cls:=.type "range",data:=.fields #[.int lo t,.int hi u,.int 1 v]}
 |.frz o u=>h.get? a=some o/\eB H h a u
 |.tbl ps=>h.get? a=some {cls:=.none,data:=.fields ps}
 |.met f x=>h.get? a=some (lq (.ref f) (.ref x))
 |.ext φ=>φ h/\(∃o,h.get? a=some o)/\∀h1 h2:Heap,φ h1->(∀o,h1.get? a=some o->h2.get? a=some o)->φ h2
def nK(H:Hp)(h:Heap):Prop:=∀a o,H a=some o->eB P w H h a o
end
section
variable{P:Program}{w:World}{H H':Hp}{h h':Heap}{a:Addr}{o:HO}
theorem eB.lt(x:eB P w H h a o):a<h.objs.size:=by
 cases o with
 |lst xs=>obtain⟨_,_,_,_,e⟩:=x;exact aJ e
 |tup xs=>obtain⟨_,_,_,p⟩:=x;exact p.lt
 |dK kvs=>obtain⟨_,_,_,_,o,_,_,e,_⟩:=x;exact aJ e
 |dT kvs=>obtain⟨_,_,_,_,o,_,_,e,_⟩:=x;exact aJ e
 |set S n=>obtain⟨o,_,_,_,e,_⟩:=x;exact aJ e
 |ins C dx fs=>obtain⟨_,_,_,e,_⟩:=x;exact aJ e
 |own y=>obtain⟨_,e⟩:=x;exact aJ e
 |xd fs=>obtain⟨_,⟨_,_,_,e,_⟩,_⟩:=x;exact aJ e
 |rng lo hi=>obtain⟨_,_,_,e⟩:=x;exact aJ e
 |frz ob u=>obtain⟨e,_⟩:=x;exact aJ e
 |tbl ps=>exact aJ (show h.get? a=some _ from x)
 |met f y=>exact aJ (show h.get? a=some _ from x)
 |ext φ=>obtain⟨_,⟨_,e⟩,_⟩:=x;exact aJ e
theorem Paired.mapP{α β:Type}{F G:α->β->Prop}:∀{l₁:List α} {l₂:List β},Paired F l₁ l₂->(∀a b,F a b->G a b)->Paired G l₁ l₂
 |_,_,.nil,_=>.nil
 |_,_,.cons r t,f=>.cons (f _ _ r) (Paired.mapP t f)
theorem eB.stay(x:eB P w H h a o)(k:∀b u,(b=a\/H b=some (.own a))->h.get? b=some u->h'.get? b=some u)
  (ho:∀b,H b=some (.own a)->H' b=some (.own a)) (ht:∀b xs,H b=some (.tup xs)->H' b=some (.tup xs)):eB P w H' h' a o:=by
 induction o with
 |lst xs=>obtain⟨z,its,n,r,e⟩:=x;exact⟨z,its,n,r,k _ _ (.inl rfl) e⟩
 |tup xs=>obtain⟨z,its,r,ob,e,c⟩:=x;exact⟨z,its,r,ob,k _ _ (.inl rfl) e,c⟩
 |dK kvs=>obtain⟨z,y,vs,r,ob,es,ep,e,c⟩:=x;exact⟨z,y,vs,r,ob,es,ep,k _ _ (.inl rfl) e,c⟩
 |dT kvs=>
  obtain⟨z,y,xs,r,ob,es,ep,e,c⟩:=x
  exact⟨z,y,xs,Paired.mapP r λp q z=>⟨z.1,ht _ _ z.2.1,z.2.2⟩,ob,es,ep,k _ _ (.inl rfl) e,c⟩
 |set S n=>obtain⟨ob,es,ep,t,e,c⟩:=x;exact⟨ob,es,ep,t,k _ _ (.inl rfl) e,c⟩
 |ins C dx fs=>
  obtain⟨d,z,ne,e,mA,⟨od,es,ep,e2,c⟩,r⟩:=x
  exact⟨ho _ d,z,ne,k _ _ (.inl rfl) e,mA,⟨od,es,ep,k _ _ (.inr d) e2,c⟩,r⟩
 |own y=>obtain⟨ob,e⟩:=x;exact⟨ob,k _ _ (.inl rfl) e⟩
 |xd fs=>obtain⟨mA,⟨od,es,ep,e,c⟩,r⟩:=x;exact⟨mA,⟨od,es,ep,k _ _ (.inl rfl) e,c⟩,r⟩
 |rng lo hi=>obtain⟨t,u,v,e⟩:=x;exact⟨t,u,v,k _ _ (.inl rfl) e⟩
 |frz ob u ih=>obtain⟨e,q⟩:=x;exact⟨k _ _ (.inl rfl) e,ih q⟩
 |tbl ps=>
  have e:h.get? a=some {cls:=.none,data:=.fields ps}:=x
  show h'.get? a=some {cls:=.none,data:=.fields ps}
  exact k a _ (.inl rfl) e
 |met f y=>
  have e:h.get? a=some (lq (.ref f) (.ref y)):=x
  show h'.get? a=some (lq (.ref f) (.ref y))
  exact k a _ (.inl rfl) e
 |ext φ=>obtain⟨p,⟨o,e⟩,st⟩:=x;exact⟨st _ _ p λo q=>k _ _ (.inl rfl) q,⟨o,k _ _ (.inl rfl) e⟩,st⟩
theorem nK.lt(x:nK P w H h)(e:H a=some o):a<h.objs.size:=(x a o e).lt
theorem nK.fresh(x:nK P w H h)(e:h.objs.size<=a):H a=none:=by
 cases q:H a with
 |none=>rfl
 |some u=>exact absurd (aV (x.lt q) e) (cI _)
theorem nK.kept(x:nK P w H h)(k:∀b u,h.get? b=some u->h'.get? b=some u):nK P w H h':=λa o e=>
 (x a o e).stay (λb u _ q=>k b u q) (λ_ q=>q) λ_ _ q=>q
theorem nK.laid(x:nK P w H h)(k:∀b u,h.get? b=some u->h'.get? b=some u)(hp:h.objs.size<=a)(new:eB P w (upd H a o) h' a o):nK P w (upd H a o) h':=λb u e=>by
 have hn:=x.fresh hp
 by_cases hb:b=a
 ·subst hb;rw[ag] at e;cases e;exact new
 ·rw[aA hb] at e
  exact(x b u e).stay (λc v _ q=>k c v q) (λc q=>by rw[aA (ar q hn)];exact q) λc xs q=>by rw[aA (ar q hn)];exact q
end
def Rd(H:Hp)(a:Addr)(u:HO):Prop:=H a=some u\/∃o,H a=some (.frz o u)
theorem Rd.ok{P:Program}{w:World}{H:Hp}{h:Heap}{a:Addr}{u:HO}(r:Rd H a u)(x:nK P w H h):eB P w H h a u:=by
 rcases r with r|⟨o,r⟩
 ·exact x a u r
 ·obtain⟨_,q⟩:=x a _ r
  exact q
def LO:Option HO->Prop
 |some (.lst _)=>True
 |some (.dK _)=>True
 |some (.dT _)=>True
 |some (.set _ _)=>True
 |some (.ins _ _ _)=>True
 |some (.ext _)=>True
 |_=>False
section
variable{P:Program}{w:World}{H:Hp}{h h':Heap}{x e:Addr}{o':HO}
theorem nK.write(ok:nK P w H h)(mu:LO (H x))(he:e=x\/H e=some (.own x))(k:∀b u,b≠e->h.get? b=some u->h'.get? b=some u)(heo:∃u,h'.get? e=some u)
  (new:eB P w (upd H x o') h' x o'):nK P w (upd H x o') h':=λb u q=>by
 have nown:∀c y,H c=some (.own y)->c≠x:=λc y r z=>by subst z;rw[r] at mu;exact mu
 have ntup:∀c xs,H c=some (.tup xs)->c≠x:=λc xs r z=>by subst z;rw[r] at mu;exact mu
 by_cases hb:b=x
 ·subst hb;rw[ag] at q;cases q;exact new
 ·rw[aA hb] at q
  by_cases hbe:b=e
  ·have q':H b=some (.own x):=by
    rcases he with z|z
    ·exact absurd (hbe.trans z) hb
    ·rw[hbe];exact z
   rw[q] at q';cases q'
   obtain⟨v,hv⟩:=heo
   exact⟨v,by rw[hbe];exact hv⟩
  ·refine(ok b u q).stay (λc v hc r=>k c v ?_ r) (λc r=>by rw[aA (nown c b r)];exact r) λc xs r=>by rw[aA (ntup c xs r)];exact r
   rcases hc with rfl|hc
   ·exact hbe
   ·rintro rfl
    rcases he with z|z
    ·exact nown c b hc z
    ·rw[hc] at z;cases z;exact hb rfl
end
structure Un(fs ex:List Addr)(H H':Hp)(h h':Heap):Prop where
 keep:∀b o,h.get? b=some o->H b=none->b∉fs->b∉ex->h'.get? b=some o
 slot:∀b o,h.get? b=some o->H b=none->b∈fs->b∉ex->∃sl,h'.get? b=some {o with slots:=sl}
 free:∀b o,h.get? b=some o->H b=none->b∉ex->H' b=none
 there:∀b o,h.get? b=some o->b∉ex->∃o',h'.get? b=some o'
 tups:∀b xs,H b=some (.tup xs)->H' b=some (.tup xs)
 frzs:∀b o u,H b=some (.frz o u)->H' b=some (.frz o u)
 tbls:∀b ps,H b=some (.tbl ps)->∃more,H' b=some (.tbl (ps++more))
section
variable{fs fs' ex ex':List Addr}{H H1 H2:Hp}{h h1 h2 h':Heap}{a x e:Addr}{o:HO}
theorem Un.any(u:Un fs ex H H1 h h1){b:Addr}{ob:Obj}(q:h.get? b=some ob)(n:H b=none)(hx:b∉ex):∃sl,h1.get? b=some {ob with slots:=sl}:=by
 by_cases hb:b∈fs
 ·exact u.slot b ob q n hb hx
 ·exact⟨ob.slots,u.keep b ob q n hb hx⟩
theorem Un.kept(k:∀b u,h.get? b=some u->h'.get? b=some u):Un fs ex H H h h':=
 ⟨λb ob q _ _ _=>k b ob q,λb ob q _ _ _=>⟨ob.slots,k b ob q⟩,λ_ _ _ n _=>n,λb ob q _=>⟨ob,k b ob q⟩,λ_ _ q=>q,λ_ _ _ q=>q,λ_ ps q=>⟨#[],by rw[q];simp⟩⟩
theorem Un.refl:Un fs ex H H h h:=Un.kept λ_ _ q=>q
theorem Un.laid(k:∀b u,h.get? b=some u->h'.get? b=some u)(hp:h.objs.size<=a)(hn:H a=none):Un fs ex H (upd H a o) h h' where
 keep:=λb u q _ _ _=>k b u q
 slot:=λb u q _ _ _=>⟨u.slots,k b u q⟩
 free:=λb u q n _=>by rw[aA (bh (aV (aJ q) hp))];exact n
 there:=λb u q _=>⟨u,k b u q⟩
 tups:=λb xs q=>by rw[aA (ar q hn)];exact q
 frzs:=λb u xs q=>by rw[aA (ar q hn)];exact q
 tbls:=λb ps q=>⟨#[],by rw[aA (ar q hn),q];simp⟩
theorem Un.write(mu:LO (H x))(he:e=x\/H e=some (.own x))(k:∀b u,b≠e->h.get? b=some u->h'.get? b=some u)(heo:∃u,h'.get? e=some u):Un fs ex H (upd H x o) h h':=by
 have hx:∀b,H b=none->b≠x:=λb n z=>by subst z;rw[n] at mu;exact mu
 have hb:∀b,H b=none->b≠e:=λb n z=>by
  subst z
  rcases he with r|r
  ·exact hx b n r
  ·rw[n] at r;cases r
 have hm:∀b u,H b=some u->¬LO (some u)->b≠x:=λb u q nm z=>by subst z;rw[q] at mu;exact nm mu
 refine⟨λb u q n _ _=>k b u (hb b n) q,λb u q n _ _=>⟨u.slots,k b u (hb b n) q⟩,λb u q n _=>by rw[aA (hx b n)];exact n,λb u q _=>?_,
  λb xs q=>by rw[aA (hm b _ q λz=>z)];exact q,λb u xs q=>by rw[aA (hm b _ q λz=>z)];exact q,λb ps q=>⟨#[],by rw[aA (hm b _ q λz=>z),q];simp⟩⟩
 by_cases hbe:b=e
 ·subst hbe;exact heo
 ·exact⟨u,k b u hbe q⟩
theorem Un.mono(u:Un fs ex H H1 h h1)(hs:∀b∈fs,b∈fs')(hx:∀b∈ex,b∈ex'):Un fs' ex' H H1 h h1:=
 ⟨λb ob q n hb he=>u.keep b ob q n (λz=>hb (hs b z)) λz=>he (hx b z),λ_ _ q n _ he=>u.any q n λz=>he (hx _ z),λb ob q n he=>u.free b ob q n λz=>he (hx b z),λb ob q he=>u.there b ob q λz=>he (hx b z),u.tups,u.frzs,u.tbls⟩
end
def MN(h:Heap)(H:Hp):List Addr:=(cH h.objs.size).filter λa=>(H a).isSome
def xZ(h:Heap)(H:Hp):Heap:=PySem.W.hideAll h (MN h H)
theorem Du(h:Heap)(H:Hp):(xZ h H).objs.size=h.objs.size:=PySem.W.hideAll_size _ _
theorem Fh{h:Heap}{H:Hp}{b:Addr}{o:Obj}(e:h.get? b=some o)(n:H b=none):(xZ h H).get? b=some o:=
 PySem.W.hideAll_get _ e λhm=>by
  have q:(H b).isSome=true:=(gA.mp hm).2
  rw[n] at q;simp at q
theorem Ii{h:Heap}{H:Hp}{b:Addr}{o:Obj}(e:(xZ h H).get? b=some o):h.get? b=some o/\H b=none:=by
 have e':h.get? b=some o:=PySem.W.of_hideAll (MN h H) e
 refine⟨e',?_⟩
 cases q:H b with
 |none=>rfl
 |some x=>
  have hm:b∈MN h H:=gA.mpr ⟨kG.mpr (aJ e'),by simp[q]⟩
  have z:(xZ h H).get? b=none:=PySem.W.hideAll_none (MN h H) hm
  rw[z] at e;cases e
structure Mod(K:Fg)(mg:Str->Option Value)(base:Heap):Prop where
 kin:K.In base
 glob:base.Ns mainGlobals mg
 blt:∃mb,base.Ns builtinsNs mb/\∀x:Str,x≠"__name__"->mb x=bootBuiltins x
 nolimit:base.NoLimit
structure Cx where
 prog:Program
 w:World
 K:Fg
 mg:Str->Option Value
 base:Heap
 A:Around
 N:List Str
 s₀:Shared
 H₀:Hp
 env:Env
 outer:List Env
 stack:List Env
 ex:List Addr
 fn:Str->Bool
 calm:Bool
 pn:List (Addr×Obj)
 xe:Value->Shared->Prop
def yG(l:List Env):List Addr:=l.filterMap (·.frame)
abbrev Cx.fs(X:Cx):List Addr:=yG X.outer
def MI(sc:Scope)(x:Str):Prop:=sc.names.lookup x=some .local\/sc.names.lookup x=some .cell\/sc.names.lookup x=some .free
def JK(sc:Scope)(x:Str):Prop:=sc.names.lookup x=some .local\/sc.names.lookup x=some .cell
def MO(env:Env)(h:Heap)(m:Str->Option Value)(x:Str)(u:Value):Prop:=
 (env.kindOf x=some .local/\m x=some u)\/((env.kindOf x=some .cell\/env.kindOf x=some .free)/\∃c,env.cells.lookup x=some c/\h.IsCell c (some u))
structure Cx.Ok(X:Cx):Prop where
 mod:Mod X.K X.mg X.base
 kind:X.env.scope.kind=.function
 glob:X.env.globals=mainGlobals
 blt:X.env.builtins=builtinsNs
 above:X.s₀.heap.objs.size<=X.env.locals
 inj:∀x y c,X.env.cells.lookup x=some c->X.env.cells.lookup y=some c->x=y
 has:∀x,(X.env.kindOf x=some .cell\/X.env.kindOf x=some .free)->∃c,X.env.cells.lookup x=some c
 cab:∀x c,X.fn x=true->X.env.cells.lookup x=some c->X.s₀.heap.objs.size<=c
 hd:X.calm=true->X.A.handled=none
 frames:X.A.frames=some X.stack
 stk:X.stack=X.outer\/(X.stack=X.env::X.outer/\X.env.frame=some X.env.locals)
 exf:∀b∈X.ex,b≠X.env.locals/\∀x c,X.env.cells.lookup x=some c->c≠b
 bs:∀b o,X.base.get? b=some o->X.s₀.heap.get? b=some o/\X.H₀ b=none
 bsz:X.base.objs.size<=X.s₀.heap.objs.size
 noex:∀b o,X.base.get? b=some o->b∉X.ex
 exfs:∀b∈X.ex,b∉X.fs
 funs:X.s₀.heap.FunFrames X.base X.outer
 frf:∀b∈X.fs,X.H₀ b=none
structure bP(X:Cx)(pins:List (Addr×Obj))(σ:List (Option V))(H:Hp)(s:Shared):Prop where
 ok:X.Ok
 os:s.os=X.s₀.os
 bare:AllBare s.gens
 base:Un X.fs X.ex X.H₀ H X.s₀.heap s.heap
 loc:∃m,s.heap.Ns X.env.locals m/\∀(i:Nat) (x:Str) (v:V),X.N[i]?=some x->σ[i]?=some (some v)->MI X.env.scope x->∃u,de v u/\MO X.env s.heap m x u
 cell:∀x c,X.env.cells.lookup x=some c->∃v,s.heap.IsCell c v
 free:H X.env.locals=none
 freeC:∀x c,X.env.cells.lookup x=some c->H c=none
 pin:∀p∈X.pn++pins,s.heap.get? p.1=some p.2/\H p.1=none/\p.1≠X.env.locals/\p.1∉X.fs/\∀v,p.2.data≠.cell v
 hok:nK X.prog X.w H s.heap
 len:σ.length=X.N.length
section
variable{X:Cx}{pins:List (Addr×Obj)}{σ:List (Option V)}{H H':Hp}{s:Shared}{h':Heap}
theorem Cx.Ok.nofr(ok:X.Ok){b:Addr}{o:Obj}(e:X.base.get? b=some o):b∉X.fs:=λhb=>by
 have:=(ok.funs.mem hb).1
 rw[e] at this;cases this
theorem bP.bs(I:bP X pins σ H s):∀b o,X.base.get? b=some o->s.heap.get? b=some o/\H b=none:=λb o e=>
 ⟨I.base.keep b o (I.ok.bs b o e).1 (I.ok.bs b o e).2 (I.ok.nofr e) (I.ok.noex b o e),I.base.free b o (I.ok.bs b o e).1 (I.ok.bs b o e).2 (I.ok.noex b o e)⟩
theorem bP.bk(I:bP X pins σ H s):∀b o,X.base.get? b=some o->s.heap.get? b=some o:=λb o e=>(I.bs b o e).1
theorem bP.mod(I:bP X pins σ H s):Mod X.K X.mg X.base:=I.ok.mod
theorem bP.kIn(I:bP X pins σ H s):X.K.In s.heap:=I.ok.mod.kin.keeps I.bk
theorem bP.lt(I:bP X pins σ H s):X.env.locals<s.heap.objs.size:=let⟨_,hn,_⟩:=I.loc;hn.lt
theorem bP.sz(I:bP X pins σ H s):X.s₀.heap.objs.size<=s.heap.objs.size:=ck I.ok.above (iX I.lt)
theorem bP.nofs(I:bP X pins σ H s){a:Addr}(h:s.heap.objs.size<=a):a∉X.fs:=λhb=>by
 obtain⟨_,o,ho,_⟩:=I.ok.funs.mem hb
 exact absurd (aV (aJ ho) (ck I.sz h)) (cI _)
theorem bP.cne(I:bP X pins σ H s):∀x c,X.env.cells.lookup x=some c->c≠X.env.locals:=λx c e z=>by
 obtain⟨v,o,ho,hd⟩:=I.cell x c e
 obtain⟨m,⟨o',es,ep,ho',hd',_⟩,_⟩:=I.loc
 rw[z,ho'] at ho;cases ho;rw[hd'] at hd;cases hd
theorem bP.funs(I:bP X pins σ H s):s.heap.FunFrames X.base X.outer:=by
 have all:∀(l:List Env),(∀b∈yG l,b∈X.fs)->X.s₀.heap.FunFrames X.base l->s.heap.FunFrames X.base l:=by
  intro l
  induction l with
  |nil=>intro _ _;trivial
  |cons env r ih=>
   intro hs hl
   obtain⟨hk,⟨L,o,hf,hn,ho,hd⟩,hr⟩:=hl
   have hL:L∈X.fs:=hs L (by unfold yG;rw[ic,hf];exact cG)
   obtain⟨sl,e⟩:=I.base.slot L o ho (I.ok.frf L hL) hL λz=>I.ok.exfs L z hL
   exact⟨hk,⟨L,_,hf,hn,e,hd⟩,ih (λb hb=>hs b (by unfold yG;rw[ic,hf];exact cP _ hb)) hr⟩
 exact all X.outer (λ_ hb=>hb) I.ok.funs
theorem bP.stack(I:bP X pins σ H s):s.heap.FunFrames X.base X.stack:=by
 rcases I.ok.stk with e|⟨e,hf⟩
 ·rw[e];exact I.funs
 ·rw[e]
  obtain⟨m,hn,_⟩:=I.loc
  refine .cons (by rw[I.ok.kind];decide) hf hn ?_ I.funs
  exact Heap.get?_none_of_le (ck I.ok.bsz I.ok.above)
theorem bP.stkSub(I:bP X pins σ H s):∀b∈yG X.stack,b∈X.env.locals::X.fs:=λb hb=>by
 rcases I.ok.stk with e|⟨e,hf⟩
 ·rw[e] at hb;exact cP _ hb
 ·rw[e] at hb
  unfold yG at hb
  rw[ic,hf] at hb
  exact hb
theorem bP.stkFree(I:bP X pins σ H s):∀b∈yG X.stack,H b=none:=λb hb=>by
 rcases aU.mp (I.stkSub b hb) with e|hb
 ·rw[e];exact I.free
 ·obtain⟨_,o,ho,_⟩:=I.ok.funs.mem hb
  exact I.base.free b o ho (I.ok.frf b hb) λz=>I.ok.exfs b z hb
theorem bP.step{g':Array GenState}{t':Nat}{d':Drawn}{ch:List Addr}(I:bP X pins σ H s)
  (hch:∀b∈ch,(b∈X.ex\/X.s₀.heap.objs.size<=b)/\b≠X.env.locals/\(∀x c,X.env.cells.lookup x=some c->c≠b)/\∀p∈X.pn++pins,p.1≠b)
  (keep:∀b o,b≠X.env.locals->b∉X.fs->b∉ch->s.heap.get? b=some o->H b=none->h'.get? b=some o)
  (slot:∀b o,b≠X.env.locals->b∈X.fs->b∉ch->s.heap.get? b=some o->H b=none->∃sl,h'.get? b=some {o with slots:=sl}) (free:∀b o,b∉ch->s.heap.get? b=some o->H b=none->H' b=none)
  (there:∀b o,b∉ch->s.heap.get? b=some o->∃o',h'.get? b=some o')
  (tups:∀b xs,H b=some (.tup xs)->H' b=some (.tup xs)) (frzs:∀b o u,H b=some (.frz o u)->H' b=some (.frz o u)) (tbls:∀b ps,H b=some (.tbl ps)->∃more,H' b=some (.tbl (ps++more)))
  (ns:∀m,s.heap.Ns X.env.locals m->h'.Ns X.env.locals m) (hok:nK X.prog X.w H' h') (hg:AllBare g') :
  bP X pins σ H' {s with heap:=h',gens:=g',drawn:=d',toks:=t'}:=by
 have neL:∀b o,X.s₀.heap.get? b=some o->b≠X.env.locals:=λb o e=>bh (aV (aJ e) I.ok.above)
 have neC:∀b o,X.s₀.heap.get? b=some o->b∉X.ex->b∉ch:=λb o e hx hb=>by
  rcases(hch b hb).1 with z|z
  ·exact hx z
  ·exact absurd (aV (aJ e) z) (cI _)
 have cellK:∀x c,X.env.cells.lookup x=some c->∀v,s.heap.IsCell c v->h'.IsCell c v:=λx c e v ⟨o,ho,hd⟩=>by
  have nch:c∉ch:=λz=>(hch c z).2.2.1 x c e rfl
  by_cases hc:c∈X.fs
  ·obtain⟨sl,q⟩:=slot c o (I.cne x c e) hc nch ho (I.freeC x c e)
   exact⟨_,q,hd⟩
  ·exact⟨o,keep c o (I.cne x c e) hc nch ho (I.freeC x c e),hd⟩
 refine⟨I.ok,I.os,hg,⟨λb o e n hb hx=>?_,λb o e n hb hx=>?_,λb o e n hx=>?_,λb o e hx=>?_,λb xs e=>tups b xs (I.base.tups b xs e),λb o xs e=>frzs b o xs (I.base.frzs b o xs e),λb ps e=>?_⟩,?_,λx c e=>?_,?_,λx c e=>?_,λp hp=>?_,hok,I.len⟩
 ·exact keep b o (neL b o e) hb (neC b o e hx) (I.base.keep b o e n hb hx) (I.base.free b o e n hx)
 ·obtain⟨sl,e1⟩:=I.base.slot b o e n hb hx
  obtain⟨sl',e2⟩:=slot b _ (neL b o e) hb (neC b o e hx) e1 (I.base.free b o e n hx)
  exact⟨sl',e2⟩
 ·obtain⟨o',e1⟩:=I.base.there b o e hx
  exact free b o' (neC b o e hx) e1 (I.base.free b o e n hx)
 ·obtain⟨o',e1⟩:=I.base.there b o e hx
  exact there b o' (neC b o e hx) e1
 ·obtain⟨m1,e1⟩:=I.base.tbls b ps e
  obtain⟨m2,e2⟩:=tbls b _ e1
  exact⟨m1++m2,by rw[e2,Array.append_assoc]⟩
 ·obtain⟨m,hn,hl⟩:=I.loc
  refine⟨m,ns m hn,λi x v e1 e2 e3=>?_⟩
  obtain⟨u,r,l⟩:=hl i x v e1 e2 e3
  refine⟨u,r,?_⟩
  rcases l with l|⟨k,c,e,z⟩
  ·exact .inl l
  ·exact .inr ⟨k,c,e,cellK x c e _ z⟩
 ·obtain⟨v,z⟩:=I.cell x c e
  exact⟨v,cellK x c e v z⟩
 ·obtain⟨m,⟨o,_,_,ho,_⟩,_⟩:=I.loc
  exact free _ o (λz=>(hch _ z).2.1 rfl) ho I.free
 ·obtain⟨v,o,ho,hd⟩:=I.cell x c e
  exact free c o (λz=>(hch c z).2.2.1 x c e rfl) ho (I.freeC x c e)
 ·obtain⟨e,n,ne,nf,d⟩:=I.pin p hp
  have nch:p.1∉ch:=λz=>(hch p.1 z).2.2.2 p hp rfl
  exact⟨keep p.1 p.2 ne nf nch e n,free p.1 p.2 nch e n,ne,nf,d⟩
theorem bP.un{t':Nat}(I:bP X pins σ H s)(u:Un X.fs [] H H' s.heap h')(hok:nK X.prog X.w H' h'):bP X pins σ H' {s with heap:=h',toks:=t'}:=by
 obtain⟨m,⟨o,es,ep,ho,r⟩,_⟩:=id I.loc
 obtain⟨sl,hL⟩:=u.any ho I.free (by simp)
 exact I.step (g':=s.gens) (d':=s.drawn) (ch:=[]) (λ_ z=>nomatch z) (λb o _ hb _ e n=>u.keep b o e n hb (by simp)) (λb o _ hb _ e n=>u.slot b o e n hb (by simp)) (λb o _ e n=>u.free b o e n (by simp)) (λb o _ e=>u.there b o e (by simp)) u.tups u.frzs u.tbls (λm' hm=>by
  obtain⟨o',es',ep',ho',r'⟩:=hm
  rw[ho] at ho';cases ho'
  exact⟨_,es',ep',hL,r'⟩) hok I.bare
theorem bP.call{g':Array GenState}{t':Nat}{d':Drawn}{ch:List Addr}(I:bP X pins σ H s)(u:Un (yG X.stack) ch H H' s.heap h')(hok:nK X.prog X.w H' h')(hg:AllBare g')
  (hch:∀b∈ch,(b∈X.ex\/X.s₀.heap.objs.size<=b)/\b≠X.env.locals/\(∀x c,X.env.cells.lookup x=some c->c≠b)/\∀p∈X.pn++pins,p.1≠b) :
  bP X pins σ H' {s with heap:=h',gens:=g',drawn:=d',toks:=t'}:=by
 obtain⟨m,⟨o,es,ep,ho,r⟩,_⟩:=id I.loc
 obtain⟨sl,hL⟩:=u.any ho I.free λz=>(hch _ z).2.1 rfl
 exact I.step (ch:=ch) hch (λb o hL hb hc e n=>u.keep b o e n (λz=>(aU.mp (I.stkSub b z)).elim hL hb) hc) (λb o _ _ hc e n=>u.any e n hc) (λb o hc e n=>u.free b o e n hc) (λb o hc e=>u.there b o e hc) u.tups u.frzs u.tbls (λm' hm=>by
  obtain⟨o',es',ep',ho',r'⟩:=hm
  rw[ho] at ho';cases ho'
  exact⟨_,es',ep',hL,r'⟩) hok hg
theorem bP.turned{t':Nat}{it:Addr}(I:bP X pins σ H s)(k:∀b o,b≠it->s.heap.get? b=some o->h'.get? b=some o)(hn:H it=none)(hL:it≠X.env.locals)
  (h1:it∈X.ex\/X.s₀.heap.objs.size<=it) (h2:∀x c,X.env.cells.lookup x=some c->c≠it) (h3:∀p∈X.pn++pins,p.1≠it):bP X pins σ H {s with heap:=h',toks:=t'}:=by
 have nit:∀b u,H b=some u->b≠it:=λb u e z=>by rw[z,hn] at e;cases e
 refine I.step (g':=s.gens) (d':=s.drawn) (ch:=[it]) (λb hb=>?_) (λb o _ _ hc e _=>k b o (λz=>hc (by simp[z])) e) (λb o _ _ hc e _=>⟨o.slots,k b o (λz=>hc (by simp[z])) e⟩) (λ_ _ _ _ n=>n)
  (λb o hc e=>⟨o,k b o (λz=>hc (by simp[z])) e⟩) (λ_ _ e=>e) (λ_ _ _ e=>e) (λb ps e=>⟨#[],by rw[e];simp⟩) (λm hm=>?_) (λb u e=>?_) I.bare
 ·have e:b=it:=by simpa using hb
  subst e
  exact⟨h1,hL,h2,h3⟩
 ·obtain⟨o,es,ep,ho,r⟩:=hm
  exact⟨o,es,ep,k _ o (Ne.symm hL) ho,r⟩
 ·refine(I.hok b u e).stay (λc v hc q=>k c v ?_ q) (λ_ q=>q) λ_ _ q=>q
  rcases hc with z|z
  ·rw[z];exact nit b u e
  ·exact nit c _ z
theorem bP.tok(I:bP X pins σ H s)(t:Nat):bP X pins σ H {s with toks:=t}:=I.un (h':=s.heap) (t':=t) Un.refl I.hok
theorem bP.kept{t':Nat}(I:bP X pins σ H s)(k:∀b u,s.heap.get? b=some u->h'.get? b=some u):bP X pins σ H {s with heap:=h',toks:=t'}:=I.un (Un.kept k) (I.hok.kept k)
theorem bP.laid{a:Addr}{o:HO}{t':Nat}(I:bP X pins σ H s)(k:∀b u,s.heap.get? b=some u->h'.get? b=some u)(hp:s.heap.objs.size<=a)(new:eB X.prog X.w (upd H a o) h' a o) :
  bP X pins σ (upd H a o) {s with heap:=h',toks:=t'}:=I.un (Un.laid k hp (I.hok.fresh hp)) (I.hok.laid k hp new)
theorem bP.write{x e:Addr}{o:HO}{t':Nat}(I:bP X pins σ H s)(mu:LO (H x))(he:e=x\/H e=some (.own x))(k:∀b u,b≠e->s.heap.get? b=some u->h'.get? b=some u)(heo:∃u,h'.get? e=some u)
  (new:eB X.prog X.w (upd H x o) h' x o):bP X pins σ (upd H x o) {s with heap:=h',toks:=t'}:=I.un (Un.write mu he k heo) (I.hok.write mu he k heo new)
theorem bP.weak{σ':List (Option V)}(I:bP X pins σ H s)(hl:σ'.length=σ.length)(w:∀(i:Nat) v,σ'[i]?=some (some v)->σ[i]?=some (some v)):bP X pins σ' H s:=
 ⟨I.ok,I.os,I.bare,I.base,let⟨m,hn,hl'⟩:=I.loc;⟨m,hn,λi x v e1 e2 e3=>hl' i x v e1 (w i v e2) e3⟩,I.cell,I.free,I.freeC,I.pin,I.hok,hl.trans I.len⟩
theorem bP.pins_of{pins':List (Addr×Obj)}(I:bP X pins σ H s)(h:∀p∈pins',s.heap.get? p.1=some p.2/\H p.1=none/\p.1≠X.env.locals/\p.1∉X.fs/\∀v,p.2.data≠.cell v):bP X pins' σ H s:=
 ⟨I.ok,I.os,I.bare,I.base,I.loc,I.cell,I.free,I.freeC,λp hp=>(aY.mp hp).elim (λz=>I.pin p (cc _ z)) (h p),I.hok,I.len⟩
theorem uM{N:List Str}(hN:N.Nodup){i j:Nat}{x:Str}(a:N[i]?=some x)(b:N[j]?=some x):i=j:=by
 obtain⟨h1,e1⟩:=aj.mp a
 obtain⟨h2,e2⟩:=aj.mp b
 exact(List.getElem_inj hN).mp (e1.trans e2.symm)
theorem wM{M:Model}{A:Around}{E:Value->Shared->Prop}{i:Nat}{x:Str}{v:V}{u:Value}{Q:Unit->Shared->Prop}(I:bP X pins σ H s)(hN:X.N.Nodup)(hi:X.N[i]?=some x)(hx:JK X.env.scope x)(r:de v u)
  (h:∀s',bP X pins (σ.set i (some v)) H s'->(∃a,Heap.SameBut a s.heap s'.heap/\(a=X.env.locals\/X.env.cells.lookup x=some a))->Q () s') (hf:X.fn x=true\/X.env.scope.names.lookup x=some .local:=by first|exact .inl rfl|exact .inr rfl|assumption):wpAny M A (storeName X.env x u) Q E s:=by
 obtain⟨m,hn,hl⟩:=id I.loc
 have hcls:(X.env.scope.kind==.class || (X.env.scope.kind==.module&&X.env.locals != X.env.globals))=false:=by rw[I.ok.kind];rfl
 have hiσ:i<σ.length:=by rw[I.len];exact(aj.mp hi).1
 have cne:=I.cne
 have tracked:∀{a:Addr} {h':Heap},(∃o,s.heap.get? a=some o/\H a=none)->Heap.SameBut a s.heap h'->nK X.prog X.w H h':=λ{a h'} ha hs b ob e=>by
  obtain⟨_,_,hfree⟩:=ha
  refine(I.hok b ob e).stay (λc w' hc q=>(hs.2 c ?_).trans q) (λ_ q=>q) λ_ _ q=>q
  rintro rfl
  rcases hc with rfl|hc
  ·rw[hfree] at e;cases e
  ·rw[hfree] at hc;cases hc
 rcases hx with hk|hk
 ·refine wpAny_storeName_local hk hn (λh' hn' hs=>?_) hcls
  obtain⟨oL,_,_,hoL,_⟩:=id hn
  refine h _ ⟨I.ok,I.os,I.bare,⟨λb o e n hb hx=>?_,λb o e n hb hx=>?_,I.base.free,λb o e hx=>?_,I.base.tups,I.base.frzs,I.base.tbls⟩,⟨_,hn',λj y v' e1 e2 e3=>?_⟩,λy c e=>?_,I.free,I.freeC,λp hp=>?_,tracked ⟨oL,hoL,I.free⟩ hs,by simpa using I.len⟩ ⟨_,hs,.inl rfl⟩
  ·exact(hs.2 b (bh (aV (aJ e) I.ok.above))).trans (I.base.keep b o e n hb hx)
  ·obtain⟨sl,e1⟩:=I.base.slot b o e n hb hx
   exact⟨sl,(hs.2 b (bh (aV (aJ e) I.ok.above))).trans e1⟩
  ·obtain⟨o',e1⟩:=I.base.there b o e hx
   exact⟨o',(hs.2 b (bh (aV (aJ e) I.ok.above))).trans e1⟩
  ·by_cases hj:j=i
   ·subst hj
    rw[hi] at e1;cases e1
    rw[bp hiσ] at e2
    cases e2
    exact⟨u,r,.inl ⟨hk,by simp⟩⟩
   ·rw[bM (Ne.symm hj)] at e2
    obtain⟨u',r',q⟩:=hl j y v' e1 e2 e3
    refine⟨u',r',?_⟩
    rcases q with⟨k,e⟩|⟨k,c,e,z⟩
    ·refine .inl ⟨k,?_⟩
     have:y≠x:=λe=>hj (uM hN e1 (e ▸ hi))
     simp[this,e]
    ·exact .inr ⟨k,c,e,z.sameBut hs (cne y c e)⟩
  ·obtain⟨w',z⟩:=I.cell y c e
   exact⟨w',z.sameBut hs (cne y c e)⟩
  ·obtain⟨e,n,ne,nf,d⟩:=I.pin p hp
   exact⟨(hs.2 p.1 ne).trans e,n,ne,nf,d⟩
 ·have hfn:X.fn x=true:=by
   rcases hf with z|z
   ·exact z
   ·rw[z] at hk;cases hk
  obtain⟨c,hc⟩:=I.ok.has x (.inl hk)
  obtain⟨w',z⟩:=I.cell x c hc
  refine wpAny_storeName_cell I.ok.kind hk hc z (λh' hc' hs=>?_)
  obtain⟨oc,hoc,hocd⟩:=id z
  refine h {s with heap:=h'} ⟨I.ok,I.os,I.bare,⟨λb o e n hb hx=>?_,λb o e n hb hx=>?_,I.base.free,λb o e hx=>?_,I.base.tups,I.base.frzs,I.base.tbls⟩,⟨m,hn.sameBut hs (Ne.symm (cne x c hc)),λj y v' e1 e2 e3=>?_⟩,λy c' e=>?_,I.free,I.freeC,λp hp=>?_,tracked ⟨oc,hoc,I.freeC x c hc⟩ hs,by simpa using I.len⟩ ⟨c,hs,.inr hc⟩
  ·exact(hs.2 b (bh (aV (aJ e) (I.ok.cab x c hfn hc)))).trans (I.base.keep b o e n hb hx)
  ·obtain⟨sl,e1⟩:=I.base.slot b o e n hb hx
   exact⟨sl,(hs.2 b (bh (aV (aJ e) (I.ok.cab x c hfn hc)))).trans e1⟩
  ·obtain⟨o',e1⟩:=I.base.there b o e hx
   exact⟨o',(hs.2 b (bh (aV (aJ e) (I.ok.cab x c hfn hc)))).trans e1⟩
  ·by_cases hj:j=i
   ·subst hj
    rw[hi] at e1;cases e1
    rw[bp hiσ] at e2
    cases e2
    exact⟨u,r,.inr ⟨.inl hk,c,hc,hc'⟩⟩
   ·rw[bM (Ne.symm hj)] at e2
    obtain⟨u',r',q⟩:=hl j y v' e1 e2 e3
    refine⟨u',r',?_⟩
    rcases q with q|⟨k,c',e,z'⟩
    ·exact .inl q
    ·refine .inr ⟨k,c',e,z'.sameBut hs ?_⟩
     rintro rfl
     exact hj (uM hN e1 (I.ok.inj _ _ _ e hc ▸ hi))
  ·by_cases hcc:c'=c
   ·subst hcc;exact⟨_,hc'⟩
   ·obtain⟨w2,z2⟩:=I.cell y c' e
    exact⟨w2,z2.sameBut hs hcc⟩
  ·obtain⟨e,n,ne,nf,d⟩:=I.pin p hp
   refine⟨(hs.2 p.1 ?_).trans e,n,ne,nf,d⟩
   intro q
   rw[q,hoc] at e
   have q':oc=p.2:=Option.some.inj e
   exact d w' (by rw[<-q'];exact hocd)
theorem qw{M:Model}{A:Around}{E:Value->Shared->Prop}{i:Nat}{x:Str}{v:V}{u:Value}{Q:Unit->Shared->Prop}(I:bP X pins σ H s)(hN:X.N.Nodup)(hi:X.N[i]?=some x)(hx:JK X.env.scope x)(r:de v u)
  (h:∀s',bP X pins (σ.set i (some v)) H s'->Q () s') (hf:X.fn x=true\/X.env.scope.names.lookup x=some .local:=by first|exact .inl rfl|exact .inr rfl|assumption):wpAny M A (storeName X.env x u) Q E s:=
 wM I hN hi hx r (λs' I' _=>h s' I') hf
theorem bP.call'{s':Shared}{ch:List Addr}(I:bP X pins σ H s)(ho:s'.os=s.os)(u:Un (yG X.stack) ch H H' s.heap s'.heap)(hok:nK X.prog X.w H' s'.heap)(hg:AllBare s'.gens)
  (hch:∀b∈ch,(b∈X.ex\/X.s₀.heap.objs.size<=b)/\b≠X.env.locals/\(∀x c,X.env.cells.lookup x=some c->c≠b)/\∀p∈X.pn++pins,p.1≠b):bP X pins σ H' s':=by
 obtain⟨h',g',d',t',o'⟩:=s'
 have e:o'=s.os:=ho
 subst e
 exact I.call (g':=g') (t':=t') (d':=d') u hok hg hch
end
abbrev XK:=Value->Option Addr->Hp->Prop
abbrev St:=List (Option V)
abbrev VK:=V->Hp->Prop
abbrev TE:=St->Hp->VK->Prop
abbrev TT:=St->Hp->(Bool->Hp->Prop)->Prop
abbrev TA:=St->Hp->(List V->Hp->Prop)->Prop
structure nJ where
 nx:St->Hp->Prop
 rt:VK
 bk:St->Hp->Prop:=λ_ _=>False
 ct:St->Hp->Prop:=λ_ _=>False
abbrev TS:=nJ->St->Hp->Prop
def EP(X:Cx)(pins:List (Addr×Obj))(σ:St)(Q:VK)(u:Value)(s':Shared):Prop:=∃v H',bP X pins σ H' s'/\de v u/\Q v H'
def TP(X:Cx)(pins:List (Addr×Obj))(σ:St)(Q:Bool->Hp->Prop)(b:Bool)(s':Shared):Prop:=∃H',bP X pins σ H' s'/\Q b H'
def AP(X:Cx)(pins:List (Addr×Obj))(σ:St)(Q:List V->Hp->Prop)(us:List Value)(s':Shared):Prop:=∃vs H',bP X pins σ H' s'/\cO vs us/\Q vs H'
def SP(X:Cx)(pins:List (Addr×Obj))(D:nJ)(f:Flow)(s':Shared):Prop:=
 match f with
 |.next=>∃σ' H',bP X pins σ' H' s'/\D.nx σ' H'
 |.brk=>∃σ' H',bP X pins σ' H' s'/\D.bk σ' H'
 |.cont=>∃σ' H',bP X pins σ' H' s'/\D.ct σ' H'
 |.ret u=>∃v σ' H',bP X pins σ' H' s'/\de v u/\D.rt v H'
def PE(X:Cx)(e:Expr)(t:TE):Prop:=
 ∀(pins:List (Addr×Obj)) (s:Shared) (σ:St) (H:Hp) (Q:VK),bP X pins σ H s->t σ H Q->wpAny (model X.prog X.w) X.A (eval e X.env) (EP X pins σ Q) X.xe s
def PT(X:Cx)(e:Expr)(t:TT):Prop:=
 ∀(pins:List (Addr×Obj)) (s:Shared) (σ:St) (H:Hp) (Q:Bool->Hp->Prop),bP X pins σ H s->t σ H Q->wpAny (model X.prog X.w) X.A (isTrue e X.env (eval e X.env)) (TP X pins σ Q) X.xe s
def PW(X:Cx)(e:Expr)(t:TT):Prop:=
 ∀(whole:Sem Value) (pins:List (Addr×Obj)) (s:Shared) (σ:St) (H:Hp) (Q:Bool->Hp->Prop),bP X pins σ H s->t σ H Q->wpAny (model X.prog X.w) X.A (isTrue e X.env whole) (TP X pins σ Q) X.xe s
theorem PW.pt{X:Cx}{e:Expr}{t:TT}(h:PW X e t):PT X e t:=h _
def PA(X:Cx)(es:List Expr)(t:TA):Prop:=
 ∀(pos:Pos) (pins:List (Addr×Obj)) (s:Shared) (σ:St) (H:Hp) (Q:List V->Hp->Prop),bP X pins σ H s->t σ H Q->wpAny (model X.prog X.w) X.A (spliced (backTo pos (starEach es X.env))) (AP X pins σ Q) X.xe s
def PS(X:Cx)(st:Stmt)(t:TS):Prop:=
 ∀(pins:List (Addr×Obj)) (s:Shared) (σ:St) (H:Hp) (D:nJ),bP X pins σ H s->t D σ H->wpAny (model X.prog X.w) X.A (exec st X.env) (SP X pins D) X.xe s
def jg(X:Cx)(st:List Stmt)(t:TS):Prop:=
 ∀(pins:List (Addr×Obj)) (s:Shared) (σ:St) (H:Hp) (D:nJ),bP X pins σ H s->t D σ H->wpAny (model X.prog X.w) X.A (execs st X.env) (SP X pins D) X.xe s
theorem gg{α:Type}{t:Sem α}{Q Q':α->Shared->Prop}{M:Model}{A:Around}{E:Value->Shared->Prop}{s:Shared}(h:wpAny M A t Q E s)(hQ:∀a s,Q a s->Q' a s):wpAny M A t Q' E s:=wpAny_mono h hQ λ_ _ x=>x
section
variable{X:Cx}
def aq(i:Nat):TE:=λσ H Q=>∃v,σ[i]?=some (some v)/\Q v H
def tC(v:V):TE:=λ_ H Q=>Q v H
theorem KW{i:Nat}{x:Str}{pos:Pos}(hN:X.N[i]?=some x)(hv:MI X.env.scope x)(hd:(x==("__debug__":Str))=false:=by decide)(hcd:(x==("__classdict__":Str))=false:=by decide):PE X (.Name x pos) (aq i):=by
 intro pins s σ H Q I h
 obtain⟨v,e,h⟩:=h
 obtain⟨m,hn,hl⟩:=I.loc
 obtain⟨u,r,l⟩:=hl i x v hN e hv
 have fin:EP X pins σ Q u s:=⟨v,H,I,r,h⟩
 rcases l with⟨hk,hm⟩|⟨hk,c,hc,hcell⟩
 ·exact wpAny_Name (wpAny_loadName_local I.ok.kind hk hn hm fin) hd
 ·rcases hk with hk|hk
  ·exact wpAny_Name (wpAny_loadName_cell I.ok.kind hk hc hcell fin) hd
  ·exact wpAny_Name (wpAny_loadName_free I.ok.kind hk hc hcell fin hcd) hd
theorem KP{i j pos}:PE X (.Constant (.int i) j pos) (tC (.int i)):=λ_ _ _ H _ I h=>wpAny_Constant_int ⟨.int i,H,I.tok _,⟨_,rfl⟩,h⟩
theorem Me{b j pos}:PE X (.Constant (.bool b) j pos) (tC (.bl b)):=λ_ _ _ H _ I h=>Constant_bool ⟨.bl b,H,I,rfl,h⟩
theorem FV{j pos}:PE X (.Constant .none j pos) (tC .non):=λ_ _ _ H _ I h=>Constant_none ⟨.non,H,I,rfl,h⟩
theorem KS{x j pos}:PE X (.Constant (.str x) j pos) (tC (.str x)):=λ_ _ _ H _ I h=>Calls.Constant_str ⟨.str x,H,I.tok _,⟨_,rfl⟩,h⟩
def Gl(X:Cx)(x:Str):Prop:=X.env.kindOf x=some .globalImplicit
theorem tX{E:Value->Shared->Prop}{pins:List (Addr×Obj)}{s:Shared}{σ:St}{H:Hp}{x:Str}{u:Value}{pos:Pos}{Q:Value->Shared->Prop}(I:bP X pins σ H s)(hg:Gl X x)(hm:X.mg x=some u)(h:Q u s)
  (hd:(x==("__debug__":Str))=false:=by decide):wpAny (model X.prog X.w) X.A (eval (.Name x pos) X.env) Q E s:=
 Calls.Name_function_global I.ok.kind hg (Calls.loadGlobal_global (by rw[I.ok.glob];exact I.mod.glob.keeps I.bk) hm h) hd
theorem kS{E:Value->Shared->Prop}{pins:List (Addr×Obj)}{s:Shared}{σ:St}{H:Hp}{x:Str}{u:Value}{pos:Pos}{Q:Value->Shared->Prop}(I:bP X pins σ H s)(hg:Gl X x)(hm:X.mg x=none)(hv:bootBuiltins x=some u)(h:Q u s)
  (hn:x≠"__name__":=by decide) (hd:(x==("__debug__":Str))=false:=by decide):wpAny (model X.prog X.w) X.A (eval (.Name x pos) X.env) Q E s:=by
 obtain⟨mb,h1,h2⟩:=I.mod.blt
 exact Calls.Name_function_global I.ok.kind hg (Calls.loadGlobal_builtin (by rw[I.ok.glob];exact I.mod.glob.keeps I.bk) hm (by rw[I.ok.blt];exact h1.keeps I.bk) ((h2 x hn).trans hv) h) hd
theorem Iy{x:Str}{v:V}{u:Value}{pos:Pos}(hg:Gl X x)(hm:X.mg x=none)(hv:bootBuiltins x=some u)(r:de v u)(hn:x≠"__name__":=by decide)(hd:(x==("__debug__":Str))=false:=by decide):PE X (.Name x pos) (tC v):=
 λ_ _ _ H _ I h=>kS I hg hm hv ⟨v,H,I,r,h⟩ hn hd
variable{a b:Expr}{ta tb:TE}{pos:Pos}
def tB(t:TE):TT:=λσ H Q=>t σ H λx H1=>∃c,x=.bl c/\Q c H1
theorem Lg{e:Expr}{t:TE}(h:PE X e t)(he:∀whole,isTrue e X.env whole=(do let v <-whole;standAt e.pos;holding [v] (truthy v)):=by intro _;rfl):PT X e (tB t):=by
 intro pins s σ H Q I hw
 refine isTrue_plain (gg (h pins s σ H _ I hw) λv s1 ⟨x,H1,I1,r1,q1⟩=>?_) (he _)
 obtain⟨d,rfl,q⟩:=q1
 cases r1
 exact wpAny_truthy_bool ⟨H1,I1,q⟩
variable{tA tB':TT}{rest:List Expr}
def qy(t u:TT):TT:=λσ H Q=>t σ H λc H1=>if c=true then u σ H1 Q else Q false H1
def EG(t u:TT):TT:=λσ H Q=>t σ H λc H1=>if c=true then Q true H1 else u σ H1 Q
def LA(t:TT):TT:=λσ H Q=>t σ H λc H1=>Q (!c) H1
theorem IZ(ha:PT X a tA):PW X (.BoolOp .And [a] pos) tA:=by
 intro wh pins s σ H Q I h
 refine isTrue_and (gg (ha pins s σ H Q I h) λc s1 e=>?_)
 cases c with
 |true=>exact isTrue_and_nil e
 |false=>exact e
theorem Li(ha:PT X a tA):PW X (.BoolOp .Or [a] pos) tA:=by
 intro wh pins s σ H Q I h
 refine isTrue_or (gg (ha pins s σ H Q I h) λc s1 e=>?_)
 cases c with
 |false=>exact isTrue_or_nil e
 |true=>exact e
theorem Lh(ha:PT X a tA)(hb:PW X (.BoolOp .And (b::rest) pos) tB'):PW X (.BoolOp .And (a::b::rest) pos) (qy tA tB'):=by
 intro wh pins s σ H Q I h
 refine isTrue_and (gg (ha pins s σ H _ I h) λc s1 ⟨H1,I1,q1⟩=>?_)
 cases c with
 |true=>exact hb wh pins s1 σ H1 Q I1 q1
 |false=>exact⟨H1,I1,q1⟩
theorem Mn(ha:PT X a tA)(hb:PW X (.BoolOp .Or (b::rest) pos) tB'):PW X (.BoolOp .Or (a::b::rest) pos) (EG tA tB'):=by
 intro wh pins s σ H Q I h
 refine isTrue_or (gg (ha pins s σ H _ I h) λc s1 ⟨H1,I1,q1⟩=>?_)
 cases c with
 |true=>exact⟨H1,I1,q1⟩
 |false=>exact hb wh pins s1 σ H1 Q I1 q1
theorem Lf(ha:PT X a tA):PT X (.UnaryOp .Not a pos) (LA tA):=by
 intro pins s σ H Q I h
 exact isTrue_not (ha pins s σ H (λc H1=>Q (!c) H1) I h)
def qz(ta tb:TE):TE:=λσ H Q=>ta σ H λx H1=>∃c,x=.bl c/\if c=true then tb σ H1 Q else Q (.bl false) H1
def GI(ta tb:TE):TE:=λσ H Q=>ta σ H λx H1=>∃c,x=.bl c/\if c=true then Q (.bl true) H1 else tb σ H1 Q
theorem KR{op}{t:TE}(h:PE X a t):PE X (.BoolOp op [a] pos) t:=λpins s σ H Q I hw=>BoolOp_one (h pins s σ H Q I hw)
theorem KM(ha:PE X a ta)(hb:PE X (.BoolOp .And (b::rest) pos) tb):PE X (.BoolOp .And (a::b::rest) pos) (qz ta tb):=by
 intro pins s σ H Q I h
 refine BoolOp_and (gg (ha pins s σ H _ I h) λv s1 ⟨x,H1,I1,r1,q1⟩=>?_)
 obtain⟨c,rfl,q1⟩:=q1
 cases r1
 refine wpAny_truthy_bool ?_
 cases c with
 |true=>exact hb pins s1 σ H1 Q I1 q1
 |false=>exact⟨.bl false,H1,I1,rfl,q1⟩
theorem Mj(ha:PE X a ta)(hb:PE X (.BoolOp .Or (b::rest) pos) tb):PE X (.BoolOp .Or (a::b::rest) pos) (GI ta tb):=by
 intro pins s σ H Q I h
 refine BoolOp_or (gg (ha pins s σ H _ I h) λv s1 ⟨x,H1,I1,r1,q1⟩=>?_)
 obtain⟨c,rfl,q1⟩:=q1
 cases r1
 refine wpAny_truthy_bool ?_
 cases c with
 |false=>exact hb pins s1 σ H1 Q I1 q1
 |true=>exact⟨.bl true,H1,I1,rfl,q1⟩
end
def cz(K:Fg)(H:Hp)(a:Addr)(xs:List V):Prop:=
 Rd H a (.lst xs)\/
  ∃(o:Obj) (its:Array Value) (n:Nat),K.lookup a=some o/\o.cls=.type "list"/\o.dict=none/\o.data=.seq its n/\its.size<=sizeLine/\cO xs its.toList
def cY(K:Fg)(H:Hp)(a:Addr)(xs:List V):Prop:=
 Rd H a (.tup xs)\/
  ∃(o:Obj) (its:Array Value) (n:Nat),K.lookup a=some o/\o.cls=.type "tuple"/\o.data=.seq its n/\its.size<=sizeLine/\cO xs its.toList
def MV:Value->Option V
 |.none=>some .non
 |.bool b=>some (.bl b)
 |.int i _=>some (.int i)
 |.str x _=>some (.str x)
 |.bytes b _=>some (.byt b)
 |.float b _=>some (.flt b)
 |.ref a=>some (.ref a)
 |.type n=>some (.ty n)
 |_=>none
theorem de.abs{x:V}{u:Value}(r:de x u):MV u=some x:=by
 cases x with
 |non=>cases r;rfl
 |bl _=>cases r;rfl
 |int _=>obtain⟨t,rfl⟩:=r;rfl
 |str _=>obtain⟨t,rfl⟩:=r;rfl
 |byt _=>obtain⟨t,rfl⟩:=r;rfl
 |flt _=>obtain⟨t,rfl⟩:=r;rfl
 |ref _=>cases r;rfl
 |ty _=>cases r;rfl
theorem de.inj{x y:V}{u:Value}(r:de x u)(q:de y u):x=y:=Option.some.inj (r.abs.symm.trans q.abs)
theorem cO.inj:∀{xs ys:List V} {us:List Value},cO xs us->cO ys us->xs=ys
 |_,_,_,.nil,.nil=>rfl
 |_,_,_,.cons r t,.cons r' t'=>by rw[r.inj r',cO.inj t t']
section
variable{X:Cx}{pins:List (Addr×Obj)}{σ:St}{H:Hp}{s:Shared}{a:Addr}{xs ys:List V}
theorem cz.of{K:Fg}(h:H a=some (.lst xs)):cz K H a xs:=.inl (.inl h)
theorem cY.of{K:Fg}(h:H a=some (.tup xs)):cY K H a xs:=.inl (.inl h)
theorem bP.list(I:bP X pins σ H s)(h:cz X.K H a xs):∃its:List Value,cO xs its/\PlainL s.heap a its.toArray/\xs.length<=sizeLine:=by
 rcases h with h|⟨o,its,n,hk,hc,hd,hs,hz,r⟩
 ·obtain⟨z,its,n,r,e⟩:=h.ok I.hok
  exact⟨its,r,⟨_,n,e,rfl,rfl,rfl⟩,z⟩
 ·refine⟨its.toList,r,⟨o,n,I.kIn a o hk,hc,hd,by simpa using hs⟩,?_⟩
  have e:=r.length
  simp only[bX] at e
  lia
theorem bP.tuple(I:bP X pins σ H s)(h:cY X.K H a xs):∃its:List Value,cO xs its/\IsTup s.heap a its.toArray/\xs.length<=sizeLine:=by
 rcases h with h|⟨o,its,n,hk,hc,hs,hz,r⟩
 ·obtain⟨z,its,r,p⟩:=h.ok I.hok
  exact⟨its,r,p.tup,z⟩
 ·refine⟨its.toList,r,⟨o,I.kIn a o hk,hc,n,by simpa using hs⟩,?_⟩
  have e:=r.length
  simp only[bX] at e
  lia
theorem bP.list_inj(I:bP X pins σ H s)(h:cz X.K H a xs)(h':cz X.K H a ys):xs=ys:=by
 obtain⟨its,r,⟨o,n,e,_,_,d⟩,_⟩:=I.list h
 obtain⟨its',r',⟨o',n',e',_,_,d'⟩,_⟩:=I.list h'
 rw[e] at e';cases e'
 rw[d] at d'
 injection d' with d1 _
 have:its=its':=by simpa using congrArg Array.toList d1
 subst this
 exact r.inj r'
theorem bP.tuple_inj(I:bP X pins σ H s)(h:cY X.K H a xs)(h':cY X.K H a ys):xs=ys:=by
 obtain⟨its,r,⟨o,e,_,n,d⟩,_⟩:=I.tuple h
 obtain⟨its',r',⟨o',e',_,n',d'⟩,_⟩:=I.tuple h'
 rw[e] at e';cases e'
 rw[d] at d'
 injection d' with d1 _
 have:its=its':=by simpa using congrArg Array.toList d1
 subst this
 exact r.inj r'
end
abbrev Cx.wish(X:Cx)(E:Value->Shared->Prop):Cx:={X with xe:=E}
abbrev Cx.nox(X:Cx):Cx:=X.wish λ_ _=>False
theorem Cx.Ok.wish{X:Cx}(ok:X.Ok)(E:Value->Shared->Prop):(X.wish E).Ok:=
 ⟨ok.mod,ok.kind,ok.glob,ok.blt,ok.above,ok.inj,ok.has,ok.cab,ok.hd,ok.frames,ok.stk,ok.exf,ok.bs,ok.bsz,ok.noex,ok.exfs,ok.funs,ok.frf⟩
theorem Cx.Ok.unwish{X:Cx}{E:Value->Shared->Prop}(ok:(X.wish E).Ok):X.Ok:=
 ⟨ok.mod,ok.kind,ok.glob,ok.blt,ok.above,ok.inj,ok.has,ok.cab,ok.hd,ok.frames,ok.stk,ok.exf,ok.bs,ok.bsz,ok.noex,ok.exfs,ok.funs,ok.frf⟩
section
variable{X:Cx}{pins:List (Addr×Obj)}{σ:St}{H:Hp}{s:Shared}{E:Value->Shared->Prop}
theorem bP.wish(I:bP X pins σ H s)(E:Value->Shared->Prop):bP (X.wish E) pins σ H s:=⟨I.ok.wish E,I.os,I.bare,I.base,I.loc,I.cell,I.free,I.freeC,I.pin,I.hok,I.len⟩
theorem bP.unwish(I:bP (X.wish E) pins σ H s):bP X pins σ H s:=⟨I.ok.unwish,I.os,I.bare,I.base,I.loc,I.cell,I.free,I.freeC,I.pin,I.hok,I.len⟩
theorem SP.unwish{D:nJ}{f:Flow}{s':Shared}(h:SP (X.wish E) pins D f s'):SP X pins D f s':=by
 cases f with
 |next=>obtain⟨σ',H',I,q⟩:=h;exact⟨σ',H',I.unwish,q⟩
 |brk=>obtain⟨σ',H',I,q⟩:=h;exact⟨σ',H',I.unwish,q⟩
 |cont=>obtain⟨σ',H',I,q⟩:=h;exact⟨σ',H',I.unwish,q⟩
 |ret u=>obtain⟨v,σ',H',I,r,q⟩:=h;exact⟨v,σ',H',I.unwish,r,q⟩
theorem jg.nox{st:List Stmt}{t:TS}(h:jg X.nox st t):jg X st t:=λpins s σ H D I hw=>
 wpAny_mono (h pins s σ H D (I.wish _) hw) (λ_ _ q=>q.unwish) λ_ _ z=>False.elim z
end
section
variable{X:Cx}{st:Stmt}{rest:List Stmt}{t u:TS}{e:Expr}{te:TE}{pos:Pos}
def bW:TS:=λD σ H=>D.nx σ H
def bA(t u:TS):TS:=λD σ H=>t {D with nx:=u D} σ H
theorem IU:jg X [] bW:=λ_ _ σ H _ I h=>wpAny_execs_nil ⟨σ,H,I,h⟩
theorem Gd(h1:PS X st t)(h2:jg X rest u):jg X (st::rest) (bA t u):=by
 intro pins s σ H D I h
 refine wpAny_execs_cons (gg (h1 pins s σ H {D with nx:=u D} I h) λf s1 q=>?_)
 cases f with
 |next=>
  obtain⟨σ',H',I',q⟩:=q
  exact h2 pins s1 σ' H' D I' q
 |ret v=>exact q
 |brk=>exact q
 |cont=>exact q
theorem IV(h1:PS X st t):jg X [st] t:=by
 intro pins s σ H D I h
 refine wpAny_execs_cons (gg (h1 pins s σ H D I h) λf s1 q=>?_)
 cases f with
 |next=>exact wpAny_execs_nil q
 |ret v=>exact q
 |brk=>exact q
 |cont=>exact q
theorem bP.quiet{pins:List (Addr×Obj)}{σ:St}{H:Hp}{s:Shared}(I:bP X pins σ H s):interactive X.env=false:=by simp[interactive,I.ok.kind]
def jf(te:TE):TS:=λD σ H=>te σ H λ_ H1=>D.nx σ H1
theorem IS(he:PE X e te)(hs:swapsWith e none pos.line X.env=pure false:=by rfl):PS X (.Expr e pos) (jf te):=by
 intro pins s σ H D I h
 exact wpAny_Expr_any (gg (he pins s σ H _ I h) λv s1 ⟨x,H1,I1,r1,q1⟩=>⟨σ,H1,I1,q1⟩) I.quiet hs
def cM(te:TE):TS:=λD σ H=>te σ H D.rt
theorem Lc(he:PE X e te):PS X (.Return (some e) pos) (cM te):=by
 intro pins s σ H D I h
 exact wpAny_Return_some (gg (he pins s σ H _ I h) λv s1 ⟨x,H1,I1,r1,q1⟩=>⟨x,σ,H1,I1,r1,q1⟩)
def cZ(c:TT)(t u:TS):TS:=λD σ H=>c σ H λb H1=>if b=true then t D σ H1 else u D σ H1
theorem Mm{c:Expr}{a b:List Stmt}{tc:TT}(hc:PT X c tc)(ha:jg X a t)(hb:jg X b u):PS X (.If c a b pos) (cZ tc t u):=by
 intro pins s σ H D I h
 refine wpAny_If (gg (hc pins s σ H _ I h) λd s1 ⟨H1,I1,q1⟩=>?_)
 cases d with
 |true=>exact ha pins s1 σ H1 D I1 q1
 |false=>exact hb pins s1 σ H1 D I1 q1
end
abbrev TG:=V->St->Hp->(St->Hp->Prop)->Prop
abbrev C7:=List V->St->Hp->(St->Hp->Prop)->Prop
def PG(X:Cx)(target:Expr)(t:TG):Prop:=
 ∀(pins:List (Addr×Obj)) (s:Shared) (σ:St) (H:Hp) (v:V) (u:Value) (Q:St->Hp->Prop),bP X pins σ H s->de v u->t v σ H Q->
  wpAny (model X.prog X.w) X.A (assign target X.env u) (λ_ s'=>∃σ' H',bP X pins σ' H' s'/\Q σ' H') X.xe s
def LF(X:Cx)(ts:List Expr)(t:C7):Prop:=
 ∀(pins:List (Addr×Obj)) (s:Shared) (σ:St) (H:Hp) (vs:List V) (us:List Value) (Q:St->Hp->Prop),bP X pins σ H s->cO vs us->t vs σ H Q->
  wpAny (model X.prog X.w) X.A (assignInOrder ((assignEach ts X.env).map (·.2)) us) (λ_ s'=>∃σ' H',bP X pins σ' H' s'/\Q σ' H') X.xe s
abbrev Ho:=V->V->V->Hp->(Hp->Prop)->Prop
def Hk(X:Cx)(t:Ho):Prop:=
 ∀(pins:List (Addr×Obj)) (s:Shared) (σ:St) (H:Hp) (o i v:V) (ov iv u:Value) (Q:Hp->Prop),bP X pins σ H s->de o ov->de i iv->de v u->t o i v H Q->
  wpAny (model X.prog X.w) X.A (setItem ov iv u) (λ_ s'=>∃H',bP X pins σ H' s'/\Q H') X.xe s
section
variable{X:Cx}{pos:Pos}
def aP(i:Nat):TG:=λv σ H Q=>Q (σ.set i (some v)) H
theorem IE{i:Nat}{x:Str}(hN:X.N.Nodup)(hi:X.N[i]?=some x)(hx:JK X.env.scope x)(hf:X.fn x=true\/X.env.scope.names.lookup x=some .local:=by first|exact .inl rfl|exact .inr rfl|assumption):PG X (.Name x pos) (aP i):=by
 intro pins s σ H v u Q I r h
 exact wpAny_assign_Name (qw I hN hi hx r (λs' I'=>⟨_,H,I',h⟩) hf)
def vD:C7:=λvs σ H Q=>vs=[]/\Q σ H
def iT(t:TG)(u:C7):C7:=λvs σ H Q=>∃v r,vs=v::r/\t v σ H λσ' H'=>u r σ' H' Q
theorem IG:LF X [] vD:=by
 intro pins s σ H vs us Q I r h
 obtain⟨e,h⟩:=h
 subst e
 cases r
 exact assignInOrder_nil ⟨σ,H,I,h⟩
theorem FX{e:Expr}{es:List Expr}{t:TG}{u:C7}(h1:PG X e t)(h2:LF X es u)
  (hs:(assignEach (e::es) X.env).map (·.2)=assign e X.env::(assignEach es X.env).map (·.2):=by rfl):LF X (e::es) (iT t u):=by
 intro pins s σ H vs us Q I r h
 obtain⟨v,vr,e1,h⟩:=h
 subst e1
 cases r with
 |cons r rr=>
  rw[hs]
  refine assignInOrder_cons (gg (h1 pins s σ H _ _ _ I r h) λ_ s1 ⟨σ1,H1,I1,q1⟩=>?_)
  exact h2 pins s1 σ1 H1 _ _ Q I1 rr q1
def xY(K:Fg)(n:Nat)(t:C7):TG:=λv σ H Q=>∃a xs,v=.ref a/\cY K H a xs/\xs.length=n/\t xs σ H Q
theorem KZ{es:List Expr}{k:Nat}{t:C7}{n:Nat}(hc:X.calm=true)(h:LF X es t)
  (hn:(assignEach es X.env).length=n:=by rfl) (hst:(assignEach es X.env).findIdx? (·.1)=none:=by rfl):PG X (.Tuple es k pos) (xY X.K n t):=by
 intro pins s σ H v u Q I r hw
 obtain⟨a,xs,e1,hq,hl,hw⟩:=hw
 subst e1
 cases r
 obtain⟨its,rv,ht,hz⟩:=I.tuple hq
 refine assign_Tuple_tuple (I.ok.hd hc) ht (by simp[hn,<-hl,rv.length]) hst λh' hx=>?_
 have I1:bP X pins σ H {s with heap:=h'}:=I.kept (t':=s.toks) λb o e=>hx b o (bh (aJ e)) e
 exact h pins _ σ H xs _ Q I1 (by simpa using rv) hw
def pI(to ti:TE)(t:Ho):TG:=λv σ H Q=>to σ H λo H1=>ti σ H1 λi H2=>t o i v H2 λH3=>Q σ H3
theorem KY{o i:Expr}{to ti:TE}{t:Ho}(ho:PE X o to)(hi:PE X i ti)(hs:Hk X t)
  (ha:∀v,assign (.Subscript o i pos) X.env v=(do
   let ov <-holding [v] (eval o X.env)
   let iv <-holding [v,ov] (eval i X.env)
   standAt pos
   holding [v,ov,iv] (setItem ov iv v)
   release [v,ov,iv] []):=by intro _;rfl):PG X (.Subscript o i pos) (pI to ti t):=by
 intro pins s σ H v u Q I r h
 rw[ha]
 refine wpAny_bind (wpAny_holding (gg (ho pins s σ H _ I h) λov s1 ⟨x,H1,I1,r1,q1⟩=>?_))
 refine wpAny_bind (wpAny_holding (gg (hi pins s1 σ H1 _ I1 q1) λiv s2 ⟨y,H2,I2,r2,q2⟩=>?_))
 refine wpAny_bind (wpAny_standAt (wpAny_bind (wpAny_holding (gg (hs pins s2 σ H2 x y v ov iv u _ I2 r1 r2 r q2) λ_ s3 ⟨H3,I3,q3⟩=>?_))))
 exact wpAny_release ⟨σ,H3,I3,q3⟩
def bV(te:TE)(g:TG):TS:=λD σ H=>te σ H λx H1=>g x σ H1 D.nx
theorem La{tg e:Expr}{te:TE}{g:TG}(he:PE X e te)(hg:PG X tg g)(hs:swapsWithSole [tg] e pos.line X.env=pure false:=by rfl)(hw:swappedStores [tg] e X.env=pure none:=by rfl)
  (h1:(assignEach [tg] X.env).map (·.2)=[assign tg X.env]:=by rfl):PS X (.Assign [tg] e pos) (bV te g):=by
 intro pins s σ H D I h
 refine wpAny_Assign_stores (gg (he pins s σ H _ I h) λv s1 ⟨x,H1,I1,r1,q1⟩=>?_) hs hw
 rw[h1]
 exact gg (hg pins s1 σ H1 x v _ I1 r1 q1) λ_ s2 q=>q
theorem Ld{i:Nat}{x:Str}{e:Expr}{te:TE}{pos':Pos}(hN:X.N.Nodup)(hi:X.N[i]?=some x)(hx:JK X.env.scope x)(he:PE X e te)(hs:swapsWith e (some (.Name x pos')) pos.line X.env=pure false:=by rfl)(hf:X.fn x=true\/X.env.scope.names.lookup x=some .local:=by first|exact .inl rfl|exact .inr rfl|assumption) :
  PS X (.Assign [.Name x pos'] e pos) (bV te (aP i)):=by
 intro pins s σ H D I h
 refine wpAny_Assign_Name (gg (he pins s σ H _ I h) λv s1 ⟨y,H1,I1,r1,q1⟩=>?_) hs
 exact qw I1 hN hi hx r1 (λs2 I2=>⟨_,H1,I2,q1⟩) hf
end
section
variable{X:Cx}{pos:Pos}
def rP(c:TT)(tb:TS):TS:=λD σ H=>∃W:Nat->St->Hp->Prop,(∃m,W m σ H)/\∀m σ H,W m σ H->
 c σ H λb H1=>if b=true then ∃N:St->Hp->Prop,(∀σ' H',N σ' H'->∃m',m'<m/\W m' σ' H')/\tb {D with nx:=N,ct:=N,bk:=D.nx} σ H1 else D.nx σ H1
theorem Gc{c:Expr}{body:List Stmt}{tc:TT}{tb:TS}(hp:PassesOwn (model X.prog X.w) X.A X.env X.xe)(hc:PT X c tc)(hb:jg X body tb):PS X (.While c body [] pos) (rP tc tb):=by
 intro pins s σ H D I h
 obtain⟨W,⟨m0,w0⟩,turn⟩:=h
 refine wpAny_While (codeAny_whileLoop (λn s'=>∃σ' H',bP X pins σ' H' s'/\W n σ' H') ?_ m0 ⟨σ,H,I,w0⟩)
 rintro n s1 ⟨σ1,H1,I1,w1⟩
 refine wpAny_passesOwn hp (gg (hc pins s1 σ1 H1 _ I1 (turn n σ1 H1 w1)) λb s2 ⟨H2,I2,q2⟩=>?_)
 cases b with
 |true=>
  obtain⟨N,hN,q2⟩:=q2
  rw[if_pos rfl]
  refine wpAny_passesOwn hp (gg (hb pins s2 σ1 H2 _ I2 q2) λf s3 q3=>?_)
  cases f with
  |next=>
   obtain⟨σ3,H3,I3,n3⟩:=q3
   obtain⟨m',hm,w3⟩:=hN σ3 H3 n3
   exact⟨m',hm,σ3,H3,I3,w3⟩
  |cont=>
   obtain⟨σ3,H3,I3,n3⟩:=q3
   obtain⟨m',hm,w3⟩:=hN σ3 H3 n3
   exact⟨m',hm,σ3,H3,I3,w3⟩
  |brk=>exact q3
  |ret v=>exact q3
 |false=>
  rw[if_neg Bool.false_ne_true]
  exact wpAny_execs_nil ⟨σ1,H2,I2,q2⟩
end
structure It where
 go:Nat->Hp->Prop
 yld:Nat->Hp->V->Hp->Prop
 stop:Nat->Hp->Prop
def pT(X:Cx)(pins:List (Addr×Obj))(H:Hp)(b:Addr):Prop:=
 H b=none/\b≠X.env.locals/\b∉X.fs/\(b∈X.ex\/X.s₀.heap.objs.size<=b)/\(∀x c,X.env.cells.lookup x=some c->c≠b)/\∀p∈X.pn++pins,p.1≠b
theorem bP.fpOk{X:Cx}{pins:List (Addr×Obj)}{σ:St}{H H':Hp}{s:Shared}{b:Addr}(I:bP X pins σ H s)(hb:s.heap.objs.size<=b)(hn:H' b=none):pT X pins H' b:=by
 refine⟨hn,iY (aV I.lt hb),I.nofs hb,.inr (ck I.sz hb),λx c e z=>?_,λp hp z=>?_⟩
 ·obtain⟨v,q⟩:=I.cell x c e
  exact absurd (aV q.lt (by rw[z];exact hb)) (cI _)
 ·exact absurd (aV (aJ (I.pin p hp).1) (by rw[z];exact hb)) (cI _)
structure yL(P:Program)(w:World)(K:Fg)(tg:Expr)(J:It)(fp:List Addr)(it:Addr)(tn:Nat->Heap->Prop):Prop where
 mem:it∈fp
 obj:∀i h,tn i h->∀b∈fp,∃o,h.get? b=some o/\∀v,o.data≠.cell v
 keep:∀i h h',tn i h->(∀b∈fp,∀o,h.get? b=some o->h'.get? b=some o)->tn i h'
 item:∀(X:Cx),X.prog=P->X.w=w->X.K=K->X.calm=true->∀(i:Nat) (pins:List (Addr×Obj)) (s:Shared) (σ:St) (H:Hp) (E:Value->Shared->Prop),bP X pins σ H s->(∀b∈fp,pT X pins H b)->tn i s.heap->J.go i H->
  wpAny (model P w) X.A (pyNext (.ref it)) (λr s1=>∃u,r=some u/\
   wpAny (model P w) X.A (letOwnedTupleGo tg (.ref it) u) (λ_ s2=>∃x H',bP X pins σ H' s2/\de x u/\J.yld i H x H'/\tn (i+1) s2.heap/\∀b∈fp,H' b=none) E s1) E s
 done:∀(X:Cx),X.prog=P->X.w=w->X.K=K->X.calm=true->∀(i:Nat) (pins:List (Addr×Obj)) (s:Shared) (σ:St) (H:Hp) (E:Value->Shared->Prop),bP X pins σ H s->(∀b∈fp,pT X pins H b)->tn i s.heap->J.stop i H->
  wpAny (model P w) X.A (pyNext (.ref it)) (λr s1=>r=none/\bP X pins σ H s1) E s
 self:∀(A:Around) (i:Nat) (s:Shared) (Q:Value->Shared->Prop) (E:Value->Shared->Prop),tn i s.heap->Q (.ref it) s->wpAny (model P w) A (pyIter (.ref it)) Q E s
abbrev TI:=St->Hp->(It->Hp->Prop)->Prop
def Nc(X:Cx)(pins:List (Addr×Obj))(σ:St)(tg:Expr)(R:It->Hp->Prop)(itv:Value)(s2:Shared):Prop:=
 ∃(it:Addr) (fp:List Addr) (tn:Nat->Heap->Prop) (J:It) (H':Hp),itv=.ref it/\bP X pins σ H' s2/\yL X.prog X.w X.K tg J fp it tn/\tn 0 s2.heap/\(∀b∈fp,pT X pins H' b)/\R J H'
def PI(X:Cx)(tg iter:Expr)(wi:TI):Prop:=
 ∀(pins:List (Addr×Obj)) (s:Shared) (σ:St) (H:Hp) (R:It->Hp->Prop),bP X pins σ H s->wi σ H R->
  wpAny (model X.prog X.w) X.A (eval iter X.env) (λv s1=>wpAny (model X.prog X.w) X.A (pyIter v) (Nc X pins σ tg R) X.xe s1) X.xe s
theorem Ff{M:Model}{A:Around}{E:Value->Shared->Prop}{s:Shared}{tg:Expr}{it:Addr}{u:Value}{o:Obj}{n:String}{vs:Array Value}{Q:Unit->Shared->Prop}(ho:s.heap.get? it=some o)(hc:o.cls=.type n)(hd:o.data=.fields vs)
  (hn:["enumerate","zip","dict_itemiterator","dict_reverseitemiterator","odict_iterator","itertools.zip_longest","itertools.pairwise"].contains n=false) (hQ:Q () s):wpAny M A (letOwnedTupleGo tg (.ref it) u) Q E s:=by
 unfold letOwnedTupleGo
 cases tg<;>first
  |exact wpAny_pure hQ
  |(cases u<;>first
    |exact wpAny_pure hQ
    |(refine wpAny_bind (wpAny_load ho ?_)
      rw[hc,hd]
      show wpAny M A (if(["enumerate","zip","dict_itemiterator","dict_reverseitemiterator","odict_iterator","itertools.zip_longest","itertools.pairwise"].contains n&&vs[0]?==some (rawInt _))=true then _ else _) Q E s
      rw[if_neg (by intro h;rw[hn,Bool.false_and] at h;cases h)]
      exact wpAny_pure hQ))
def JH(K:Fg)(a:Addr):It:=
 ⟨λi H=>∃xs x,cz K H a xs/\xs[i]?=some x,λi H x H'=>H'=H/\∀xs,cz K H a xs->xs[i]?=some x,λi H=>∃xs,cz K H a xs/\xs.length<=i⟩
def JI(K:Fg)(a:Addr):It:=
 ⟨λi H=>∃xs x,cY K H a xs/\xs[i]?=some x,λi H x H'=>H'=H/\∀xs,cY K H a xs->xs[i]?=some x,λi H=>∃xs,cY K H a xs/\xs.length<=i⟩
def Hc(lo:Int)(n:Nat):It:=⟨λi _=>i<n,λi H x H'=>H'=H/\x=.int (lo+i),λi _=>n<=i⟩
theorem Ez{P:Program}{w:World}{K:Fg}{tg:Expr}(a it:Addr):yL P w K tg (JH K a) [it] it (λi h=>h.IsListIter it a i) where
 mem:=by simp
 obj:=λi h st b hb=>by
  have e:b=it:=by simpa using hb
  subst e
  obtain⟨o,e,c,d⟩:=st
  exact⟨o,e,λv z=>by rw[d] at z;cases z⟩
 keep:=λi h h' st k=>st.at λo e=>k it (by simp) o e
 item:=by
  intro X hP hw hK hc i pins s σ H E I hf st hg
  subst hP hw hK
  obtain⟨xs,x,hq,hx⟩:=hg
  obtain⟨its,rv,p,hz⟩:=I.list hq
  obtain⟨u,hu,ru⟩:=rv.get hx
  obtain⟨f0,f1,f2,f3,f4,f5⟩:=hf it (by simp)
  refine wpAny_pyNext_list_item st p.isList (x:=u) (by simpa using hu) λh' st' sb=>?_
  have I1:bP X pins σ H {s with heap:=h'}:=I.turned (t':=s.toks) (λb o hb e=>(sb.2 b hb).trans e) f0 f1 f3 f4 f5
  obtain⟨o,e,c,d⟩:=id st'
  exact⟨u,rfl,Ff (s:={s with heap:=h'}) e c d (by decide) ⟨x,H,I1,ru,⟨rfl,λys hy=>by rw[I.list_inj hy hq];exact hx⟩,st',λb hb=>(hf b hb).1⟩⟩
 done:=by
  intro X hP hw hK hc i pins s σ H E I hf st hg
  subst hP hw hK
  obtain⟨xs,hq,hx⟩:=hg
  obtain⟨its,rv,p,hz⟩:=I.list hq
  obtain⟨f0,f1,f2,f3,f4,f5⟩:=hf it (by simp)
  have hl:=rv.length
  exact wpAny_pyNext_list_end (I.ok.hd hc) st p.isList (by simp;lia) λh' eb=>⟨rfl,I.turned (t':=s.toks) (λb o hb e=>eb b o hb e) f0 f1 f3 f4 f5⟩
 self:=λ_ _ _ _ _ st h=>wpAny_pyIter_listiter st h
theorem BU{P:Program}{w:World}{K:Fg}{tg:Expr}(a it:Addr):yL P w K tg (JI K a) [it] it (λi h=>h.IsTupleIter it a i) where
 mem:=by simp
 obj:=λi h st b hb=>by
  have e:b=it:=by simpa using hb
  subst e
  obtain⟨o,e,c,d⟩:=st
  exact⟨o,e,λv z=>by rw[d] at z;cases z⟩
 keep:=λi h h' st k=>st.at λo e=>k it (by simp) o e
 item:=by
  intro X hP hw hK hc i pins s σ H E I hf st hg
  subst hP hw hK
  obtain⟨xs,x,hq,hx⟩:=hg
  obtain⟨its,rv,p,hz⟩:=I.tuple hq
  obtain⟨u,hu,ru⟩:=rv.get hx
  obtain⟨f0,f1,f2,f3,f4,f5⟩:=hf it (by simp)
  refine wpAny_pyNext_tuple_item st (show s.heap.IsTuple a its.toArray from p) (x:=u) (by simpa using hu) λh' st' sb=>?_
  have I1:bP X pins σ H {s with heap:=h'}:=I.turned (t':=s.toks) (λb o hb e=>(sb.2 b hb).trans e) f0 f1 f3 f4 f5
  obtain⟨o,e,c,d⟩:=id st'
  exact⟨u,rfl,Ff (s:={s with heap:=h'}) e c d (by decide) ⟨x,H,I1,ru,⟨rfl,λys hy=>by rw[I.tuple_inj hy hq];exact hx⟩,st',λb hb=>(hf b hb).1⟩⟩
 done:=by
  intro X hP hw hK hc i pins s σ H E I hf st hg
  subst hP hw hK
  obtain⟨xs,hq,hx⟩:=hg
  obtain⟨its,rv,p,hz⟩:=I.tuple hq
  obtain⟨f0,f1,f2,f3,f4,f5⟩:=hf it (by simp)
  have hl:=rv.length
  exact wpAny_pyNext_tuple_end (I.ok.hd hc) st (show s.heap.IsTuple a its.toArray from p) (by simp;lia) λh' eb=>⟨rfl,I.turned (t':=s.toks) (λb o hb e=>eb b o hb e) f0 f1 f3 f4 f5⟩
 self:=λ_ _ _ _ _ st h=>wpAny_pyIter_tupleiter st h
theorem BS{P:Program}{w:World}{K:Fg}{tg:Expr}(it:Addr)(lo:Int)(n:Nat):yL P w K tg (Hc lo n) [it] it (λi h=>IsRangeIter h it (lo+(i:Nat)*1) ((n:Int)-(i:Nat)) 1) where
 mem:=by simp
 obj:=λi h st b hb=>by
  have e:b=it:=by simpa using hb
  subst e
  exact⟨_,st,λv z=>by
   have z':Data.fields _=Data.cell v:=z
   cases z'⟩
 keep:=λi h h' st k=>k it (by simp) _ st
 item:=by
  intro X hP hw hK hc i pins s σ H E I hf st hg
  subst hP hw hK
  obtain⟨f0,f1,f2,f3,f4,f5⟩:=hf it (by simp)
  have W:=Walks.range (prog:=X.prog) (w:=X.w) (I.ok.hd hc) it lo 1 n
  refine W.item i s _ _ hg st λv h' tk hv st' kk=>?_
  obtain⟨t,rfl⟩:=hv
  have I1:bP X pins σ H {s with heap:=h',toks:=tk}:=I.turned (λb o hb e=>kk b o (by simpa using hb) e) f0 f1 f3 f4 f5
  refine⟨_,rfl,Ff (s:={s with heap:=h',toks:=tk}) (n:="range_iterator") st' rfl rfl (by decide) ⟨.int (lo+i),H,I1,⟨t,?_⟩,⟨rfl,rfl⟩,st',λb hb=>(hf b hb).1⟩⟩
  rw[Int.mul_one]
 done:=by
  intro X hP hw hK hc i pins s σ H E I hf st hg
  subst hP hw hK
  obtain⟨f0,f1,f2,f3,f4,f5⟩:=hf it (by simp)
  exact wpAny_pyNext_range_end (I.ok.hd hc) st (by have:n<=i:=hg;lia) λh' eb=>⟨rfl,I.turned (t':=s.toks) (λb o hb e=>eb b o hb e) f0 f1 f3 f4 f5⟩
 self:=λ_ _ _ _ _ st h=>wpAny_pyIter_rangeiter st h
section
variable{X:Cx}{tg:Expr}
def JN(K:Fg)(tl:TE):TI:=λσ H R=>tl σ H λx H1=>∃a,x=.ref a/\(∃xs,cz K H1 a xs)/\R (JH K a) H1
def L4(K:Fg)(tl:TE):TI:=λσ H R=>tl σ H λx H1=>∃a,x=.ref a/\(∃xs,cY K H1 a xs)/\R (JI K a) H1
theorem II{l:Expr}{tl:TE}(hl:PE X l tl):PI X tg l (JN X.K tl):=by
 intro pins s σ H R I h
 refine gg (hl pins s σ H _ I h) λv s1 ⟨x,H1,I1,r1,q1⟩=>?_
 obtain⟨a,e,⟨xs,hq⟩,q⟩:=q1
 subst e
 cases r1
 obtain⟨its,rv,p,hz⟩:=I1.list hq
 refine wpAny_pyIter_list p.isList ?_
 refine⟨s1.heap.objs.size,[s1.heap.objs.size],_,_,H1,rfl,I1.kept (t':=s1.toks) λb o e=>az _ e,Ez a _,⟨_,aW _ rfl,rfl,rfl⟩,λb hb=>?_,q⟩
 have e:b=s1.heap.objs.size:=by simpa using hb
 subst e
 exact I1.fpOk (aC _) (I1.hok.fresh (aC _))
theorem K7{l:Expr}{tl:TE}(hl:PE X l tl):PI X tg l (L4 X.K tl):=by
 intro pins s σ H R I h
 refine gg (hl pins s σ H _ I h) λv s1 ⟨x,H1,I1,r1,q1⟩=>?_
 obtain⟨a,e,⟨xs,hq⟩,q⟩:=q1
 subst e
 cases r1
 obtain⟨its,rv,p,hz⟩:=I1.tuple hq
 refine wpAny_pyIter_tuple (show s1.heap.IsTuple a its.toArray from p) ?_
 refine⟨s1.heap.objs.size,[s1.heap.objs.size],_,_,H1,rfl,I1.kept (t':=s1.toks) λb o e=>az _ e,BU a _,⟨_,aW _ rfl,rfl,rfl⟩,λb hb=>?_,q⟩
 have e:b=s1.heap.objs.size:=by simpa using hb
 subst e
 exact I1.fpOk (aC _) (I1.hok.fresh (aC _))
theorem zD{pins:List (Addr×Obj)}{σ:St}{H:Hp}{s:Shared}{R:It->Hp->Prop}{E:Value->Shared->Prop}{lo hi:Int}{t u v:Tok}{tk:Nat}(I:bP X pins σ H s)(h1:-(2 ^ 62)<=lo)(h2:lo<2 ^ 62)(h3:-(2 ^ 62)<=hi)(h4:hi<2 ^ 62)
  (q:R (Hc lo (hi-lo).toNat) H):wpAny (model X.prog X.w) X.A (pyIter (.ref s.heap.objs.size)) (Nc X pins σ tg R) E {s with heap:=s.heap.push {cls:=.type "range",data:=.fields #[.int lo t,.int hi u,.int 1 v]},toks:=tk}:=by
 refine wpAny_pyIter_range (IsRange.new ..) (small_one h1 h2 h3 h4) ?_
 have I1:bP X pins σ H {s with heap:=s.heap.push {cls:=.type "range",data:=.fields #[.int lo t,.int hi u,.int 1 v]},toks:=tk}:=I.kept λb o e=>az _ e
 refine⟨(s.heap.push {cls:=.type "range",data:=.fields #[.int lo t,.int hi u,.int 1 v]}).objs.size,[(s.heap.push {cls:=.type "range",data:=.fields #[.int lo t,.int hi u,.int 1 v]}).objs.size],_,_,H,rfl,
  I1.kept (t':=tk) λb o e=>az _ e,BS _ lo (hi-lo).toNat,?_,λb hb=>?_,q⟩
 ·have e1:lo+((0:Nat):Int)*1=lo:=by simp
  have e2:(((hi-lo).toNat:Nat):Int)-((0:Nat):Int)=Builtin.Range.rangeSize lo hi 1:=by rw[rangeSize_one];split<;>lia
  show IsRangeIter _ _ (lo+((0:Nat):Int)*1) ((((hi-lo).toNat:Nat):Int)-((0:Nat):Int)) 1
  rw[e1,e2]
  exact aW _ rfl
 ·have e:b=(s.heap.push {cls:=.type "range",data:=.fields #[.int lo t,.int hi u,.int 1 v]}).objs.size:=by simpa using hb
  subst e
  exact I1.fpOk (aC _) (I1.hok.fresh (aC _))
def lB(ta:TA):TI:=λσ H R=>ta σ H λvs H1=>∃j:Int,vs=[.int j]/\-(2 ^ 62)<=j/\j<2 ^ 62/\R (Hc 0 j.toNat) H1
def Fk(ta:TA):TI:=λσ H R=>ta σ H λvs H1=>∃i j:Int,vs=[.int i,.int j]/\(-(2 ^ 62)<=i/\i<2 ^ 62/\-(2 ^ 62)<=j/\j<2 ^ 62)/\R (Hc i (j-i).toNat) H1
theorem D5{a:Expr}{ta:TA}{p pos:Pos}(hg:Gl X "range")(hm:X.mg "range"=none)(ha:PA X [a] ta)(hs:starEach [a] X.env=[(false,eval a X.env)]:=by rfl):PI X tg (.Call (.Name "range" p) [a] [] pos) (lB ta):=by
 intro pins s σ H R I h
 refine Call_ (kS I hg hm boot_range (cK (gg (ha pos pins s σ H _ I h) λus s1 ⟨vs,H1,I1,r1,q1⟩=>?_) hs rfl))
 obtain⟨j,e,q1,q2,q⟩:=q1
 subst e
 cases r1 with
 |cons r rr=>
  cases rr
  obtain⟨t,rfl⟩:=r
  exact call_range_1 (zD I1 (by lia) (by lia) q1 q2 (by simpa using q))
theorem D6{a b:Expr}{ta:TA}{p pos:Pos}(hg:Gl X "range")(hm:X.mg "range"=none)(ha:PA X [a,b] ta)(hs:starEach [a,b] X.env=[(false,eval a X.env),(false,eval b X.env)]:=by rfl)(hs2:starEach [b] X.env=[(false,eval b X.env)]:=by rfl) :
  PI X tg (.Call (.Name "range" p) [a,b] [] pos) (Fk ta):=by
 intro pins s σ H R I h
 refine Call_ (kS I hg hm boot_range (cK (gg (ha pos pins s σ H _ I h) λus s1 ⟨vs,H1,I1,r1,q1⟩=>?_) (by rw[hs,hs2]) (by rw[hs2];rfl)))
 obtain⟨i,j,e,⟨q1,q2,q3,q4⟩,q⟩:=q1
 subst e
 cases r1 with
 |cons r rr=>
  cases rr with
  |cons r' rr=>
   cases rr
   obtain⟨t,rfl⟩:=r
   obtain⟨t',rfl⟩:=r'
   exact call_range_2 (zD I1 q1 q2 q3 q4 q)
def iR(wi:TI)(g:TG)(tb:TS):TS:=λD σ H=>wi σ H λJ H1=>∃W:Nat->Nat->St->Hp->Prop,(∃m,W 0 m σ H1)/\∀i m σ H,W i m σ H->
 (J.stop i H/\D.nx σ H)\/(J.go i H/\∃N:St->Hp->Prop,(∀σ' H',N σ' H'->∃m',m'<m/\W (i+1) m' σ' H')/\∀x H',J.yld i H x H'->g x σ H' λσ2 H2=>tb {D with nx:=N,ct:=N,bk:=D.nx} σ2 H2)
def uO(fp:List Addr)(h:Heap):List (Addr×Obj):=fp.filterMap λb=>(h.get? b).map λo=>(b,o)
theorem mU{fp:List Addr}{h:Heap}{b:Addr}{o:Obj}(hb:b∈fp)(e:h.get? b=some o):(b,o)∈uO fp h:=List.mem_filterMap.mpr ⟨b,hb,by rw[e];rfl⟩
theorem DV{fp:List Addr}{h:Heap}{p:Addr×Obj}(hp:p∈uO fp h):p.1∈fp/\h.get? p.1=some p.2:=by
 obtain⟨b,hb,e⟩:=List.mem_filterMap.mp hp
 cases q:h.get? b with
 |none=>rw[q] at e;cases e
 |some o=>
  rw[q] at e
  have e':(b,o)=p:=Option.some.inj e
  subst e'
  exact⟨hb,q⟩
theorem bP.pinned{pins:List (Addr×Obj)}{σ:St}{H:Hp}{s:Shared}{fp:List Addr}(I:bP X pins σ H s)(hf:∀b∈fp,pT X pins H b)(ho:∀b∈fp,∃o,s.heap.get? b=some o/\∀v,o.data≠.cell v):bP X (pins++uO fp s.heap) σ H s:=
 I.pins_of λp hp=>(aY.mp hp).elim (λz=>I.pin p (bB _ z)) λz=>by
  obtain⟨hb,e⟩:=DV z
  obtain⟨f0,f1,f2,_⟩:=hf p.1 hb
  obtain⟨o,e',d⟩:=ho p.1 hb
  rw[e] at e';cases e'
  exact⟨e,f0,f1,f2,d⟩
theorem bP.unpinned{pins pl:List (Addr×Obj)}{σ:St}{H:Hp}{s:Shared}(I:bP X (pins++pl) σ H s):bP X pins σ H s:=I.pins_of λp hp=>I.pin p (bB _ (cc _ hp))
theorem Lb{iter:Expr}{body:List Stmt}{wi:TI}{g:TG}{tb:TS}{pos:Pos}(hp:PassesOwn (model X.prog X.w) X.A X.env X.xe)(hc:X.calm=true)(hi:PI X tg iter wi)(hg:PG X tg g)(hb:jg X body tb)
  (hs:∀x,foldedSetIterable iter X.env x=pure x:=by intro _;rfl):PS X (.For tg iter body [] pos) (iR wi g tb):=by
 intro pins s σ H D I h
 refine wpAny_For (gg (hi pins s σ H _ I h) λv s1 h1=>gg h1 λitv s2 h2=>?_) hs
 obtain⟨it,fp,tn,J,H2,e,I2,T,st2,f2,W,⟨m0,w0⟩,turn⟩:=h2
 subst e
 have stat:∀{H':Hp},(∀b∈fp,H' b=none)->∀b∈fp,pT X pins H' b:=λhn b hb=>⟨hn b hb,(f2 b hb).2⟩
 refine codeAny_forLoop_any (λn s'=>∃i σ' H',bP X pins σ' H' s'/\tn i s'.heap/\(∀b∈fp,H' b=none)/\W i n σ' H') ?_ m0 ⟨0,σ,H2,I2,st2,λb hb=>(f2 b hb).1,w0⟩
 rintro n s3 ⟨i,σ3,H3,I3,st3,fr3,w3⟩
 rcases turn i n σ3 H3 w3 with⟨stop,qn⟩|⟨go,N,hN,step⟩
 ·refine wpAny_passesOwn hp (gg (T.done X rfl rfl rfl hc i pins s3 σ3 H3 X.xe I3 (stat fr3) st3 stop) λr s4 ⟨hr,I4⟩=>?_)
  subst hr
  exact wpAny_execs_nil ⟨σ3,H3,I4,qn⟩
 ·refine wpAny_passesOwn hp (gg (T.item X rfl rfl rfl hc i pins s3 σ3 H3 X.xe I3 (stat fr3) st3 go) λr s4 ⟨u,hr,h4⟩=>?_)
  subst hr
  refine wpAny_passesOwn hp (gg h4 λ_ s5 ⟨x,H5,I5,r5,y5,st5,fr5⟩=>?_)
  have I5':=I5.pinned (stat fr5) (T.obj _ _ st5)
  refine wpAny_passesOwn hp (gg (hg _ s5 σ3 H5 x u _ I5' r5 (step x H5 y5)) λ_ s6 ⟨σ6,H6,I6,q6⟩=>?_)
  refine wpAny_passesOwn hp (gg (hb _ s6 σ6 H6 _ I6 q6) λf s7 q7=>?_)
  have again:∀{σ7:St} {H7:Hp},bP X (pins++uO fp s5.heap) σ7 H7 s7->N σ7 H7->∃m,m<n/\∃i σ' H',bP X pins σ' H' s7/\tn i s7.heap/\(∀b∈fp,H' b=none)/\W i m σ' H':=λ{σ7 H7} I7 n7=>by
   obtain⟨m',hm,w7⟩:=hN σ7 H7 n7
   refine⟨m',hm,i+1,σ7,H7,I7.unpinned,T.keep _ _ _ st5 λb hb o e=>(I7.pin (b,o) (bB _ (bB _ (mU hb e)))).1,λb hb=>?_,w7⟩
   obtain⟨o,e,d⟩:=T.obj _ _ st5 b hb
   exact(I7.pin (b,o) (bB _ (bB _ (mU hb e)))).2.1
  cases f with
  |next=>obtain⟨σ7,H7,I7,n7⟩:=q7;exact again I7 n7
  |cont=>obtain⟨σ7,H7,I7,n7⟩:=q7;exact again I7 n7
  |brk=>obtain⟨σ7,H7,I7,q7⟩:=q7;exact⟨σ7,H7,I7.unpinned,q7⟩
  |ret v=>obtain⟨x7,σ7,H7,I7,r7,q7⟩:=q7;exact⟨x7,σ7,H7,I7.unpinned,r7,q7⟩
end
theorem md{K:Fg}{a:Addr}{xs:List V}{g:TG}{tb:TS}{D:nJ}{σ:St}{H:Hp}(Pv:Nat->St->Hp->Prop)(h0:Pv 0 σ H)(hl:∀i σ H,i<=xs.length->Pv i σ H->cz K H a xs)
  (hs:∀i x σ H,xs[i]?=some x->Pv i σ H->g x σ H λσ2 H2=>tb {D with nx:=Pv (i+1),ct:=Pv (i+1),bk:=D.nx} σ2 H2) (hd:∀σ H,Pv xs.length σ H->D.nx σ H) :
  ∃W:Nat->Nat->St->Hp->Prop,(∃m,W 0 m σ H)/\∀i m σ H,W i m σ H->
   ((JH K a).stop i H/\D.nx σ H)\/((JH K a).go i H/\∃N:St->Hp->Prop,(∀σ' H',N σ' H'->∃m',m'<m/\W (i+1) m' σ' H')/\∀x H',(JH K a).yld i H x H'->g x σ H' λσ2 H2=>tb {D with nx:=N,ct:=N,bk:=D.nx} σ2 H2):=by
 refine⟨λi m σ H=>m=xs.length-i/\i<=xs.length/\Pv i σ H,⟨xs.length,by simp,dh _,h0⟩,?_⟩
 rintro i m σ H ⟨rfl,hi,p⟩
 have q:=hl i σ H hi p
 by_cases hlt:i<xs.length
 ·refine .inr ⟨⟨xs,xs[i],q,by simp[hlt]⟩,Pv (i+1),λσ' H' p'=>⟨xs.length-(i+1),by lia,rfl,hlt,p'⟩,λx H' y=>?_⟩
  obtain⟨e,y⟩:=y
  subst e
  exact hs i x σ _ (y xs q) p
 ·have e:i=xs.length:=by lia
  subst e
  exact .inl ⟨⟨xs,q,aC _⟩,hd σ H p⟩
theorem ki{K:Fg}{a:Addr}{xs:List V}{g:TG}{tb:TS}{D:nJ}{σ:St}{H:Hp}(Pv:Nat->St->Hp->Prop)(h0:Pv 0 σ H)(hl:∀i σ H,i<=xs.length->Pv i σ H->cY K H a xs)
  (hs:∀i x σ H,xs[i]?=some x->Pv i σ H->g x σ H λσ2 H2=>tb {D with nx:=Pv (i+1),ct:=Pv (i+1),bk:=D.nx} σ2 H2) (hd:∀σ H,Pv xs.length σ H->D.nx σ H) :
  ∃W:Nat->Nat->St->Hp->Prop,(∃m,W 0 m σ H)/\∀i m σ H,W i m σ H->
   ((JI K a).stop i H/\D.nx σ H)\/((JI K a).go i H/\∃N:St->Hp->Prop,(∀σ' H',N σ' H'->∃m',m'<m/\W (i+1) m' σ' H')/\∀x H',(JI K a).yld i H x H'->g x σ H' λσ2 H2=>tb {D with nx:=N,ct:=N,bk:=D.nx} σ2 H2):=by
 refine⟨λi m σ H=>m=xs.length-i/\i<=xs.length/\Pv i σ H,⟨xs.length,by simp,dh _,h0⟩,?_⟩
 rintro i m σ H ⟨rfl,hi,p⟩
 have q:=hl i σ H hi p
 by_cases hlt:i<xs.length
 ·refine .inr ⟨⟨xs,xs[i],q,by simp[hlt]⟩,Pv (i+1),λσ' H' p'=>⟨xs.length-(i+1),by lia,rfl,hlt,p'⟩,λx H' y=>?_⟩
  obtain⟨e,y⟩:=y
  subst e
  exact hs i x σ _ (y xs q) p
 ·have e:i=xs.length:=by lia
  subst e
  exact .inl ⟨⟨xs,q,aC _⟩,hd σ H p⟩
theorem gD{lo:Int}{n:Nat}{g:TG}{tb:TS}{D:nJ}{σ:St}{H:Hp}(Pv:Nat->St->Hp->Prop)(h0:Pv 0 σ H)
  (hs:∀i σ H,i<n->Pv i σ H->g (.int (lo+i)) σ H λσ2 H2=>tb {D with nx:=Pv (i+1),ct:=Pv (i+1),bk:=D.nx} σ2 H2) (hd:∀σ H,Pv n σ H->D.nx σ H) :
  ∃W:Nat->Nat->St->Hp->Prop,(∃m,W 0 m σ H)/\∀i m σ H,W i m σ H->
   ((Hc lo n).stop i H/\D.nx σ H)\/((Hc lo n).go i H/\∃N:St->Hp->Prop,(∀σ' H',N σ' H'->∃m',m'<m/\W (i+1) m' σ' H')/\∀x H',(Hc lo n).yld i H x H'->g x σ H' λσ2 H2=>tb {D with nx:=N,ct:=N,bk:=D.nx} σ2 H2):=by
 refine⟨λi m σ H=>m=n-i/\i<=n/\Pv i σ H,⟨n,by simp,dh _,h0⟩,?_⟩
 rintro i m σ H ⟨rfl,hi,p⟩
 by_cases hlt:i<n
 ·refine .inr ⟨hlt,Pv (i+1),λσ' H' p'=>⟨n-(i+1),by lia,rfl,hlt,p'⟩,λx H' y=>?_⟩
  obtain⟨e,y⟩:=y
  subst e y
  exact hs i σ _ hlt p
 ·have e:i=n:=by lia
  subst e
  exact .inl ⟨aC _,hd σ H p⟩
abbrev R2:=V->V->Hp->VK->Prop
def kf(X:Cx)(f:Value->Value->Sem Value)(r:R2):Prop:=
 ∀(pins:List (Addr×Obj)) (s:Shared) (σ:St) (H:Hp) (x y:V) (v u:Value) (Q:VK),bP X pins σ H s->de x v->de y u->r x y H Q->
  wpAny (model X.prog X.w) X.A (f v u) (EP X pins σ Q) X.xe s
def MH(X:Cx)(f:Value->Sem Value)(r:V->Hp->VK->Prop):Prop:=
 ∀(pins:List (Addr×Obj)) (s:Shared) (σ:St) (H:Hp) (x:V) (v:Value) (Q:VK),bP X pins σ H s->de x v->r x H Q->
  wpAny (model X.prog X.w) X.A (f v) (EP X pins σ Q) X.xe s
def jh(X:Cx)(f:Value)(r:List V->Hp->VK->Prop):Prop:=
 ∀(pins:List (Addr×Obj)) (s:Shared) (σ:St) (H:Hp) (xs:List V) (us:List Value) (Q:VK),bP X pins σ H s->cO xs us->r xs H Q->
  wpAny (model X.prog X.w) X.A (call f us) (EP X pins σ Q) X.xe s
def bb(r:R2)(ta tb:TE):TE:=λσ H Q=>ta σ H λx H1=>tb σ H1 λy H2=>r x y H2 Q
def Hf(r:V->Hp->VK->Prop)(ta:TE):TE:=λσ H Q=>ta σ H λx H1=>r x H1 Q
def rI(C:Int->Int->Prop)(g:Int->Int->V):R2:=λx y H Q=>∃i j,x=.int i/\y=.int j/\C i j/\Q (g i j) H
def EF(g:Int->Int->V):R2:=λx y H Q=>∃i j,x=.int i/\y=.int j/\Q (g i j) H
def rU(g:Int->V):V->Hp->VK->Prop:=λx H Q=>∃i,x=.int i/\Q (g i) H
section
variable{X:Cx}{a b c:Expr}{ta tb tc:TE}{pos:Pos}
theorem J6(ha:PE X a ta)(hb:PE X b tb){pins:List (Addr×Obj)}{s:Shared}{σ:St}{H:Hp}{R:V->V->Hp->Prop}(I:bP X pins σ H s)
  (h:ta σ H λx H1=>tb σ H1 λy H2=>R x y H2) {Q:Value->Shared->Prop} {f:Value->Value->Sem Value}
  (hf:∀v u s2 x y H2,bP X pins σ H2 s2->de x v->de y u->R x y H2->wpAny (model X.prog X.w) X.A (f v u) Q X.xe s2) :
  wpAny (model X.prog X.w) X.A (eval a X.env) (λv s₁=>wpAny (model X.prog X.w) X.A (eval b X.env) (λu s₂=>wpAny (model X.prog X.w) X.A (f v u) Q X.xe s₂) X.xe s₁) X.xe s:=by
 refine gg (ha pins s σ H _ I h) λv s1 ⟨x,H1,I1,r1,q1⟩=>?_
 refine gg (hb pins s1 σ H1 _ I1 q1) λu s2 ⟨y,H2,I2,r2,q2⟩=>?_
 exact hf v u s2 x y H2 I2 r1 r2 q2
theorem Mi{op:Operator}{r:R2}(ho:kf X (binaryOp op) r)(ha:PE X a ta)(hb:PE X b tb):PE X (.BinOp a op b pos) (bb r ta tb):=by
 intro pins s σ H Q I h
 exact wpAny_BinOp (J6 ha hb I h λv u s2 x y H2 I2 rx ry q=>ho pins s2 σ H2 x y v u Q I2 rx ry q)
theorem Ml{op:UnaryOp}{r:V->Hp->VK->Prop}(ho:MH X (unaryOp op) r)(ha:PE X a ta):PE X (.UnaryOp op a pos) (Hf r ta):=by
 intro pins s σ H Q I h
 exact UnaryOp_ (gg (ha pins s σ H _ I h) λv s1 ⟨x,H1,I1,r1,q1⟩=>ho pins s1 σ H1 x v Q I1 r1 q1)
theorem MK{f:Value->Value->Sem Value}{C:Int->Int->Prop}{g:Int->Int->Int}
  (rule:∀(i j:Int) (t u:Tok) (s:Shared) (Q:Value->Shared->Prop) (E:Value->Shared->Prop),C i j->Q (.int (g i j) s.toks) {s with toks:=s.toks+1}->wpAny (model X.prog X.w) X.A (f (.int i t) (.int j u)) Q E s) :
  kf X f (rI C λi j=>.int (g i j)):=by
 intro pins s σ H x y v u Q I rx ry h
 obtain⟨i,j,rfl,rfl,hc,q⟩:=h
 obtain⟨t,rfl⟩:=rx
 obtain⟨t',rfl⟩:=ry
 exact rule i j t t' s _ _ hc ⟨.int (g i j),H,I.tok _,⟨_,rfl⟩,q⟩
theorem L9{f:Value->Value->Sem Value}{g:Int->Int->Int}
  (rule:∀(i j:Int) (t u:Tok) (s:Shared) (Q:Value->Shared->Prop) (E:Value->Shared->Prop),Q (.int (g i j) s.toks) {s with toks:=s.toks+1}->wpAny (model X.prog X.w) X.A (f (.int i t) (.int j u)) Q E s) :
  kf X f (EF λi j=>.int (g i j)):=by
 intro pins s σ H x y v u Q I rx ry h
 obtain⟨i,j,rfl,rfl,q⟩:=h
 obtain⟨t,rfl⟩:=rx
 obtain⟨t',rfl⟩:=ry
 exact rule i j t t' s _ _ ⟨.int (g i j),H,I.tok _,⟨_,rfl⟩,q⟩
theorem Kx{f:Value->Value->Sem Value}{g:Int->Int->Bool}
  (rule:∀(i j:Int) (t u:Tok) (s:Shared) (Q:Value->Shared->Prop) (E:Value->Shared->Prop),Q (.bool (g i j)) s->wpAny (model X.prog X.w) X.A (f (.int i t) (.int j u)) Q E s) :
  kf X f (EF λi j=>.bl (g i j)):=by
 intro pins s σ H x y v u Q I rx ry h
 obtain⟨i,j,rfl,rfl,q⟩:=h
 obtain⟨t,rfl⟩:=rx
 obtain⟨t',rfl⟩:=ry
 exact rule i j t t' s _ _ ⟨.bl (g i j),H,I,rfl,q⟩
def LJ(i j:Int):Prop:=0<j/\j<1073741824
def LK(i j:Int):Prop:=0<=j/\j<=1000000/\i.natAbs<2 ^ 64
def Hg(i j:Int):Prop:=(-(2 ^ 64)<i/\i<2 ^ 64)\/(-(2 ^ 64)<j/\j<2 ^ 64)
theorem Hg.ok{i j:Int}(h:Hg i j):IntMulOk i j:=by
 rcases h with⟨h1,h2⟩|⟨h1,h2⟩
 ·exact .of_left (intBits_le_64 h1 h2)
 ·exact .of_right (intBits_le_64 h1 h2)
theorem Ky:kf X (binaryOp .Add) (EF λi j=>.int (i+j)):=L9 λ_ _ _ _ _ _ _ q=>add_int q
theorem nZ:kf X (binaryOp .Sub) (EF λi j=>.int (i-j)):=L9 λ_ _ _ _ _ _ _ q=>sub_int q
theorem KF:kf X (binaryOp .Mult) (rI Hg λi j=>.int (i*j)):=MK λ_ _ _ _ _ _ _ hc q=>mul_int q hc.ok
theorem yk:kf X (binaryOp .FloorDiv) (rI LJ λi j=>.int (i / j)):=MK λi j _ _ _ _ _ hc q=>by
 have h1:(0:Int)<j:=hc.1
 have h2:j<1073741824:=hc.2
 exact floordiv_int (by lia) (by rw[Int.fdiv_eq_ediv_of_nonneg i (by lia)];exact q) (.inl (PyProof.noPylong_small (by lia)))
theorem jw:kf X (binaryOp .Mod) (rI (λ_ j=>0<j) λi j=>.int (i % j)):=MK λi j _ _ _ _ _ hc q=>by
 have h1:(0:Int)<j:=hc
 exact mod_int' (by lia) (by rw[Int.fmod_eq_emod_of_nonneg i (by lia)];exact q)
theorem ym:kf X (binaryOp .Pow) (rI LK λi j=>.int (i ^ j.toNat)):=MK λ_ _ _ _ _ _ _ hc q=>pow_int_small hc.1 hc.2.1 hc.2.2 q
theorem NB{f:Value->Sem Value}{g:Int->Int}
  (rule:∀(i:Int) (t:Tok) (s:Shared) (Q:Value->Shared->Prop) (E:Value->Shared->Prop),Q (.int (g i) s.toks) {s with toks:=s.toks+1}->wpAny (model X.prog X.w) X.A (f (.int i t)) Q E s) :
  MH X f (rU λi=>.int (g i)):=by
 intro pins s σ H x v Q I rx h
 obtain⟨i,rfl,q⟩:=h
 obtain⟨t,rfl⟩:=rx
 exact rule i t s _ _ ⟨.int (g i),H,I.tok _,⟨_,rfl⟩,q⟩
theorem oB:MH X (unaryOp .USub) (rU λi=>.int (-i)):=NB λ_ _ _ _ _ q=>neg_int q
end
def MB:V->V->Bool
 |.non,.non=>true|.non,.int _=>true|.int _,.non=>true|.non,.bl _=>true|.bl _,.non=>true|.non,.str _=>true|.str _,.non=>true
 |.int _,.int _=>true|.bl _,.bl _=>true|.str _,.str _=>true|.byt _,.byt _=>true
 |.int _,.str _=>true|.str _,.int _=>true|.bl _,.str _=>true|.str _,.bl _=>true
 |_,_=>false
def Nk:R2:=λx y H Q=>MB x y=true/\Q (.bl (decide (x=y))) H
def Nl:R2:=λx y H Q=>MB x y=true/\Q (.bl (!decide (x=y))) H
theorem Ci{i j:Int}:decide (V.int i=V.int j)=(i==j):=by
 rw[Bool.eq_iff_iff]
 simp
theorem E3{i j:Bool}:decide (V.bl i=V.bl j)=(i==j):=by
 rw[Bool.eq_iff_iff]
 simp
theorem Cj{i j:Str}:decide (V.str i=V.str j)=(i==j):=by
 rw[Bool.eq_iff_iff]
 simp
theorem Cg{i j:Array UInt8}:decide (V.byt i=V.byt j)=(i.toList==j.toList):=by
 rw[Bool.eq_iff_iff]
 cases i
 cases j
 simp
section
variable{X:Cx}{a b c:Expr}{ta tb tc:TE}{pos:Pos}
theorem dB{pins:List (Addr×Obj)}{σ:St}{H:Hp}{s:Shared}{Q:VK}{k k':Bool}(I:bP X pins σ H s)(q:Q (.bl k) H)(e:k=k'):EP X pins σ Q (.bool k') s:=by
 subst e
 exact⟨.bl k,H,I,rfl,q⟩
theorem Ma:kf X (compareOp .Eq) Nk:=by
 intro pins s σ H x y v u Q I rx ry h
 obtain⟨hs,q⟩:=h
 cases x with
 |non=>
  cases rx
  cases y with
  |non=>cases ry;exact PySem.EqNone.eq_none_none (dB I q (by simp))
  |bl j=>cases ry;exact PySem.EqNone.eq_none_bool (dB I q (by simp))
  |int j=>obtain⟨t',rfl⟩:=ry;exact PySem.EqNone.eq_none_int (dB I q (by simp))
  |str j=>obtain⟨t',rfl⟩:=ry;exact PySem.EqNone.eq_none_str (dB I q (by simp))
  |_=>exact absurd (show false=true from hs) Bool.false_ne_true
 |bl i=>
  cases rx
  cases y with
  |non=>cases ry;exact PySem.EqNone.eq_bool_none (dB I q (by simp))
  |bl j=>cases ry;exact eq_bool (dB I q E3)
  |str j=>obtain⟨t',rfl⟩:=ry;exact PySem.EqMixed.eq_bool_str (dB I q (by simp))
  |_=>exact absurd (show false=true from hs) Bool.false_ne_true
 |int i=>
  obtain⟨t,rfl⟩:=rx
  cases y with
  |non=>cases ry;exact PySem.EqNone.eq_int_none (dB I q (by simp))
  |int j=>obtain⟨t',rfl⟩:=ry;exact eq_int (dB I q Ci)
  |str j=>obtain⟨t',rfl⟩:=ry;exact PySem.EqMixed.eq_int_str (dB I q (by simp))
  |_=>exact absurd (show false=true from hs) Bool.false_ne_true
 |str i=>
  obtain⟨t,rfl⟩:=rx
  cases y with
  |non=>cases ry;exact PySem.EqNone.eq_str_none (dB I q (by simp))
  |bl j=>cases ry;exact PySem.EqMixed.eq_str_bool (dB I q (by simp))
  |int j=>obtain⟨t',rfl⟩:=ry;exact PySem.EqMixed.eq_str_int (dB I q (by simp))
  |str j=>obtain⟨t',rfl⟩:=ry;exact eq_str (dB I q Cj)
  |_=>exact absurd (show false=true from hs) Bool.false_ne_true
 |byt i=>
  obtain⟨t,rfl⟩:=rx
  cases y with
  |byt j=>obtain⟨t',rfl⟩:=ry;exact PySem.W.eq_bytes (dB I q Cg)
  |_=>exact absurd (show false=true from hs) Bool.false_ne_true
 |_=>cases y<;>exact absurd (show false=true from hs) Bool.false_ne_true
theorem Mb:kf X (compareOp .NotEq) Nl:=by
 intro pins s σ H x y v u Q I rx ry h
 obtain⟨hs,q⟩:=h
 cases x with
 |non=>
  cases rx
  cases y with
  |non=>cases ry;exact PySem.EqNone.ne_none_none (dB I q (by simp))
  |bl j=>cases ry;exact PySem.EqNone.ne_none_bool (dB I q (by simp))
  |int j=>obtain⟨t',rfl⟩:=ry;exact PySem.EqNone.ne_none_int (dB I q (by simp))
  |str j=>obtain⟨t',rfl⟩:=ry;exact PySem.EqNone.ne_none_str (dB I q (by simp))
  |_=>exact absurd (show false=true from hs) Bool.false_ne_true
 |bl i=>
  cases rx
  cases y with
  |non=>cases ry;exact PySem.EqNone.ne_bool_none (dB I q (by simp))
  |bl j=>cases ry;exact ne_bool (dB I q (congrArg not E3))
  |str j=>obtain⟨t',rfl⟩:=ry;exact PySem.EqMixed.ne_bool_str (dB I q (by simp))
  |_=>exact absurd (show false=true from hs) Bool.false_ne_true
 |int i=>
  obtain⟨t,rfl⟩:=rx
  cases y with
  |non=>cases ry;exact PySem.EqNone.ne_int_none (dB I q (by simp))
  |int j=>obtain⟨t',rfl⟩:=ry;exact ne_int (dB I q (congrArg not Ci))
  |str j=>obtain⟨t',rfl⟩:=ry;exact PySem.EqMixed.ne_int_str (dB I q (by simp))
  |_=>exact absurd (show false=true from hs) Bool.false_ne_true
 |str i=>
  obtain⟨t,rfl⟩:=rx
  cases y with
  |non=>cases ry;exact PySem.EqNone.ne_str_none (dB I q (by simp))
  |bl j=>cases ry;exact PySem.EqMixed.ne_str_bool (dB I q (by simp))
  |int j=>obtain⟨t',rfl⟩:=ry;exact PySem.EqMixed.ne_str_int (dB I q (by simp))
  |str j=>obtain⟨t',rfl⟩:=ry;exact ne_str (dB I q (congrArg not Cj))
  |_=>exact absurd (show false=true from hs) Bool.false_ne_true
 |byt i=>
  obtain⟨t,rfl⟩:=rx
  cases y with
  |byt j=>obtain⟨t',rfl⟩:=ry;exact PySem.W.ne_bytes (dB I q (congrArg not Cg))
  |_=>exact absurd (show false=true from hs) Bool.false_ne_true
 |_=>cases y<;>exact absurd (show false=true from hs) Bool.false_ne_true
theorem lC:kf X (compareOp .Lt) (EF λi j=>.bl (decide (i<j))):=Kx λ_ _ _ _ _ _ _ q=>lt_int q
theorem FP:kf X (compareOp .Gt) (EF λi j=>.bl (decide (j<i))):=Kx λ_ _ _ _ _ _ _ q=>gt_int q
theorem Cu:kf X (compareOp .GtE) (EF λi j=>.bl (decide (j<=i))):=Kx λ_ _ _ _ _ _ _ q=>ge_int q
theorem FQ:kf X (compareOp .Is) (λx y H Q=>y=.non/\Q (.bl (decide (x=.non))) H):=by
 intro pins s σ H x y v u Q I rx ry h
 obtain⟨rfl,q⟩:=h
 cases ry
 refine is_none_gen (dB I q ?_)
 cases x<;>first
  |(cases rx;rfl)
  |(obtain⟨t,rfl⟩:=rx;rfl)
theorem Cv:kf X (compareOp .IsNot) (λx y H Q=>y=.non/\Q (.bl (!decide (x=.non))) H):=by
 intro pins s σ H x y v u Q I rx ry h
 obtain⟨rfl,q⟩:=h
 cases ry
 refine isnot_none_gen (dB I q ?_)
 cases x<;>first
  |(cases rx;rfl)
  |(obtain⟨t,rfl⟩:=rx;rfl)
theorem kf.or{f:Value->Value->Sem Value}{r r':R2}(h:kf X f r)(h':kf X f r'):kf X f (λx y H Q=>r x y H Q\/r' x y H Q):=by
 intro pins s σ H x y v u Q I rx ry q
 rcases q with q|q
 ·exact h pins s σ H x y v u Q I rx ry q
 ·exact h' pins s σ H x y v u Q I rx ry q
theorem Iz{op:CmpOp}{r:R2}(ho:kf X (compareOp op) r)(ha:PE X a ta)(hb:PE X b tb)(hm:behindInMarks op b=false):PE X (.Compare a [op] [b] pos) (bb r ta tb):=by
 intro pins s σ H Q I h
 exact wpAny_Compare1 (J6 ha hb I h λv u s2 x y H2 I2 rx ry q=>ho pins s2 σ H2 x y v u Q I2 rx ry q) hm
def bH(t:TE):TT:=λσ H Q=>t σ H λx H'=>∃k,x=.bl k/\Q k H'
theorem IW{op:CmpOp}{r:R2}(ho:kf X (compareOp op) r)(ha:PE X a ta)(hb:PE X b tb)(hm:behindInMarks op b=false):PT X (.Compare a [op] [b] pos) (bH (bb r ta tb)):=by
 intro pins s σ H Q I h
 refine wpAny_isTrue_Compare1 (gg (ha pins s σ H _ I h) λv s1 ⟨x,H1,I1,r1,q1⟩=>gg (hb pins s1 σ H1 _ I1 q1) λu s2 ⟨y,H2,I2,r2,q2⟩=>
  gg (ho pins s2 σ H2 x y v u _ I2 r1 r2 q2) λc s3 ⟨z,H3,I3,r3,k,e,q3⟩=>?_) hm
 subst e
 cases r3
 exact wpAny_truthy_bool ⟨H3,I3,q3⟩
theorem rD:(sizeLine:Nat)<2 ^ 63:=by rw[sizeLine_eq];decide
theorem Bt:kf X (binaryOp .Add) (λx y H Q=>∃i j,x=.str i/\y=.str j/\i.length+j.length<=sizeLine/\Q (.str (i++j)) H):=by
 intro pins s σ H x y v u Q I rx ry h
 obtain⟨i,j,rfl,rfl,hz,q⟩:=h
 obtain⟨t,rfl⟩:=rx
 obtain⟨t',rfl⟩:=ry
 exact add_str (λt' tk=>⟨.str (i++j),H,I.tok _,⟨_,rfl⟩,q⟩) hz
theorem oC{x:V}{us:List Value}(r:cO [x] us):∃u,us=[u]/\de x u:=by
 cases r with
 |cons r1 r2=>cases r2;exact⟨_,rfl,r1⟩
theorem sW{x y:V}{us:List Value}(r:cO [x,y] us):∃u w',us=[u,w']/\de x u/\de y w':=by
 cases r with
 |cons r1 r2=>
  cases r2 with
  |cons r3 r4=>cases r4;exact⟨_,_,rfl,r1,r3⟩
theorem Dd(hc:X.calm=true):jh X (.builtin "max") (λxs H Q=>∃i j,xs=[.int i,.int j]/\Q (.int (if j>i then j else i)) H):=by
 intro pins s σ H xs us Q I r h
 obtain⟨i,j,rfl,q⟩:=h
 obtain⟨u,w',rfl,⟨t,rfl⟩,⟨t',rfl⟩⟩:=sW r
 refine max_two_ints (I.ok.hd hc) λh' tk k=>⟨_,H,I.kept k,?_,q⟩
 by_cases hj:j>i
 ·rw[if_pos hj,if_pos hj];exact⟨_,rfl⟩
 ·rw[if_neg hj,if_neg hj];exact⟨_,rfl⟩
theorem De(hc:X.calm=true):jh X (.builtin "min") (λxs H Q=>∃i j,xs=[.int i,.int j]/\Q (.int (if j<i then j else i)) H):=by
 intro pins s σ H xs us Q I r h
 obtain⟨i,j,rfl,q⟩:=h
 obtain⟨u,w',rfl,⟨t,rfl⟩,⟨t',rfl⟩⟩:=sW r
 refine min_two_ints (I.ok.hd hc) λh' tk k=>⟨_,H,I.kept k,?_,q⟩
 by_cases hj:j<i
 ·rw[if_pos hj,if_pos hj];exact⟨_,rfl⟩
 ·rw[if_neg hj,if_neg hj];exact⟨_,rfl⟩
theorem rh:jh X (.type "int") (λxs H Q=>(∃i,xs=[.int i]/\Q (.int i) H)\/∃k,xs=[.bl k]/\Q (.int (if k then 1 else 0)) H):=by
 intro pins s σ H xs us Q I r h
 rcases h with⟨i,rfl,q⟩|⟨k,rfl,q⟩
 ·obtain⟨u,rfl,t,rfl⟩:=oC r
  exact call_int_int ⟨.int i,H,I,⟨_,rfl⟩,q⟩
 ·obtain⟨u,rfl,r1⟩:=oC r
  cases r1
  exact call_int_bool ⟨.int (if k then 1 else 0),H,I.tok _,⟨_,rfl⟩,q⟩
def LN(K:Fg)(x:V)(H:Hp)(n:Nat):Prop:=
 match x with
 |.str y=>y.length<=sizeLine/\n=y.length
 |.byt y=>y.size<=sizeLine/\n=y.size
 |.ref p=>(∃xs,cz K H p xs/\n=xs.length)\/∃xs,cY K H p xs/\n=xs.length
 |_=>False
theorem bK:jh X (.builtin "len") (λxs H Q=>∃x n,xs=[x]/\LN X.K x H n/\Q (.int n) H):=by
 intro pins s σ H xs us Q I r h
 obtain⟨x,n,rfl,e,q⟩:=h
 obtain⟨u,rfl,rx⟩:=oC r
 have hl:=rD
 have hs:sizeLine=16777216:=sizeLine_eq
 cases x with
 |str y=>
  obtain⟨t,rfl⟩:=rx
  obtain⟨hy,e'⟩:y.length<=sizeLine/\n=y.length:=e
  subst e'
  exact len_str (by lia) ⟨.int _,H,I.tok _,⟨_,rfl⟩,q⟩
 |byt y=>
  obtain⟨t,rfl⟩:=rx
  obtain⟨hy,e'⟩:y.size<=sizeLine/\n=y.size:=e
  subst e'
  exact PySem.W.len_bytes (by lia) ⟨.int _,H,I.tok _,⟨_,rfl⟩,q⟩
 |ref p=>
  cases rx
  have e':(∃xs,cz X.K H p xs/\n=xs.length)\/∃xs,cY X.K H p xs/\n=xs.length:=e
  rcases e' with⟨xs,hx,e'⟩|⟨xs,hx,e'⟩
  ·subst e'
   obtain⟨its,r',pl,hz⟩:=I.list hx
   have hlen:=r'.length
   exact Calls.call_len_list pl.isList (by simp only[ax];lia) ⟨.int xs.length,H,I.tok _,⟨_,by simp only[ax];rw[hlen]⟩,q⟩
  ·subst e'
   obtain⟨its,r',pl,hz⟩:=I.tuple hx
   have hlen:=r'.length
   exact len_tuple pl (by simp only[ax];lia) ⟨.int xs.length,H,I.tok _,⟨_,by simp only[ax];rw[hlen]⟩,q⟩
 |_=>exact(show False from e).elim
end
theorem rE{h:Heap}{dx:Addr}{mA:Str->Option Value}(n:h.Ns1 dx mA):∃od,h.get? dx=some od/\∀name,PySem.W.lookIn name od=some (mA name):=by
 obtain⟨o,es,ep,ho,hd,hk,_,hm⟩:=n
 refine⟨o,ho,λname=>?_⟩
 have e:=hm name
 unfold nsFind findBy at e
 rw[<-Array.find?_toList] at e
 unfold PySem.W.lookIn
 rw[hd]
 dsimp only
 split
 ·rename_i y q
  rw[q] at e
  exact congrArg some e
 ·rename_i q
  rw[q] at e
  have a:es.toList.any (·.refKey)=false:=by
   rw[List.any_eq_false]
   intro y hy
   obtain⟨z,t,hkey⟩:=hk y (Array.mem_toList_iff.mp hy)
   simp[DictEntry.refKey,hkey]
  have a':¬es.toList.any (·.refKey)=true:=by rw[a];exact Bool.false_ne_true
  rw[if_neg a']
  exact congrArg some e
section
variable{prog:Program}{w:World}{A:Around}{E:Value->Shared->Prop}{s:Shared}{K:Fg}{x dx C f:Addr}{mA:Str->Option Value}{name:Str}{v:Value}
end
def lQ(f:Str)(v:V):List (Str×V)->List (Str×V)
 |[]=>[(f,v)]
 |(g,x)::r=>if g=f then(g,v)::r else(g,x)::lQ f v r
theorem rX(f g:Str)(v:V):∀fs:List (Str×V),(lQ f v fs).lookup g=if g=f then some v else fs.lookup g
 |[]=>by
  show gL g [(f,v)]=_
  by_cases h:g=f
  ·have hb:(g==f)=true:=beq_iff_eq.mpr h
   simp only[gL,hb,if_pos h]
  ·have hb:(g==f)=false:=beq_eq_false_iff_ne.mpr h
   simp only[gL,hb,if_neg h]
 |(k,x)::r=>by
  have ih:=rX f g v r
  rw[show lQ f v ((k,x)::r)=(if k=f then(k,v)::r else(k,x)::lQ f v r) from rfl]
  by_cases hk:k=f
  ·rw[if_pos hk]
   by_cases h:g=k
   ·have hb:(g==k)=true:=beq_iff_eq.mpr h
    simp only[gL,hb,if_pos (h.trans hk)]
   ·have hb:(g==k)=false:=beq_eq_false_iff_ne.mpr h
    simp only[gL,hb,if_neg (λe:g=f=>h (e.trans hk.symm))]
  ·rw[if_neg hk]
   by_cases h:g=k
   ·have hb:(g==k)=true:=beq_iff_eq.mpr h
    simp only[gL,hb,if_neg (λe:g=f=>hk (h.symm.trans e))]
   ·have hb:(g==k)=false:=beq_eq_false_iff_ne.mpr h
    simp only[gL,hb]
    exact ih
theorem rB(f:Str)(v:V):∀fs:List (Str×V),f∈(lQ f v fs).map (·.1)/\∀g,g∈fs.map (·.1)->g∈(lQ f v fs).map (·.1)
 |[]=>⟨by simp[lQ],λg h=>by simp at h⟩
 |(k,x)::r=>by
  obtain⟨i1,i2⟩:=rB f v r
  rw[show lQ f v ((k,x)::r)=(if k=f then(k,v)::r else(k,x)::lQ f v r) from rfl]
  by_cases hk:k=f
  ·rw[if_pos hk]
   subst hk
   exact⟨by simp,λg h=>by simpa using h⟩
  ·rw[if_neg hk]
   refine⟨?_,λg h=>?_⟩
   ·rw[ba]
    exact cP _ i1
   ·rw[ba] at h ⊢
    rcases aU.mp h with e|e
    ·exact aU.mpr (.inl e)
    ·exact cP _ (i2 g e)
theorem rW(f:Str)(v:V):∀fs:List (Str×V),(lQ f v fs).length<=fs.length+1
 |[]=>by simp[lQ]
 |(k,x)::r=>by
  have ih:=rW f v r
  rw[show lQ f v ((k,x)::r)=(if k=f then(k,v)::r else(k,x)::lQ f v r) from rfl]
  by_cases hk:k=f
  ·rw[if_pos hk,cA,cA];lia
  ·rw[if_neg hk,cA,cA];lia
theorem pG.some_of{v:V}{o:Option Value}(r:pG (some v) o):∃u,o=some u/\de v u:=by
 cases o with
 |none=>exact(show False from r).elim
 |some u=>exact⟨u,rfl,r⟩
theorem Dt{v:V}{u:Value}(r:de v u):PySem.W.handedIn u=true:=by
 cases v with
 |non=>cases(show u=Value.none from r);rfl
 |bl b=>cases(show u=Value.bool b from r);rfl
 |int i=>obtain⟨t,e⟩:=(show ∃t,u=Value.int i t from r);cases e;rfl
 |str x=>obtain⟨t,e⟩:=(show ∃t,u=Value.str x t from r);cases e;rfl
 |byt b=>obtain⟨t,e⟩:=(show ∃t,u=Value.bytes b t from r);cases e;rfl
 |flt b=>obtain⟨t,e⟩:=(show ∃t,u=Value.float b t from r);cases e;rfl
 |ref a=>cases(show u=Value.ref a from r);rfl
 |ty n=>cases(show u=Value.type n from r);rfl
section
variable{P:Program}{w:World}{H H':Hp}{h h':Heap}{a C dx:Addr}{fs fs':List (Str×V)}
end
def mM(K:Fg)(C:Addr)(f:Str):Prop:=cN K (.ref C) f=some none
section
variable{X:Cx}{pins:List (Addr×Obj)}{σ:St}{H:Hp}{s:Shared}{a C dx:Addr}{fs:List (Str×V)}{f:Str}{v:V}{A:Around}{E:Value->Shared->Prop}
theorem Hv{prog:Program}{w:World}{env:Env}{e:Expr}{f:Str}{pos:Pos}{s:Shared}{Q:Value->Shared->Prop}(hb:attributeBase e f env (eval e env)=eval e env)
  (h:wpAny (model prog w) A (eval e env) (λo s₁=>wpAny (model prog w) A (getAttr o f true) Q E s₁) E s):wpAny (model prog w) A (eval (.Attribute e f pos) env) Q E s:=
 Attribute_any_ h (by rw[arm_eval_Attribute,hb])
end
section
variable{X:Cx}{o e value:Expr}{f:Str}{pos pos' tpos:Pos}{ta tv:TE}
end
section
variable{X:Cx}{pins:List (Addr×Obj)}{σ:St}{H:Hp}{s:Shared}{A:Around}{E:Value->Shared->Prop}{Q:Value->Shared->Prop}{c:Value}{b:Bool}
end
structure df(k:Nat)(A:Around):Prop where
 hd:A.handled=none
 dp:A.depth+3*k+5<recursionLimit
 un:A.units+16*k+200<cLine
theorem df.mono{j k:Nat}{A:Around}(r:df k A)(h:j<=k):df j A:=⟨r.hd,by have:=r.dp;lia,by have:=r.un;lia⟩
theorem df.deeper{k:Nat}{A:Around}(r:df (k+1) A)(env:Env):df k (A.deeper env):=
 ⟨r.hd,by have:=r.dp;show A.depth+1+3*k+5<_;lia,by have:=r.un;show A.units+3+16*k+200<_;lia⟩
theorem Be{A:Around}{C:Addr}{us:List Value}{kw:List (Str×Value)}:(A.under (.builtin "type.__call__" ⟨.ref C::us,kw⟩)).depth=A.depth+1:=by
 first|rfl|simp[Around.under,Code.weight,Code.isCreation,Code.isGuard,Code.isCaller,Code.frames,Code.isFrame,guardIds]
theorem Bf{A:Around}{C:Addr}{us:List Value}{kw:List (Str×Value)}:(A.under (.builtin "type.__call__" ⟨.ref C::us,kw⟩)).units=A.units+1:=by
 first|rfl|simp[Around.under,Code.cUnits,Code.frames,Code.isFrame]
theorem df.make{k:Nat}{A:Around}(r:df (k+1) A)(C:Addr)(us:List Value)(kw:List (Str×Value)):df k (A.under (.builtin "type.__call__" ⟨.ref C::us,kw⟩)):=
 ⟨r.hd,by have:=r.dp;rw[Be];lia,by have:=r.un;rw[Bf];lia⟩
theorem df.depth{k:Nat}{A:Around}(r:df k A):A.depth<recursionLimit:=by have:=r.dp;lia
theorem df.units{k:Nat}{A:Around}(r:df k A):A.units+64<cLine:=by have:=r.un;lia
theorem df.units0{k:Nat}{A:Around}(r:df k A):A.units<cLine:=by have:=r.un;lia
def aE:TA:=λ_ H Q=>Q [] H
def af(ta:TE)(tr:TA):TA:=λσ H Q=>ta σ H λx H1=>tr σ H1 λxs H2=>Q (x::xs) H2
section
variable{X:Cx}{e:Expr}{es:List Expr}{te:TE}{t:TA}{pos:Pos}
theorem KL:PA X [] aE:=λ_ _ _ _ H Q I h=>Calls.spliced_nil ⟨[],H,I,.nil,h⟩
theorem Iw(ha:PE X e te)(hr:PA X es t)(hs:starEach (e::es) X.env=(false,eval e X.env)::starEach es X.env:=by rfl):PA X (e::es) (af te t):=by
 intro pos pins s σ H Q I h
 rw[hs]
 show wpAny _ _ (spliced ((false,eval e X.env)::backTo pos (starEach es X.env))) _ _ s
 refine Calls.spliced_cons (gg (ha pins s σ H _ I h) λu s1 ⟨x,H1,I1,r1,q1⟩=>?_)
 exact gg (hr pos pins s1 σ H1 _ I1 q1) λus s2 ⟨xs,H2,I2,r2,q2⟩=>⟨x::xs,H2,I2,.cons r1 r2,q2⟩
def dC(t:TA):TE:=λσ H Q=>t σ H λxs H1=>xs.length<=sizeLine/\∀p,H1 p=none->Q (.ref p) (upd H1 p (.tup xs))
def fZ(t:TA):TE:=λσ H Q=>t σ H λxs H1=>xs.length<=sizeLine/\∀p,H1 p=none->Q (.ref p) (upd H1 p (.lst xs))
theorem KU{x1}(h:PA X es t):PE X (.Tuple es x1 pos) (dC t):=by
 intro pins s σ H Q I hq
 refine wpAny_Tuple_spliced (gg (h pos pins s σ H _ I hq) λus s1 ⟨xs,H1,I1,r,z,q⟩=>⟨by rw[<-r.length];exact z,?_⟩)
 have hf:H1 s1.heap.objs.size=none:=I1.hok.fresh (aC _)
 refine⟨.ref s1.heap.objs.size,upd H1 s1.heap.objs.size (.tup xs),I1.laid (t':=s1.toks) (λb u e=>az _ e) (aC _) ?_,rfl,q _ hf⟩
 exact⟨z,us,r,⟨_,aW _ rfl,⟨rfl,rfl⟩,_,rfl⟩⟩
theorem KQ(h:PA X es t):PE X (.List es pos) (fZ t):=by
 intro pins s σ H Q I hq
 refine wpAny_List_spliced (gg (h pos pins s σ H _ I hq) λus s1 ⟨xs,H1,I1,r,z,q⟩=>⟨by rw[<-r.length];exact z,?_⟩)
 have hf:H1 s1.heap.objs.size=none:=I1.hok.fresh (aC _)
 refine⟨.ref s1.heap.objs.size,upd H1 s1.heap.objs.size (.lst xs),I1.laid (t':=s1.toks) (λb u e=>az _ e) (aC _) ?_,rfl,q _ hf⟩
 exact⟨z,us,0,r,aW _ rfl⟩
end
abbrev Sp:=List V->Hp->VK->XK->Prop
abbrev EE:=List Env->Hp->Shared->XK->Value->Shared->Prop
structure AC(P:Program)(w:World)(K:Fg)(mg:Str->Option Value)(base:Heap)(A:Around)(outer:List Env)(s:Shared)(H:Hp):Prop where
 frames:A.frames=some outer
 mod:Mod K mg base
 bs:∀b o,base.get? b=some o->s.heap.get? b=some o/\H b=none
 bsz:base.objs.size<=s.heap.objs.size
 funs:s.heap.FunFrames base outer
 frf:∀b∈yG outer,H b=none
 hok:nK P w H s.heap
 bare:AllBare s.gens
def CE(outer:List Env)(P:Program)(w:World)(H:Hp)(s:Shared)(Q:VK)(u:Value)(s':Shared):Prop:=
 ∃v H',s'.os=s.os/\AllBare s'.gens/\Un (yG outer) [] H H' s.heap s'.heap/\nK P w H' s'.heap/\de v u/\Q v H'
def CR(CX:EE)(outer:List Env)(P:Program)(w:World)(H:Hp)(s:Shared)(Q:VK)(E:XK)(r:Result)(s':Shared):Prop:=
 match r with
 |.ok (.ret u)=>CE outer P w H s Q u s'
 |.ok _=>False
 |.error e=>CX outer H s E e s'
structure d5(P:Program)(w:World)(K:Fg)(mg:Str->Option Value)(base:Heap)(CX:EE)(k:Nat)(f:Addr)(fd:FuncData)(ps:List Str)(sp:Sp):Prop where
 len:∀vs H Q E,sp vs H Q E->vs.length=ps.length
 run:∀(A:Around) (outer:List Env) (s:Shared) (H:Hp) (args:Args) (us:List Value) (vs:List V) (Q:VK) (E:XK),df k A->AC P w K mg base A outer s H->BindsTo s fd args (ps.zip us)->cO vs us->sp vs H Q E->
  codeAny (model P w) A (.call (.ref f) args) (CR CX outer P w H s Q E) s
theorem AC.make{P:Program}{w:World}{K:Fg}{mg:Str->Option Value}{base:Heap}{A:Around}{outer:List Env}{s:Shared}{H:Hp}(e:AC P w K mg base A outer s H)(C:Addr)(us:List Value)(kw:List (Str×Value)) :
  AC P w K mg base (A.under (.builtin "type.__call__" ⟨.ref C::us,kw⟩)) outer s H:=⟨by first|exact e.frames|(simpa[Around.under,Code.envs,Code.isFrame,pushEnvs] using e.frames),e.mod,e.bs,e.bsz,e.funs,e.frf,e.hok,e.bare⟩
section
variable{X:Cx}{pins:List (Addr×Obj)}{σ:St}{H:Hp}{s s':Shared}
theorem bP.env0(I:bP X pins σ H s):AC X.prog X.w X.K X.mg X.base X.A X.stack s H:=
 ⟨I.ok.frames,I.ok.mod,I.bs,ck I.ok.bsz I.sz,I.stack,I.stkFree,I.hok,I.bare⟩
theorem bP.after{Q:VK}{u:Value}(I:bP X pins σ H s)(h:CE X.stack X.prog X.w H s Q u s'):EP X pins σ Q u s':=by
 obtain⟨v,H',os,bare,un,hok,r,q⟩:=h
 obtain⟨hh,g,d,t,os'⟩:=s'
 obtain rfl:os'=s.os:=os
 exact⟨v,H',I.call (h':=hh) (g':=g) (d':=d) (t':=t) (ch:=[]) un hok bare (λb z=>absurd z (by simp)),r,q⟩
end
def bE(sp:Sp)(dvs:List V)(E:XK)(t:TA):TE:=λσ H Q=>t σ H λvs H1=>sp (vs++dvs) H1 Q E
def nN(K:Fg)(fd:FuncData)(ps:List Str)(ds:List Value):Prop:=
 ∀(s:Shared) (us:List Value),K.In s.heap->(us++ds).length=ps.length->BindsTo s fd ⟨us,[]⟩ (ps.zip (us++ds))
theorem nN.all{K:Fg}{fd:FuncData}{ps:List Str}(h:∀us:List Value,us.length=ps.length->bindArgs fd ⟨us,[]⟩=pure (ps.zip us)):nN K fd ps []:=λs us _ hl=>by
 rw[eK] at hl ⊢
 exact .of_eq (h us hl)
def nR(CX:EE)(X:Cx)(E:XK):Prop:=∀(pins:List (Addr×Obj)) (σ:St) (H:Hp) (s:Shared) (e:Value) (s':Shared),bP X pins σ H s->CX X.stack H s E e s'->X.xe e s'
section
variable{X:Cx}{CX:EE}{k:Nat}{f C:Addr}{fd:FuncData}{ps:List Str}{sp:Sp}{dvs:List V}{ds:List Value}{E:XK}{x m:Str}{p pos apos:Pos}{e o:Expr}{es:List Expr}{ta:TE}{t:TA}
theorem Lu{pins:List (Addr×Obj)}{σ:St}{H:Hp}{s:Shared}{Q:VK}{us:List Value}{vs:List V}(F:d5 X.prog X.w X.K X.mg X.base CX k f fd ps sp)(hr:df k X.A)(hb:nN X.K fd ps ds)(hd:cO dvs ds)(hx:nR CX X E)
  (I:bP X pins σ H s) (r:cO vs us) (h:sp (vs++dvs) H Q E):wpAny (model X.prog X.w) X.A (call (.ref f) us) (EP X pins σ Q) X.xe s:=by
 have r2:cO (vs++dvs) (us++ds):=r.append hd
 have hl:(us++ds).length=ps.length:=by rw[<-r2.length];exact F.len _ _ _ _ h
 refine wpAny_call (codeAny_mono (F.run X.A X.stack s H ⟨us,[]⟩ (us++ds) (vs++dvs) Q E hr I.env0 (hb s us I.kIn hl) r2 h) λr s' hq=>?_)
 cases r with
 |error e=>exact hx pins σ H s e s' I hq
 |ok fl=>
  cases fl with
  |ret u=>exact I.after hq
  |next=>exact False.elim hq
  |brk=>exact False.elim hq
  |cont=>exact False.elim hq
theorem Cw(F:d5 X.prog X.w X.K X.mg X.base CX k f fd ps sp)(hr:df k X.A)(hg:Gl X x)(hm:X.mg x=some (.ref f))(hk:aI X.K (.ref f)=true)(hb:nN X.K fd ps ds)(hd:cO dvs ds)(hx:nR CX X E)
  (ha:PA X (e::es) t) (hdb:(x==("__debug__":Str))=false:=by decide) (he:starEach (e::es) X.env=(false,eval e X.env)::starEach es X.env:=by rfl) (hpl:(backTo pos (starEach es X.env)).any (·.1)=false:=by rfl) :
  PE X (.Call (.Name x p) (e::es) [] pos) (bE sp dvs E t):=by
 intro pins s σ H Q I h
 refine wpAny_Call_Name_kw (tX I hg hm ?_ hdb)
 refine PySem.W.callWith_K (h₀:=X.base) I.ok.mod.kin hk (gg (ha pos pins s σ H _ I h) λus s1 ⟨vs,H1,I1,r,q⟩=>⟨I1.kIn,?_⟩) he hpl
 exact Lu F hr hb hd hx I1 r q
end
def PK(X:Cx)(kws:List Keyword)(t:TA):Prop:=
 ∀(pos:Pos) (pins:List (Addr×Obj)) (s:Shared) (σ:St) (H:Hp) (Q:List V->Hp->Prop),bP X pins σ H s->t σ H Q->wpAny (model X.prog X.w) X.A (evalAll ((backToKw pos (keywordEach kws X.env)).map (·.2))) (AP X pins σ Q) X.xe s
section
variable{X:Cx}{CX:EE}{k:Nat}{f C:Addr}{fd:FuncData}{ps ks:List Str}{sp:Sp}{E:XK}{x m:Str}{p pos apos kpos:Pos}{e o:Expr}{es:List Expr}{kws:List Keyword}{te ta:TE}{t tk:TA}{nm:Option Str}
theorem K9:PK X [] aE:=λ_ _ _ _ H Q I h=>wpAny_evalAll_nil ⟨[],H,I,.nil,h⟩
theorem IL(ha:PE X e te)(hr:PK X kws t):PK X (⟨nm,e,kpos⟩::kws) (af te t):=by
 intro pos pins s σ H Q I h
 show wpAny _ _ (evalAll ((do let v <-eval e X.env;standAt pos;pure v)::(backToKw pos (keywordEach kws X.env)).map (·.2))) _ _ s
 refine wpAny_evalAll_cons (wpAny_bind (gg (ha pins s σ H _ I h) λu s1 ⟨x,H1,I1,r1,q1⟩=>wpAny_bind (wpAny_standAt (wpAny_pure ?_))))
 exact gg (hr pos pins s1 σ H1 _ I1 q1) λus s2 ⟨xs,H2,I2,r2,q2⟩=>⟨x::xs,H2,I2,.cons r1 r2,q2⟩
variable{g:List Value->List Value->List Value}{gV:List V->List V->List V}
end
structure bU(N P:List Str)(sc:Scope):Prop where
 kind:sc.kind=.function
 co:sc.isCoroutine=false
 gen:sc.isGenerator=false
 nd:N.Nodup
 pre:N.take P.length=P
 par:∀x∈P,sc.names.lookup x=some .local\/sc.names.lookup x=some .cell
 nofree:∀y∈sc.names,y.2≠.free
theorem we{kindOf:Str->Option NameKind}{x:Str}:∀{binds:List (Str×Value)} {m:Str->Option Value},(∀v,(x,v)∉binds)->bindL kindOf binds m x=m x
 |[],_,_=>rfl
 |(n,v)::r,m,h=>by
  unfold bindL
  rw[we λw hw=>h w (cP _ hw)]
  split
  ·have:x≠n:=by rintro rfl;exact h v cG
   simp[this]
  ·rfl
theorem wb{kindOf:Str->Option NameKind}{x:Str}:∀{binds:List (Str×Value)} {m:Str->Option Value},(∀v,(x,v)∉binds)->bindC kindOf binds m x=m x
 |[],_,_=>rfl
 |(n,v)::r,m,h=>by
  unfold bindC
  rw[wb λw hw=>h w (cP _ hw)]
  split
  ·rfl
  ·have:x≠n:=by rintro rfl;exact h v cG
   simp[this]
theorem wc{kindOf:Str->Option NameKind}{x:Str}{v:Value}:∀{P:List Str} {vs:List Value} {i:Nat} {m:Str->Option Value},P.Nodup->P[i]?=some x->vs[i]?=some v->kindOf x=some .local->
  bindL kindOf (P.zip vs) m x=some v
 |[],_,_,_,_,h,_,_=>by simp at h
 |_::_,[],_,_,_,_,h,_=>by simp at h
 |p::P,w::vs,0,m,nd,h1,h2,hk=>by
  simp at h1 h2;subst h1;subst h2
  show bindL kindOf ((p,w)::P.zip vs) m p=_
  unfold bindL
  rw[we λv hv=>(eM.mp nd).1 (nz hv).1,if_pos hk]
  simp
 |p::P,w::vs,i+1,m,nd,h1,h2,hk=>by
  show bindL kindOf ((p,w)::P.zip vs) m x=_
  unfold bindL
  exact wc (i:=i) (eM.mp nd).2 (by simpa using h1) (by simpa using h2) hk
theorem wa{kindOf:Str->Option NameKind}{x:Str}{v:Value}:∀{P:List Str} {vs:List Value} {i:Nat} {m:Str->Option Value},P.Nodup->P[i]?=some x->vs[i]?=some v->kindOf x≠some .local->
  bindC kindOf (P.zip vs) m x=some v
 |[],_,_,_,_,h,_,_=>by simp at h
 |_::_,[],_,_,_,_,h,_=>by simp at h
 |p::P,w::vs,0,m,nd,h1,h2,hk=>by
  simp at h1 h2;subst h1;subst h2
  show bindC kindOf ((p,w)::P.zip vs) m p=_
  unfold bindC
  rw[wb λv hv=>(eM.mp nd).1 (nz hv).1,if_neg hk]
  simp
 |p::P,w::vs,i+1,m,nd,h1,h2,hk=>by
  show bindC kindOf ((p,w)::P.zip vs) m x=_
  unfold bindC
  exact wa (i:=i) (eM.mp nd).2 (by simpa using h1) (by simpa using h2) hk
def cU(N:List Str)(vs:List V):St:=vs.map some++bD (N.length-vs.length) none
def eE(CX:EE)(P:Program)(w:World)(K:Fg)(mg:Str->Option Value)(base:Heap)(N:List Str)(qual:Str)(scope:Scope)(f:Addr)(cd:Value)(A:Around)(outer:List Env)(s:Shared)(H:Hp)(E:XK):Cx where
 prog:=P
 w:=w
 K:=K
 mg:=mg
 base:=base
 A:=A.deeper (envOfC qual scope s.heap.objs.size f cd)
 N:=N
 s₀:=s
 H₀:=H
 env:=envOfC qual scope s.heap.objs.size f cd
 outer:=outer
 stack:=envOfC qual scope s.heap.objs.size f cd::outer
 ex:=[]
 calm:=true
 fn:=λ_=>true
 pn:=[]
 xe:=λe s'=>wpAny (model P w) (A.deeper (envOfC qual scope s.heap.objs.size f cd)) (leaving (envOfC qual scope s.heap.objs.size f cd) e) (λ_ s''=>CX outer H s E e s'') (λe' s''=>CX outer H s E e' s'') s'
theorem yP{sc:Scope}{n:Nat}{x:Str}(h:sc.names.lookup x=some .cell):∃c,(cellsFrom n sc.names []).lookup x=some c:=by
 have q:=PySem.W.cellsFrom_some sc.names n [] (.inl h)
 exact iq.mp q
theorem Dx{CX:EE}{P:Program}{w:World}{K:Fg}{mg:Str->Option Value}{base:Heap}{N ps:List Str}{qual:Str}{scope:Scope}{f:Addr}{cd:Value}{A:Around}{outer:List Env}{s s1:Shared}{H:Hp}{E:XK}{us:List Value}{vs:List V}
  (S:bU N ps scope) (hd:A.handled=none) (e0:AC P w K mg base A outer s H) (hl:vs.length=ps.length) (r:cO vs us)
  (x:InCallC s s.heap.objs.size (bindL (envOfC qual scope s.heap.objs.size f cd).kindOf (ps.zip us) λ_=>none) (cellsFrom (s.heap.objs.size+1) scope.names []) (bindC (envOfC qual scope s.heap.objs.size f cd).kindOf (ps.zip us) λ_=>none) s1) :
  bP (eE CX P w K mg base N qual scope f cd A outer s H E) [] (cU N vs) H s1:=by
 have hpl:ps.length<=N.length:=by have:=congrArg jG S.pre;rw[bg] at this;lia
 obtain⟨h1,tk,rfl,hk⟩:=x.done
 have noA:∀b:Addr,b∉(eE CX P w K mg base N qual scope f cd A outer s H E).ex:=λb z=>absurd (show b∈([]:List Addr) from z) (by simp)
 refine⟨⟨e0.mod,S.kind,rfl,rfl,aC _,λy z c h1 h2=>?_,λy hy=>?_,λy c _ h=>?_,λ_=>hd,Around.frames_deeper e0.frames,.inr ⟨rfl,rfl⟩,λb z=>absurd z (noA b),e0.bs,e0.bsz,λb _ _=>noA b,λb z=>absurd z (noA b),e0.funs,e0.frf⟩,
  rfl,e0.bare,Un.kept hk,⟨_,x.toInCall.ns,λi y v h1 h2 h3=>?_⟩,λy c h=>⟨_,x.cell y c h⟩,e0.hok.fresh (aC _),λy c h=>?_,λp hp=>absurd (show p∈([]:List (Addr×Obj)) from hp) (by simp),e0.hok.kept hk,?_⟩
 ·exact name_of_addr x.apart (cW h1) (cW h2)
 ·have hy:scope.names.lookup y=some .cell\/scope.names.lookup y=some .free:=hy
  rcases hy with hy|hy
  ·exact yP hy
  ·exact absurd rfl (S.nofree _ (cW hy))
 ·exact iX (x.above y c (cW h))
 ·have hi:i<vs.length:=by
   unfold cU at h2
   by_cases hi:i<vs.length
   ·exact hi
   ·rw[bJ (by simpa using hi)] at h2
    rw[iS] at h2
    split at h2<;>cases h2
  have ha:vs[i]?=some v:=by
   unfold cU at h2
   rw[cq (by simpa using hi),aX] at h2
   cases e:vs[i]? with
   |none=>rw[e] at h2;cases h2
   |some a=>rw[e] at h2;cases h2;rfl
  obtain⟨u,hu,rv⟩:=r.get ha
  have hp:ps[i]?=some y:=by
   rw[<-S.pre,fJ (by lia)];exact h1
  have ndP:ps.Nodup:=by rw[<-S.pre];exact S.nd.sublist (iW _ _)
  refine⟨u,rv,?_⟩
  rcases S.par y (aH hp) with k|k
  ·exact .inl ⟨k,wc ndP hp hu k⟩
  ·obtain⟨c,e⟩:=yP (n:=s.heap.objs.size+1) k
   refine .inr ⟨.inl k,c,e,?_⟩
   have q:=x.cell y c e
   rw[wa ndP hp hu (by show scope.names.lookup y≠_;rw[k];decide)] at q
   exact q
 ·exact e0.hok.fresh (iX (x.above y c (cW h)))
 ·unfold cU
  show _=N.length
  rw[aG,ao,cv]
  lia
theorem Fc{CX:EE}{P:Program}{w:World}{K:Fg}{mg:Str->Option Value}{base:Heap}{k:Nat}{f:Addr}{name qual:Str}{params:Arguments}{body:List Stmt}{scope:Scope}{dV kV doc pm cdv ct oc:Value}{an od:Option Addr}
  {osl:Array (Option Value)} {N ps:List Str} {sp:Sp} (lk:K.lookup f=some ⟨oc,od,.func (aM name qual params body scope dV kV doc pm an cdv ct),osl⟩) (hcd:aK K cdv qual=true) (S:bU N ps scope)
  (len:∀vs H Q E,sp vs H Q E->vs.length=ps.length)
  (hbody:∀(A:Around) (outer:List Env) (s:Shared) (H:Hp) (vs:List V) (Q:VK) (E:XK),df k (A.deeper (envOfC qual scope s.heap.objs.size f cdv))->sp vs H Q E->
   ∃t,jg (eE CX P w K mg base N qual scope f cdv A outer s H E) body t/\t {nx:=λ_ H'=>Q .non H',rt:=Q} (cU N vs) H) :
  d5 P w K mg base CX (k+1) f (aM name qual params body scope dV kV doc pm an cdv ct) ps sp:=by
 refine⟨len,λA outer s H args us vs Q E hr e0 hb r hsp=>?_⟩
 have hl:=len _ _ _ _ hsp
 have KX:K.In s.heap:=e0.mod.kin.keeps λb o e=>(e0.bs b o e).1
 have lim:s.heap.NoLimit:=e0.mod.nolimit.keeps λb o e=>(e0.bs b o e).1
 have hkind:∀y∈ps.zip us,scope.names.lookup y.1=some .local\/(scope.names.lookup y.1=some .cell/\((cellsFrom (s.heap.objs.size+1) scope.names []).lookup y.1).isSome=true):=λ⟨n,v⟩ hy=>by
  rcases S.par n (nz hy).1 with q|q
  ·exact .inl q
  ·exact .inr ⟨q,PySem.W.cellsFrom_some _ _ _ (.inl q)⟩
 refine codeAny_call_function hr.depth (KX _ _ lk) rfl S.co S.gen rfl (PySem.W.codeRec_of KX hcd) (hb _ _ _ _ ?_)
 refine wpAny_newFunctionEnv_cells S.kind hkind λenv he s1 x=>?_
 subst he
 refine⟨lim.keeps x.toInCall.keep,codeAny_func ?_⟩
 obtain⟨t,ht,hq⟩:=hbody A outer s H vs Q E (hr.deeper _) hsp
 have I:bP (eE CX P w K mg base N qual scope f cdv A outer s H E) [] (cU N vs) H s1:=Dx S hr.hd e0 hl r x
 refine wpAny_mono (ht [] s1 (cU N vs) H _ I hq) (λfl s' hs=>?_) λe s' hs=>hs
 have fin:∀{σ':St} {H':Hp} {v:V} {u:Value},bP (eE CX P w K mg base N qual scope f cdv A outer s H E) [] σ' H' s'->de v u->Q v H'->CE outer P w H s Q u s':=
  λ{σ' H' v u} J rv q=>⟨v,H',J.os,J.bare,J.base,J.hok,rv,q⟩
 cases fl with
 |ret u=>
  obtain⟨v,σ',H',J,rv,q⟩:=hs
  exact fin J rv q
 |next=>
  obtain⟨σ',H',J,q⟩:=hs
  exact fin (v:=V.non) (u:=Value.none) J rfl q
 |brk=>
  obtain⟨_,_,_,q⟩:=hs
  exact False.elim q
 |cont=>
  obtain⟨_,_,_,q⟩:=hs
  exact False.elim q
section
variable{X:Cx}{x:Str}{p pos:Pos}{e:Expr}{es:List Expr}{t:TA}{id T:String}{r:List V->Hp->VK->Prop}
def fR(r:List V->Hp->VK->Prop)(t:TA):TE:=λσ H Q=>t σ H λvs H1=>r vs H1 Q
theorem FS(hc:jh X (.builtin id) r)(hg:Gl X x)(hm:X.mg x=none)(hv:bootBuiltins x=some (.builtin id))(ha:PA X (e::es) t)(hn:x≠"__name__":=by decide)(hdb:(x==("__debug__":Str))=false:=by decide)
  (he:starEach (e::es) X.env=(false,eval e X.env)::starEach es X.env:=by rfl) (hpl:(backTo pos (starEach es X.env)).any (·.1)=false:=by rfl):PE X (.Call (.Name x p) (e::es) [] pos) (fR r t):=by
 intro pins s σ H Q I h
 refine wpAny_Call_Name_kw (kS I hg hm hv ?_ hn hdb)
 exact PyProof.Rows.callWith_builtin1 (gg (ha pos pins s σ H _ I h) λus s1 ⟨vs,H1,I1,r1,q1⟩=>hc pins s1 σ H1 vs us Q I1 r1 q1) he hpl
theorem D0(hc:jh X (.type T) r)(hg:Gl X x)(hm:X.mg x=none)(hv:bootBuiltins x=some (.type T))(ha:PA X (e::es) t)(hn:x≠"__name__":=by decide)(hdb:(x==("__debug__":Str))=false:=by decide)
  (he:starEach (e::es) X.env=(false,eval e X.env)::starEach es X.env:=by rfl) (hpl:(backTo pos (starEach es X.env)).any (·.1)=false:=by rfl):PE X (.Call (.Name x p) (e::es) [] pos) (fR r t):=by
 intro pins s σ H Q I h
 refine wpAny_Call_Name_kw (kS I hg hm hv ?_ hn hdb)
 exact cK (gg (ha pos pins s σ H _ I h) λus s1 ⟨vs,H1,I1,r1,q1⟩=>hc pins s1 σ H1 vs us Q I1 r1 q1) he hpl
end
end L2
namespace HT
open PySem PyProof.Rows
section
open PySem.SeqAt
open PySem.AutoSeq1 (wpAny_loadPart')
open PySem.MeetsSeq PySem.MeetsSeq2 PySem.MeetsSeq3
end
section
variable{prog:Program}{w:World}{A:Around}{E:Value->Shared->Prop}{s:Shared}
theorem cat_tup{t b:Addr}{vs ws:List Value}{Q:Value->Shared->Prop}(ht:IsTup s.heap t vs.toArray)(hb:IsTup s.heap b ws.toArray)(hv:vs≠[])
  (h1:ws=[]->Q (.ref t) s) (h2:ws≠[]->Q (.ref s.heap.objs.size) {s with heap:=s.heap.push {cls:=.type "tuple",data:=.seq (vs++ws).toArray}})
  (hsz:vs.length+ws.length<=sizeLine):wpAny (model prog w) A (binaryOp .Add (.ref t) (.ref b)) Q E s:=by
 obtain⟨⟨cls,dd,data,sl⟩,ho,hc,n,hd⟩:=id ht
 obtain⟨⟨cls2,dd2,data2,sl2⟩,ho2,hc2,n2,hd2⟩:=id hb
 simp only at hc hd hc2 hd2
 subst hc hd hc2 hd2
 have e:vs.toArray++ws.toArray=(vs++ws).toArray:=by simp
 by_cases hw:ws=[]
 ·exact concat_meets ⟨_,ho,rfl⟩ ⟨_,ho2,rfl⟩ noFill_tuple_add seq_tuple_add PySem.F.slot_tuple_add PySem.F.entry_tuple_add (PySem.F.args_tuple_add_2 _ _)
   (tuple_addW1 t b vs.toArray ws.toArray n n2 dd dd2 sl sl2 (by simpa using hv) (by simp[hw])) ⟨ho,ho2,h1 hw⟩
 ·refine concat_meets ⟨_,ho,rfl⟩ ⟨_,ho2,rfl⟩ noFill_tuple_add seq_tuple_add PySem.F.slot_tuple_add PySem.F.entry_tuple_add (PySem.F.args_tuple_add_2 _ _)
   (tuple_addW2 t b vs.toArray ws.toArray n n2 dd dd2 sl sl2 (by simpa using hv) (by simpa using hw) (by rw[ax,ax];exact hsz)) ⟨ho,ho2,?_⟩
  rw[e]
  exact h2 hw
def sIx(n d:Nat):Option Int->Nat
 |none=>d
 |some v=>if v<0 then(v+(n:Int)).toNat else min v.toNat n
theorem sIx_none(n d:Nat):sIx n d none=d:=rfl
theorem sIx_nat(n d k:Nat):sIx n d (some (k:Int))=min k n:=by
 show(if(k:Int)<0 then((k:Int)+(n:Int)).toNat else min (k:Int).toNat n)=min k n
 rw[if_neg (by lia),gG]
theorem Lv(n d:Nat)(hd:d<=n)(o:Option Int):sIx n d o<=n:=by
 cases o with
 |none=>exact hd
 |some v=>
  show(if v<0 then(v+(n:Int)).toNat else min v.toNat n)<=n
  by_cases hv:v<0
  ·rw[if_pos hv];lia
  ·rw[if_neg hv];exact Nat.min_le_right _ _
theorem Ce(v:Int)(n d:Nat):(if v<0 then max (v+(n:Int)) 0 else min v (n:Int))=((sIx n d (some v):Nat):Int):=by
 show(if v<0 then max (v+(n:Int)) 0 else min v (n:Int))=(((if v<0 then(v+(n:Int)).toNat else min v.toNat n):Nat):Int)
 by_cases hv:v<0
 ·simp only[if_pos hv];lia
 ·simp only[if_neg hv];lia
theorem AK(lo hi:Option Int)(n:Nat):Builtin.Slice.sliceAdjust lo hi 1 (n:Int)=(((sIx n 0 lo:Nat):Int),((sIx n n hi:Nat):Int)):=by
 have h1:¬((1:Int)<0):=by lia
 unfold Builtin.Slice.sliceAdjust
 simp only[h1,if_false]
 refine Prod.ext ?_ ?_
 ·cases lo with
  |none=>rfl
  |some v=>exact Ce v n 0
 ·cases hi with
  |none=>rfl
  |some v=>exact Ce v n n
theorem Bu(i j:Nat):Builtin.Slice.slicePlaces (i:Int) (j:Int) 1=j-i:=by
 unfold Builtin.Slice.slicePlaces
 have h1:(1:Int)>0:=by lia
 simp only[h1,if_true,Int.ediv_one]
 split<;>lia
theorem u0{v:Value}{o:Option Int}{Q:Option Int->Shared->Prop}(p:IsPart v o)(h:Q o s):wpAny (model prog w) A (Builtin.Slice.slicePartIndex v) Q E s:=by
 cases p with
 |none=>exact slicePart_none h
 |int i t=>exact slicePart_int h
theorem rN{sl:Addr}{vl vu:Value}{lo hi:Option Int}{n:Nat}{Q:Int×Int×Nat->Shared->Prop}(hs:s.heap.IsSliceOf sl vl vu .none)(pl:IsPart vl lo)(pu:IsPart vu hi)
  (h:Q (((sIx n 0 lo:Nat):Int),1,sIx n n hi-sIx n 0 lo) s):wpAny (model prog w) A (Builtin.Slice.sliceApplied (.ref sl) (pure (n:Int))) Q E s:=by
 obtain⟨os,hos,hcs,hds⟩:=id hs
 unfold Builtin.Slice.sliceApplied Builtin.Slice.sliceFields
 refine wpAny_bind (wpAny_bind (wpAny_field hos hds (x:=vl) rfl (wpAny_bind (wpAny_field hos hds (x:=vu) rfl (wpAny_bind (wpAny_field hos hds (x:=.none) rfl (wpAny_pure ?_)))))))
 refine wpAny_bind (slicePart_none ?_)
 show wpAny _ _ (if((1:Int)==0)=true then _ else _) _ _ s
 rw[if_neg (by decide)]
 refine wpAny_bind (u0 pl (wpAny_bind (u0 pu (wpAny_bind (wpAny_pure ?_)))))
 show wpAny _ _ (match Builtin.Slice.sliceAdjust lo hi 1 (n:Int) with|(lo,hi)=>pure (lo,(1:Int),Builtin.Slice.slicePlaces lo hi 1)) _ _ s
 rw[AK lo hi n]
 show wpAny _ _ (pure (((sIx n 0 lo:Nat):Int),(1:Int),Builtin.Slice.slicePlaces ((sIx n 0 lo:Nat):Int) ((sIx n n hi:Nat):Int) 1)) _ _ s
 rw[Bu]
 exact wpAny_pure h
theorem FZ(xs:Array Value)(i k:Nat):((cH k).filterMap λ(m:Nat)=>xs[((i:Int)+(m:Int)*1).toNat]?).toArray=((xs.toList.drop i).take k).toArray:=by
 have e:(λ(m:Nat)=>xs[((i:Int)+(m:Int)*1).toNat]?)=λm=>xs[i+m]?:=by
  funext m
  have:((i:Int)+(m:Int)*1).toNat=i+m:=by lia
  rw[this]
 rw[e]
 have:=pick_run xs i k
 rw[List.filterMap_map] at this
 have e2:((λx=>xs[x]?) ∘ λx=>i+x)=λm=>xs[i+m]?:=rfl
 rw[e2] at this
 rw[this]
theorem getItem_tuple_cut{t sl:Addr}{items:Array Value}{vl vu:Value}{lo hi:Option Int}{Q:Value->Shared->Prop}(ht:IsTup s.heap t items)(hs:s.heap.IsSliceOf sl vl vu .none)(pl:IsPart vl lo)(pu:IsPart vu hi)
  (hw:¬(sIx items.size 0 lo=0/\sIx items.size items.size hi=items.size))
  (h:Q (.ref s.heap.objs.size) {s with heap:=s.heap.push {cls:=.type "tuple",data:=.seq ((items.toList.drop (sIx items.size 0 lo)).take (sIx items.size items.size hi-sIx items.size 0 lo)).toArray}})
  (hsz:items.size<=sizeLine):wpAny (model prog w) A (getItem (.ref t) (.ref sl)) Q E s:=by
 have htake:sizeOk (.seq ((items.toList.drop (sIx items.size 0 lo)).take (sIx items.size items.size hi-sIx items.size 0 lo)).toArray):=by
  show((items.toList.drop (sIx items.size 0 lo)).take (sIx items.size items.size hi-sIx items.size 0 lo)).toArray.size<=sizeLine
  rw[ax,bg,dZ,bX]
  lia
 have hj:sIx items.size items.size hi<=items.size:=Lv _ _ (aC _) hi
 obtain⟨os,hos,hcs,hds⟩:=id hs
 have hTs:s.TypeIs (.ref sl) "slice":=⟨os,hos,hcs⟩
 unfold getItem
 try with_reducible refine wpAny_holding ?_
 first|refine wpAny_bind (wpAny_pure ?_)|skip
 refine wpAny_bind (wpAny_sequenceKey ht.typeIs (by decide) ?_)
 refine wpAny_bind (wpAny_callSpecial?_slot (name:=Str.ofString "__getitem__") ht.typeIs PyProof.Rows.slot_tuple_getitem
  (wpAny_call_entry PyProof.Rows.slot_tuple_getitem ht.typeIs entry_tuple_getitem ?_ (args_tuple_getitem _ _)))
 show wpAny _ _ (Builtin.Tuple.tupleItemsOf (.ref t) >>= _) _ _ s
 refine wpAny_bind (tupleItemsOf_ ht ?_)
 refine wpAny_bind (wpAny_typeOf hTs ?_)
 rw[if_pos (by decide)]
 refine wpAny_bind (rN hs pl pu ?_)
 have hno:¬((((sIx items.size 0 lo:Nat):Int)==0&&(1:Int)==1&&(sIx items.size items.size hi-sIx items.size 0 lo)==items.size)=true):=by
  intro q
  rw[Bool.and_eq_true,Bool.and_eq_true] at q
  have q1:((sIx items.size 0 lo:Nat):Int)=0:=eq_of_beq q.1.1
  have q2:sIx items.size items.size hi-sIx items.size 0 lo=items.size:=eq_of_beq q.2
  exact hw ⟨by lia,by lia⟩
 show wpAny _ _ (if(((sIx items.size 0 lo:Nat):Int)==0&&(1:Int)==1&&(sIx items.size items.size hi-sIx items.size 0 lo)==items.size)=true then _ else _) _ _ s
 rw[if_neg hno,FZ]
 first
  |exact wpAny_bind (m:=Builtin.Tuple.tupleExact _) (wpAny_newObj_type (wpAny_pure ⟨_,rfl,wpAny_pure h⟩) htake)
  |exact wpAny_bind (m:=Builtin.Tuple.tupleExact _) (wpAny_newObj_type (wpAny_bind (wpAny_pure (wpAny_pure ⟨_,rfl,wpAny_pure h⟩))) htake)
  |exact wpAny_bind (wpAny_bind (m:=Builtin.Tuple.tupleExact _) (wpAny_newObj_type (wpAny_pure (wpAny_pure ⟨_,rfl,wpAny_pure h⟩)) htake))
  |exact wpAny_bind (wpAny_bind (m:=Builtin.Tuple.tupleExact _) (wpAny_newObj_type (wpAny_pure ⟨_,rfl,wpAny_pure h⟩) htake))
end
end HT
namespace L2
open PySem PySem.Spec PyProof.Rows
abbrev TO:=St->Hp->(Option Int->Hp->Prop)->Prop
def PO(X:Cx)(e:Option Expr)(t:TO):Prop:=
 ∀(pins:List (Addr×Obj)) (s:Shared) (σ:St) (H:Hp) (Q:Option Int->Hp->Prop),bP X pins σ H s->t σ H Q->
  wpAny (model X.prog X.w) X.A (evalPart e X.env) (λu s'=>∃o H',bP X pins σ H' s'/\IsPart u o/\Q o H') X.xe s
def dU:TO:=λ_ H Q=>Q none H
def gJ(t:TE):TO:=λσ H Q=>t σ H λx H1=>∃i,x=.int i/\Q (some i) H1
section
variable{X:Cx}{e:Expr}{te:TE}{lo hi:Option Expr}{tl th:TO}{pos p2:Pos}
theorem IM:PO X none dU:=by
 intro pins s σ H Q I h
 rw[evalPart_none]
 exact wpAny_pure ⟨none,H,I,.none,h⟩
theorem IP(h:PE X e te):PO X (some e) (gJ te):=by
 intro pins s σ H Q I hw
 rw[evalPart_some]
 refine gg (h pins s σ H _ I hw) λu s1 ⟨x,H1,I1,r1,q1⟩=>?_
 obtain⟨i,rfl,q⟩:=q1
 obtain⟨t,rfl⟩:=r1
 exact⟨some i,H1,I1,.int i t,q⟩
def Hn(X:Cx)(r:V->Option Int->Option Int->Hp->VK->Prop):Prop:=
 ∀(pins:List (Addr×Obj)) (s:Shared) (σ:St) (H:Hp) (x:V) (v vl vu:Value) (lo hi:Option Int) (sl:Addr) (Q:VK),bP X pins σ H s->de x v->s.heap.IsSliceOf sl vl vu .none->IsPart vl lo->IsPart vu hi->r x lo hi H Q->
  ∃T id,typeLookup (.type T) "__getitem__"=pure (some (.builtin id))/\s.TypeIs v T/\wpAny (model X.prog X.w) X.A (getItem v (.ref sl)) (EP X pins σ Q) X.xe s
theorem Hn.or{r r':V->Option Int->Option Int->Hp->VK->Prop}(h:Hn X r)(h':Hn X r'):Hn X (λx lo hi H Q=>r x lo hi H Q\/r' x lo hi H Q):=by
 intro pins s σ H x v vl vu lo hi sl Q I rx hs pl pu q
 rcases q with q|q
 ·exact h pins s σ H x v vl vu lo hi sl Q I rx hs pl pu q
 ·exact h' pins s σ H x v vl vu lo hi sl Q I rx hs pl pu q
def u5(r:V->Option Int->Option Int->Hp->VK->Prop)(te:TE)(tl th:TO):TE:=λσ H Q=>te σ H λx H1=>tl σ H1 λl H2=>th σ H2 λu H3=>r x l u H3 Q
theorem FW{r:V->Option Int->Option Int->Hp->VK->Prop}(hr:Hn X r)(he:PE X e te)(hl:PO X lo tl)(hu:PO X hi th):PE X (.Subscript e (.Slice lo hi none p2) pos) (u5 r te tl th):=by
 intro pins s σ H Q I h
 refine Subscript_ (gg (he pins s σ H _ I h) λv s1 ⟨x,H1,I1,r1,q1⟩=>?_)
 refine wpAny_Slice (gg (hl pins s1 σ H1 _ I1 q1) λvl s2 ⟨l,H2,I2,pl,q2⟩=>gg (hu pins s2 σ H2 _ I2 q2) λvu s3 ⟨u,H3,I3,pu,q3⟩=>?_)
 rw[evalPart_none]
 refine wpAny_pure ?_
 have I4:bP X pins σ H3 {s3 with heap:=s3.heap.push {cls:=.type "slice",data:=.fields #[vl,vu,.none]}}:=I3.kept (t':=s3.toks) λb ob q=>az _ q
 obtain⟨T,id,hT,ht,hg⟩:=hr pins {s3 with heap:=s3.heap.push {cls:=.type "slice",data:=.fields #[vl,vu,.none]}} σ H3 x v vl vu l u s3.heap.objs.size Q I4 r1 (Heap.IsSliceOf.new ..) pl pu q3
 show wpAny (model X.prog X.w) X.A (subscriptTail e (.Slice lo hi none p2) v (.ref s3.heap.objs.size)) (EP X pins σ Q) X.xe {s3 with heap:=s3.heap.push {cls:=.type "slice",data:=.fields #[vl,vu,.none]}}
 exact tail_any (ops:=[.ref s3.heap.objs.size,v]) ht hT hg (by with_unfolding_all rfl)
def nU(xs:List V)(lo hi:Option Int):List V:=(xs.drop (HT.sIx xs.length 0 lo)).take (HT.sIx xs.length xs.length hi-HT.sIx xs.length 0 lo)
theorem rT(xs:List V)(lo hi:Option Int):(nU xs lo hi).length<=xs.length:=by
 unfold nU
 rw[bg,dZ]
 lia
def Mw(K:Fg):V->Option Int->Option Int->Hp->VK->Prop:=λx lo hi H Q=>∃a xs,x=.ref a/\cY K H a xs/\
 ¬(HT.sIx xs.length 0 lo=0/\HT.sIx xs.length xs.length hi=xs.length)/\∀p,H p=none->Q (.ref p) (upd H p (.tup (nU xs lo hi)))
theorem Lx:Hn X (Mw X.K):=by
 intro pins s σ H x v vl vu lo hi sl Q I rx hs pl pu h
 obtain⟨a,xs,rfl,hx,hw,q⟩:=h
 cases rx
 obtain⟨its,r,ht,hz⟩:=I.tuple hx
 have hlen:its.toArray.size=xs.length:=by rw[ax];exact r.length.symm
 refine⟨"tuple",_,PyProof.Rows.slot_tuple_getitem.lookup,ht.typeIs,?_⟩
 refine HT.getItem_tuple_cut ht hs pl pu (by rw[hlen];exact hw) ?_ (by rw[hlen];exact hz)
 rw[hlen]
 refine⟨.ref s.heap.objs.size,_,I.laid (t':=s.toks) (o:=.tup (nU xs lo hi)) (λb ob q=>az _ q) (aC _) ?_,rfl,q _ (I.hok.fresh (aC _))⟩
 exact⟨ck (rT xs lo hi) hz,_,(r.drop (HT.sIx xs.length 0 lo)).take (HT.sIx xs.length xs.length hi-HT.sIx xs.length 0 lo),lM.new _ _⟩
def JT(K:Fg):R2:=λx y H Q=>∃a b xs ys,x=.ref a/\y=.ref b/\cY K H a xs/\cY K H b ys/\xs≠[]/\xs.length+ys.length<=sizeLine/\
 (ys=[]->Q (.ref a) H)/\(ys≠[]->∀p,H p=none->Q (.ref p) (upd H p (.tup (xs++ys))))
theorem cO.nil_iff{xs:List V}{us:List Value}(r:cO xs us):us=[]↔xs=[]:=by
 cases r with
 |nil=>simp
 |cons _ _=>simp
theorem Ip:kf X (binaryOp .Add) (JT X.K):=by
 intro pins s σ H x y v u Q I rx ry h
 obtain⟨a,b,xs,ys,rfl,rfl,ha,hb,hx,hz,q1,q2⟩:=h
 cases rx
 cases ry
 obtain⟨its,r1,p1,_⟩:=I.tuple ha
 obtain⟨its2,r2,p2,_⟩:=I.tuple hb
 refine HT.cat_tup p1 p2 (λz=>hx (r1.nil_iff.mp z)) (λz=>⟨.ref a,H,I,rfl,q1 (r2.nil_iff.mp z)⟩) (λz=>?_) (by rw[<-r1.length,<-r2.length];exact hz)
 refine⟨.ref s.heap.objs.size,_,I.laid (t':=s.toks) (o:=.tup (xs++ys)) (λb ob q=>az _ q) (aC _) ?_,rfl,q2 (λw=>z (r2.nil_iff.mpr w)) _ (I.hok.fresh (aC _))⟩
 exact⟨by rw[aG];exact hz,_,r1.append r2,lM.new _ _⟩
end
def JQ(n:Nat)(i:Int):Option Nat:=if 0<=i then(if i<n then some i.toNat else none) else if -(n:Int)<=i then some (i+n).toNat else none
def Ht{α:Type}(xs:List α)(i:Int):Option α:=(JQ xs.length i).bind λj=>xs[j]?
theorem Cq{n:Nat}{i:Int}{j:Nat}(h:JQ n i=some j):seqIndex? i n=some j/\j<n/\-(n:Int)<=i/\i<n:=by
 unfold JQ at h
 by_cases h0:0<=i
 ·rw[if_pos h0] at h
  by_cases h1:i<n
  ·rw[if_pos h1] at h
   have e:i.toNat=j:=Option.some.inj h
   exact⟨by rw[seqIndex_of h0 h1,e],by lia,by lia,h1⟩
  ·rw[if_neg h1] at h;cases h
 ·rw[if_neg h0] at h
  by_cases h1:-(n:Int)<=i
  ·rw[if_pos h1] at h
   have e:(i+n).toNat=j:=Option.some.inj h
   exact⟨by rw[seqIndex_neg (by lia) h1,e],by lia,h1,by lia⟩
  ·rw[if_neg h1] at h;cases h
theorem xM{α:Type}{xs:List α}{i:Int}{v:α}(h:Ht xs i=some v):∃j,seqIndex? i xs.length=some j/\xs[j]?=some v/\j<xs.length/\-(xs.length:Int)<=i/\i<xs.length:=by
 unfold Ht at h
 cases e:JQ xs.length i with
 |none=>rw[e] at h;cases h
 |some j=>
  rw[e] at h
  obtain⟨h1,h2,h3,h4⟩:=Cq e
  exact⟨j,h1,h,h2,h3,h4⟩
def Ca(b:Expr):Prop:=∀o i,subscripted b false o i=operate [o,i] (getItem o i)
def Hd(X:Cx)(r:R2):Prop:=
 ∀(value slice:Expr) (pins:List (Addr×Obj)) (s:Shared) (σ:St) (H:Hp) (x y:V) (v u:Value) (Q:VK),bP X pins σ H s->de x v->de y u->r x y H Q->
  subscripted slice false v u=operate [v,u] (getItem v u)->wpAny (model X.prog X.w) X.A (subscriptTail value slice v u) (EP X pins σ Q) X.xe s
def LD(X:Cx)(id:String)(r:V->List V->Hp->VK->Prop):Prop:=
 ∀(pins:List (Addr×Obj)) (s:Shared) (σ:St) (H:Hp) (x:V) (xs:List V) (v:Value) (us:List Value) (Q:VK),bP X pins σ H s->de x v->cO xs us->r x xs H Q->
  wpAny (model X.prog X.w) X.A (call (.builtin id) (v::us)) (EP X pins σ Q) X.xe s
section
variable{X:Cx}{a b:Expr}{ta tb:TE}{pos:Pos}
theorem Hd.or{r r':R2}(h:Hd X r)(h':Hd X r'):Hd X (λx y H Q=>r x y H Q\/r' x y H Q):=by
 intro value slice pins s σ H x y v u Q I rx ry q hs
 rcases q with q|q
 ·exact h value slice pins s σ H x y v u Q I rx ry q hs
 ·exact h' value slice pins s σ H x y v u Q I rx ry q hs
theorem Mh{r:R2}(hr:Hd X r)(ha:PE X a ta)(hb:PE X b tb)(hs:Ca b):PE X (.Subscript a b pos) (bb r ta tb):=by
 intro pins s σ H Q I h
 exact Subscript_ (J6 ha hb I h λv u s2 x y H2 I2 rx ry q=>hr a b pins s2 σ H2 x y v u Q I2 rx ry q (hs _ _))
def Mq(K:Fg):R2:=λx y H Q=>∃p xs i v,x=.ref p/\y=.int i/\cz K H p xs/\Ht xs i=some v/\Q v H
def Ms(K:Fg):R2:=λx y H Q=>∃p xs i v,x=.ref p/\y=.int i/\cY K H p xs/\Ht xs i=some v/\Q v H
def Mr:R2:=λx y H Q=>∃z i c,x=.str z/\y=.int i/\z.length<=sizeLine/\Ht z.cps.toList i=some c/\Q (.str ⟨#[c]⟩) H
theorem HQ:Hd X (Mq X.K):=by
 intro value slice pins s σ H x y v u Q I rx ry h hs
 obtain⟨p,xs,i,z,rfl,rfl,hq,he,q⟩:=h
 cases rx
 obtain⟨t,rfl⟩:=ry
 obtain⟨its,r,pl,hz⟩:=I.list hq
 obtain⟨j,h1,h2,h3,h4,h5⟩:=xM he
 obtain⟨w,ew,rw'⟩:=r.get h2
 have hl:=r.length
 have hn:=rD
 have fin:EP X pins σ Q w s:=⟨z,H,I,rw',q⟩
 by_cases h0:0<=i
 ·have hj:i.toNat=j:=by
   rw[seqIndex_of h0 h5] at h1
   exact Option.some.inj h1
  exact item_listR pl.isList h0 (by lia) (by rw[hj];simpa using ew) fin hs
 ·have hj:(i+(its.toArray.size:Int)).toNat=j:=by
   rw[seqIndex_neg (by lia) h4] at h1
   rw[ax,<-hl]
   exact Option.some.inj h1
  exact subscriptTail_builtinR (x:=w) pl.isList.typeIs slot_list_getitem.lookup
   (wpAny_getItem_list_neg (Q:=λr s'=>r=w/\EP X pins σ Q r s') pl.isList (by lia) (by rw[ax]<;>lia) (by lia) (by rw[hj];simpa using ew) ⟨rfl,fin⟩) hs
theorem Kk:Hd X (Ms X.K):=by
 intro value slice pins s σ H x y v u Q I rx ry h hs
 obtain⟨p,xs,i,z,rfl,rfl,hq,he,q⟩:=h
 cases rx
 obtain⟨t,rfl⟩:=ry
 obtain⟨its,r,pl,hz⟩:=I.tuple hq
 obtain⟨j,h1,h2,h3,h4,h5⟩:=xM he
 obtain⟨w,ew,rw'⟩:=r.get h2
 have hl:=r.length
 have hn:=rD
 have fin:EP X pins σ Q w s:=⟨z,H,I,rw',q⟩
 exact subscriptTail_builtinR (x:=w) pl.typeIs slot_tuple_getitem.lookup
  (getItem_tuple (j:=j) (Q:=λr s'=>r=w/\EP X pins σ Q r s') pl (by lia) (by lia) (by rw[ax,<-hl];exact h1) (by simpa using ew) ⟨rfl,fin⟩) hs
theorem Kj:Hd X Mr:=by
 intro value slice pins s σ H x y v u Q I rx ry h hs
 obtain⟨z,i,c,rfl,rfl,hz,he,q⟩:=h
 obtain⟨t,rfl⟩:=rx
 obtain⟨t',rfl⟩:=ry
 obtain⟨j,h1,h2,h3,h4,h5⟩:=xM he
 have hl:z.cps.toList.length=z.length:=by simp[Str.length]
 rw[hl] at h1 h4 h5
 have hn:=rD
 exact tail_any (typeIs_str s z t) slot_str_getitem.lookup (getItem_str (c:=c) (by
  have e1:decide (i < -(2 ^ 63:Int))=false:=decide_eq_false (by lia)
  have e2:decide (i >= 2 ^ 63)=false:=decide_eq_false (by lia)
  rw[e1,e2,Bool.or_false]) (by rw[h1];simpa using h2) ⟨.str ⟨#[c]⟩,H,I.tok _,⟨_,rfl⟩,q⟩) hs
def cE(K:Fg):R2:=λx y H Q=>Mq K x y H Q\/Ms K x y H Q\/Mr x y H Q
theorem aF:Hd X (cE X.K):=HQ.or (Kk.or Kj)
theorem Bh(its:List Value)(n j:Nat)(u:Value):Obj.mapSeq (·.setIfInBounds j u) {cls:=.type "list",data:=.seq its.toArray n}={cls:=.type "list",data:=.seq (its.set j u).toArray n}:=by
 simp[Obj.mapSeq]
theorem bP.lst{pins:List (Addr×Obj)}{σ:St}{H:Hp}{s:Shared}{p:Addr}{xs:List V}(I:bP X pins σ H s)(h:H p=some (.lst xs)) :
  ∃(its:List Value) (n:Nat),cO xs its/\s.heap.get? p=some {cls:=.type "list",data:=.seq its.toArray n}/\xs.length<=sizeLine:=by
 obtain⟨z,its,n,r,e⟩:=I.hok p _ h
 exact⟨its,n,r,e,z⟩
theorem bP.lstUpd{pins:List (Addr×Obj)}{σ:St}{H:Hp}{s:Shared}{p:Addr}{xs ys:List V}{its its':List Value}{n n':Nat}{f:Obj->Obj}(I:bP X pins σ H s)(h:H p=some (.lst xs))
  (ho:s.heap.get? p=some {cls:=.type "list",data:=.seq its.toArray n}) (hf:f {cls:=.type "list",data:=.seq its.toArray n}={cls:=.type "list",data:=.seq its'.toArray n'}) (r:cO ys its') (hz:ys.length<=sizeLine) (t:Nat) :
  bP X pins σ (upd H p (.lst ys)) {s with heap:=s.heap.update p f,toks:=t}:=by
 have e:(s.heap.update p f).get? p=some {cls:=.type "list",data:=.seq its'.toArray n'}:=by
  rw[cX f ho (by rw[hf]<;>rfl),hf]
 refine I.write (x:=p) (e:=p) (by rw[h];trivial) (.inl rfl) (λb u hb q=>(bY _ _ (Ne.symm hb)).trans q) ⟨_,e⟩ ?_
 exact⟨hz,its',n',r,e⟩
def nA:V->V->V->Hp->(Hp->Prop)->Prop:=λo i v H Q=>∃p xs k j,o=.ref p/\i=.int k/\H p=some (.lst xs)/\JQ xs.length k=some j/\Q (upd H p (.lst (xs.set j v)))
theorem jd:Hk X nA:=by
 intro pins s σ H o i v ov iv u Q I ro ri rv h
 obtain⟨p,xs,k,j,rfl,rfl,hp,hj,q⟩:=h
 cases ro
 obtain⟨t,rfl⟩:=ri
 obtain⟨its,n,r,ho,hz⟩:=I.lst hp
 obtain⟨h1,h2,h3,h4⟩:=Cq hj
 have hl:=r.length
 have hn:=rD
 have I':bP X pins σ (upd H p (.lst (xs.set j v))) {s with heap:=s.heap.update p (Obj.mapSeq (·.setIfInBounds j u))}:=
  I.lstUpd hp ho (Bh its n j u) (r.set rv j) (by rw[eL];exact hz) s.toks
 by_cases h0:0<=k
 ·have hk:k.toNat=j:=by
   rw[seqIndex_of h0 h4] at h1
   exact Option.some.inj h1
  exact PySem.W.ki_setAt ho h0 (by lia) (by rw[ax,<-hl];exact h4) (by rw[hk];exact⟨_,I',q⟩)
 ·have hk:(k+(its.toArray.size:Int)).toNat=j:=by
   rw[seqIndex_neg (by lia) h3] at h1
   rw[ax,<-hl]
   exact Option.some.inj h1
  exact PySem.W.ki_setBack ho (by lia) (by rw[ax,<-hl];exact h3) (by lia) (by rw[hk];exact⟨_,I',q⟩)
theorem yx(lo hi:Option Int)(n:Nat):(sliceBounds lo hi none n).1=((HT.sIx n 0 lo:Nat):Int)/\(sliceBounds lo hi none n).2.1=((HT.sIx n n hi:Nat):Int)/\(sliceBounds lo hi none n).2.2=1:=by
 refine⟨?_,?_,rfl⟩
 ·cases lo with
  |none=>simp[sliceBounds,HT.sIx]
  |some i=>
   simp only[sliceBounds,HT.sIx,lY,show(1:Int)>0 by decide,if_true]
   by_cases h:i<0
   ·simp only[h,if_true]<;>lia
   ·simp only[h,if_false]<;>lia
 ·cases hi with
  |none=>simp[sliceBounds,HT.sIx]
  |some i=>
   simp only[sliceBounds,HT.sIx,lY,show(1:Int)>0 by decide,if_true]
   by_cases h:i<0
   ·simp only[h,if_true]<;>lia
   ·simp only[h,if_false]<;>lia
theorem vM(its:List Value)(lo hi:Option Int):slicePick its.toArray lo hi none=((its.drop (HT.sIx its.length 0 lo)).take (HT.sIx its.length its.length hi-HT.sIx its.length 0 lo)).toArray:=by
 obtain⟨h1,h2,h3⟩:=yx lo hi its.toArray.size
 unfold slicePick
 rw[h1,h2,h3]
 simp only[sliceRange_one,pick_run,ax]<;>rfl
def Mv(K:Fg):V->Option Int->Option Int->Hp->VK->Prop:=λx lo hi H Q=>∃a xs,x=.ref a/\cz K H a xs/\∀p,H p=none->Q (.ref p) (upd H p (.lst (nU xs lo hi)))
theorem Jv:Hn X (Mv X.K):=by
 intro pins s σ H x v vl vu lo hi sl Q I rx hs pl pu h
 obtain⟨a,xs,rfl,hx,q⟩:=h
 cases rx
 obtain⟨its,r,ht,hz⟩:=I.list hx
 have hlen:=r.length
 refine⟨"list",_,slot_list_getitem.lookup,ht.isList.typeIs,?_⟩
 refine wpAny_getItem_list_slice ht.isList hs pl pu .none (by simp) ?_ (by rw[ax]<;>lia)
 rw[vM,<-hlen]
 refine⟨.ref s.heap.objs.size,_,I.laid (t':=s.toks) (o:=.lst (nU xs lo hi)) (λb ob q=>az _ q) (aC _) ?_,rfl,q _ (I.hok.fresh (aC _))⟩
 exact⟨ck (rT xs lo hi) hz,_,0,(r.drop (HT.sIx xs.length 0 lo)).take (HT.sIx xs.length xs.length hi-HT.sIx xs.length 0 lo),aW _ rfl⟩
def ji:V->Bool
 |.non=>true
 |.bl _=>true
 |.int _=>true
 |.str _=>true
 |_=>false
def AX:V->V->Bool
 |.non,.non=>true
 |.bl a,.bl b=>a==b
 |.bl a,.int b=>(if a then 1 else 0)==b
 |.int a,.bl b=>a==(if b then 1 else 0)
 |.int a,.int b=>a==b
 |.str a,.str b=>a==b
 |_,_=>false
theorem AV{A:Around}{s:Shared}{y x:V}{u v:Value}(ry:de y u)(rx:de x v)(fy:ji y=true)(fx:ji x=true):SeqAt.EqAt A s u v (AX y x):=by
 cases y with
 |non=>
  cases ry
  cases x with
  |non=>cases rx;exact SeqAt.EqAt.same _
  |bl b=>cases rx;exact SeqAt.EqAt.none_bool b
  |int b=>obtain⟨t,rfl⟩:=rx;exact SeqAt.EqAt.none_int b t
  |str b=>obtain⟨t,rfl⟩:=rx;exact SeqAt.EqAt.none_str b t
  |_=>exact absurd (show false=true from fx) Bool.false_ne_true
 |bl a=>
  cases ry
  cases x with
  |non=>cases rx;exact SeqAt.EqAt.bool_none a
  |bl b=>cases rx;exact SeqAt.EqAt.bool_bool a b
  |int b=>obtain⟨t,rfl⟩:=rx;exact SeqAt.EqAt.bool_int a b t
  |str b=>obtain⟨t,rfl⟩:=rx;exact SeqAt.EqAt.bool_str a b t
  |_=>exact absurd (show false=true from fx) Bool.false_ne_true
 |int a=>
  obtain⟨t',rfl⟩:=ry
  cases x with
  |non=>cases rx;exact SeqAt.EqAt.int_none a t'
  |bl b=>cases rx;exact SeqAt.EqAt.int_bool a t' b
  |int b=>obtain⟨t,rfl⟩:=rx;exact SeqAt.EqAt.int_int a t' b t
  |str b=>obtain⟨t,rfl⟩:=rx;exact SeqAt.EqAt.int_str a t' b t
  |_=>exact absurd (show false=true from fx) Bool.false_ne_true
 |str a=>
  obtain⟨t',rfl⟩:=ry
  cases x with
  |non=>cases rx;exact SeqAt.EqAt.str_none a t'
  |bl b=>cases rx;exact SeqAt.EqAt.str_bool a t' b
  |int b=>obtain⟨t,rfl⟩:=rx;exact SeqAt.EqAt.str_int a t' b t
  |str b=>obtain⟨t,rfl⟩:=rx;exact SeqAt.EqAt.str_str a t' b t
  |_=>exact absurd (show false=true from fx) Bool.false_ne_true
 |_=>exact absurd (show false=true from fy) Bool.false_ne_true
def AW(x:V)(u:Value):Bool:=match u with
 |.none=>AX .non x
 |.bool b=>AX (.bl b) x
 |.int i _=>AX (.int i) x
 |.str z _=>AX (.str z) x
 |_=>false
theorem E7{x y:V}{u:Value}(r:de y u)(f:ji y=true):AW x u=AX y x:=by
 cases y with
 |non=>cases r;rfl
 |bl b=>cases r;rfl
 |int i=>obtain⟨t,rfl⟩:=r;rfl
 |str z=>obtain⟨t,rfl⟩:=r;rfl
 |_=>exact absurd (show false=true from f) Bool.false_ne_true
theorem pZ{x:V}:∀{xs:List V} {us:List Value},cO xs us->xs.all ji=true->us.any (AW x)=xs.any λy=>AX y x
 |_,_,.nil,_=>rfl
 |y::xs,u::us,.cons r t,f=>by
  rw[List.all_cons,Bool.and_eq_true] at f
  rw[jB,jB,E7 r f.1,pZ t f.2]
theorem nX{A:Around}{s:Shared}{x:V}{v:Value}(rx:de x v)(fx:ji x=true):∀{xs:List V} {us:List Value},cO xs us->xs.all ji=true->∀u∈us,SeqAt.EqAt A s u v (AW x u)
 |_,_,.nil,_=>λu hu=>by cases hu
 |y::xs,u::us,.cons r t,f=>λu' hu=>by
  rw[List.all_cons,Bool.and_eq_true] at f
  rcases aU.mp hu with rfl|hu
  ·rw[E7 r f.1];exact AV r rx f.1 fx
  ·exact nX rx fx t f.2 u' hu
def kj(x:V)(xs:List V):Bool:=xs.any λy=>AX y x
def vz(K:Fg)(neg:Bool):R2:=λx y H Q=>∃p xs,y=.ref p/\(cz K H p xs\/cY K H p xs)/\ji x=true/\xs.all ji=true/\Q (.bl (if neg then !kj x xs else kj x xs)) H
theorem fv:kf X (compareOp .In) (vz X.K false):=by
 intro pins s σ H x y v u Q I rx ry h
 obtain⟨p,xs,rfl,hq,fx,fs,q⟩:=h
 cases ry
 rcases hq with hq|hq
 ·obtain⟨its,r,pl,hz⟩:=I.list hq
  refine SeqAt.in_listAt (AW x) pl.isList (λw hw=>nX rx fx r fs w (by simpa using hw)) ⟨.bl _,H,I,rfl,?_⟩
  rw[show its.toArray.any (AW x)=its.any (AW x) by simp,pZ r fs]
  exact q
 ·obtain⟨its,r,pl,hz⟩:=I.tuple hq
  refine SeqAt.in_tupleAt (AW x) pl (λw hw=>nX rx fx r fs w (by simpa using hw)) ⟨.bl _,H,I,rfl,?_⟩
  rw[show its.toArray.any (AW x)=its.any (AW x) by simp,pZ r fs]
  exact q
theorem gr:kf X (compareOp .NotIn) (vz X.K true):=by
 intro pins s σ H x y v u Q I rx ry h
 obtain⟨p,xs,rfl,hq,fx,fs,q⟩:=h
 cases ry
 rcases hq with hq|hq
 ·obtain⟨its,r,pl,hz⟩:=I.list hq
  refine SeqAt.notIn_listAt (AW x) pl.isList (λw hw=>nX rx fx r fs w (by simpa using hw)) ⟨.bl _,H,I,rfl,?_⟩
  rw[show its.toArray.any (AW x)=its.any (AW x) by simp,pZ r fs]
  exact q
 ·obtain⟨its,r,pl,hz⟩:=I.tuple hq
  refine SeqAt.notIn_tupleAt (AW x) pl (λw hw=>nX rx fx r fs w (by simpa using hw)) ⟨.bl _,H,I,rfl,?_⟩
  rw[show its.toArray.any (AW x)=its.any (AW x) by simp,pZ r fs]
  exact q
theorem kh:jh X (.type "list") (λxs H Q=>∃p ys,xs=[.ref p]/\(cz X.K H p ys\/cY X.K H p ys)/\∀l,H l=none->Q (.ref l) (upd H l (.lst ys))):=by
 intro pins s σ H xs us Q I r h
 obtain⟨p,ys,rfl,hq,q⟩:=h
 obtain⟨u,rfl,rx⟩:=oC r
 cases rx
 have fin:∀(its:List Value),cO ys its->ys.length<=sizeLine->∀(h':Heap) (c':Nat),(∀b o',s.heap.get? b=some o'->h'.get? b=some o')->
   h'.get? s.heap.objs.size=some {cls:=.type "list",dict:=none,data:=.seq its.toArray c',slots:=#[]}->EP X pins σ Q (.ref s.heap.objs.size) {s with heap:=h'}:=λits r' hz h' c' kp e=>
  ⟨.ref s.heap.objs.size,_,I.laid (t':=s.toks) kp (aC _) (show eB X.prog X.w _ h' _ (.lst ys) from⟨hz,its,c',r',e⟩),rfl,q _ (I.hok.fresh (aC _))⟩
 rcases hq with hq|hq
 ·obtain⟨its,r',pl,hz⟩:=I.list hq
  have hlen:=r'.length
  obtain⟨o,ho,hc,n,hd⟩:=pl.isList
  exact call_list_seq p (.inl rfl) ho hc hd (λh' c' kp e=>fin its r' hz h' c' kp e) (by simp only[ax]<;>lia)
 ·obtain⟨its,r',pl,hz⟩:=I.tuple hq
  have hlen:=r'.length
  obtain⟨o,ho,hc,n,hd⟩:=pl
  exact call_list_seq p (.inr rfl) ho hc hd (λh' c' kp e=>fin its r' hz h' c' kp e) (by simp only[ax]<;>lia)
theorem eh:jh X (.type "tuple") (λxs H Q=>∃p ys,xs=[.ref p]/\((cz X.K H p ys/\∀l,H l=none->Q (.ref l) (upd H l (.tup ys)))\/(cY X.K H p ys/\Q (.ref p) H))):=by
 intro pins s σ H xs us Q I r h
 obtain⟨p,ys,rfl,h⟩:=h
 obtain⟨u,rfl,rx⟩:=oC r
 cases rx
 rcases h with⟨hq,q⟩|⟨hq,q⟩
 ·obtain⟨its,r',pl,hz⟩:=I.list hq
  have hlen:=r'.length
  refine call_tuple_list pl.isList (λh' kp=>?_) (by simp only[ax]<;>lia)
  have I1:bP X pins σ H {s with heap:=h'}:=I.kept (t':=s.toks) kp
  have I2:bP X pins σ (upd H h'.objs.size (.tup ys)) {s with heap:=h'.push {cls:=.type "tuple",data:=.seq its.toArray}}:=
   I1.laid (t':=s.toks) (λb o e=>az _ e) (aC _) (show eB X.prog X.w _ _ _ (.tup ys) from⟨hz,its,r',lM.new _ _⟩)
  exact⟨.ref h'.objs.size,_,I2,rfl,q _ (I1.hok.fresh (aC _))⟩
 ·obtain⟨its,r',pl,hz⟩:=I.tuple hq
  exact call_tuple_same pl ⟨.ref p,H,I,rfl,q⟩
def M8(K:Fg)(T:String)(x:V)(H:Hp):Prop:=match x with
 |.str _=>T="str"
 |.int _=>T="int"
 |.ref p=>(T="list"/\∃xs,cz K H p xs)\/(T="tuple"/\∃o,K.lookup p=some o/\o.cls=.type "tuple"/\o.dict=none)\/
   (T="dict"/\((∃kvs,H p=some (.dK kvs))\/∃kvs,H p=some (.dT kvs)))\/(T="set"/\∃S n,H p=some (.set S n))
 |_=>False
theorem G3{pins:List (Addr×Obj)}{σ:St}{H:Hp}{s:Shared}{T:String}{x:V}{v:Value}(I:bP X pins σ H s)(r:de x v)(ty:M8 X.K T x H) :
  s.TypeIs v T/\∀a,v=.ref a->∃ob,s.heap.get? a=some ob/\ob.dict=none:=by
 cases x with
 |str z=>
  obtain⟨t,rfl⟩:=r
  cases(show T="str" from ty)
  exact⟨typeIs_str s z t,λ_ e=>nomatch e⟩
 |int i=>
  obtain⟨t,rfl⟩:=r
  cases(show T="int" from ty)
  exact⟨typeIs_int s i t,λ_ e=>nomatch e⟩
 |ref p=>
  cases r
  rcases ty with⟨rfl,xs,hq⟩|⟨rfl,o,hk,hc,hd⟩|⟨rfl,hk⟩|⟨rfl,S,n,hk⟩
  ·obtain⟨its,_,pl,_⟩:=I.list hq
   refine⟨pl.isList.typeIs,λa e=>?_⟩
   cases e
   obtain⟨o,n,e,c,hd,_⟩:=pl
   exact⟨o,e,hd⟩
  ·refine⟨⟨o,I.kIn p o hk,hc⟩,λa e=>?_⟩
   cases e
   exact⟨o,I.kIn _ o hk,hd⟩
  ·have z:∃o,s.heap.get? p=some o/\o.ExactDict:=by
    rcases hk with⟨kvs,hk⟩|⟨kvs,hk⟩
    ·obtain⟨_,_,_,_,o,_,_,e,ex,_⟩:=I.hok p _ hk
     exact⟨o,e,ex⟩
    ·obtain⟨_,_,_,_,o,_,_,e,ex,_⟩:=I.hok p _ hk
     exact⟨o,e,ex⟩
   obtain⟨o,e,ex⟩:=z
   refine⟨⟨o,e,ex.1⟩,λa e2=>?_⟩
   cases e2
   exact⟨o,e,ex.2.1⟩
  ·obtain⟨o,_,_,_,e,ex,_⟩:=I.hok p _ hk
   refine⟨⟨o,e,ex.1⟩,λa e2=>?_⟩
   cases e2
   exact⟨o,e,ex.2.1⟩
 |_=>exact False.elim ty
def Jx(K:Fg)(T:String)(r:V->List V->Hp->VK->Prop)(to:TE):TE:=λσ H Q=>to σ H λx H1=>M8 K T x H1/\r x [] H1 Q
def BD(K:Fg)(T:String)(r:V->List V->Hp->VK->Prop)(to:TE)(t:TA):TE:=λσ H Q=>to σ H λx H1=>M8 K T x H1/\t σ H1 λxs H2=>r x xs H2 Q
variable{o e:Expr}{es:List Expr}{to:TE}{t:TA}{name:Str}{apos cpos:Pos}{T id:String}{r:V->List V->Hp->VK->Prop}
theorem KN(pa:PlainAttrs T)(slot:Slot T name id)(hty:typeOf (.builtin id)=pure (.type "method_descriptor"))(hm:LD X id r)(ho:PE X o to)
  (hbase:attributeBase o name X.env (eval o X.env)=eval o X.env:=by rfl) (hline:(apos.endLine==cpos.line)=true:=by rfl):PE X (.Call (.Attribute o name apos) [] [] cpos) (Jx X.K T r to):=by
 intro pins s σ H Q I h
 refine wpAny_Call_method0_late hbase hline (gg (ho pins s σ H _ I h) λv s1 ⟨x,H1,I1,r1,ty,q1⟩=>?_)
 obtain⟨h1,h2⟩:=G3 I1 r1 ty
 exact⟨T,id,pa,slot,hty,h1,h2,Calls.callWith_builtin rfl (PySem.evalArgs_none (hm pins s1 σ H1 x [] v [] Q I1 r1 .nil q1))⟩
theorem Mf(pa:PlainAttrs T)(slot:Slot T name id)(hty:typeOf (.builtin id)=pure (.type "method_descriptor"))(hm:LD X id r)(ho:PE X o to)(ha:PA X (e::es) t)
  (hbase:attributeBase o name X.env (eval o X.env)=eval o X.env:=by rfl)
  (hfew:((backTo cpos (starEach (e::es) X.env)).all (λx=>!x.1)&&(backToKw cpos (keywordEach [] X.env)).all (λx=>x.1.isSome)
   && decide ((e::es).length+([]:List Keyword).length+(if([]:List Keyword).isEmpty then 0 else 1)<30))=true:=by rfl)
  (hline:(apos.endLine==cpos.line)=true:=by rfl) (hs:starEach (e::es) X.env=(false,eval e X.env)::starEach es X.env:=by rfl) (hplain:(backTo cpos (starEach es X.env)).any (·.1)=false:=by rfl) :
  PE X (.Call (.Attribute o name apos) (e::es) [] cpos) (BD X.K T r to t):=by
 intro pins s σ H Q I h
 refine wpAny_Call_method_late hbase hfew hline rfl (gg (ho pins s σ H _ I h) λv s1 ⟨x,H1,I1,r1,ty,q1⟩=>?_)
 obtain⟨h1,h2⟩:=G3 I1 r1 ty
 refine⟨T,id,pa,slot,hty,h1,h2,?_⟩
 have hA:=ha cpos pins s1 σ H1 _ I1 q1
 rw[hs] at hA ⊢
 refine Calls.callWith_builtin (by show(false || (backTo cpos (starEach es X.env)).any (·.1))=false;rw[hplain]<;>rfl) (Calls.evalArgs_plain ?_)
 exact gg hA λus s2 ⟨vs,H2,I2,r2,q2⟩=>hm pins s2 σ H2 x vs v us Q I2 r1 r2 q2
/- xs.append(e),list.index on a module's tuple .. are LD facts of 06m -/
end
def MR(X:Cx)(id:String)(r:V->List V->Hp->VK->Prop):Prop:=
 ∀(pins:List (Addr×Obj)) (s:Shared) (σ:St) (H:Hp) (x:V) (xs:List V) (v:Value) (us:List Value) (Q:VK),bP X pins σ H s->de x v->cO xs us->r x xs H Q->
  wpAny (model X.prog X.w) X.A (call (.builtin id) (v::us)) (EP X pins σ Q) X.xe s
theorem cO.one:∀{x:V} {us:List Value},cO [x] us->∃u,us=[u]/\de x u
 |_,_,.cons r .nil=>⟨_,rfl,r⟩
theorem cO.zero:∀{us:List Value},cO [] us->us=[]
 |_,.nil=>rfl
theorem cO.dropLast{xs:List V}{us:List Value}(h:cO xs us):cO xs.dropLast us.dropLast:=by
 induction h with
 |nil=>exact .nil
 |cons r t ih=>
  cases t with
  |nil=>exact .nil
  |cons q t'=>exact .cons r ih
theorem cO.rep{xs:List V}{us:List Value}(h:cO xs us):∀k:Nat,cO (bD k xs).flatten (bD k us).flatten
 |0=>.nil
 |k+1=>by
  rw[dS,dS,gH,gH]
  exact cO.append h (cO.rep h k)
theorem AY{α:Type}(l:List α):l.eraseIdx (l.length-1)=l.dropLast:=by
 induction l with
 |nil=>rfl
 |cons a r ih=>
  cases r with
  |nil=>rfl
  |cons b r=>
   have e:(a::b::r).length-1=((b::r).length-1)+1:=by
    have h1:(a::b::r).length=r.length+2:=rfl
    have h2:(b::r).length=r.length+1:=rfl
    lia
   rw[e,List.eraseIdx_cons_succ,ih]
   all_goals rfl
theorem wq(its:List Value):∀(k:Nat) (acc:List Value),
  ua (λx1 x2=>x1++x2) acc.toArray (bD k its.toArray)=(acc++(bD k its).flatten).toArray
 |0,acc=>by simp
 |k+1,acc=>by
  have e:acc.toArray++its.toArray=(acc++its).toArray:=by simp
  have e2:(acc++its)++(bD k its).flatten=acc++(bD (k+1) its).flatten:=by
   rw[dS,gH,List.append_assoc]
  rw[<-e2,<-wq its k (acc++its),<-e,dS,ny]
section
variable{X:Cx}{pins:List (Addr×Obj)}{σ:St}{H:Hp}{s:Shared}{l b:Addr}{xs ys zs:List V}
theorem bP.lset{its its':List Value}{n:Nat}{f:Array Value->Array Value}{t':Nat}(I:bP X pins σ H s)(hH:H l=some (.lst xs))
  (e:s.heap.get? l=some {cls:=.type "list",data:=.seq its.toArray n}) (hf:f its.toArray=its'.toArray) (hv:cO ys its') (hz:ys.length<=sizeLine) :
  bP X pins σ (upd H l (.lst ys)) {s with heap:=s.heap.update l (Obj.mapSeq f),toks:=t'}:=by
 have q:=PySem.IsL.update e f
 rw[hf] at q
 refine I.write (x:=l) (e:=l) (by rw[hH];exact trivial) (.inl rfl) (λb' u hb hu=>(bY s.heap (Obj.mapSeq f) (Ne.symm hb)).trans hu) ⟨_,q⟩ ?_
 exact⟨hz,its',_,hv,q⟩
theorem bP.lnew{its:List Value}{t':Nat}(I:bP X pins σ H s)(hv:cO ys its)(hz:ys.length<=sizeLine) :
  bP X pins σ (upd H s.heap.objs.size (.lst ys)) {s with heap:=s.heap.push {cls:=.type "list",data:=.seq its.toArray},toks:=t'}:=
 I.laid (λ_ _ q=>az _ q) (aC _) ⟨hz,its,0,hv,aW _ rfl⟩
theorem bP.fresh(I:bP X pins σ H s):H s.heap.objs.size=none:=I.hok.fresh (aC _)
theorem bP.lstM(I:bP X pins σ H s)(hH:H l=some (.lst xs)):xs.length<=sizeLine/\∃(its:List Value) (n:Nat),cO xs its/\xs.length=its.length/\s.heap.get? l=some {cls:=.type "list",data:=.seq its.toArray n}:=by
 obtain⟨z,its,n,r,e⟩:=I.hok l _ hH
 exact⟨z,its,n,r,r.length,e⟩
theorem FG{n:Nat}(h:n<=sizeLine):Builtin.List.listTooLong n=false:=by
 unfold Builtin.List.listTooLong
 exact decide_eq_false (by lia)
end
section
variable{X:Cx}
def iB:V->List V->Hp->VK->Prop:=λx vs H Q=>∃l xs y,x=.ref l/\vs=[y]/\H l=some (.lst xs)/\xs.length<sizeLine/\Q .non (upd H l (.lst (xs++[y])))
theorem fX:MR X "list.append" iB:=by
 intro pins s σ H x vs v us Q I rx rv h
 obtain⟨l,xs,y,rfl,rfl,hH,hz,q⟩:=h
 cases rx
 obtain⟨u,rfl,ru⟩:=rv.one
 obtain⟨z,its,n,r,hl,e⟩:=I.lstM hH
 refine call_meets F.slot_list_append ⟨_,e,rfl⟩ F.entry_list_append (F.args_list_append_2 _ _) (PySem.list_append l its.toArray n u (by rw[ax];lia)) ⟨e,?_⟩
 refine⟨.non,_,I.lset (its':=its++[u]) hH e (by simp) (r.append (.cons ru .nil)) ?_,rfl,q⟩
 rw[aG,bC]
 lia
def yq:V->List V->Hp->VK->Prop:=λx vs H Q=>∃l b xs zs,x=.ref l/\vs=[.ref b]/\H l=some (.lst xs)/\H b=some (.lst zs)/\xs.length+zs.length<=sizeLine/\Q .non (upd H l (.lst (xs++zs)))
theorem wA:MR X "list.extend" yq:=by
 intro pins s σ H x vs v us Q I rx rv h
 obtain⟨l,b,xs,zs,rfl,rfl,hH,hB,hz,q⟩:=h
 cases rx
 obtain⟨u,rfl,ru⟩:=rv.one
 cases ru
 obtain⟨z,its,n,r,hl,e⟩:=I.lstM hH
 obtain⟨z2,its2,n2,r2,hl2,e2⟩:=I.lstM hB
 have hsz:its.toArray.size+its2.toArray.size<=sizeLine:=by rw[ax,ax];lia
 have hlong:¬(!its.toArray.isEmpty&&Builtin.List.listTooLong (its.toArray.size+its2.toArray.size))=true:=by
  rw[FG hsz,Bool.and_false]
  exact Bool.false_ne_true
 refine call_meets F.slot_list_extend ⟨_,e,rfl⟩ F.entry_list_extend (F.args_list_extend_2 _ _)
  (AutoSeq1.list_extend_list_list_0 l its.toArray n b its2.toArray n2 hlong (by rw[ax];lia) (by lia)) ⟨e,e2,?_⟩
 refine⟨.non,_,I.lset (its':=its++its2) hH e (by simp) (r.append r2) ?_,rfl,q⟩
 rw[aG]
 lia
def Ln:V->List V->Hp->VK->Prop:=λx vs H Q=>∃l xs y,x=.ref l/\vs=[]/\H l=some (.lst xs)/\xs[xs.length-1]?=some y/\Q y (upd H l (.lst xs.dropLast))
theorem FF:MR X "list.pop" Ln:=by
 intro pins s σ H x vs v us Q I rx rv h
 obtain⟨l,xs,y,rfl,rfl,hH,hy,q⟩:=h
 cases rx
 have hus:=rv.zero
 subst hus
 obtain⟨z,its,n,r,hl,e⟩:=I.lstM hH
 obtain⟨u,hu,ru⟩:=r.get hy
 have hy':its.toArray[its.toArray.size-1]?=some u:=by
  show its.toArray[its.length-1]?=some u
  rw[<-dW,<-hl]
  exact hu
 refine call_meets F.slot_list_pop ⟨_,e,rfl⟩ F.entry_list_pop (F.args_list_pop_1 _) (MeetsSeq.list_pop_last l its.toArray n u hy' (by rw[ax];lia)) ⟨e,?_⟩
 refine⟨y,_,I.lset (its':=its.dropLast) hH e ?_ r.dropLast ?_,ru,q⟩
 ·show its.toArray.eraseIdxIfInBounds (its.toArray.size-1)=its.dropLast.toArray
  rw[ax,List.eraseIdxIfInBounds_toArray,AY]
 ·rw[List.length_dropLast]
  lia
def Mo:R2:=λx y H Q=>∃l b xs zs,x=.ref l/\y=.ref b/\H l=some (.lst xs)/\H b=some (.lst zs)/\xs.length+zs.length<=sizeLine/\∀p,H p=none->Q (.ref p) (upd H p (.lst (xs++zs)))
theorem Kz:kf X (binaryOp .Add) Mo:=by
 intro pins s σ H x y v u Q I rx ry h
 obtain⟨l,b,xs,zs,rfl,rfl,hH,hB,hz,q⟩:=h
 cases rx
 cases ry
 obtain⟨z,its,n,r,hl,e⟩:=I.lstM hH
 obtain⟨z2,its2,n2,r2,hl2,e2⟩:=I.lstM hB
 refine PySem.P.add_list e e2 ?_ (by rw[ax,ax];lia)
 have ea:its.toArray++its2.toArray=(its++its2).toArray:=by simp
 rw[ea]
 exact⟨.ref _,_,I.lnew (t':=s.toks) (r.append r2) (by rw[aG];lia),rfl,q _ I.fresh⟩
theorem Ie{α:Type}(xs:List α)(k:Nat):(bD k xs).flatten.length=k*xs.length:=by
 induction k with
 |zero=>simp
 |succ k ih=>rw[dS,gH,aG,ih,Nat.succ_mul,Nat.add_comm]
end
section
variable{prog:Program}{w:World}{A:Around}{E:Value->Shared->Prop}{s:Shared}
set_option maxRecDepth 100000 in
end
section
variable{X:Cx}
end
end L2
namespace Att
open PySem PySem.W PySem.Calls PyProof.Rows
theorem tj{P:Params}{h:Heap}:∀(ns:List Int) (vs:List Value),WellAll P h vs (ns.map WData.int)->IntsAre vs ns:=by
 intro ns
 induction ns with
 |nil=>
  intro vs w
  rw[bO] at w
  cases w
  exact .nil
 |cons n ns ih=>
  intro vs w
  rw[ba] at w
  cases w with
  |cons a b=>
   cases a
   exact .cons _ _ (ih _ b)
theorem Ek{l:OpenLaw}{n:Nat}(hn:l.most=some n){P:Params}{h:Heap}{args:List WData}{vals:List Value}
  (hpre:l.row.toRowW.claim.pre args=true) (hwl:WellAll P h vals args) :
  ∃a vs ns,vals=[Value.ref a]/\args=[WData.list (ns.map WData.int)]/\h.get? a=some {cls:=.type "list",data:=.seq vs.toArray}/\IntsAre vs ns/\ns.length<=n:=by
 have hsh:WShape.hasAll [] args [.list .int]=true:=(pre_splitW hpre).1
 have hc:l.pre.holds [] {args:=args}=true:=(pre_splitW hpre).2
 obtain⟨d,r,rfl,h1,h2⟩:=hasAllW_cons hsh
 obtain rfl:=hasAllW_nil h2
 obtain⟨xs,rfl,h3⟩:=hasW_list h1
 obtain⟨ns,rfl⟩:=items_int h3
 have hlen:ns.length<=n:=by
  unfold OpenLaw.pre at hc
  have h4:(WTm.not (.lt (.lit (.int (n:Int))) (.len (.arg 0)))).holds [] {args:=[.list (ns.map .int)]}=true:=by
   have h4:=(holds_andW hc).1
   rw[hn] at h4
   exact h4
  have h5:=condW_of h4 (w_not (w_lt w_lit (w_len_list (w_arg rfl))))
  rw[ao] at h5
  refine Nat.le_of_not_lt λq=>?_
  have q':(n:Int)<((ns.length:Nat):Int):=by lia
  first
   |(rw[decide_eq_true q'] at h5;exact absurd h5 (by decide))
   |(simp at h5;lia)
 cases hwl with
 |cons w1 w2=>
  cases w2
  cases w1 with
  |list ho hall=>exact⟨_,_,ns,rfl,rfl,ho,tj ns _ hall,hlen⟩
theorem D7(l:OpenLaw)(args:List WData):l.row.toRowW.claim.post args (.bool true) args=true:=
 postW_of (r:=l.row.toRowW) (X:=(true==true))
  (show WShape.has [] (.bool true) .bool=true by first|rfl|decide|simp[WShape.has,WShape.arms,WShape.armsAll])
  (show(WTm.eq .res (.lit (.bool true))).value [] {args:=args,res:=some (.bool true),after:=args}=some (.bool (true==true)) from w_eq_bool (w_res rfl) w_lit) rfl
theorem attach_call{l:OpenLaw}{n:Nat}{q:Program}{loose:List Str}{XP:(Str->Option Value)->Heap->Prop}{YP:World->Heap->Prop}{d:DefRec}
  (hn:l.most=some n) (hdf:d.params.defaults=[])
  (call:∀(w:World) (s₀ s₁:Shared) (mg mb:Str->Option Value) (fa:Addr) (o:Obj) (pm cd doc:Value) (a:Addr) (vs:List Value) (ns:List Int),
   Ground q loose [] XP w s₀ mg mb s₁.heap->YP w s₁.heap->
   s₁.heap.get? fa=some o->o.data=.func (docDef d.name d.params d.body d.scope pm cd doc)->s₁.heap.CodeRec cd d.name->mg d.name=some (.ref fa)->
   s₁.heap.get? a=some {cls:=.type "list",data:=.seq vs.toArray}->IntsAre vs ns->ns.length<=n->s₁.gens=#[]->
   codeAny (model l.prog w) callerA (.call (.ref fa) ⟨[.ref a],[]⟩) (λr s'=>r=.ok (.ret (.bool true))/\OldK s₁.heap s'.heap/\s'.os=s₁.os/\AllBare s'.gens) s₁) :
  WalkO q loose XP YP l.row.toRowW d [] (λf vs=>uc f vs):=by
 intro w s₀ s₁ mg mb G Y fa o pm cd doc dV kV ho hd hcd hD hmg hg args vals as hpre hlay hrd hwl hlo
 obtain rfl:dV=.none:=Dflts.none hD hdf
 obtain rfl:kV=.none:=Dflts.noKw hD
 obtain⟨a,vs,ns,rfl,rfl,hobj,hints,hlen⟩:=Ek hn hpre hwl
 refine enter_call (codeAny_mono (call w s₀ s₁ mg mb fa o pm cd doc a vs ns G Y ho (fd_plain hd) hcd hmg hobj hints hlen hg) λr s' hq=>?_)
 obtain⟨rfl,h2,h3,h4⟩:=hq
 exact⟨.inl ⟨.bool true,.bool true,[],rfl,λ_=>rfl,.bool true,D7 l _,λ_=>⟨List.Pairwise.nil,λ_ hm=>(nomatch hm)⟩⟩,h2,h3,h4⟩
section
variable{prog:Program}{w:World}{A:Around}{E:Value->Shared->Prop}{s:Shared}{K:Frag}
end
end Att
namespace L2
open PySem PySem.Spec PyProof.Rows
theorem xr:∀{vs:List Value} {ns:List Int},IntsAre vs ns->cO (ns.map V.int) vs
 |_,_,.nil=>.nil
 |_,_,.cons n t h=>.cons ⟨t,rfl⟩ (xr h)
def Hj(H:Hp):Prop:=∀b,H b=none\/∃o xs,H b=some (.frz o (.lst xs))
theorem Fs{P:Program}{w:World}{K:Fg}{mg mb:Str->Option Value}{CX:EE}{k:Nat}{fa a:Addr}{fd:FuncData}{x:Str}{sp:Sp}{s₁:Shared}{vs:List Value}{ns:List Int}
  (KX:K.In s₁.heap) (hns:s₁.heap.Ns mainGlobals mg) (hb:s₁.heap.Ns builtinsNs mb) (hbb:∀x:Str,x≠"__name__"->mb x=bootBuiltins x) (hlim:s₁.heap.NoLimit) (hg:s₁.gens=#[])
  (ha:s₁.heap.get? a=some {cls:=.type "list",data:=.seq vs.toArray}) (hi:IntsAre vs ns) (hl:ns.length<=sizeLine) (hr:df k callerA)
  (F:∀base:Heap,K.In base->base.Ns mainGlobals mg->d5 P w K mg base CX k fa fd [x] sp) (hbind:∀(s:Shared) (u:Value),BindsTo s fd ⟨[u],[]⟩ [(x,u)])
  (hsp:∀H:Hp,Hj H->cz K H a (ns.map V.int)->sp [.ref a] H (λv _=>v=.bl true) λ_ _ _=>False)
  (hCX:∀H e s',CX [] H s₁ (λ_ _ _=>False) e s'->False) :
  codeAny (model P w) callerA (.call (.ref fa) ⟨[.ref a],[]⟩) (λr s'=>r=.ok (.ret (.bool true))/\OldK s₁.heap s'.heap/\s'.os=s₁.os/\AllBare s'.gens) s₁:=by
 have rv:=xr hi
 have lenV:=hi.length
 have core:∀H:Hp,Hj H->cz K H a (ns.map V.int)->nK P w H s₁.heap->(∀b,H b≠none->b=a)->(H a≠none->K.lookup a=none)->
   codeAny (model P w) callerA (.call (.ref fa) ⟨[.ref a],[]⟩) (λr s'=>r=.ok (.ret (.bool true))/\OldK s₁.heap s'.heap/\s'.os=s₁.os/\AllBare s'.gens) s₁:=by
  intro H hO hS hok hA hK
  have base_of:∀{b:Addr} {o:Obj},s₁.heap.get? b=some o->H b=none->(xZ s₁.heap H).get? b=some o:=λe n=>Fh e n
  have noA:∀{b:Addr} {o:Obj} {es:Array DictEntry} {ep:Nat},s₁.heap.get? b=some o->o.data=.dict es ep->H b=none:=λ{b o es ep} e d=>by
   cases q:H b with
   |none=>rfl
   |some u=>
    have e':b=a:=hA b (by rw[q];simp)
    subst e'
    rw[ha] at e;cases e
    have d':Data.seq vs.toArray _=Data.dict es ep:=d
    cases d'
  have nsK:∀{b:Addr} {m:Str->Option Value},s₁.heap.Ns b m->(xZ s₁.heap H).Ns b m:=λ{b m} ⟨o,es,ep,e,d,r⟩=>⟨o,es,ep,base_of e (noA e d),d,r⟩
  have hKb:K.In (xZ s₁.heap H):=λb o e=>base_of (KX b o e) (by
   cases q:H b with
   |none=>rfl
   |some u=>
    have e':b=a:=hA b (by rw[q];simp)
    subst e'
    rw[hK (by rw[q];simp)] at e;cases e)
  have hM:Mod K mg (xZ s₁.heap H):=⟨hKb,nsK hns,⟨mb,nsK hb,hbb⟩,let⟨mc,h1,h2⟩:=hlim;⟨mc,nsK h1,h2⟩⟩
  have e0:AC P w K mg (xZ s₁.heap H) callerA [] s₁ H:=⟨rfl,hM,λb o e=>Ii e,pR (Du _ _),trivial,λb hb=>absurd (show b∈([]:List Addr) from hb) (by simp),hok,.of_eq hg⟩
  refine codeAny_mono ((F _ hKb (nsK hns)).run callerA [] s₁ H ⟨[.ref a],[]⟩ [.ref a] [.ref a] _ _ hr e0 (hbind s₁ (.ref a)) (.cons rfl .nil) (hsp H hO hS)) λr s' h=>?_
  cases r with
  |error e=>exact(hCX H e s' h).elim
  |ok fl=>
   cases fl with
   |next=>exact False.elim h
   |brk=>exact False.elim h
   |cont=>exact False.elim h
   |ret u=>
    obtain⟨v,H',os,bare,un,hok',r',q⟩:=h
    have q':v=.bl true:=q
    subst q'
    obtain rfl:u=Value.bool true:=r'
    refine⟨rfl,OldK.of_keep λb o e=>?_,os,bare⟩
    cases q:H b with
    |none=>exact un.keep b o e q (by intro z;exact absurd (show b∈([]:List Addr) from z) (by simp)) (by simp)
    |some u=>
     rcases hO b with z|⟨ob,xs,z⟩
     ·rw[q] at z;cases z
     ·have z2:=un.frzs b ob _ z
      obtain⟨e1,_⟩:=hok b _ z
      obtain⟨e2,_⟩:=hok' b _ z2
      rw[e] at e1;cases e1
      exact e2
 cases hk:K.lookup a with
 |some o=>
  have e:=KX a o hk
  rw[ha] at e
  cases e
  refine core (λ_=>none) (λ_=>.inl rfl) (.inr ⟨_,vs.toArray,_,hk,rfl,rfl,rfl,by rw[ax,lenV];exact hl,by simpa using rv⟩) (λb u z=>by have z':(none:Option HO)=some u:=z;cases z') (λb z=>absurd rfl z) λz=>absurd rfl z
 |none=>
  refine core (λb=>if b=a then some (.frz {cls:=.type "list",data:=.seq vs.toArray} (.lst (ns.map V.int))) else none) (λb=>?_) (.inl (.inr ⟨{cls:=.type "list",data:=.seq vs.toArray},if_pos rfl⟩)) (λb u z=>?_) (λb z=>?_) λ_=>hk
  ·by_cases hb:b=a
   ·exact .inr ⟨_,_,if_pos hb⟩
   ·exact .inl (if_neg hb)
  ·by_cases hb:b=a
   ·have z':=(if_pos hb).symm.trans z
    cases z'
    subst hb
    exact⟨ha,by rw[ao];exact hl,vs,_,rv,ha⟩
   ·have z':=(if_neg hb).symm.trans z
    cases z'
  ·by_cases hb:b=a
   ·exact hb
   ·exact absurd (if_neg hb) z
theorem walk_of{l:PySem.W.OpenLaw}{n k:Nat}{q:Program}{loose:List Str}{XP:(Str->Option Value)->Heap->Prop}{YP:World->Heap->Prop}{d:DefRec}{K:Params->Fg}{CX:World->EE}{sp:World->Sp}{x:Str}
  (hn:l.most=some n) (hn2:n<=sizeLine) (hdf:d.params.defaults=[]) (hr:df k callerA)
  (hY:∀(w:World) (h:Heap),YP w h->(K w.params).In h)
  (F:∀(w:World) (mg:Str->Option Value) (fa:Addr) (h:Heap),(K w.params).In h->h.Ns mainGlobals mg->mg d.name=some (.ref fa)->
   ∃fd:FuncData,(∀(s:Shared) (u:Value),BindsTo s fd ⟨[u],[]⟩ [(x,u)])/\
    ∀base:Heap,(K w.params).In base->base.Ns mainGlobals mg->d5 l.prog w (K w.params) mg base (CX w) k fa fd [x] (sp w))
  (hsp:∀(w:World) (H:Hp) (a:Addr) (ns:List Int),ns.length<=n->Hj H->cz (K w.params) H a (ns.map V.int)->sp w [.ref a] H (λv _=>v=.bl true) λ_ _ _=>False)
  (hCX:∀(w:World) (H:Hp) (s:Shared) (e:Value) (s':Shared),CX w [] H s (λ_ _ _=>False) e s'->False) :
  PySem.W.WalkO q loose XP YP l.row.toRowW d [] (λf vs=>uc f vs):=by
 refine Att.attach_call hn hdf λw s₀ s₁ mg mb fa o pm cd doc a vs ns G Y ho hd hcd hmg hobj hints hlen hg=>?_
 have KX:=hY w _ Y
 obtain⟨fd,hb,hF⟩:=F w mg fa _ KX G.T.g hmg
 exact Fs KX G.T.g G.T.b G.T.builtins G.T.nolimit hg hobj hints (ck hlen hn2) hr hF hb (λH hO hS=>hsp w H a ns hlen hO hS) λH e s'=>hCX w H s₁ e s'
end L2
/- THE LAST THEOREM (shape;LID,My.* are yours):
  My.Adr: a structure of the addresses that your layer names (classes,functions);My.Txt K t: a structure (Prop) of the equations over K;
  My.txt_mk:{K} {implicit addresses ..} (e1:nsIn K mainGlobals "law"=some (some (.ref f))) (e2:K.lookup f=some ⟨oc,od,.func (fnOf "law" "law" params body scope dV kV doc pm an cdv ct),sl⟩) (e3:codeIn K cdv "law"=true) ..:∃t,My.Txt K t
set_option maxRecDepth 100000 in
set_option maxHeartbeats 0 in
theorem PySem.Challenge.cw_LID_holds : PySem.Challenge.rw_LID.Holds := by
 w_on;o_law;k_head;(case hw=>w_witness2)
 k_fill
 refine L2.walk_of (l:=PySem.Challenge.rw_LID) (n:=63) (k:=40) (x:="script") (CX:=λw=>..) (sp:=λ_=>My.sp_law) rfl (by decide) rfl ⟨rfl,by decide,by decide⟩ (λw h Y=>PySem.W.kIn_of Y) ?F ?S ?C
 case F=>
  intro w mg fa h KX G hmg
  have T:∃t,My.Txt (L2.KOf KX) t:=by
   dsimp only[L2.KOf] -- K must stand as «<heap const> w.params» for k_is
   refine' My.txt_mk ?e1 ?e2 ?e3 ..
   (case e1=>PySem.W.k_is) -- in the order: a name -> its address -> its object -> its parts
   (case e2=>PySem.W.k_is)
   ..
  obtain⟨t,T⟩:=T
  have e0:=hmg.symm.trans (aN KX G T.law)
  cases e0 -- fa is the law's own address
  exact⟨_,λs u=>.of_eq rfl,λbase kb nb=>My.law_fn T kb nb⟩ -- if «.of_eq rfl» comes too early: refine' ⟨_,?b,λbase kb nb=>My.law_fn T kb nb⟩;exact λs u=>.of_eq rfl
 case S=>exact λw H a ns hl hO hS=>..
 case C=>exact ..
(the tactic k_is has no namespace: write k_is) -/
namespace L2
open PySem PySem.Spec PyProof.Rows
def bN(s:Stmt):Arguments:=match s with
 |.FunctionDef _ a _ _ _ _ _ _ _ _=>a
 |_=>{posonlyargs:=[],args:=[],vararg:=none,kwonlyargs:=[],kw_defaults:=[],kwarg:=none,defaults:=[]}
def aO(s:Stmt):List Stmt:=match s with
 |.FunctionDef _ _ b _ _ _ _ _ _ _=>b
 |_=>[]
def au(s:Stmt):Scope:=match s with
 |.FunctionDef _ _ _ _ _ _ sc _ _ _=>sc
 |_=>{kind:=.function,names:=[],isGenerator:=false,isCoroutine:=false}
abbrev fH:EE:=λ_ _ _ _ _ _=>False
abbrev E0:XK:=λ_ _ _=>False
theorem Mc{X:Cx}:nR fH X E0:=λ_ _ _ _ _ _ _ h=>h.elim
structure lg(K:Fg)(x qual:Str)(st:Stmt)(f:Addr)(fd:FuncData):Prop where
 ex:∃(oc:Value) (od:Option Addr) (kV doc pm:Value) (an:Option Addr) (cdv ct:Value) (osl:Array (Option Value)),
  fd=aM x qual (bN st) (aO st) (au st) .none kV doc pm an cdv ct/\K.lookup f=some ⟨oc,od,.func fd,osl⟩/\aK K cdv qual=true
 kp:aI K (.ref f)=true
section
variable{P:Program}{w:World}{K:Fg}{mg:Str->Option Value}{base:Heap}
theorem lg.ok{x qual:Str}{st:Stmt}{f:Addr}{fd:FuncData}{N ps:List Str}{k:Nat}{sp:Sp}(F:lg K x qual st f fd)(S:bU N ps (au st))(len:∀vs H Q E,sp vs H Q E->vs.length=ps.length)
  (hbody:∀(cdv:Value) (A:Around) (outer:List Env) (s:Shared) (H:Hp) (vs:List V) (Q:VK) (E:XK),df k (A.deeper (envOfC qual (au st) s.heap.objs.size f cdv))->sp vs H Q E->
   ∃t,jg (eE fH P w K mg base N qual (au st) f cdv A outer s H E).nox (aO st) t/\t {nx:=λ_ H'=>Q .non H',rt:=Q} (cU N vs) H):d5 P w K mg base fH (k+1) f fd ps sp:=by
 obtain⟨oc,od,kV,doc,pm,an,cdv,ct,osl,rfl,lk,hcd⟩:=F.ex
 refine Fc lk hcd S len λA outer s H vs Q E hr hsp=>?_
 obtain⟨t,h,q⟩:=hbody cdv A outer s H vs Q E hr hsp
 exact⟨t,h.nox,q⟩
theorem lg.binds{x qual:Str}{st:Stmt}{f:Addr}{fd:FuncData}{ps:List Str}(F:lg K x qual st f fd)
  (h:∀(kV doc pm:Value) (an:Option Addr) (cdv ct:Value) (us:List Value),us.length=ps.length->bindArgs (aM x qual (bN st) (aO st) (au st) .none kV doc pm an cdv ct) ⟨us,[]⟩=pure (ps.zip us)):nN K fd ps []:=by
 obtain⟨oc,od,kV,doc,pm,an,cdv,ct,osl,rfl,lk,hcd⟩:=F.ex
 exact .all (h kV doc pm an cdv ct)
theorem cQ{x qual:Str}{st:Stmt}{f:Addr}{oc:Value}{od an:Option Addr}{osl:Array (Option Value)}{kV doc pm cdv ct:Value}(l:K.lookup f=some ⟨oc,od,.func (aM x qual (bN st) (aO st) (au st) .none kV doc pm an cdv ct),osl⟩)
  (c:aK K cdv qual=true) (k:aI K (.ref f)=true):lg K x qual st f (aM x qual (bN st) (aO st) (au st) .none kV doc pm an cdv ct):=⟨⟨oc,od,kV,doc,pm,an,cdv,ct,osl,rfl,l,c⟩,k⟩
end
theorem dH{A:Around}{k:Nat}(hr:df k A):A.units+1<cLine:=iC (Nat.add_le_add_left (by decide:1<=64) _) hr.units
section
variable{X:Cx}
theorem pv(i:Nat){x:Str}{pos:Pos}(hN:X.N[i]?=some x:=by rfl)(hv:MI X.env.scope x:=by first|exact Or.inl rfl|exact Or.inr (Or.inl rfl)|exact Or.inr (Or.inr rfl))(hd:(x==("__debug__":Str))=false:=by decide)
  (hcd:(x==("__classdict__":Str))=false:=by decide):PE X (.Name x pos) (aq i):=KW hN hv hd hcd
end
theorem iU{A B:Prop}(h:B):if false=true then A else B:=by
 rw[if_neg Bool.false_ne_true]
 exact h
theorem pJ{A B:Prop}(h:A):if true=true then A else B:=by
 rw[if_pos rfl]
 exact h
theorem JO{c A B:Prop}[Decidable c](hc:c)(h:B):if(!decide c)=true then A else B:=by
 rw[decide_eq_true hc]
 exact iU h
def aS(H H':Hp):Prop:=∀b o,H b=some o->H' b=some o
theorem aS.refl(H:Hp):aS H H:=λ_ _ h=>h
theorem aS.trans{H H1 H2:Hp}(a:aS H H1)(b:aS H1 H2):aS H H2:=λc o h=>b c o (a c o h)
theorem aS.free{H H':Hp}(e:aS H H'){l:Addr}(h:H' l=Option.none):H l=Option.none:=by
 cases q:H l with
 |none=>rfl
 |some o=>
  rw[e l o q] at h
  cases h
section
variable{κ:Type}[DecidableEq κ]
def kZ(kvs:List (κ×V))(k:κ):Option V:=(kvs.find? λkv=>decide (kv.1=k)).map (·.2)
def lR(kvs:List (κ×V))(k:κ)(v:V):List (κ×V):=
 if(kvs.any λkv=>decide (kv.1=k))=true then kvs.map (λkv=>if kv.1=k then(kv.1,v) else kv) else kvs++[(k,v)]
theorem G5{k:κ}:kZ ([]:List (κ×V)) k=none:=rfl
theorem vw{p:κ×V}{r:List (κ×V)}{k:κ}(e:p.1=k):kZ (p::r) k=some p.2:=by simp[kZ,fq,e]
theorem vv{p:κ×V}{r:List (κ×V)}{k:κ}(e:¬p.1=k):kZ (p::r) k=kZ r k:=by simp[kZ,fq,e]
theorem vt(k:κ):∀kvs:List (κ×V),(kvs.any λkv=>decide (kv.1=k))=(kZ kvs k).isSome
 |[]=>rfl
 |p::r=>by
  rw[jB]
  by_cases e:p.1=k
  ·simp only[vw e,decide_eq_true e,Bool.true_or,Option.isSome_some]
  ·rw[vv e,decide_eq_false e,Bool.false_or];exact vt k r
theorem nV(kvs:List (κ×V))(k:κ)(v:V):(lR kvs k v).length<=kvs.length+1:=by
 unfold lR
 split
 ·rw[ao];lia
 ·rw[aG,cA,jP];lia
theorem zv{kvs:List (κ×V)}{k:κ}(v:V)(h:kZ kvs k=none):lR kvs k v=kvs++[(k,v)]:=by
 unfold lR
 rw[vt,h]
 exact if_neg (by decide)
theorem pG.isSome_eq{o:Option V}{u:Option Value}(r:pG o u):o.isSome=u.isSome:=by
 cases o with
 |none=>cases u with
  |none=>rfl
  |some _=>exact(show False from r).elim
 |some _=>cases u with
  |none=>exact(show False from r).elim
  |some _=>rfl
theorem KV.val{kvs:List (κ×V)}{vs:List (κ×Value)}(r:KV kvs vs)(k:κ):pG (kZ kvs k) (valueAt vs k):=by
 unfold KV at r
 induction r with
 |nil=>exact True.intro
 |@cons p q ps qs h t ih=>
  obtain⟨h1,h2⟩:=h
  by_cases e:p.1=k
  ·have e':q.1=k:=h1.symm.trans e
   have b:valueAt (q::qs) k=some q.2:=by simp[valueAt,fq,e']
   rw[vw e,b];exact h2
  ·have e':¬q.1=k:=λz=>e (h1.trans z)
   have b:valueAt (q::qs) k=valueAt qs k:=by simp[valueAt,fq,e']
   rw[vv e,b];exact ih
theorem KV.any{kvs:List (κ×V)}{vs:List (κ×Value)}(r:KV kvs vs)(k:κ):(kvs.any λkv=>decide (kv.1=k))=vs.any λkv=>decide (kv.1=k):=by
 unfold KV at r
 induction r with
 |nil=>rfl
 |cons h t ih=>rw[jB,jB,ih,h.1]
theorem KV.repl{kvs:List (κ×V)}{vs:List (κ×Value)}(r:KV kvs vs)(k:κ){y:V}{u:Value}(ry:de y u) :
  KV (kvs.map λkv=>if kv.1=k then(kv.1,y) else kv) (vs.map λkv=>if kv.1=k then(kv.1,u) else kv):=by
 unfold KV at r ⊢
 induction r with
 |nil=>exact .nil
 |@cons p q ps qs h t ih=>
  rw[ba,ba]
  refine .cons ?_ ih
  obtain⟨h1,h2⟩:=h
  by_cases e:p.1=k
  ·rw[if_pos e,if_pos (h1.symm.trans e)];exact⟨h1,ry⟩
  ·rw[if_neg e,if_neg (λz=>e (h1.trans z))];exact⟨h1,h2⟩
theorem KV.put{kvs:List (κ×V)}{vs:List (κ×Value)}(r:KV kvs vs)(k:κ){y:V}{u:Value}(ry:de y u):KV (lR kvs k y) (stored vs k u):=by
 unfold lR stored
 rw[r.any k]
 by_cases e:(vs.any λkv=>decide (kv.1=k))=true
 ·rw[if_pos e,if_pos e];exact r.repl k ry
 ·rw[if_neg e,if_neg e];exact Paired.snoc r ⟨rfl,ry⟩
theorem KV.keys{kvs:List (κ×V)}{vs:List (κ×Value)}(r:KV kvs vs):kvs.map (·.1)=vs.map (·.1):=by
 unfold KV at r
 induction r with
 |nil=>rfl
 |cons h t ih=>rw[ba,ba,ih,h.1]
theorem KV.length{kvs:List (κ×V)}{vs:List (κ×Value)}(r:KV kvs vs):kvs.length=vs.length:=Paired.length r
end
theorem yY{P:Program}{w:World}{k:gC}{u:Value}(r:de (kV k) u):(eW P w).is k u=true:=by
 cases k with
 |inl i=>obtain⟨t,e⟩:=(show ∃t,u=Value.int i t from r);subst e;exact zi P w i t
 |inr x=>obtain⟨t,e⟩:=(show ∃t,u=Value.str x t from r);subst e;exact zj P w x t
theorem wx{P:Program}{w:World}:∀{ks:List gC} {us:List Value},cO (ks.map kV) us->ItemsAre (eW P w) ks us
 |[],_,r=>by rw[bO] at r;cases r;exact .nil
 |k::ks,_,r=>by
  rw[ba] at r
  cases r with
  |cons h t=>exact .cons (yY h) (wx t)
abbrev KT(H:Hp):List (List gC×V)->List (List gC×Addr×Value)->Prop:=Paired λp q=>p.1=q.1/\H q.2.1=some (.tup (p.1.map kV))/\de p.2 q.2.2
theorem KT.val{H:Hp}{kvs:List (List gC×V)}{xs:List (List gC×Addr×Value)}(r:KT H kvs xs)(k:List gC):pG (kZ kvs k) ((atKey xs k).map (·.2)):=by
 induction r with
 |nil=>exact True.intro
 |@cons p q ps qs h t ih=>
  obtain⟨h1,_,h2⟩:=h
  by_cases e:p.1=k
  ·have e':q.1=k:=h1.symm.trans e
   have b:atKey (q::qs) k=some q.2:=by simp[atKey,fq,e']
   rw[vw e,b];exact h2
  ·have e':¬q.1=k:=λz=>e (h1.trans z)
   have b:atKey (q::qs) k=atKey qs k:=by simp[atKey,fq,e']
   rw[vv e,b];exact ih
theorem KT.repl{H:Hp}{kvs:List (List gC×V)}{xs:List (List gC×Addr×Value)}(r:KT H kvs xs)(k:List gC){y:V}{u:Value}(ry:de y u) :
  KT H (kvs.map λkv=>if kv.1=k then(kv.1,y) else kv) (xs.map (putAt k u)):=by
 induction r with
 |nil=>exact .nil
 |@cons p q ps qs h t ih=>
  rw[ba,ba]
  refine .cons ?_ ih
  obtain⟨h1,h2,h3⟩:=h
  unfold putAt
  by_cases e:p.1=k
  ·rw[if_pos e,if_pos (h1.symm.trans e)];exact⟨h1,h2,ry⟩
  ·rw[if_neg e,if_neg (λz=>e (h1.trans z))];exact⟨h1,h2,h3⟩
theorem KT.put{H:Hp}{kvs:List (List gC×V)}{xs:List (List gC×Addr×Value)}(r:KT H kvs xs)(k:List gC){b:Addr}{y:V}{u:Value}(hb:H b=some (.tup (k.map kV)))(ry:de y u) :
  KT H (lR kvs k y) (storedH xs k b u):=by
 have e:(kvs.any λkv=>decide (kv.1=k))=(atKey xs k).isSome:=by
  rw[vt,(r.val k).isSome_eq,lp]
 unfold lR storedH
 rw[e]
 by_cases q:(atKey xs k).isSome=true
 ·rw[if_pos q,if_pos q];exact r.repl k ry
 ·rw[if_neg q,if_neg q];exact Paired.snoc r ⟨rfl,hb,ry⟩
theorem KT.keeps{H H':Hp}{kvs:List (List gC×V)}{xs:List (List gC×Addr×Value)}(r:KT H kvs xs)(ht:∀b ys,H b=some (.tup ys)->H' b=some (.tup ys)):KT H' kvs xs:=
 Paired.mapP r λ_ _ z=>⟨z.1,ht _ _ z.2.1,z.2.2⟩
section
variable{P:Program}{w:World}{H:Hp}{h:Heap}{a:Addr}
theorem JZ{u:HO}(ok:nK P w H h)(e:Rd H a u):eB P w H h a u:=e.ok ok
theorem Ck{kvs:List (gC×V)}(ok:nK P w H h)(e:Rd H a (.dK kvs)):kvs.length<=sizeLine/\(a==sysModules)=false/\∃vs,KV kvs vs/\h.DictOf (eW P w) a vs:=
 show eB P w H h a (.dK kvs) from JZ ok e
theorem uA{kvs:List (gC×V)}(ok:nK P w H h)(e:H a=some (.dK kvs)):kvs.length<=sizeLine/\(a==sysModules)=false/\∃vs,KV kvs vs/\h.DictOf (eW P w) a vs:=Ck ok (.inl e)
theorem ya{ks:List gC}(ok:nK P w H h)(e:H a=some (.tup (ks.map kV))):(tupleKind (eW P w)).is h ks a:=by
 obtain⟨_,its,r,o,h1,h2,n,h3⟩:=(show eB P w H h a (.tup (ks.map kV)) from ok a _ e)
 exact⟨o,its.toArray,n,h1,h2.1,h3,by simpa using wx r⟩
theorem E5{kvs:List (List gC×V)}(ok:nK P w H h)(e:Rd H a (.dT kvs)):kvs.length<=sizeLine/\(a==sysModules)=false/\
  ∃xs,KT H kvs xs/\h.DictOfH (tupleKind (eW P w)) a xs:=by
 obtain⟨z,y,xs,r,o,es,ep,h1,h2,h3,h4,h5⟩:=(show eB P w H h a (.dT kvs) from JZ ok e)
 refine⟨z,y,xs,r,o,es,ep,h1,h2,h3,h4,λx hx=>?_,h5⟩
 have all:∀{l:List (List gC×V)} {m:List (List gC×Addr×Value)},KT H l m->∀x∈m,(tupleKind (eW P w)).is h x.1 x.2.1:=by
  intro l m q
  induction q with
  |nil=>intro x hx;exact nomatch hx
  |@cons p q ps qs hq t ih=>
   intro x hx
   rcases aU.mp hx with e|hx
   ·subst e
    exact ya ok (by rw[<-hq.1];exact hq.2.1)
   ·exact ih x hx
 exact all r x hx
theorem LZ{kvs:List (List gC×V)}(ok:nK P w H h)(e:H a=some (.dT kvs)):kvs.length<=sizeLine/\(a==sysModules)=false/\
  ∃xs,KT H kvs xs/\h.DictOfH (tupleKind (eW P w)) a xs:=E5 ok (.inl e)
end
def yI(H:Hp)(a:Addr)(y:V)(r:Option V):Prop:=
 (∃kvs k,Rd H a (.dK kvs)/\y=kV k/\r=kZ kvs k)\/∃kvs k b,Rd H a (.dT kvs)/\y=.ref b/\H b=some (.tup (k.map kV))/\r=kZ kvs k
def AB(H:Hp)(a:Addr)(y v:V)(H':Hp):Prop:=
 (∃kvs k,H a=some (.dK kvs)/\y=kV k/\kvs.length<sizeLine/\H'=upd H a (.dK (lR kvs k v)))\/
 ∃kvs k b,H a=some (.dT kvs)/\y=.ref b/\H b=some (.tup (k.map kV))/\kvs.length<sizeLine/\H'=upd H a (.dT (lR kvs k v))
theorem yI.k{H:Hp}{a:Addr}{kvs:List (gC×V)}{k:gC}(e:H a=some (.dK kvs)):yI H a (kV k) (kZ kvs k):=.inl ⟨kvs,k,.inl e,rfl,rfl⟩
theorem AB.k{H:Hp}{a:Addr}{kvs:List (gC×V)}{k:gC}{v:V}(e:H a=some (.dK kvs))(hl:kvs.length<sizeLine):AB H a (kV k) v (upd H a (.dK (lR kvs k v))):=.inl ⟨kvs,k,e,rfl,hl,rfl⟩
section
variable{X:Cx}{pins:List (Addr×Obj)}{σ:St}{H:Hp}{s:Shared}{a:Addr}{y v:V}{u r:Value}{o:Option V}{A:Around}{E:Value->Shared->Prop}
theorem bP.big(I:bP X pins σ H s):sysModules<s.heap.objs.size:=by
 have h:mainGlobals<s.heap.objs.size:=(I.mod.glob.keeps I.bk).lt
 exact pS (by decide) h
theorem MW{Q:Value->Shared->Prop}(hu:A.units+1<cLine)(I:bP X pins σ H s)(g:yI H a y o)(ry:de y u)(h:∀s',bP X pins σ H s'->Q (.bool o.isSome) s') :
  wpAny (model X.prog X.w) A (compareOp .In u (.ref a)) Q E s:=by
 rcases g with⟨kvs,k,e,ey,l⟩|⟨kvs,k,b,e,ey,eb,l⟩
 ·subst ey
  obtain⟨z,hd,vs,rel,dd⟩:=Ck I.hok e
  refine wpAny_in_of (yY ry) hd dd.mapOf ?_
  rw[<-(rel.val k).isSome_eq,<-l]
  exact h _ (I.tok _)
 ·subst ey
  cases(show u=Value.ref b from ry)
  obtain⟨z,hd,xs,rel,dd⟩:=E5 I.hok e
  refine wpAny_in_heap (tupleKind_room_in1 hu) (ya I.hok eb) hd dd ?_
  have q:=(rel.val k).isSome_eq
  rw[lp] at q
  rw[<-q,<-l]
  exact h _ (I.tok _)
theorem HB{Q:Value->Shared->Prop}(hu:A.units+1<cLine)(I:bP X pins σ H s)(g:yI H a y o)(ry:de y u)(h:∀s',bP X pins σ H s'->Q (.bool (!o.isSome)) s') :
  wpAny (model X.prog X.w) A (compareOp .NotIn u (.ref a)) Q E s:=by
 rcases g with⟨kvs,k,e,ey,l⟩|⟨kvs,k,b,e,ey,eb,l⟩
 ·subst ey
  obtain⟨z,hd,vs,rel,dd⟩:=Ck I.hok e
  refine wpAny_notIn_of (yY ry) hd dd.mapOf ?_
  rw[<-(rel.val k).isSome_eq,<-l]
  exact h _ (I.tok _)
 ·subst ey
  cases(show u=Value.ref b from ry)
  obtain⟨z,hd,xs,rel,dd⟩:=E5 I.hok e
  refine wpAny_notIn_heap (tupleKind_room_in1 hu) (ya I.hok eb) hd dd ?_
  have q:=(rel.val k).isSome_eq
  rw[lp] at q
  rw[<-q,<-l]
  exact h _ (I.tok _)
theorem xU{h':Heap}{t':Nat}{ob:HO}(I:bP X pins σ H s)(mu:LO (H a))(hs:Heap.SameBut a s.heap h')(he:∃q,h'.get? a=some q)(new:eB X.prog X.w (upd H a ob) h' a ob) :
  bP X pins σ (upd H a ob) {s with heap:=h',toks:=t'}:=
 I.write (x:=a) (e:=a) mu (.inl rfl) (λb q hb z=>(hs.2 b hb).trans z) he new
theorem E4{P:Program}{w:World}{H':Hp}{h':Heap}{kvs:List (gC×V)}{vs:List (gC×Value)}(z:kvs.length<=sizeLine)(hd:(a==sysModules)=false)(rel:KV kvs vs)(dd:h'.DictOf (eW P w) a vs) :
  eB P w H' h' a (.dK kvs):=⟨z,hd,vs,rel,dd⟩
theorem Dn{H':Hp}{Q:Unit->Shared->Prop}(hu:A.units+1<cLine)(I:bP X pins σ H s)(g:AB H a y v H')(ry:de y u)(rv:de v r)(h:∀s',bP X pins σ H' s'->Q () s') :
  wpAny (model X.prog X.w) A (setItem (.ref a) u r) Q E s:=by
 rcases g with⟨kvs,k,e,ey,l,eH⟩|⟨kvs,k,b,e,ey,eb,l,eH⟩
 ·subst ey eH
  obtain⟨z,hd,vs,rel,dd⟩:=uA I.hok e
  have hz:vs.length<=sizeLine:=by rw[<-rel.length];exact z
  have hl:(lR kvs k v).length<=sizeLine:=by have:=nV kvs k v;lia
  refine wpAny_setItem_pairs (hsz:=hz) (yY ry) dd λh' dd' hs=>h _ ?_
  have he:∃q,h'.get? a=some q:=let⟨q,_,_,hq,_⟩:=dd';⟨q,hq⟩
  exact xU I (by rw[e];exact True.intro) hs he (E4 hl hd (rel.put k rv) dd')
 ·subst ey eH
  cases(show u=Value.ref b from ry)
  obtain⟨z,hd,xs,rel,dd⟩:=LZ I.hok e
  have hz:xs.length<=sizeLine:=by rw[<-Paired.length rel];exact z
  have hl:(lR kvs k v).length<=sizeLine:=by have:=nV kvs k v;lia
  refine wpAny_setItem_heap (hsz:=hz) (tupleKind_room_in1 hu) (ya I.hok eb) dd λh' dd' hs=>h _ ?_
  obtain⟨q,es,ep,hq,h2,h3,h4,_,h5⟩:=dd'
  refine xU I (by rw[e];exact True.intro) hs ⟨q,hq⟩ ⟨hl,hd,_,(rel.put k eb rv).keeps λc ys ec=>?_,q,es,ep,hq,h2,h3,h4,h5⟩
  rw[aA (JS ec e (λz=>nomatch z))]
  exact ec
end
section
variable{X:Cx}{pins:List (Addr×Obj)}{σ:St}{H:Hp}{s:Shared}{a:Addr}{kvs:List (gC×V)}{k:gC}{u:Value}{A:Around}{E:Value->Shared->Prop}
end
section
variable{X:Cx}{o i e value:Expr}{pos pos' tpos:Pos}{td ty tv:TE}
end
theorem yU{P:Program}{w:World}{H:Hp}(h:Heap)(hb:sysModules<h.objs.size):eB P w H (h.push {cls:=.type "dict",data:=.dict #[]}) h.objs.size (.dK []):=
 ⟨dh _,beq_eq_false_iff_ne.mpr (Ne.symm (bh hb)),[],.nil,Heap.DictOf.new h⟩
def yz:TE:=λ_ H Q=>∀p,H p=none->Q (.ref p) (upd H p (.dK []))
section
variable{X:Cx}{pos:Pos}
theorem FT:PE X (.Dict [] [] pos) yz:=λpins s σ H Q I h=>
 wpAny_Dict_empty ⟨.ref s.heap.objs.size,_,I.laid (a:=s.heap.objs.size) (o:=.dK []) (t':=s.toks) (λ_ _ q=>az _ q) (aC _) (yU s.heap I.big),rfl,h _ (I.hok.fresh (aC _))⟩
end
def BF:List (TE×TE)->St->Hp->(List (V×V)->Hp->Prop)->Prop
 |[],_,H,Q=>Q [] H
 |(tk,tv)::r,σ,H,Q=>tk σ H λx H1=>tv σ H1 λy H2=>BF r σ H2 λps H3=>Q ((x,y)::ps) H3
abbrev VV:List (V×V)->List (Value×Value)->Prop:=Paired λp q=>de p.1 q.1/\de p.2 q.2
def LQ(X:Cx)(pos:Pos)(keys:List (Option Expr))(values:List Expr)(trs:List (TE×TE)):Prop:=
 ∀(pins:List (Addr×Obj)) (s:Shared) (σ:St) (H:Hp) (Q:List (V×V)->Hp->Prop),bP X pins σ H s->BF trs σ H Q->
  wpAny (model X.prog X.w) X.A (evalPairs (pairTrees keys values X.env pos)) (λvs s'=>∃ps H',bP X pins σ H' s'/\VV ps vs/\Q ps H') X.xe s
theorem IQ{X:Cx}{pos:Pos}:LQ X pos [] [] []:=λpins s σ H Q I h=>pairTrees_nil_walk ⟨[],H,I,.nil,h⟩
theorem Ga{X:Cx}{pos:Pos}{k v:Expr}{ks:List (Option Expr)}{vs:List Expr}{tk tv:TE}{trs:List (TE×TE)}(hk:PE X k tk)(hv:PE X v tv)(hr:LQ X pos ks vs trs) :
  LQ X pos (some k::ks) (v::vs) ((tk,tv)::trs):=λpins s σ H Q I h=>
 pairTrees_cons_walk (gg (hk pins s σ H _ I h) λu s1 ⟨x,H1,I1,rx,q1⟩=>gg (hv pins s1 σ H1 _ I1 q1) λw2 s2 ⟨y,H2,I2,ry,q2⟩=>
  gg (hr pins s2 σ H2 _ I2 q2) λws s3 ⟨ps,H3,I3,rel,q3⟩=>⟨(x,y)::ps,H3,I3,.cons ⟨rx,ry⟩ rel,q3⟩)
def nY(kvs more:List (gC×V)):List (gC×V):=more.foldl (λacc kv=>lR acc kv.1 kv.2) kvs
theorem KV.merge:∀{more:List (gC×V)} {rs:List (gC×Value)} {kvs:List (gC×V)} {vs:List (gC×Value)},KV more rs->KV kvs vs->KV (nY kvs more) (merged vs rs):=by
 intro more rs kvs vs r
 unfold KV at r
 induction r generalizing kvs vs with
 |nil=>intro q;exact q
 |@cons p q ps qs h t ih=>
  intro r0
  have e:KV (lR kvs p.1 p.2) (stored vs q.1 q.2):=by
   have:=r0.put p.1 h.2
   rw[<-h.1];exact this
  exact ih e
theorem oW:∀(more kvs:List (gC×V)),(nY kvs more).length<=kvs.length+more.length
 |[],kvs=>by show kvs.length<=kvs.length+0;lia
 |p::r,kvs=>by
  have h1:=oW r (lR kvs p.1 p.2)
  have h2:=nV kvs p.1 p.2
  show(nY (lR kvs p.1 p.2) r).length<=_
  rw[cA];lia
theorem uu{P:Program}{w:World}:∀{kvs:List (gC×V)} {ws:List (Value×Value)},VV (kvs.map λkv=>(kV kv.1,kv.2)) ws->∃rs,Carries (eW P w) ws rs/\KV kvs rs
 |[],_,r=>by rw[bO] at r;cases r;exact⟨[],True.intro,.nil⟩
 |p::kvs,_,r=>by
  rw[ba] at r
  cases r with
  |@cons a b as bs h t=>
   obtain⟨rs,c,q⟩:=uu (P:=P) (w:=w) t
   obtain⟨b1,b2⟩:=b
   exact⟨(p.1,b2)::rs,⟨yY h.1,rfl,c⟩,.cons ⟨rfl,h.2⟩ q⟩
def GG(trs:List (TE×TE)):TE:=λσ H Q=>∀p,H p=none->BF trs σ (upd H p (.dK [])) λps H2=>H2 p=some (.dK [])/\∃kvs:List (gC×V),ps=kvs.map (λkv=>(kV kv.1,kv.2))/\kvs.length<=15/\Q (.ref p) (upd H2 p (.dK (nY [] kvs)))
theorem IB{X:Cx}{pos:Pos}{keys:List (Option Expr)}{values:List Expr}{trs:List (TE×TE)}(h:LQ X pos keys values trs)(hall:keys.all (·.isSome)=true)(hl:keys.length=values.length)(h0:keys≠[])
  (h15:keys.length<=15):PE X (.Dict keys values pos) (GG trs):=by
 intro pins s σ H Q I q
 have hn:=I.hok.fresh (aC s.heap.objs.size)
 have I1:=I.laid (a:=s.heap.objs.size) (o:=.dK []) (h':=s.heap.push {cls:=.type "dict",data:=.dict #[]}) (t':=s.toks) (λ_ _ q=>az _ q) (aC _) (yU s.heap I.big)
 refine wpAny_Dict_walk (knd:=eW X.prog X.w) hall hl h0 h15 (gg (h pins _ σ _ _ I1 (q _ hn)) λws s2 ⟨ps,H2,I2,rel,e,kvs,ep,lk,q2⟩=>?_)
 subst ep
 obtain⟨rs,c,rk⟩:=uu (P:=X.prog) (w:=X.w) rel
 obtain⟨z,hd,vs0,r0,dd⟩:=uA I2.hok e
 cases r0
 refine⟨rs,c,dd,λh' dd' hs=>⟨.ref s.heap.objs.size,_,?_,rfl,q2⟩⟩
 have hz:(nY [] kvs).length<=sizeLine:=by
  have h1:=oW kvs []
  rw[jP] at h1
  rw[sizeLine_eq];lia
 have he:∃q,h'.get? s.heap.objs.size=some q:=let⟨q,_,_,hq,_⟩:=dd';⟨q,hq⟩
 exact xU I2 (by rw[e];exact True.intro) hs he (E4 hz hd (rk.merge .nil) dd')
section
variable{X:Cx}{pins:List (Addr×Obj)}{σ:St}{H:Hp}{s:Shared}{a:Addr}{y d:V}{u r:Value}{o:Option V}{A:Around}{E:Value->Shared->Prop}
end
section
variable{X:Cx}{o e f:Expr}{apos cpos:Pos}{td ty tx:TE}
end
section
variable{X:Cx}{pins:List (Addr×Obj)}{σ:St}{H:Hp}{s:Shared}{a:Addr}{kvs:List (gC×V)}{A:Around}{E:Value->Shared->Prop}
end
section
variable{X:Cx}{pins:List (Addr×Obj)}{σ:St}{H:Hp}{s:Shared}{a:Addr}{y:V}{u:Value}{A:Around}{E:Value->Shared->Prop}
end
section
variable{X:Cx}
end
section
variable{κ:Type}[DecidableEq κ]
theorem qk:∀{l:List κ} {k:κ},l.Nodup->¬k∈l->(l++[k]).Nodup
 |[],k,_,_=>by simp
 |a::r,k,h,hk=>by
  obtain⟨h1,h2⟩:=eM.mp h
  show(a::(r++[k])).Nodup
  refine eM.mpr ⟨λm=>?_,qk h2 λm=>hk (aU.mpr (Or.inr m))⟩
  rcases aY.mp m with q|q
  ·exact h1 q
  ·exact hk (aU.mpr (Or.inl (ak.mp q).symm))
end
structure J4(fs:List Addr)(e T:Addr)(fl:Value)(T':Addr)(h h':Heap):Prop where
 keep:∀b o,h.get? b=some o->b≠e->b≠T->b∉fs->h'.get? b=some o
 slot:∀b o,h.get? b=some o->b≠e->b≠T->∃sl,h'.get? b=some {o with slots:=sl}
 exc:∀o,h.get? e=some o->h'.get? e=some (Obj.mapFields (·.setIfInBounds 1 (.ref T')) o)
 old:T≠e->∀o,h.get? T=some o->∃o' us,h'.get? T=some o'/\o'.data=.fields us/\us[3]?=some .none
 new:h.objs.size<=T'
 tb:∃oT ts,h'.get? T'=some oT/\oT.data=.fields ts/\ts[3]?=some fl
section
variable{M:Model}{A:Around}{E:Value->Shared->Prop}{s:Shared}{base:Heap}{env:Env}{outer:List Env}{L e T:Addr}{oe:Obj}{vs:Array Value}
theorem Au{head:Value}{hn:Bool}{Q:Unit->Shared->Prop}(hfr:A.frames=some (env::outer))(hl:s.heap.FunFrames base (env::outer))(hf:env.frame=some L)
  (he:s.heap.get? e=some oe) (hd:oe.data=.fields vs) (hz:1<vs.size) (h:∀h' T',J4 (yG (env::outer)) e e (rawInt L) T' s.heap h'->Q () {s with heap:=h'}) :
  wpAny M A (frameOf env >>= λa=>entryPlaceOf L hn >>= λpl=>EntryCells.newEntry head a .none (rawInt L) .none pl >>= λb=>setField (.ref e) 1 b) Q E s:=by
 have nf:e∉yG (env::outer):=λz=>by
  obtain⟨_,o,q,k⟩:=hl.mem z
  rw[he] at q;cases q;exact k vs hd
 refine wpAny_bind (wpAny_frameOf_fun hfr hl hf λh1 s1=>wpAny_bind (wpAny_entryPlaceOf λpl ip=>?_))
 unfold EntryCells.newEntry newFields
 refine wpAny_bind (wpAny_newObj_type ?_ (ip.sizeOk5 _ _ _ _ _))
 have e1:h1.get? e=some oe:=(s1.2.1 e nf).trans he
 refine wpAny_setField (az _ e1) hd hz (h _ h1.objs.size ?_)
 have te:h1.objs.size≠e:=iY (aJ e1)
 have dd:=Obj.data_mapFields hd (·.setIfInBounds 1 (Value.ref h1.objs.size))
 have kk:∀(on:Obj) b o,b≠e->h1.get? b=some o->((h1.push on).update e (Obj.mapFields (·.setIfInBounds 1 (Value.ref h1.objs.size)))).get? b=some o:=λon b o n q=>by
  rw[bY _ _ (Ne.symm n)];exact az _ q
 refine⟨λb o q n _ nb=>kk _ b o n ((s1.2.1 b nb).trans q),λb o q n _=>?_,λo q=>?_,λn=>absurd rfl n,pR s1.1.symm,?_⟩
 ·obtain⟨sl,z⟩:=s1.2.2 b o q
  exact⟨sl,kk _ b _ n z⟩
 ·rw[he] at q;cases q
  exact cX _ (az _ e1) (Obj.isFreed_of_fields dd)
 ·refine⟨_,_,(bY _ _ (Ne.symm te)).trans (aW h1 rfl),rfl,?_⟩
  rcases ip with rfl|⟨_,_,_,_,_,_,_,rfl⟩<;>simp
theorem Bk{Q:Unit->Shared->Prop}(hfr:A.frames=some (env::outer))(hl:s.heap.FunFrames base (env::outer))(hf:env.frame=some L)
  (he:s.heap.get? e=some oe) (hd:oe.data=.fields vs) (h1:vs[1]?=some .none) (h:∀h' T',J4 (yG (env::outer)) e e (rawInt L) T' s.heap h'->Q () {s with heap:=h'}) :
  wpAny M A (noteFrame (.ref e) env) Q E s:=by
 unfold noteFrame
 simp only[hf]
 refine wpAny_bind (wpAny_field he hd h1 ?_)
 rw[if_neg (by decide)]
 exact Au hfr hl hf he hd (bI.mp h1).1 h
theorem DT{oT:Obj}{ts:Array Value}{Q:Unit->Shared->Prop}(hfr:A.frames=some (env::outer))(hl:s.heap.FunFrames base (env::outer))(hf:env.frame=some L)
  (he:s.heap.get? e=some oe) (hd:oe.data=.fields vs) (h1:vs[1]?=some (.ref T)) (hT:s.heap.get? T=some oT) (hdT:oT.data=.fields ts) (h3:ts[3]?=some .none) (hne:T≠e)
  (h:∀h' T',J4 (yG (env::outer)) e T (rawInt L) T' s.heap h'->Q () {s with heap:=h'}):wpAny M A (noteFrame (.ref e) env) Q E s:=by
 unfold noteFrame
 simp only[hf]
 refine wpAny_bind (wpAny_field he hd h1 ?_)
 rw[if_pos (show(Value.ref T != Value.none)=true from by simp)]
 refine wpAny_bind (wpAny_field hT hdT h3 ?_)
 rw[if_neg (show ¬((Value.none==rawInt L)=true) from by simp[rawInt])]
 refine wpAny_bind (wpAny_setField hT hdT (bI.mp h3).1 ?_)
 have ot:∀b,b≠T->(s.heap.update T (Obj.mapFields (·.setIfInBounds 3 Value.none))).get? b=s.heap.get? b:=λb n=>bY _ _ (Ne.symm n)
 have nT:∀b o,s.heap.get? b=some o->(∀ws,o.data≠.fields ws)->b≠T:=λb o q k z=>by
  rw[z,hT] at q;cases q;exact k ts hdT
 have dT:=Obj.data_mapFields hdT (·.setIfInBounds 3 Value.none)
 have gT:=cX (Obj.mapFields (·.setIfInBounds 3 Value.none)) hT (Obj.isFreed_of_fields dT)
 refine Au (s:={s with heap:=s.heap.update T (Obj.mapFields (·.setIfInBounds 3 Value.none))}) hfr (hl.of_keeps λb o q k=>⟨o,(ot b (nT b o q k)).trans q,rfl⟩) hf ((ot e (Ne.symm hne)).trans he) hd
  (bI.mp h1).1 λh' T' x=>h h' T' ⟨λb o q n m nb=>?_,λb o q n m=>?_,λo q=>?_,λ_ o q=>?_,?_,x.tb⟩
 ·exact x.keep b o ((ot b m).trans q) n n nb
 ·exact x.slot b o ((ot b m).trans q) n n
 ·exact x.exc o ((ot e (Ne.symm hne)).trans q)
 ·obtain⟨sl,z⟩:=x.slot T _ gT hne hne
  exact⟨_,_,z,dT,by simp[(bI.mp h3).1]⟩
 ·have:=x.new
  rwa [show(s.heap.update T (Obj.mapFields (·.setIfInBounds 3 Value.none))).objs.size=s.heap.objs.size from Heap.size_after_update ..] at this
theorem xX{oT:Obj}{ts:Array Value}{Q:Unit->Shared->Prop}(he:s.heap.get? e=some oe)(hd:oe.data=.fields vs)(h1:vs[1]?=some (.ref T))(hT:s.heap.get? T=some oT)(hdT:oT.data=.fields ts)(h3:3<ts.size)
  (h:∀h',(∀b,b≠T->h'.get? b=s.heap.get? b)->h'.objs.size=s.heap.objs.size->(∃o us,h'.get? T=some o/\o.data=.fields us/\us[3]?=some .none)->Q () {s with heap:=h'}):wpAny M A (setFlight (.ref e) none) Q E s:=by
 refine wpAny_setFlight_none he hd h1 hT hdT h3 (h _ (λb n=>bY _ _ (Ne.symm n)) (Heap.size_after_update ..) ?_)
 have dT:=Obj.data_mapFields hdT (·.setIfInBounds 3 Value.none)
 exact⟨_,_,cX _ hT (Obj.isFreed_of_fields dT),dT,by simp[h3]⟩
theorem J4.land{fs:List Addr}{fl:Value}{T':Addr}{h h1 h2:Heap}(x:J4 fs e T fl T' h h1)(hT:∃o,h.get? T=some o)(he:∃o,h.get? e=some o)(k:∀b,b≠T'->h2.get? b=h1.get? b)(t:∃o us,h2.get? T'=some o/\o.data=.fields us/\us[3]?=some .none):J4 fs e T .none T' h h2:=by
 have lt:∀b o,h.get? b=some o->b≠T':=λb o q z=>by
  have:=aJ q
  have:=x.new
  rw[z] at *
  exact absurd (aV ‹T'<_› ‹_›) (cI _)
 refine⟨λb o q n m f=>(k b (lt b o q)).trans (x.keep b o q n m f),λb o q n m=>?_,λo q=>(k e (lt e o q)).trans (x.exc o q),λn o q=>?_,x.new,t⟩
 ·obtain⟨sl,z⟩:=x.slot b o q n m
  exact⟨sl,(k b (lt b o q)).trans z⟩
 ·obtain⟨o',us,z,y⟩:=x.old n o q
  exact⟨o',us,(k T (lt T o q)).trans z,y⟩
end
open Builtin Builtin.ObjectAttr
abbrev AL:List Value:=[.type "ValueError",.type "Exception",.type "BaseException",.type "object"]
section
variable{prog:Program}{w:World}{A:Around}{E:Value->Shared->Prop}{h:Heap}{g:Array GenState}{d:Drawn}{t:Nat}{os:OsState}
variable{nm q:Str}{C N B:Addr}{bs:List Value}{hdct:Bool}{sn:List Str}{sub:List Value}{ab:Bool}{col:Option Bool}{dd:Option Addr}{k0 k1 k2 k3 k5:Option Value}
abbrev EA(nm q:Str)(C N B:Addr)(bs:List Value)(hdct:Bool)(sn:List Str)(sub:List Value)(ab:Bool)(col:Option Bool)(dd:Option Addr)(k0 k1 k2 k3 k5:Option Value):Obj:=
 excClassObj nm q C N bs (.ref B::AL) hdct sn sub ab col dd k0 k1 k2 k3 k5 "ValueError.__new__"
theorem BW(v:Value)(hv:AL.contains v=true):(Value.ref C::Value.ref B::AL).contains v=true:=by
 rw[gi,gi,hv,Bool.or_true,Bool.or_true]
theorem G6(T:String)(hv:AL.contains (.type T)=false):(Value.ref C::Value.ref B::AL).contains (.type T)=false:=by
 rw[gi,gi,hv];rfl
theorem Hb{M:Model}{rest:List Value}{Q:Unit->Shared->Prop}(hC:h.get? C=some (EA nm q C N B bs hdct sn sub ab col dd k0 k1 k2 k3 k5))(hq:Q () ⟨h,g,d,t,os⟩) :
  wpAny M A (checkBuiltinCall "ValueError.__new__" ⟨.ref C::rest,[]⟩) Q E ⟨h,g,d,t,os⟩:=by
 have F:=gN
 have c1:=BW (C:=C) (B:=B) (.type "ValueError") rfl
 have st:=F.noStar
 simp only[checkBuiltinCall,F.newKind,F.newSplit,F.newRow]
 repeat (first|refine wpAny_loadPart_at hC ?_|(refine wpAny_isSubtype_exc hC ?_;rw[c1])|refine wpAny_staticBase_exc hC ?_|refine wpAny_madeBy_exc hC ?_|simp only[bne_self_eq_false,Bool.false_eq_true,if_false]|wp_step)
 exact hq
theorem LC{R:Result->Shared->Prop}{rest:List Value}(hC:h.get? C=some (EA nm q C N B bs hdct sn sub ab col dd k0 k1 k2 k3 k5))(hz:rest.length<=sizeLine)
  (hq:R (.ok (.ret (.ref (h.objs.size+1)))) ⟨(h.push {cls:=.type "tuple",data:=.seq rest.toArray}).push {cls:=.ref C,data:=.fields #[.ref h.objs.size,.none,.none,.none,.bool false,.none]},g,d,t,os⟩) :
  codeAny (model prog w) A (.builtin "ValueError.__new__" ⟨.ref C::rest,[]⟩) R ⟨h,g,d,t,os⟩:=by
 have F:=gN
 have en:=F.ends
 have c1:=BW (C:=C) (B:=B) (.type "ValueError") rfl
 have c2:=G6 (C:=C) (B:=B) "AttributeError" rfl
 have c3:=G6 (C:=C) (B:=B) "NameError" rfl
 refine codeAny_builtinAt F.entry ?_
 unfold Builtin.«BaseException.__new__»
 refine PySem.wpAt_bind ?_
 show PySem.wpAt _ _ _ (stack >>= _) _ _ _
 refine PySem.wpAt_bind (PySem.wpAt_stack λp below=>PySem.wpAt_of_wpAny ?_)
 wp_walk
 refine PySem.wpAt_of_wpAny ?_
 rw[F.owner]
 repeat (first|with_reducible refine wpAny_madeHere_exc F.canon hC ?_|with_reducible refine wpAny_loadPart_at hC ?_|(with_reducible refine wpAny_isSubtype_exc hC ?_;first|rw[c1]|rw[c2]|rw[c3])|wp_step)
 show R _ _
 rw[dz]
 exact hq
abbrev BV(C t:Addr):Obj:={cls:=.ref C,data:=.fields #[.ref t,.none,.none,.none,.bool false,.none]}
theorem JD{rest:List Value}{fI:Addr}{oI:Obj}{Q:Value->Shared->Prop}(hC:h.get? C=some (EA nm q C N B bs hdct sn sub ab col dd k0 k1 k2 k3 k5))
  (hi:∀h',(∀b o,h.get? b=some o->h'.get? b=some o)->PySem.W.Looks (model prog w) h' (typeLookup (.ref C) "__init__") (some (.ref fI))) (hf:h.get? fI=some oI) (hfc:oI.cls=.type "function") (hz:rest.length<=sizeLine)
  (hq:wpAny (model prog w) (A.under (.builtin "type.__call__" ⟨.ref C::rest,[]⟩)) (call (.ref fI) (.ref (h.objs.size+1)::rest)) (λr s'=>r=.none/\Q (.ref (h.objs.size+1)) s') E
   ⟨(h.push {cls:=.type "tuple",data:=.seq rest.toArray}).push (BV C h.objs.size),g,d,t,os⟩) :
  wpAny (model prog w) A (call (.ref C) rest) Q E ⟨h,g,d,t,os⟩:=by
 have F:=gN
 have f1:=tc_lookup
 have f2:=tc_bind (.ref C)
 have hT:(⟨h,g,d,t,os⟩:Shared).TypeIs (.ref C) "type":=⟨_,hC,rfl⟩
 refine wpAny_call (codeAny_of_tree ?_)
 show wpAny _ _ (callAny (.ref C) _) _ _ _
 repeat (any_goals (first|assumption|with_reducible refine wpAny_loadPart_at hC ?_|wp_step))
 refine⟨rfl,?_⟩
 refine codeAny_call_builtin_at (Code.quiet_builtin _ (by decide +kernel)) entry_typeCall (wpAny_check_type_call_sub hC ?_)
 repeat (first|with_reducible refine wpAny_loadPart_at hC ?_|with_reducible refine wpAny_madeBy_exc hC ?_|wp_step)
 refine codeAny_call_builtin_code (Code.quiet_builtin _ F.quiet) (Hb hC ?_)
 refine LC hC hz ?_
 show wpAny _ _ _ _ _ _
 have kp:∀b o,h.get? b=some o->((h.push {cls:=.type "tuple",data:=.seq rest.toArray}).push (BV C h.objs.size)).get? b=some o:=λb o e=>az _ (az _ e)
 have hC1:=kp _ _ hC
 have gx:((h.push {cls:=.type "tuple",data:=.seq rest.toArray}).push (BV C h.objs.size)).get? (h.objs.size+1)=some {cls:=.ref C,data:=.fields #[.ref h.objs.size,.none,.none,.none,.bool false,.none]}:=by heap_get
 have cC:(Value.ref C::Value.ref B::AL).contains (.ref C)=true:=by simp
 unfold isInstance
 repeat (first|with_reducible refine wpAny_loadPart_at gx ?_|wp_step)
 refine wpAny_isSubtype_exc hC1 ?_
 rw[cC]
 repeat wp_step
 show wpAny _ _ (typeLookup (.ref C) _) _ _ _
 refine(hi _ kp).here ?_
 refine wpAny_holding (wpAny_bind ?_)
 unfold bindSpecial
 refine wpAny_bind (wpAny_typeOf (T:="function") ⟨_,kp _ _ hf,hfc⟩ ?_)
 rw[if_pos (by decide)]
 refine wpAny_pure (wpAny_bind (wpAny_mono hq (λr s' hr=>?_) λ_ _ x=>x))
 obtain⟨rfl,hQ⟩:=hr
 wp_walk
 exact hQ
theorem G7{M:Model}{env:Env}{s:Shared}{x:Sem Value}{Q:Flow->Shared->Prop}(hh:A.handled=none)
  (hx:wpAny M A x (λv s1=>∃(e:Addr) (od:Option Addr) (u:Addr) (sl:Array (Option Value)) (C:Addr) (nm q:Str) (N B:Addr) (bs:List Value) (hdct:Bool) (sn:List Str) (sub:List Value) (ab:Bool) (col:Option Bool) (dd:Option Addr) (k0 k1 k2 k3 k5:Option Value),v=.ref e/\s1.heap.get? C=some (EA nm q C N B bs hdct sn sub ab col dd k0 k1 k2 k3 k5)/\
   s1.heap.get? e=some ⟨.ref C,od,.fields #[.ref u,.none,.none,.none,.bool false,.none],sl⟩/\E (.ref e) s1) E s):wpAny M A (raiseStmt env (some x) none) Q E s:=by
 unfold raiseStmt
 refine wpAny_bind (wpAny_mono hx (λv s1 h1=>?_) λ_ _ x=>x)
 obtain⟨e,od,u,sl,C,nm,q,N,B,bs,hdct,sn,sub,ab,col,dd,k0,k1,k2,k3,k5,rfl,hC,he,hE⟩:=h1
 have c1:=BW (C:=C) (B:=B) (.type "BaseException") rfl
 obtain⟨hp,g,d,tk,os⟩:=s1
 repeat (first|with_reducible refine wpAny_loadPart_at he ?_|with_reducible refine wpAny_loadPart_at hC ?_|(with_reducible refine wpAny_isSubtype_exc hC ?_;rw[c1])|wp_step)
 exact wpAny_raiseNew_none hh hE
end
end L2
end
section
namespace L2
open PySem PySem.Spec PyProof.Rows PySem.W
section
variable{prog:Program}{w:World}{A:Around}{E:Value->Shared->Prop}{s:Shared}{K:Fg}{x C D:Addr}{ox od:Obj}{odo:Option Obj}{name:Str}
abbrev Kf:Value:=.builtin "BaseException.__getattribute__"
theorem EB{tk:Tok}{A:Around}{E:Value->Shared->Prop}{Q:Unit->Shared->Prop}(X:K.In s.heap)(I:InstAt s.heap x ox C odo)(hb:mroIn K C (.type "BaseException")=some true)(hq:Q () s) :
  wpAny (model prog w) A (checkBuiltinCall "BaseException.__getattribute__" ⟨[.ref x,.str name tk],[]⟩) Q E s:=by
 have L0:=I.type (M:=model prog w)
 have LI:Looks (model prog w) s.heap (isInstance (.ref x) (.type "BaseException")) true:=L0.andThen (looks_mroIn X hb)
 have hk:builtinKind "BaseException.__getattribute__"=some .slot:=by decide +kernel
 have hsplit:splitId "BaseException.__getattribute__"=some ("BaseException","__getattribute__"):=by decide +kernel
 have ha:=F.args_bexc_ga (.ref x) (.str name tk)
 simp only[checkBuiltinCall,hk,hsplit]
 refine wpAny_bind ?_
 refine LI.here ?_
 repeat (any_goals (first|assumption|wp_step))
theorem G9{tk:Tok}{fill expr:Bool}{v:Value}{s2:Shared}{Q:Value->Shared->Prop}(X:K.In s.heap)(I:InstAt s.heap x ox C odo)(ga:findIn K (.ref C) "__getattribute__"=some (some Kf))(gh:findIn K (.ref C) "__getattr__"=some none)(hb:mroIn K C (.type "BaseException")=some true)
  (hv:handedIn v=true) (h:∀A',wpAny (model prog w) A' (Builtin.«object.__getattribute__» ⟨[.ref x,.str name tk],[]⟩) (λfin s'=>fin=.done (.ret v)/\s'=s2) (λ_ _=>False) s) (q:Q v s2) :
  wpAny (model prog w) A (getAttrBy (.ref x) (.str name tk) fill expr) Q E s:=by
 have L0:=I.type (M:=model prog w)
 have L1:=looks_findIn (M:=model prog w) X ga
 have L2:=looks_findIn (M:=model prog w) X gh
 have hx2:(Kf==Value.builtin "object.__getattribute__")=false:=by decide +kernel
 unfold getAttrBy
 refine wpAny_holding (wpAny_bind (L0.here (wpAny_bind (L1.here ?_))))
 show wpAny _ _ (if(onTheHeap (.ref C)&&(Kf==Value.builtin "object.__getattribute__"))=true then _ else _) _ _ _
 rw[if_neg (by rw[hx2,Bool.and_false];exact Bool.noConfusion)]
 unfold getAttrByItsOwn hookBefore callGetattribute boundAndCalled
 refine wpAny_bind ?_
 show wpAny _ _ (typeLookup (.ref C) "__getattr__") _ _ _
 refine L2.here ?_
 refine wpAny_bind (wpAny_attempt (wpAny_holding ?_))
 rw[if_neg (by cases expr<;>exact Bool.noConfusion)]
 refine wpAny_bind (wpAny_of_eq (F.attr_ValueError.ga.bind _) ?_)
 refine wpAny_mono (Q:=λu s'=>u=v/\s'=s2) (E:=λ_ _=>False) (wpAny_call (codeAny_call_builtin F.attr_ValueError.ga.plain F.entry_bexc_ga (EB X I hb (wpAny_mono (h _) (λfin s' z=>?_) λ_ _ z=>z.elim)))) (λu s' z=>?_) λ_ _ z=>z.elim
 ·obtain⟨rfl,rfl⟩:=z
  exact⟨rfl,rfl⟩
 ·obtain⟨rfl,rfl⟩:=z
  show wpAny _ _ (handedOut u) _ _ _
  rw[handedOut_of hv];exact wpAny_pure q
theorem EC{tk:Tok}{v:Value}{A':Around}{E:Value->Shared->Prop}(X:K.In s.heap)(I:InstAt s.heap x ox C odo)(hf:findObj K C odo name=some (.value v)) :
  wpAny (model prog w) A' (Builtin.«object.__getattribute__» ⟨[.ref x,.str name tk],[]⟩) (λfin s'=>fin=.done (.ret v)/\s'=s) E s:=by
 have L0:=I.type (M:=model prog w)
 have L1:=looks_find (M:=model prog w) X I hf
 unfold Builtin.«object.__getattribute__»
 refine wpAny_bind (wpAny_of_eq (show slotArgs _ _ _=pure (.ref x,[.str name tk]) from rfl) ?_)
 refine wpAny_bind (wpAny_pure (wpAny_bind (L0.here (wpAny_bind (L1.here ?_)))))
 exact wpAny_pure ⟨rfl,rfl⟩
theorem BX{v:Value}{expr:Bool}{Q:Value->Shared->Prop}(X:K.In s.heap)(I:InstAt s.heap x ox C odo)(ga:findIn K (.ref C) "__getattribute__"=some (some Kf))(gh:findIn K (.ref C) "__getattr__"=some none)(hb:mroIn K C (.type "BaseException")=some true)
  (hf:findObj K C odo name=some (.value v)) (hh:handedIn v=true) (h:Q v {s with toks:=s.toks+1}):wpAny (model prog w) A (getAttr (.ref x) name expr) Q E s:=by
 unfold getAttr
 refine wpAny_bind (wpAny_mkText ?_)
 exact G9 (s:={s with toks:=s.toks+1}) X I ga gh hb hh (λA'=>EC (s:={s with toks:=s.toks+1}) X I hf) h
theorem G8{tk:Tok}{g a v:Value}{A':Around}{E:Value->Shared->Prop}(X:K.In s.heap)(I:InstAt s.heap x ox C odo)(hf:findObj K C odo name=some (.bind g a))
  (h:∀A',wpAny (model prog w) A' (call g [a,.ref x,.ref C]) (λu s'=>u=v/\s'=s) E s) :
  wpAny (model prog w) A' (Builtin.«object.__getattribute__» ⟨[.ref x,.str name tk],[]⟩) (λfin s'=>fin=.done (.ret v)/\s'=s) E s:=by
 have L0:=I.type (M:=model prog w)
 have L1:=looks_find (M:=model prog w) X I hf
 unfold Builtin.«object.__getattribute__»
 refine wpAny_bind (wpAny_of_eq (show slotArgs _ _ _=pure (.ref x,[.str name tk]) from rfl) ?_)
 refine wpAny_bind (wpAny_pure (wpAny_bind (L0.here (wpAny_bind (L1.here ?_)))))
 show wpAny _ _ (holding [a] (call g [a,.ref x,.ref C]) >>= ret) _ _ _
 exact wpAny_bind (wpAny_holding (wpAny_mono (h _) (λu s' z=>by obtain⟨rfl,rfl⟩:=z;exact wpAny_pure ⟨rfl,rfl⟩) λ_ _ z=>z))
theorem BY{Q:Option Value->Shared->Prop}(hdct:hasDictIn K D=true)(ha:findIn K (.ref D) "__class__"=some (some (.builtin "object.__class__")))
  (hn:specialIn K (.builtin "object.__class__") "__get__"=some (some (.builtin "getset_descriptor.__get__"))) (htk:takesIn K (.builtin "object.__class__")=some true) (hm:mroIn K D (.type "object")=some true)
  (ga:findIn K (.ref D) "__getattribute__"=some (some Kf)) (gh:findIn K (.ref D) "__getattr__"=some none) (hb:mroIn K D (.type "BaseException")=some true)
  (X:K.In s.heap) (I:InstAt s.heap x ox D (some od)) (h:Q (some (.ref D)) {s with toks:=s.toks+1}):wpAny (model prog w) A (getAttr? (.ref x) "__class__") Q E s:=by
 have hf:findObj K D (some od) "__class__"=some (.bind (.builtin "getset_descriptor.__get__") (.builtin "object.__class__")):=findObj_data (by obtain⟨cd,hc,_⟩:=any_some hdct;rw[hc];rfl) ha hn htk
 unfold getAttr? getAttrBy?
 refine wpAny_bind (wpAny_mkText (wpAny_bind (wpAny_attempt ?_)))
 refine wpAny_mono (G9 (Q:=λu s'=>u=.ref D/\s'={s with toks:=s.toks+1}) (E:=λ_ _=>False) (v:=.ref D) (s2:={s with toks:=s.toks+1}) (s:={s with toks:=s.toks+1}) X I ga gh hb rfl (λA'=>G8 (s:={s with toks:=s.toks+1}) X I hf λA''=>wpAny_call (class_get (s:={s with toks:=s.toks+1}) (ox:=ox) (od:=some od) X I hm ⟨rfl,rfl⟩)) ⟨rfl,rfl⟩) (λu s' z=>?_) λ_ _ z=>z.elim
 obtain⟨rfl,rfl⟩:=z
 exact wpAny_pure h
theorem Ax{c:Value}{dep:Int}{tk:Tok}{Q:PySem.Fin->Shared->Prop}(hdct:hasDictIn K D=true)(ha:findIn K (.ref D) "__class__"=some (some (.builtin "object.__class__")))
  (hn:specialIn K (.builtin "object.__class__") "__get__"=some (some (.builtin "getset_descriptor.__get__"))) (htk:takesIn K (.builtin "object.__class__")=some true) (hm:mroIn K D (.type "object")=some true)
  (ga:findIn K (.ref D) "__getattribute__"=some (some Kf)) (gh:findIn K (.ref D) "__getattr__"=some none) (hb:mroIn K D (.type "BaseException")=some true)
  (X:K.In s.heap) (I:InstAt s.heap x ox D (some od)) (hty:Looks (model prog w) s.heap (typeOf c) (.type "type")) (his:Looks (model prog w) s.heap (isType c) true)
  (hne:(Value.ref D==c)=false) (hsub:Looks (model prog w) s.heap (isSubtype (.ref D) c) false) (h:Q (.done (.ret (.bool false))) {s with toks:=s.toks+1}) :
  wpAny (model prog w) A (Builtin.«isinstance.nested» ⟨[.ref x,c,.int dep tk],[]⟩) Q E s:=by
 obtain⟨cdD,hcD,_⟩:=any_some hdct
 have typ:Looks (model prog w) s.heap (isType (.ref D)) true:=by
  unfold clsIn at hcD
  split at hcD
  ·rename_i ho
   intro A' Q' E' s' k q
   unfold isType loadHead
   exact wpAny_bind (wpAny_loadPart (k _ _ (X _ _ ho)) (wpAny_pure q))
  ·cases hcD
 obtain⟨h0,g,d,tt,os⟩:=s
 have L0:=I.type (M:=model prog w)
 have LI:Looks (model prog w) h0 (isInstance (.ref x) c) false:=L0.andThen hsub
 unfold Builtin.«isinstance.nested»
 refine wpAny_bind (L0.at ?_)
 rw[if_neg (λq=>by rw[hne] at q;exact Bool.noConfusion q)]
 refine wpAny_bind (hty.at ?_)
 rw[if_pos (by decide)]
 k_delta "plainIsInstance"
 refine wpAny_bind (wpAny_bind (his.at ?_))
 simp only[Bool.not_true,Bool.false_eq_true,if_false]
 refine wpAny_bind (LI.at ?_)
 simp only[Bool.false_eq_true,if_false]
 refine wpAny_bind (BY hdct ha hn htk hm ga gh hb X I ?_)
 refine wpAny_bind (typ.at ?_)
 simp only[Bool.not_true,Bool.false_eq_true,if_false]
 refine wpAny_bind (wpAny_rule ?_)
 refine hsub.at ?_
 first
  |exact wpAny_pure h
  |exact wpAny_pure (wpAny_pure h)
  |exact wpAny_bind (wpAny_pure (wpAny_pure h))
end
end L2
end
section
namespace L2
open PySem PySem.Spec PyProof.Rows
open Builtin Builtin.ObjectAttr
theorem C4{P:Program}{w:World}{fs:List Addr}{H H':Hp}{h h':Heap}(ws:List Addr)(hok:nK P w H h)(hw:∀b∈ws,∃φ,H b=some (.ext φ))(frf:∀b∈fs,H b=none)
  (keep:∀b u,b∉ws->b∉fs->h.get? b=some u->h'.get? b=some u) (slot:∀b u,b∉ws->b∈fs->h.get? b=some u->∃sl,h'.get? b=some {u with slots:=sl})
  (thr:∀b∈ws,∃u,h'.get? b=some u) (same:∀b,b<h.objs.size->b∉ws->H' b=H b) (new:∀b,(h.objs.size<=b\/b∈ws)->∀o,H' b=some o->eB P w H' h' b o) :
  Un fs [] H H' h h'/\nK P w H' h':=by
 have nw:∀b,H b=none->b∉ws:=λb n z=>by obtain⟨φ,e⟩:=hw b z;rw[n] at e;cases e
 have st:∀b o,H b=some o->(∀φ,o≠.ext φ)->H' b=some o/\b∉ws:=λb o e n=>by
  have nb:b∉ws:=λz=>by obtain⟨φ,q⟩:=hw b z;rw[e] at q;cases q;exact n φ rfl
  exact⟨(same b (hok.lt e) nb).trans e,nb⟩
 refine⟨⟨λb o q n f _=>keep b o (nw b n) f q,λb o q n f _=>slot b o (nw b n) f q,λb o q n _=>(same b (aJ q) (nw b n)).trans n,λb o q _=>?_,λb xs e=>(st b _ e λ_ z=>by cases z).1,λb o u e=>(st b _ e λ_ z=>by cases z).1,
  λb ps e=>⟨#[],by rw[Array.append_empty];exact(st b _ e λ_ z=>by cases z).1⟩⟩,λa o e=>?_⟩
 ·by_cases hb:b∈ws
  ·exact thr b hb
  ·by_cases hf:b∈fs
   ·obtain⟨sl,z⟩:=slot b o hb hf q;exact⟨_,z⟩
   ·exact⟨o,keep b o hb hf q⟩
 ·by_cases hz:h.objs.size<=a
  ·exact new a (.inl hz) o e
  ·by_cases hb:a∈ws
   ·exact new a (.inr hb) o e
   ·have e':H a=some o:=(same a (Nat.lt_of_not_le hz) hb).symm.trans e
    refine(hok a o e').stay (λc u hc q=>?_) (λc q=>(st c _ q λ_ z=>by cases z).1) λc xs q=>(st c _ q λ_ z=>by cases z).1
    rcases hc with rfl|hc
    ·exact keep c u hb (λz=>by rw[frf c z] at e';cases e') q
    ·exact keep c u (st c _ hc λ_ z=>by cases z).2 (λz=>by rw[frf c z] at hc;cases hc) q
theorem xW{P:Program}{w:World}{H:Hp}{h:Heap}{a:Addr}{o:Obj}{φ:Heap->Prop}(p:φ h)(e:h.get? a=some o)(st:∀h1 h2:Heap,φ h1->(∀o,h1.get? a=some o->h2.get? a=some o)->φ h2):eB P w H h a (.ext φ):=⟨p,⟨o,e⟩,st⟩
def XF(x C:Addr)(od:Option Addr):HO:=.ext λh=>∃u,h.get? x=some ⟨.ref C,od,.fields #[.ref u,.none,.none,.none,.bool false,.none],#[]⟩
def XL(x C:Addr)(od:Option Addr):HO:=.ext λh=>∃vs sl,h.get? x=some ⟨.ref C,od,.fields vs,sl⟩
def TB(T:Addr):HO:=.ext λh=>∃o ts,h.get? T=some o/\o.data=.fields ts/\ts[3]?=some .none
def XD(dx:Addr)(fs:List (Str×V)):HO:=.ext λh=>fs.length<=1000/\∃mA,h.Ns1 dx mA/\(∀f,pG (fs.lookup f) (mA f))/\PySem.Within mA (fs.map (·.1))
section
variable{P:Program}{w:World}{H:Hp}{h:Heap}{x C T dx:Addr}{od:Option Addr}{fs:List (Str×V)}
theorem XF.ok{u:Addr}(e:h.get? x=some ⟨.ref C,od,.fields #[.ref u,.none,.none,.none,.bool false,.none],#[]⟩):eB P w H h x (XF x C od):=
 xW ⟨u,e⟩ e λh1 h2 ⟨u,q⟩ k=>⟨u,k _ q⟩
theorem XL.ok{vs:Array Value}{sl:Array (Option Value)}(e:h.get? x=some ⟨.ref C,od,.fields vs,sl⟩):eB P w H h x (XL x C od):=
 xW ⟨vs,sl,e⟩ e λh1 h2 ⟨vs,sl,z⟩ k=>⟨vs,sl,k _ z⟩
theorem TB.ok{o:Obj}{ts:Array Value}(e:h.get? T=some o)(d:o.data=.fields ts)(q:ts[3]?=some .none):eB P w H h T (TB T):=
 xW ⟨o,ts,e,d,q⟩ e λh1 h2 ⟨o,ts,z,y⟩ k=>⟨o,ts,k _ z,y⟩
theorem XD.ok{mA:Str->Option Value}(z:fs.length<=1000)(n:h.Ns1 dx mA)(r:∀f,pG (fs.lookup f) (mA f))(wi:PySem.Within mA (fs.map (·.1))):eB P w H h dx (XD dx fs):=by
 obtain⟨o,es,ep,e,c⟩:=id n
 refine xW ⟨z,mA,n,r,wi⟩ e λh1 h2 ⟨z,mA,⟨o,es,ep,e,c⟩,r,wi⟩ k=>⟨z,mA,⟨o,es,ep,k _ e,c⟩,r,wi⟩
theorem XF.get(ok:nK P w H h)(e:H x=some (XF x C od)):∃u,h.get? x=some ⟨.ref C,od,.fields #[.ref u,.none,.none,.none,.bool false,.none],#[]⟩:=(show eB P w H h x (XF x C od) from ok x _ e).1
theorem XL.get(ok:nK P w H h)(e:H x=some (XL x C od)):∃vs sl,h.get? x=some ⟨.ref C,od,.fields vs,sl⟩:=(show eB P w H h x (XL x C od) from ok x _ e).1
def yK(h:Heap)(x C:Addr)(od:Option Addr)(T:Addr):Prop:=∃vs sl,h.get? x=some ⟨.ref C,od,.fields vs,sl⟩/\vs[1]?=some (.ref T)
theorem TB.get(ok:nK P w H h)(e:H T=some (TB T)):∃o ts,h.get? T=some o/\o.data=.fields ts/\ts[3]?=some .none:=(show eB P w H h T (TB T) from ok T _ e).1
theorem XD.get(ok:nK P w H h)(e:H dx=some (XD dx fs)):fs.length<=1000/\∃mA,h.Ns1 dx mA/\(∀f,pG (fs.lookup f) (mA f))/\PySem.Within mA (fs.map (·.1)):=(show eB P w H h dx (XD dx fs) from ok dx _ e).1
end
structure ur(K:Fg)(C:Addr):Prop where
 ex:∃(nm q:Str) (N B:Addr) (bs:List Value) (sn:List Str) (sub:List Value) (ab:Bool) (col:Option Bool) (dd:Option Addr) (k0 k1 k2 k3 k5:Option Value),K.lookup C=some (EA nm q C N B bs true sn sub ab col dd k0 k1 k2 k3 k5)
 ga:cN K (.ref C) "__getattribute__"=some (some Kf)
 gh:cN K (.ref C) "__getattr__"=some none
 sa:cN K (.ref C) "__setattr__"=some (some (.builtin "object.__setattr__"))
section
variable{prog:Program}{w:World}{A:Around}{E:Value->Shared->Prop}{K:Fg}{C x:Addr}{s:Shared}{R:Result->Shared->Prop}
theorem ur.cls(c:ur K C):∃cd B,lL K C=some cd/\cd.mro=.ref C::.ref B::AL/\cd.hasDict=true:=by
 obtain⟨nm,q,N,B,bs,sn,sub,ab,col,dd,k0,k1,k2,k3,k5,e⟩:=c.ex
 exact⟨_,B,by unfold lL;rw[e],rfl,rfl⟩
theorem ur.base(c:ur K C):cV K C (.type "BaseException")=some true:=by
 obtain⟨cd,B,e,m,_⟩:=c.cls
 unfold cV
 rw[e,fc,m];rfl
theorem ur.hd(c:ur K C):PySem.W.hasDictIn K C=true:=by
 obtain⟨cd,B,e,_,d⟩:=c.cls
 unfold PySem.W.hasDictIn
 rw[e];exact d
theorem MF{ox:Obj}{od:Option Obj}{f:Str}{tk:Tok}{v:Value}(X:K.In s.heap)(J:PySem.W.InstAt s.heap x ox C od)(c:ur K C)(n:mM K C f)
  (h:∀b,wpAny (model prog w) A.in1 (storeInOwnDict (.ref x) (.ref C) (.str f tk) f v b) (λfin s'=>match fin with|.done f=>R (.ok f) s'|.again c'=>c'.quiet=true/\codeAny (model prog w) A c' R s') (λe s'=>R (.error e) s') s) :
  codeAny (model prog w) A (.call (.builtin "object.__setattr__") ⟨[.ref x,.str f tk,v],[]⟩) R s:=by
 obtain⟨cd,B,hc,hm,hdd⟩:=c.cls
 have SF:=PySem.F.store_object
 have VF:=PySem.F.store_ValueError
 have lm:PySem.W.Looks (model prog w) s.heap (mroOf (.ref C)) cd.mro:=(j4 X hc).andThen .now
 have sb:PySem.W.Looks (model prog w) s.heap (isInstance (.ref x) (.type "object")) true:=J.type.andThen (PySem.W.looks_mroIn X (by unfold cV;rw[hc,fc,hm];rfl))
 refine codeAny_call_builtin SF.slot.plain SF.entry (@PySem.W.check_slot (model prog w) _ _ s "object.__setattr__" "object" "__setattr__" (.ref x) [.str f tk,v] [] _ SF.kind SF.split sb (SF.args (.ref x) (.str f tk) v) ?_)
 rw[PySem.W.osa_eq,refuse_eq]
 refine wpAny_bind (wpAny_bind (J.type.here (wpAny_bind (lm.here ?_))))
 rw[hm,refuseLoop_ref,refuseLoop_ref,VF.passes]
 refine wpAny_pure (wpAny_bind (J.type.here (wpAny_bind ((PySem.W.looks_findIn X n).here (wpAny_bind ?_)))))
 exact wpAny_pure (h _)
end
theorem yi{H:Hp}{x:Addr}{φ:Heap->Prop}(e:H x=some (.ext φ)):∀b∈[x],∃φ,H b=some (.ext φ):=λb hb=>by
 cases ak.mp hb
 exact⟨φ,e⟩
theorem yj{h:Heap}{x:Addr}{o:Obj}(e:h.get? x=some o):∀b∈[x],∃u,h.get? b=some u:=λb hb=>by
 cases ak.mp hb
 exact⟨o,e⟩
section
variable{X:Cx}{pins:List (Addr×Obj)}{σ:St}{H:Hp}{s:Shared}{x C dx:Addr}{fs:List (Str×V)}{f:Str}{v y:V}{u:Value}{A:Around}{E:Value->Shared->Prop}
theorem zF{y:V}{u:Value}{fs:List (Str×V)}{mA:Str->Option Value}(f:Str)(ry:de y u)(r:∀f,pG (fs.lookup f) (mA f)):∀g,pG ((lQ f y fs).lookup g) (if g=f then some u else mA g):=λg=>by
 rw[rX]
 by_cases q:g=f
 ·rw[if_pos q,if_pos q];exact ry
 ·rw[if_neg q,if_neg q];exact r g
theorem vx{y:V}{u:Value}{fs:List (Str×V)}{mA:Str->Option Value}(f:Str)(wi:PySem.Within mA (fs.map (·.1))):PySem.Within (λg=>if g=f then some u else mA g) ((lQ f y fs).map (·.1)):=λg hg=>by
 by_cases q:g=f
 ·rw[q];exact(rB f y fs).1
 ·refine(rB f y fs).2 g (wi g λz=>hg ?_)
  show(if g=f then some u else mA g)=none
  rw[if_neg q];exact z
theorem BZ{Q:Unit->Shared->Prop}(I:bP X pins σ H s)(e:H x=some (XF x C none))(c:ur X.K C)(n:mM X.K C f)(ry:de y u)
  (h:∀s' dx,H dx=none->dx≠x->bP X pins σ (upd (upd H dx (XD dx [(f,y)])) x (XF x C (some dx))) s'->Q () s'):wpAny (model X.prog X.w) A (setAttr (.ref x) f u) Q E s:=by
 obtain⟨a,hx⟩:=XF.get I.hok e
 obtain⟨cd,B,hc,hm,hdd⟩:=c.cls
 refine PySem.W.set_plain I.kIn (od:=none) ⟨hx,rfl,rfl,True.intro⟩ c.sa (MF (s:={s with toks:=s.toks+1}) (od:=none) I.kIn ⟨hx,rfl,rfl,True.intro⟩ c n λb=>?_)
 have ne:x≠s.heap.objs.size:=bh (aJ hx)
 refine wpAny_bind (wpAny_pure (wpAny_bind (wpAny_bind (wpAny_loadPart hx (wpAny_bind (PySem.W.Looks.here (s:={s with toks:=s.toks+1}) (j4 I.kIn hc) ?_))))))
 rw[hdd]
 show wpAny _ _ (alloc eG >>= λd=>(update x λo=>{cls:=o.cls,dict:=some d,data:=o.data,slots:=o.slots}) >>= λ_=>dictMade (.ref C) x d) _ _ _
 have hx1:(s.heap.push eG).get? x=_:=az _ hx
 refine wpAny_bind (wpAny_alloc (wpAny_bind (wpAny_update hx1 ?_)))
 refine wpAny_pure ?_
 have gd:((s.heap.push eG).update x λo=>{cls:=o.cls,dict:=some s.heap.objs.size,data:=o.data,slots:=o.slots}).get? s.heap.objs.size=some eG:=
  (Heap.get?_update_ne _ _ _ _ (Ne.symm ne)).trans (Heap.get?_push_at rfl rfl)
 have gx:((s.heap.push eG).update x λo=>{cls:=o.cls,dict:=some s.heap.objs.size,data:=o.data,slots:=o.slots}).get? x=some ⟨.ref C,some s.heap.objs.size,.fields #[.ref a,.none,.none,.none,.bool false,.none],#[]⟩:=
  cX _ hx1 rfl
 have nd:((s.heap.push eG).update x λo=>{cls:=o.cls,dict:=some s.heap.objs.size,data:=o.data,slots:=o.slots}).Ns s.heap.objs.size (λ_=>none):=⟨_,#[],_,gd,rfl,(λe he=>absurd he (by simp)),λ_=>rfl⟩
 refine wpAny_bind (wpAny_pure (wpAny_bind ?_))
 refine wpAny_nsSet1 (s:={s with heap:=(s.heap.push eG).update x λo=>{cls:=o.cls,dict:=some s.heap.objs.size,data:=o.data,slots:=o.slots},toks:=s.toks+1}) (Heap.Ns1.of_empty nd) λh' hn2 hs2=>?_
 obtain⟨oD,esD,epD,hoD,hdD,hcD⟩:=hn2.count (PySem.Within.cons f u PySem.Within.nil)
 refine wpAny_bind (wpAny_lookBehind hoD (by rw[hdD];exact pastItsLine_dict (ck hcD (by rw[cA,jP,sizeLine_eq];lia))) ?_)
 have gx2:=(hs2.2 x ne).trans gx
 have fr:=I.hok.fresh (aC s.heap.objs.size)
 obtain⟨un,ok⟩:=C4 (P:=X.prog) (w:=X.w) (fs:=[]) (H':=upd (upd H s.heap.objs.size (XD s.heap.objs.size [(f,y)])) x (XF x C (some s.heap.objs.size))) (h':=h') [x] I.hok (yi e) (λb z=>absurd z (by simp))
  (λb v nb _ q=>by
   have lt:=aJ q
   rw[hs2.2 b (bh lt)]
   exact(Heap.get?_update_ne _ _ _ _ λz=>nb (ak.mpr z)).trans (az _ q)) (λb u _ z=>absurd z (by simp)) (yj gx2) (λb lt nb=>by
   rw[aA (λz=>nb (ak.mpr z)),aA (bh lt)]) (λb hb o q=>by
   by_cases k:b=x
   ·subst k
    rw[ag] at q;cases q
    exact XF.ok gx2
   ·rw[aA k] at q
    by_cases k2:b=s.heap.objs.size
    ·subst k2
     rw[ag] at q;cases q
     exact XD.ok (fs:=[(f,y)]) (mA:=λg=>if g=f then some u else none) (by show 1<=1000;decide) hn2 (zF (fs:=[]) (mA:=λ_=>none) f ry λ_=>True.intro) (vx (fs:=[]) (mA:=λ_=>none) f λg hg=>absurd rfl hg)
    ·rw[aA k2] at q
     rcases hb with hb|hb
     ·rw[I.hok.fresh hb] at q;cases q
     ·exact absurd (ak.mp hb) k)
 exact wpAny_pure (h _ _ fr (Ne.symm ne) (I.un (t':=s.toks+1+1) (un.mono (λb z=>absurd z (by simp)) λb z=>z) ok))
theorem ED{Q:Unit->Shared->Prop}(I:bP X pins σ H s)(e:H x=some (XF x C (some dx)))(ne:dx≠x)(ed:H dx=some (XD dx fs))(c:ur X.K C)(n:mM X.K C f)(hl:fs.length<1000)(ry:de y u)
  (h:∀s',bP X pins σ (upd H dx (XD dx (lQ f y fs))) s'->Q () s'):wpAny (model X.prog X.w) A (setAttr (.ref x) f u) Q E s:=by
 obtain⟨a,hx⟩:=XF.get I.hok e
 obtain⟨z,mA,ns,r,wi⟩:=XD.get I.hok ed
 obtain⟨od,ho,hlk⟩:=rE ns
 obtain⟨cd,B,hc,hm,hdd⟩:=c.cls
 refine PySem.W.set_plain I.kIn (od:=some od) ⟨hx,rfl,rfl,ho⟩ c.sa (MF (s:={s with toks:=s.toks+1}) (od:=some od) I.kIn ⟨hx,rfl,rfl,ho⟩ c n λb=>?_)
 refine wpAny_bind (wpAny_pure (wpAny_bind (wpAny_bind (wpAny_loadPart hx (wpAny_bind (PySem.W.Looks.here (s:={s with toks:=s.toks+1}) (j4 I.kIn hc) ?_))))))
 rw[hdd]
 refine wpAny_pure (a:=some dx) (wpAny_bind (wpAny_pure (wpAny_bind ?_)))
 refine wpAny_nsSet1 (s:={s with toks:=s.toks+1}) ns λh' hn2 hs2=>?_
 obtain⟨oD,esD,epD,hoD,hdD,hcD⟩:=hn2.count (PySem.Within.cons f u wi)
 refine wpAny_bind (wpAny_lookBehind hoD (by rw[hdD];exact pastItsLine_dict (ck hcD (by rw[cA,ao,sizeLine_eq];lia))) ?_)
 obtain⟨un,ok⟩:=C4 (P:=X.prog) (w:=X.w) (fs:=[]) (H':=upd H dx (XD dx (lQ f y fs))) (h':=h') [dx] I.hok (yi ed) (λb z=>absurd z (by simp))
  (λb u nb _ q=>(hs2.2 b λz=>nb (ak.mpr z)).trans q) (λb u _ z=>absurd z (by simp)) (yj hoD) (λb _ nb=>aA λz=>nb (ak.mpr z)) (λb hb o q=>by
   by_cases k:b=dx
   ·subst k
    rw[ag] at q;cases q
    exact XD.ok (by have:=rW f y fs;lia) hn2 (zF f ry r) (vx f wi)
   ·rw[aA k] at q
    rcases hb with hb|hb
    ·rw[I.hok.fresh hb] at q;cases q
    ·exact absurd (ak.mp hb) k)
 exact wpAny_pure (h _ (I.un (t':=s.toks+1+1) (un.mono (λb z=>absurd z (by simp)) λb z=>z) ok))
theorem Nb{b:Bool}{Q:Value->Shared->Prop}(I:bP X pins σ H s)(ea:H x=some (XF x C (some dx))\/H x=some (XL x C (some dx)))(ed:H dx=some (XD dx fs))(c:ur X.K C)(n:mM X.K C f)(l:fs.lookup f=some v)
  (h:∀u s',bP X pins σ H s'->de v u->Q u s'):wpAny (model X.prog X.w) A (getAttr (.ref x) f b) Q E s:=by
 obtain⟨z,mA,ns,r,wi⟩:=XD.get I.hok ed
 obtain⟨od,ho,hlk⟩:=rE ns
 obtain⟨u,hu,ru⟩:=pG.some_of (v:=v) (o:=mA f) (by rw[<-l];exact r f)
 have J:∃ox,PySem.W.InstAt s.heap x ox C (some od):=by
  rcases ea with ea|ea
  ·obtain⟨a,hx⟩:=XF.get I.hok ea;exact⟨_,hx,rfl,rfl,ho⟩
  ·obtain⟨vs,sl,hx⟩:=XL.get I.hok ea;exact⟨_,hx,rfl,rfl,ho⟩
 obtain⟨ox,J⟩:=J
 exact BX I.kIn J c.ga c.gh c.base (PySem.W.findObj_own c.hd n rfl (by rw[hlk,hu])) (Dt ru) (h u _ (I.tok _) ru)
end
def Az(P:Program)(w:World):EE:=λouter H s E e s'=>∃x C od T H',e=.ref x/\s'.os=s.os/\AllBare s'.gens/\Un (yG outer) [] H H' s.heap s'.heap/\nK P w H' s'.heap/\
 H' x=some (XL x C od)/\H' T=some (TB T)/\yK s'.heap x C od T/\T≠x/\od≠some x/\E (.ref C) od H'
def rY(E:Addr->XK):XK:=λcls od H'=>∀x C T',cls=.ref C->H' x=some (XL x C od)->od≠some x->H' T'=none->T'≠x->E x cls od (upd H' T' (TB T'))
theorem JA{H:Hp}{x:Addr}{o:HO}(h:H x=some o):upd H x o=H:=by
 funext b
 by_cases c:b=x
 ·rw[c,ag,h]
 ·rw[aA c]
section
variable{X:Cx}{pins:List (Addr×Obj)}{σ:St}{H:Hp}{s:Shared}{x C T T':Addr}{od:Option Addr}{M:Model}{E:Value->Shared->Prop}
theorem Cs{T0:Addr}{φ:Heap->Prop}{h':Heap}{vs:Array Value}{sl:Array (Option Value)}(I:bP X pins σ H s)(hx:H x=some (.ext φ))(hT:T0=x\/H T0=some (TB T0))(hg:s.heap.get? x=some ⟨.ref C,od,.fields vs,sl⟩)(hz:1<vs.size)
  (L:J4 (yG X.stack) x T0 .none T' s.heap h'):bP X pins σ (upd (upd H T' (TB T')) x (XL x C od)) {s with heap:=h'}/\yK h' x C od T':=by
 have nx:T'≠x:=λz=>by
  have:=aJ hg
  have:=L.new
  rw[z] at this
  exact absurd (aV ‹x<_› this) (cI _)
 have hT0:∃φ,H T0=some (.ext φ):=by
  rcases hT with rfl|z
  ·exact⟨φ,hx⟩
  ·exact⟨_,z⟩
 have me:∀b,b∈[x,T0]↔b=x\/b=T0:=λb=>by simp
 obtain⟨un,ok⟩:=C4 (P:=X.prog) (w:=X.w) (fs:=yG X.stack) (H':=upd (upd H T' (TB T')) x (XL x C od)) (h':=h') [x,T0] I.hok (λb hb=>by
   rcases(me b).mp hb with rfl|rfl
   ·exact⟨φ,hx⟩
   ·exact hT0) I.stkFree (λb u nb nf q=>L.keep b u q (λz=>nb ((me b).mpr (.inl z))) (λz=>nb ((me b).mpr (.inr z))) nf)
  (λb u nb nf q=>L.slot b u q (λz=>nb ((me b).mpr (.inl z))) (λz=>nb ((me b).mpr (.inr z)))) (λb hb=>by
   rcases(me b).mp hb with rfl|rfl
   ·exact⟨_,L.exc _ hg⟩
   ·rcases hT with rfl|z
    ·exact⟨_,L.exc _ hg⟩
    ·by_cases c:b=x
     ·subst c;exact⟨_,L.exc _ hg⟩
     ·obtain⟨o,ts,q,_⟩:=TB.get I.hok z
      obtain⟨o',us,q',_⟩:=L.old c o q
      exact⟨o',q'⟩)
  (λb lt nb=>by
   rw[aA (λz=>nb ((me b).mpr (.inl z))),aA (λz=>by rw[z] at lt;exact absurd (aV lt L.new) (cI _))])
  (λb hb o e=>by
   by_cases c:b=x
   ·subst c
    rw[ag] at e;cases e
    exact XL.ok (vs:=vs.setIfInBounds 1 (.ref T')) (sl:=sl) (L.exc _ hg)
   ·rw[aA c] at e
    by_cases c2:b=T'
    ·subst c2
     rw[ag] at e;cases e
     obtain⟨oT,ts,e1,e2,e3⟩:=L.tb
     exact TB.ok e1 e2 e3
    ·rw[aA c2] at e
     rcases hb with hb|hb
     ·rw[I.hok.fresh hb] at e;cases e
     ·rcases(me b).mp hb with z|z
      ·exact absurd z c
      ·subst z
       rcases hT with z|z
       ·exact absurd z c
       ·rw[z] at e;cases e
        obtain⟨o,ts,q,_⟩:=TB.get I.hok z
        obtain⟨o',us,q',d',z'⟩:=L.old c o q
        exact TB.ok q' d' z')
 exact⟨I.call' (s':={s with heap:=h'}) (ch:=[]) rfl un ok I.bare (λb z=>absurd z (by simp)),vs.setIfInBounds 1 (.ref T'),sl,L.exc _ hg,by simp[hz]⟩
theorem DS{Q:Unit->Shared->Prop}(I:bP X pins σ H s)(hst:X.stack=X.env::X.outer)(hfm:X.env.frame=some X.env.locals)(hx:H x=some (XF x C od))
  (h:∀s' T',H T'=none->T'≠x->bP X pins σ (upd (upd H T' (TB T')) x (XL x C od)) s'->yK s'.heap x C od T'->Q () s') :
  wpAny M X.A (noteFrame (.ref x) X.env) (λ_ s2=>wpAny M X.A (setFlight (.ref x) none) Q E s2) E s:=by
 obtain⟨u,hg⟩:=XF.get I.hok hx
 have hfr:X.A.frames=some (X.env::X.outer):=by rw[I.ok.frames,hst]
 have hfu:s.heap.FunFrames X.base (X.env::X.outer):=by rw[<-hst];exact I.stack
 refine Bk hfr hfu hfm hg rfl rfl λh1 T' L=>?_
 have nx:T'≠x:=λz=>by
  have:=aJ hg
  have:=L.new
  rw[z] at this
  exact absurd (aV ‹x<_› this) (cI _)
 obtain⟨oT,ts,t1,t2,t3⟩:=L.tb
 refine xX (s:={s with heap:=h1}) (L.exc _ hg) rfl (T:=T') (by simp) t1 t2 (bI.mp t3).1 λh2 k _ t=>?_
 have L2:=L.land ⟨_,hg⟩ ⟨_,hg⟩ k t
 rw[<-hst] at L2
 have r:=Cs (s:=s) (h':=h2) I hx (.inl rfl) hg (by simp) L2
 exact h {s with heap:=h2} T' (I.hok.fresh L.new) nx r.1 r.2
theorem zp{Q:Unit->Shared->Prop}(I:bP X pins σ H s)(hst:X.stack=X.env::X.outer)(hfm:X.env.frame=some X.env.locals)(hx:H x=some (XL x C od))(hT:H T=some (TB T))(hfl:yK s.heap x C od T)(ne:T≠x)
  (h:∀s' T',H T'=none->T'≠x->bP X pins σ (upd H T' (TB T')) s'->yK s'.heap x C od T'->Q () s') :
  wpAny M X.A (noteFrame (.ref x) X.env) (λ_ s2=>wpAny M X.A (setFlight (.ref x) none) Q E s2) E s:=by
 obtain⟨vs,sl,hg,h1⟩:=hfl
 obtain⟨oT,ts,q1,q2,q3⟩:=TB.get I.hok hT
 have hz:1<vs.size:=(bI.mp h1).1
 have hfr:X.A.frames=some (X.env::X.outer):=by rw[I.ok.frames,hst]
 have hfu:s.heap.FunFrames X.base (X.env::X.outer):=by rw[<-hst];exact I.stack
 refine DT hfr hfu hfm hg rfl h1 q1 q2 q3 ne λh1 T' L=>?_
 have nx:T'≠x:=λz=>by
  have:=aJ hg
  have:=L.new
  rw[z] at this
  exact absurd (aV ‹x<_› this) (cI _)
 obtain⟨oT,ts,t1,t2,t3⟩:=L.tb
 refine xX (s:={s with heap:=h1}) (L.exc _ hg) rfl (T:=T') (by simp[hz]) t1 t2 (bI.mp t3).1 λh2 k _ t=>?_
 have L2:=L.land ⟨_,q1⟩ ⟨_,hg⟩ k t
 rw[<-hst] at L2
 have r:=Cs (s:=s) (h':=h2) I hx (.inr hT) hg hz L2
 rw[JA (show(upd H T' (TB T')) x=some (XL x C od) by rw[aA (Ne.symm nx)];exact hx)] at r
 exact h {s with heap:=h2} T' (I.hok.fresh L.new) nx r.1 r.2
end
section
variable{P:Program}{w:World}{K:Fg}{mg:Str->Option Value}{base:Heap}{N:List Str}{qual:Str}{scope:Scope}{f:Addr}{cd:Value}{A:Around}{outer:List Env}{s:Shared}{H:Hp}{E:XK}
theorem mW:nR (Az P w) (eE (Az P w) P w K mg base N qual scope f cd A outer s H E) (rY λ_=>E):=by
 rintro pins σ H1 s1 e s' I ⟨x,C,od,T,H',rfl,os,bare,un,hok,hx,hT,hfl,ne,ndx,q⟩
 have I1:=I.call' (ch:=[]) os un hok bare λb z=>absurd z (by simp)
 refine wpAny_bind (zp I1 rfl rfl hx hT hfl ne λs2 T' nT nx I2 fl2=>?_)
 exact⟨x,C,od,T',_,rfl,I2.os,I2.bare,I2.base,I2.hok,by rw[aA (Ne.symm nx)];exact hx,ag,fl2,nx,ndx,q x C T' rfl hx ndx nT nx⟩
theorem A9{pins:List (Addr×Obj)}{σ:St}{H1:Hp}{s1:Shared}{x C:Addr}{od:Option Addr}(I:bP (eE (Az P w) P w K mg base N qual scope f cd A outer s H E) pins σ H1 s1)(hx:H1 x=some (XF x C od))(ndx:od≠some x)
  (q:∀T',H1 T'=none->T'≠x->E (.ref C) od (upd (upd H1 T' (TB T')) x (XL x C od))):(eE (Az P w) P w K mg base N qual scope f cd A outer s H E).xe (.ref x) s1:=by
 refine wpAny_bind (DS I rfl rfl hx λs2 T' nT nx I2 fl2=>?_)
 exact⟨x,C,od,T',_,rfl,I2.os,I2.bare,I2.base,I2.hok,ag,by rw[aA nx,ag],fl2,nx,ndx,q T' nT nx⟩
end
structure MQ(K:Fg)(C f:Addr):Prop where
 cl:ur K C
 init:cN K (.ref C) "__init__"=some (some (.ref f))
 fn:PySem.W.isFn K (.ref f)=true
 kp:aI K (.ref C)=true
def BE(C:Addr)(sp:Sp)(t:TA):TE:=λσ H Q=>t σ H λvs H1=>∀x,H1 x=none->sp (.ref x::vs) (upd H1 x (XF x C none)) (λv H2=>v=.non/\Q (.ref x) H2) E0
def zH(K:Fg)(ta tv:TE)(f:Str):TS:=λD σ H=>tv σ H λy H1=>ta σ H1 λx H2=>∃a C,x=.ref a/\ur K C/\mM K C f/\
 ((H2 a=some (XF a C none)/\∀dx,H2 dx=none->dx≠a->D.nx σ (upd (upd H2 dx (XD dx [(f,y)])) a (XF a C (some dx))))\/
  ∃dx fs,H2 a=some (XF a C (some dx))/\dx≠a/\H2 dx=some (XD dx fs)/\fs.length<1000/\D.nx σ (upd H2 dx (XD dx (lQ f y fs))))
def zS(K:Fg)(ta:TE)(f:Str):TE:=λσ H Q=>ta σ H λx H1=>∃a C dx fs v,x=.ref a/\(H1 a=some (XF a C (some dx))\/H1 a=some (XL a C (some dx)))/\H1 dx=some (XD dx fs)/\ur K C/\mM K C f/\fs.lookup f=some v/\Q v H1
def BG(K:Fg)(E:XK)(te:TE):TS:=λ_ σ H=>te σ H λv H1=>∃x C od,v=.ref x/\ur K C/\H1 x=some (XF x C od)/\od≠some x/\∀T',H1 T'=none->T'≠x->E (.ref C) od (upd (upd H1 T' (TB T')) x (XL x C od))
def AE(X:Cx)(E:XK):Prop:=∀(pins:List (Addr×Obj)) (σ:St) (H1:Hp) (s1:Shared) (x C:Addr) (od:Option Addr),bP X pins σ H1 s1->H1 x=some (XF x C od)->od≠some x->
 (∀T',H1 T'=none->T'≠x->E (.ref C) od (upd (upd H1 T' (TB T')) x (XL x C od)))->X.xe (.ref x) s1
section
variable{X:Cx}{k:Nat}{f C:Addr}{fd:FuncData}{ps:List Str}{sp:Sp}{x:Str}{p pos apos:Pos}{e o value:Expr}{es:List Expr}{ta tv:TE}{t:TA}
theorem Ej{pins:List (Addr×Obj)}{σ:St}{H:Hp}{s:Shared}{Q:VK}{us:List Value}{vs:List V}(M:MQ X.K C f)(F:d5 X.prog X.w X.K X.mg X.base fH k f fd ps sp)(hr:df (k+1) X.A)(hb:nN X.K fd ps [])(hz:ps.length<=1000)
  (I:bP X pins σ H s) (r:cO vs us) (h:∀x,H x=none->sp (.ref x::vs) (upd H x (XF x C none)) (λv H2=>v=.non/\Q (.ref x) H2) E0) :
  wpAny (model X.prog X.w) X.A (call (.ref C) us) (EP X pins σ Q) X.xe s:=by
 have hq:=h (s.heap.objs.size+1) (I.hok.fresh (lj _))
 obtain⟨nm,q,N,B,bs,sn,sub,ab,col,dd,k0,k1,k2,k3,k5,lk⟩:=M.cl.ex
 have lf:∃oI,s.heap.get? f=some oI/\oI.cls=.type "function":=by
  have:=beq_iff_eq.mp M.fn
  obtain⟨oI,e1,e2⟩:=dM.mp this
  exact⟨oI,I.kIn _ _ e1,e2⟩
 obtain⟨oI,lf1,lf2⟩:=lf
 have kp:∀b u,s.heap.get? b=some u->((s.heap.push {cls:=.type "tuple",data:=.seq us.toArray}).push (BV C s.heap.objs.size)).get? b=some u:=λb u q=>az _ (az _ q)
 have gx:((s.heap.push {cls:=.type "tuple",data:=.seq us.toArray}).push (BV C s.heap.objs.size)).get? (s.heap.objs.size+1)=some (BV C s.heap.objs.size):=by heap_get
 have I2:bP X pins σ (upd H (s.heap.objs.size+1) (XF (s.heap.objs.size+1) C none)) {s with heap:=(s.heap.push {cls:=.type "tuple",data:=.seq us.toArray}).push (BV C s.heap.objs.size)}:=
  I.laid (t':=s.toks) kp (lj _) (XF.ok gx)
 have r2:cO (V.ref (s.heap.objs.size+1)::vs) (Value.ref (s.heap.objs.size+1)::us):=.cons rfl r
 have hl:(Value.ref (s.heap.objs.size+1)::us).length=ps.length:=by
  have e:=r2.length
  rw[F.len _ _ _ _ hq] at e
  exact e.symm
 have hl2:us.length<=sizeLine:=by
  have:us.length+1=ps.length:=hl
  rw[sizeLine_eq];lia
 obtain⟨hh,g,d,tk,os⟩:=s
 refine JD (I.kIn _ _ lk) (λh' k'=>PySem.W.looks_findIn (λb o q=>k' b o (I.kIn b o q)) M.init) lf1 lf2 hl2 ?_
 have hbi:=hb ⟨_,g,d,tk,os⟩ (Value.ref (hh.objs.size+1)::us) I2.kIn (by rw[eK];exact hl)
 rw[eK] at hbi
 refine wpAny_call (codeAny_mono (F.run _ X.stack _ _ ⟨Value.ref (hh.objs.size+1)::us,[]⟩ (Value.ref (hh.objs.size+1)::us) _ _ E0 (hr.make C us []) (I2.env0.make C us []) hbi r2 hq) λr s' hq'=>?_)
 cases r with
 |error e=>exact False.elim hq'
 |ok fl=>
  cases fl with
  |ret u=>
   obtain⟨v,H',I3,rv,ev,q3⟩:=I2.after hq'
   subst ev
   exact⟨rv,⟨V.ref (hh.objs.size+1),H',I3,rfl,q3⟩⟩
  |next=>exact False.elim hq'
  |brk=>exact False.elim hq'
  |cont=>exact False.elim hq'
theorem FU(M:MQ X.K C f)(F:d5 X.prog X.w X.K X.mg X.base fH k f fd ps sp)(hr:df (k+1) X.A)(hg:Gl X x)(hm:X.mg x=some (.ref C))(hb:nN X.K fd ps [])(hz:ps.length<=1000)
  (ha:PA X (e::es) t) (hdb:(x==("__debug__":Str))=false:=by decide) (he:starEach (e::es) X.env=(false,eval e X.env)::starEach es X.env:=by rfl) (hpl:(backTo pos (starEach es X.env)).any (·.1)=false:=by rfl) :
  PE X (.Call (.Name x p) (e::es) [] pos) (BE C sp t):=by
 intro pins s σ H Q I h
 refine wpAny_Call_Name_kw (tX I hg hm ?_ hdb)
 refine PySem.W.callWith_K (h₀:=X.base) I.ok.mod.kin M.kp (gg (ha pos pins s σ H _ I h) λus s1 ⟨vs,H1,I1,r,q⟩=>⟨I1.kIn,?_⟩) he hpl
 exact Ej M F hr hb hz I1 r q
theorem IT{fl:Str}{pos':Pos}(ha:PE X o ta)(hv:PE X value tv)(hs:swapsWith value (some (.Attribute o fl pos')) pos.line X.env=pure false):PS X (.Assign [.Attribute o fl pos'] value pos) (zH X.K ta tv fl):=by
 intro pins s σ H D I h
 refine plainObj_wpAny_Assign_Attribute (gg (hv pins s σ H _ I h) λu s1 ⟨y,H1,I1,ry,q⟩=>gg (ha pins s1 σ H1 _ I1 q) λov s2 ⟨x,H2,I2,rx,a,C,ex,c,n,q2⟩=>?_) hs
 subst ex
 obtain rfl:ov=Value.ref a:=rx
 rcases q2 with⟨ea,q2⟩|⟨dx,fs,ea,ne,ed,l,q2⟩
 ·exact BZ I2 ea c n ry λs3 dx hd hn I3=>⟨σ,_,I3,q2 dx hd hn⟩
 ·exact ED I2 ea ne ed c n l ry λs3 I3=>⟨σ,_,I3,q2⟩
theorem IC{fl:Str}(he:PE X e ta)(hb:attributeBase e fl X.env (eval e X.env)=eval e X.env):PE X (.Attribute e fl pos) (zS X.K ta fl):=by
 intro pins s σ H Q I h
 refine Hv hb (gg (he pins s σ H _ I h) λu s1 ⟨x,H1,I1,rx,a,C,dx,fs,v,ex,ea,ed,c,n,l,q⟩=>?_)
 subst ex
 obtain rfl:u=Value.ref a:=rx
 exact Nb I1 ea ed c n l λu' s2 I2 ru=>⟨v,H1,I2,ru,q⟩
theorem Gb{E:XK}{te:TE}(hl:AE X E)(hh:X.A.handled=none)(he:PE X e te):PS X (.Raise (some e) none pos) (BG X.K E te):=by
 intro pins s σ H D I h
 rw[arm_exec_Raise]
 refine wpAny_bind (wpAny_standAt ?_)
 refine G7 hh (wpAny_bind (gg (he pins s σ H _ I h) λu s1 ⟨v,H1,I1,rv,x,C,od,ev,c,hx,ndx,q⟩=>wpAny_bind (wpAny_standAt (wpAny_pure ?_))))
 subst ev
 obtain rfl:u=Value.ref x:=rv
 obtain⟨nm,q',N,B,bs,sn,sub,ab,col,dd,k0,k1,k2,k3,k5,lk⟩:=c.ex
 obtain⟨w0,hg⟩:=XF.get I1.hok hx
 exact⟨x,od,w0,_,C,nm,q',N,B,bs,true,sn,sub,ab,col,dd,k0,k1,k2,k3,k5,rfl,I1.kIn _ _ lk,hg,hl pins σ H1 s1 x C od I1 hx ndx q⟩
end
abbrev Cx.tryIn(X:Cx)(pl:List (Addr×Obj))(E:Value->Shared->Prop):Cx:={X with pn:=X.pn++pl,xe:=E}
abbrev Cx.inSuite(X:Cx)(x:Addr):Cx:={X with A:=X.A.mark (some (.ref x)),calm:=false,xe:=λ_ _=>False}
section
variable{X:Cx}{pins pins':List (Addr×Obj)}{σ:St}{H:Hp}{s:Shared}{E:Value->Shared->Prop}{x:Addr}
theorem Cx.Ok.tryIn(ok:X.Ok)(pl:List (Addr×Obj))(E:Value->Shared->Prop):(X.tryIn pl E).Ok:=
 ⟨ok.mod,ok.kind,ok.glob,ok.blt,ok.above,ok.inj,ok.has,ok.cab,ok.hd,ok.frames,ok.stk,ok.exf,ok.bs,ok.bsz,ok.noex,ok.exfs,ok.funs,ok.frf⟩
theorem Cx.Ok.unTry{pl:List (Addr×Obj)}(ok:(X.tryIn pl E).Ok):X.Ok:=
 ⟨ok.mod,ok.kind,ok.glob,ok.blt,ok.above,ok.inj,ok.has,ok.cab,ok.hd,ok.frames,ok.stk,ok.exf,ok.bs,ok.bsz,ok.noex,ok.exfs,ok.funs,ok.frf⟩
theorem bP.tryIn(I:bP X pins σ H s)(E:Value->Shared->Prop):bP (X.tryIn pins E) [] σ H s:=
 ⟨I.ok.tryIn pins E,I.os,I.bare,I.base,I.loc,I.cell,I.free,I.freeC,λp hp=>I.pin p (by rw[eK] at hp;exact hp),I.hok,I.len⟩
theorem bP.unTry(I:bP (X.tryIn pins E) pins' σ H s):bP X pins σ H s:=
 ⟨I.ok.unTry,I.os,I.bare,I.base,I.loc,I.cell,I.free,I.freeC,λp hp=>I.pin p (cc _ hp),I.hok,I.len⟩
theorem SP.unTry{D:nJ}{f:Flow}{s':Shared}(h:SP (X.tryIn pins E) pins' D f s'):SP X pins D f s':=by
 cases f with
 |next=>obtain⟨σ',H',I,q⟩:=h;exact⟨σ',H',I.unTry,q⟩
 |brk=>obtain⟨σ',H',I,q⟩:=h;exact⟨σ',H',I.unTry,q⟩
 |cont=>obtain⟨σ',H',I,q⟩:=h;exact⟨σ',H',I.unTry,q⟩
 |ret u=>obtain⟨v,σ',H',I,r,q⟩:=h;exact⟨v,σ',H',I.unTry,r,q⟩
theorem bP.inSuite(I:bP X pins σ H s)(x:Addr):bP (X.inSuite x) pins σ H s:=
 ⟨⟨I.ok.mod,I.ok.kind,I.ok.glob,I.ok.blt,I.ok.above,I.ok.inj,I.ok.has,I.ok.cab,(λz=>by cases z),I.ok.frames,I.ok.stk,I.ok.exf,I.ok.bs,I.ok.bsz,I.ok.noex,I.ok.exfs,I.ok.funs,I.ok.frf⟩,
  I.os,I.bare,I.base,I.loc,I.cell,I.free,I.freeC,I.pin,I.hok,I.len⟩
theorem bP.unSuite(I:bP (X.inSuite x) pins σ H s)(hd:X.calm=true->X.A.handled=none):bP X pins σ H s:=
 ⟨⟨I.ok.mod,I.ok.kind,I.ok.glob,I.ok.blt,I.ok.above,I.ok.inj,I.ok.has,I.ok.cab,hd,I.ok.frames,I.ok.stk,I.ok.exf,I.ok.bs,I.ok.bsz,I.ok.noex,I.ok.exfs,I.ok.funs,I.ok.frf⟩,
  I.os,I.bare,I.base,I.loc,I.cell,I.free,I.freeC,I.pin,I.hok,I.len⟩
theorem xp{M:Model}{A:Around}{E:Value->Shared->Prop}{i:Nat}{n:Str}{pos:Pos}{Q:Unit->Shared->Prop}(I:bP X pins σ H s)(hN:X.N.Nodup)(hi:X.N[i]?=some n)(hk:X.env.kindOf n=some .local)
  (h:∀s',bP X pins (σ.set i none) H s'->Q () s'):wpAny M A (do bindName X.env n .none;unbindBehindTheSuite X.env n pos) Q E s:=by
 have hcls:(X.env.scope.kind==.class || (X.env.scope.kind==.module&&X.env.locals != X.env.globals))=false:=by rw[I.ok.kind];rfl
 refine wpAny_bind (wpAny_bindName (qw (v:=.non) I hN hi (.inl hk) rfl (λs1 I1=>?_) (.inr hk)))
 obtain⟨m,hn,hl⟩:=id I1.loc
 have hiσ:i<σ.length:=by rw[I.len];exact(aj.mp hi).1
 have hmn:m n=some .none:=by
  obtain⟨u,ru,q⟩:=hl i n .non hi (by rw[bp hiσ]) (.inl hk)
  obtain rfl:u=Value.none:=ru
  rcases q with⟨_,q⟩|⟨k,_⟩
  ·exact q
  ·rw[hk] at k;rcases k with k|k<;>cases k
 unfold unbindBehindTheSuite
 refine wpAny_onRaise ?_
 unfold unbindName
 refine wpAny_bind (wpAny_point (wpAny_bind ?_))
 unfold deleteName
 simp only[hk,hcls]
 rw[if_neg (by decide)]
 refine wpAny_bind (wpAny_nsDel_keeps hn λh2 v hn2 hs=>?_)
 rw[hmn]
 simp only[if_true,Option.isSome_some,Bool.not_true,Bool.false_eq_true,if_false]
 refine wpAny_pure (wpAny_point (h _ ?_))
 obtain⟨oL,_,_,hoL,_⟩:=id hn
 have hok:nK X.prog X.w H h2:=λb ob e=>by
  refine(I1.hok b ob e).stay (λc w' hc q=>(hs.2 c ?_).trans q) (λ_ q=>q) λ_ _ q=>q
  rintro rfl
  rcases hc with rfl|hc
  ·rw[I1.free] at e;cases e
  ·rw[I1.free] at hc;cases hc
 have neL:∀b o,X.s₀.heap.get? b=some o->b≠X.env.locals:=λb o e=>bh (aV (aJ e) I1.ok.above)
 refine⟨I1.ok,I1.os,I1.bare,⟨λb o e nn hb hx=>?_,λb o e nn hb hx=>?_,I1.base.free,λb o e hx=>?_,I1.base.tups,I1.base.frzs,I1.base.tbls⟩,⟨_,hn2,λj y v' e1 e2 e3=>?_⟩,λy c e=>?_,I1.free,I1.freeC,λp hp=>?_,hok,by simpa using I.len⟩
 ·exact(hs.2 b (neL b o e)).trans (I1.base.keep b o e nn hb hx)
 ·obtain⟨sl,e1⟩:=I1.base.slot b o e nn hb hx
  exact⟨sl,(hs.2 b (neL b o e)).trans e1⟩
 ·obtain⟨o',e1⟩:=I1.base.there b o e hx
  exact⟨o',(hs.2 b (neL b o e)).trans e1⟩
 ·have hj:j≠i:=λz=>by
   subst z
   rw[bp hiσ] at e2;cases e2
  rw[bM (Ne.symm hj)] at e2
  obtain⟨u',r',q⟩:=hl j y v' e1 (by rw[bM (Ne.symm hj)];exact e2) e3
  refine⟨u',r',?_⟩
  rcases q with⟨k,e⟩|⟨k,c,e,z⟩
  ·refine .inl ⟨k,?_⟩
   have:y≠n:=λe=>hj (uM hN e1 (e ▸ hi))
   simp[this,e]
  ·exact .inr ⟨k,c,e,z.sameBut hs (I1.cne y c e)⟩
 ·obtain⟨w',z⟩:=I1.cell y c e
  exact⟨w',z.sameBut hs (I1.cne y c e)⟩
 ·obtain⟨e,nn,ne,nf,d⟩:=I1.pin p hp
  exact⟨(hs.2 p.1 ne).trans e,nn,ne,nf,d⟩
end
structure J5(K:Fg)(C0:Addr):Prop where
 ex:∃(nm q:Str) (N:Addr) (bs bm:List Value) (hdct:Bool) (sn:List Str) (sub:List Value) (ab:Bool) (col:Option Bool) (dd:Option Addr) (k0 k1 k2 k3 k5:Option Value) (nid:String),K.lookup C0=some (excClassObj nm q C0 N bs bm hdct sn sub ab col dd k0 k1 k2 k3 k5 nid)
 exc:cV K C0 (.type "BaseException")=some true
structure EO(K:Fg)(C C0:Addr):Prop where
 cl:ur K C
 er:J5 K C0
 sub:cV K C (.ref C0)=some true
def wg(n:Nat):St:=bD n none
def Jy(K:Fg)(C0:Addr)(n i:Nat)(tb:XK->TS)(th:TS):TS:=λD σ H=>
 tb (rY λx cls od H2=>∃C,cls=.ref C/\EO K C C0/\th {nx:=λσ2 H3=>D.nx (σ2.set i none) H3,rt:=D.rt} ((wg n).set i (some (.ref x))) H2) D σ H
section
variable{X:Cx}
theorem Ct{K:Fg}{C:Addr}{o:Obj}{cd:ClassData}{v:Value}{b:Bool}(lk:K.lookup C=some o)(ho:o.data=.cls cd)(e:cV K C v=some b):cd.mro.contains v=b:=by
 unfold cV lL at e
 rw[lk] at e
 obtain⟨oc,od,dt,sl⟩:=o
 cases ho
 rw[fc] at e
 split at e
 ·cases e
 ·exact Option.some.inj e
theorem JF{C C0 N N0 x:Addr}{nm q nm0 q0:Str}{bs bm bs0 bm0:List Value}{hdct hdct0:Bool}{sn sn0:List Str}{sub sub0:List Value}{ab ab0:Bool}{col col0:Option Bool}{dd dd0:Option Addr}{k0 k1 k2 k3 k5 j0 j1 j2 j3 j5:Option Value}{nid nid0:String}{M:Model}{A:Around}{E:Value->Shared->Prop}{h:Heap}{g:Array GenState}{d:Drawn}{t:Nat}{os:OsState}{o:Obj}{Q:Bool->Shared->Prop}
  (hC:h.get? C=some (excClassObj nm q C N bs bm hdct sn sub ab col dd k0 k1 k2 k3 k5 nid)) (hC0:h.get? C0=some (excClassObj nm0 q0 C0 N0 bs0 bm0 hdct0 sn0 sub0 ab0 col0 dd0 j0 j1 j2 j3 j5 nid0))
  (c1:(Value.ref C0::bm0).contains (.type "BaseException")=true) (c2:(Value.ref C::bm).contains (.ref C0)=true) (hx:h.get? x=some o) (hc:o.cls=.ref C) (hq:Q true ⟨h,g,d,t,os⟩):wpAny M A (excMatches (.ref x) (.ref C0)) Q E ⟨h,g,d,t,os⟩:=by
 have f:=tc_notTuple
 unfold excMatches
 repeat (first|(with_reducible refine wpAny_loadPart_at hx ?_;rw[hc])|with_reducible refine wpAny_loadPart_at hC0 ?_|(with_reducible refine wpAny_isSubtype_exc hC0 ?_;rw[c1])|(with_reducible refine wpAny_isSubtype_exc hC ?_;rw[c2])|wp_step)
 exact hq
theorem LB{K:Fg}{C C0 x:Addr}{M:Model}{A:Around}{E:Value->Shared->Prop}{s:Shared}{o:Obj}{Q:Bool->Shared->Prop}(KX:K.In s.heap)(m:EO K C C0)(hx:s.heap.get? x=some o)(hc:o.cls=.ref C)(q:Q true s):wpAny M A (excMatches (.ref x) (.ref C0)) Q E s:=by
 obtain⟨nm,q',N,B,bs,sn,sub,ab,col,dd,k0,k1,k2,k3,k5,lk⟩:=m.cl.ex
 obtain⟨nm0,q0,N0,bs0,bm0,hd0,sn0,sub0,ab0,col0,dd0,j0,j1,j2,j3,j5,nid0,lk0⟩:=m.er.ex
 have c1:=Ct lk0 rfl m.er.exc
 have c2:=Ct lk rfl m.sub
 obtain⟨h,g,d,t,os⟩:=s
 exact JF (KX _ _ lk) (KX _ _ lk0) c1 c2 hx hc q
theorem Le{body suite:List Stmt}{b0:Stmt}{cn n:Str}{np hpos pos:Pos}{C0:Addr}{i:Nat}{tb:XK->TS}{th:TS}(hc:X.calm=true)(hst:X.stack=X.env::X.outer)(hfm:X.env.frame=some X.env.locals)(hg:Gl X cn)(hm:X.mg cn=some (.ref C0))
  (hN:X.N.Nodup) (hi:X.N[i]?=some n) (hk:X.env.kindOf n=some .local) (hb:∀pl E' Ein,nR (Az X.prog X.w) (X.tryIn pl E') Ein->jg (X.tryIn pl E') body (tb Ein)) (hs:∀x,jg (X.inSuite x) (b0::suite) th)
  (hdb:(cn==("__debug__":Str))=false:=by decide):PS X (.Try body [.ExceptHandler (some (.Name cn np)) (some n) (b0::suite) hpos] [] [] pos) (Jy X.K C0 X.N.length i tb th):=by
 intro pins s σ H D I h
 refine wpAny_Try_except ?_
 have hd:X.A.handled=none:=I.ok.hd hc
 have ps:nR (Az X.prog X.w) (X.tryIn pins (λe s1=>wpAny (model X.prog X.w) X.A (noteFrame e X.env) (λ_ s2=>wpAny (model X.prog X.w) X.A (setFlight e none) (λ_ s3=>wpAny (model X.prog X.w) X.A (handleBy e X.env [.ExceptHandler (some (.Name cn np)) (some n) (b0::suite) hpos]) (SP X pins D) X.xe s3) X.xe s2) X.xe s1))
   (rY λx cls od H2=>∃C,cls=.ref C/\EO X.K C C0/\th {nx:=λσ2 H3=>D.nx (σ2.set i none) H3,rt:=D.rt} ((wg X.N.length).set i (some (.ref x))) H2):=by
  rintro pl σ1 H1 s1 e s' I1 ⟨x,C,od,T,H',rfl,os,bare,un,hok,hx,hT,hfl,ne,ndx,q⟩
  have I2:=(I1.call' (ch:=[]) os un hok bare λb z=>absurd z (by simp)).unTry
  refine zp I2 hst hfm hx hT hfl ne λs2 T' nT nx I3 fl3=>?_
  obtain⟨C',ec,m,q2⟩:=q x C T' rfl hx ndx nT nx
  cases ec
  obtain⟨vs,sl,hg3,h13⟩:=fl3
  refine wpAny_handleBy_cons (codeAny_handlers_test (tX (X:=X.inSuite x) (I3.inSuite x) hg hm ?_ hdb)) (by intro z;cases z)
  refine LB I3.kIn m hg3 rfl (codeAny_handlers_suite_as ?_)
  have I4:bP X pins (wg X.N.length) (upd H' T' (TB T')) s2:=I3.weak (by unfold wg;rw[cv,I3.len]) λj v e=>by
   unfold wg at e
   rw[iS] at e
   split at e<;>cases e
  obtain⟨oT,ts,t1,t2,t3⟩:=TB.get I3.hok ag
  refine xX (s:=s2) hg3 rfl h13 t1 t2 (bI.mp t3).1 λh5 k5 z5 t5=>?_
  have I5:bP X pins (wg X.N.length) (upd H' T' (TB T')) {s2 with heap:=h5}:=by
   have hTT:(upd H' T' (TB T')) T'=some (TB T'):=ag
   obtain⟨un5,ok5⟩:=C4 (P:=X.prog) (w:=X.w) (fs:=[]) (H':=upd H' T' (TB T')) (h':=h5) [T'] I4.hok (yi hTT) (λb z=>absurd z (by simp))
    (λb u nb _ q=>(k5 b λz=>nb (ak.mpr z)).trans q) (λb u _ z=>absurd z (by simp)) (let⟨_,_,e,_⟩:=t5;yj e) (λb _ _=>rfl) (λb hb o e=>by
     rcases hb with hb|hb
     ·rw[I4.hok.fresh hb] at e;cases e
     ·rw[ak.mp hb] at e ⊢
      rw[hTT] at e;cases e
      obtain⟨o,us,e1,e2,e3⟩:=t5
      exact TB.ok e1 e2 e3)
   exact I4.un (t':=s2.toks) (un5.mono (λb z=>absurd z (by simp)) λb z=>z) ok5
  refine qw (X:=X) (v:=.ref x) I5 hN hi (.inl hk) rfl (λs6 I6=>?_) (.inr hk)
  refine wpAny_mono (hs x pins s6 _ _ _ (I6.inSuite x) q2) (λf s7 h7=>?_) λ_ _ z=>False.elim z
  have hd':X.calm=true->X.A.handled=none:=λ_=>hd
  cases f with
  |next=>
   obtain⟨σ',H7,I7,q7⟩:=h7
   exact xp (X:=X) (I7.unSuite hd') hN hi hk λs8 I8=>⟨_,_,I8,q7⟩
  |ret u=>
   obtain⟨v,σ',H7,I7,r7,q7⟩:=h7
   exact xp (X:=X) (I7.unSuite hd') hN hi hk λs8 I8=>⟨v,_,_,I8,r7,q7⟩
  |brk=>obtain⟨_,_,_,q7⟩:=h7;exact False.elim q7
  |cont=>obtain⟨_,_,_,q7⟩:=h7;exact False.elim q7
 refine wpAny_mono (hb pins _ _ ps [] s σ H D (I.tryIn _) h) (λf s1 h1=>?_) λ_ _ z=>z
 have h2:=SP.unTry h1
 cases f with
 |next=>exact wpAny_pure h2
 |_=>exact h2
end
def vB(K:Fg)(C D:Addr):Bool->Prop
 |true=>PySem.W.isIn K (.ref C) D=true
 |false=>C≠D/\jQ K D=true/\iZ K (.ref D)=some (.type "type")/\oU K (.ref C) (.ref D)=some false
def Hr(K:Fg)(C:Addr):Prop:=cN K (.ref C) "__class__"=some (some (.builtin "object.__class__"))
section
variable{prog:Program}{w:World}{A:Around}{E:Value->Shared->Prop}{s:Shared}{K:Fg}{x C D:Addr}{ox od:Obj}
theorem JB:lu K (.builtin "object.__class__") "__get__"=some (some (.builtin "getset_descriptor.__get__")):=by unfold lu iZ;kernel_rfl
theorem JC:PySem.W.takesIn K (.builtin "object.__class__")=some true:=by unfold PySem.W.takesIn lu iZ;kernel_rfl
theorem ur.obj(c:ur K C):cV K C (.type "object")=some true:=by
 obtain⟨cd,B,e,m,_⟩:=c.cls
 unfold cV
 rw[e,fc,m];rfl
theorem Aw{dep:Int}{tk:Tok}{b:Bool}{Q:PySem.Fin->Shared->Prop}(X:K.In s.heap)(J:PySem.W.InstAt s.heap x ox C (some od))(c:ur K C)(wy:Hr K C)(i:vB K C D b)(h:∀t,Q (.done (.ret (.bool b))) {s with toks:=t}) :
  wpAny (model prog w) A (Builtin.«isinstance.nested» ⟨[.ref x,.ref D,.int dep tk],[]⟩) Q E s:=by
 cases b with
 |true=>exact PySem.W.isi_nested X J.type i (h s.toks)
 |false=>
  obtain⟨ne,cl,ty,sb⟩:=i
  refine Ax c.hd wy JB JC c.obj c.ga c.gh c.base X J (PySem.W.looks_typeIn X ty) ?_ (by rw[beq_eq_false_iff_ne];intro z;cases z;exact ne rfl) (PySem.W.looks_subIn X sb) (h _)
  unfold jQ lL at cl
  split at cl
  ·rename_i ho
   intro A' Q' E' s' k q
   unfold isType loadHead
   exact wpAny_bind (wpAny_loadPart (k _ _ (X _ _ ho)) (wpAny_pure q))
  ·cases cl
theorem M9:typeOf (.type "ValueError")=pure (.type "type"):=by kernel_rfl
theorem JE{dep:Int}{tk:Tok}{Q:PySem.Fin->Shared->Prop}(X:K.In s.heap)(J:PySem.W.InstAt s.heap x ox C (some od))(c:ur K C)(h:∀t,Q (.done (.ret (.bool true))) {s with toks:=t}) :
  wpAny (model prog w) A (Builtin.«isinstance.nested» ⟨[.ref x,.type "ValueError",.int dep tk],[]⟩) Q E s:=by
 have L0:=J.type (M:=model prog w)
 have L3:PySem.W.Looks (model prog w) s.heap (isInstance (.ref x) (.type "ValueError")) true:=L0.andThen (PySem.W.looks_mroIn X (by
  obtain⟨cd,B,e,m,_⟩:=c.cls
  unfold cV
  rw[e,fc,m];rfl))
 obtain⟨hh,g,d,t,os⟩:=s
 unfold Builtin.«isinstance.nested»
 refine wpAny_bind (L0.at ?_)
 rw[if_neg (λq=>by cases beq_iff_eq.mp q),M9]
 refine wpAny_bind (wpAny_pure ?_)
 rw[if_pos (by decide)]
 k_delta "plainIsInstance"
 refine wpAny_bind (wpAny_bind (wpAny_pure ?_))
 simp only[Bool.not_true,Bool.false_eq_true,if_false]
 refine wpAny_bind (L3.at ?_)
 simp only[if_true]
 exact wpAny_pure (wpAny_pure (h t))
theorem Ha{tp:Addr}{ot:Obj}{D1 D2:Addr}{n:Nat}{tk:Tok}{b1 b2:Bool}{Q:PySem.Fin->Shared->Prop}(X:K.In s.heap)(J:PySem.W.InstAt s.heap x ox C (some od))(c:ur K C)(wy:Hr K C)(i1:vB K C D1 b1)(i2:vB K C D2 b2)(ne:C≠tp)
  (ht:s.heap.get? tp=some ot) (hc:ot.cls=.type "tuple") (hd:ot.data=.seq #[.ref D1,.ref D2] n) (h:∀t,Q (.done (.ret (.bool (b1 || b2)))) {s with toks:=t}) :
  wpAny (model prog w) A (Builtin.«isinstance.nested» ⟨[.ref x,.ref tp,.int 0 tk],[]⟩) Q E s:=by
 have L0:=J.type (M:=model prog w)
 have an:∀{D b},vB K C D b->Answers (λs=>K.In s.heap/\PySem.W.InstAt s.heap x ox C (some od)) (.ref x) (.ref D) b:=λ{D b} i dep tk=>λ_ _ _ _ s hs=>Aw hs.1.1 hs.1.2 c wy i hs.2
 obtain⟨hh,g,d,t,os⟩:=s
 have hT2:(⟨hh,g,d,t,os⟩:Shared).TypeIs (.ref tp) "tuple":=⟨_,ht,hc⟩
 have f1:=F.isi_sub_tuple
 unfold Builtin.«isinstance.nested»
 refine wpAny_bind (L0.at ?_)
 rw[if_neg (λq=>by cases beq_iff_eq.mp q;exact ne rfl)]
 repeat (any_goals (first|assumption|wp_step))
 rw[hd]
 refine wpAny_pure (wpAny_bind ?_)
 show wpAny _ _ (forIn (#[Value.ref D1,Value.ref D2]:Array Value) _ _) _ _ _
 rw[<-Array.forIn_toList]
 refine isinstance_items (P:=λs=>K.In s.heap/\PySem.W.InstAt s.heap x ox C (some od)) (dep:=0) (λs tk h=>h) [.ref D1,.ref D2] [b1,b2] _ _ ⟨an i1,an i2,True.intro⟩ ⟨X,J⟩ λtk'=>?_
 have e:[b1,b2].any id=(b1 || b2):=by simp
 have h':=h tk'
 rw[<-e] at h'
 cases hv:[b1,b2].any id with
 |true=>
  simp only[if_true]
  rw[hv] at h'
  repeat (any_goals (first|assumption|wp_step))
 |false=>
  simp only[Bool.false_eq_true,if_false]
  rw[hv] at h'
  repeat (any_goals (first|assumption|wp_step))
end
section
variable{prog:Program}{w:World}{A:Around}{R:Result->Shared->Prop}{s:Shared}
theorem xQ{elt target iter:Expr}{ifs:List Expr}{scope:Scope}{pos:Pos}{it acc:Value}{env:Env}(I:Nat->Shared->Prop)
  (turn:∀n s,I n s->wpAny (model prog w) A (pyNext it) (λr s₁=>match r with
   |none=>R (.ok .next) s₁
   |some v=>wpAny (model prog w) A (letOwnedTupleGo target it v) (λ_ s₁=>wpAny (model prog w) A (assign target env v) (λ_ s₂=>
     wpAny (model prog w) A (forIn ifs true λc r=>if r=true then do let ok <-isTrue c env (eval c env);pure (ForInStep.yield ok) else pure (ForInStep.yield r)) (λok s₃=>
      if ok=true then wpAny (model prog w) A (eval elt env) (λx s₄=>
       wpAny (model prog w) A (call (.builtin "list.append") [acc,x]) (λ_ s₅=>∃m,m<n/\I m s₅) (λ_ _=>False) s₄) (λ_ _=>False) s₃
      else ∃m,m<n/\I m s₃) (λ_ _=>False) s₂) (λ_ _=>False) s₁) (λ_ _=>False) s₁) (λ_ _=>False) s)
  (n:Nat) (h:I n s) :
  codeAny (model prog w) A (.compLoop (.ListComp elt [⟨target,iter,ifs,0⟩] scope pos) 0 it acc env) R s:=by
 refine codeAny_loop rfl I (λn s hI=>?_) n h
 show wpAny _ A ((compTurn (.ListComp elt [⟨target,iter,ifs,0⟩] scope pos) 0 it acc env).onRaise (λx=>do noteFrame x env;theTreesLotGoes x)) _ _ s
 refine wpAny_noted ?_
 rw[compTurn_list]
 refine wpAny_bind (wpAny_standAt (wpAny_bind (wpAny_mono (turn n s hI) (λr s₁ h₁=>?_) λ_ _ h'=>h'.elim)))
 cases r with
 |none=>exact wpAny_pure h₁
 |some v=>
  refine wpAny_bind (wpAny_mono h₁ (λ_ s₁' h₁'=>?_) λ_ _ h'=>h'.elim)
  refine wpAny_bind (wpAny_mono h₁' (λ_ s₂ h₂=>wpAny_bind (wpAny_mono h₂ (λok s₃ h₃=>?_) λ_ _ h'=>h'.elim)) λ_ _ h'=>h'.elim)
  cases ok with
  |false=>exact wpAny_pure ⟨rfl,h₃⟩
  |true=>
   exact wpAny_bind (wpAny_bind (wpAny_mono h₃ (λx s₄ h₄=>wpAny_bind (wpAny_mono h₄ (λ_ s₅ h₅=>wpAny_pure (wpAny_pure ⟨rfl,h₅⟩)) λ_ _ h'=>h'.elim)) λ_ _ h'=>h'.elim))
end
theorem pH{env:Env}{f:Str×NameKind->List (Str×Addr)->Sem (ForInStep (List (Str×Addr)))}
  (hf:∀n k cs,f (n,k) cs=if(k==NameKind.free)=true then(do let c <-cellOf env n;pure (.yield ((n,c)::cs))) else pure (.yield cs)) :
  ∀(names:List (Str×NameKind)) (cs:List (Str×Addr)),(∀x∈names,x.2=NameKind.free->∃c,env.cells.lookup x.1=some c)->(∀n c,cs.lookup n=some c->env.cells.lookup n=some c)->
   ∃cl,(forIn names cs f:Sem (List (Str×Addr)))=pure cl/\(∀n c,cl.lookup n=some c->env.cells.lookup n=some c)/\(∀n,(cs.lookup n).isSome=true->(cl.lookup n).isSome=true)/\∀x∈names,x.2=NameKind.free->(cl.lookup x.1).isSome=true
 |[],cs,_,h2=>⟨cs,rfl,h2,λ_ h=>h,λ_ h=>nomatch h⟩
 |(n,k)::r,cs,h1,h2=>by
  have h1r:∀x∈r,x.2=NameKind.free->∃c,env.cells.lookup x.1=some c:=λx hx=>h1 x (cP _ hx)
  rw[List.forIn_cons,hf]
  by_cases hk:k=NameKind.free
  ·subst hk
   obtain⟨c,hc⟩:=h1 (n,NameKind.free) cG rfl
   have h2':∀m d,((n,c)::cs).lookup m=some d->env.cells.lookup m=some d:=λm d hd=>by
    rw[e9] at hd
    cases e:(m==n) with
    |true=>
     rw[e] at hd
     have:m=n:=by simpa using e
     rw[this];cases hd;exact hc
    |false=>rw[e] at hd;exact h2 m d hd
   obtain⟨cl,e1,e2,e3,e4⟩:=pH hf r ((n,c)::cs) h1r h2'
   refine⟨cl,?_,e2,λm hm=>e3 m ?_,λx hx hk=>?_⟩
   ·rw[<-e1]
    have ec:cellOf env n=pure c:=by unfold cellOf;rw[hc]
    rw[ec]
    rfl
   ·rw[e9]
    cases e:(m==n) with
    |true=>rfl
    |false=>exact hm
   ·rcases aU.mp hx with rfl|hx
    ·exact e3 n (by rw[e9,beq_self_eq_true];rfl)
    ·exact e4 x hx hk
  ·have hb:(k==NameKind.free)=false:=by simpa using hk
   obtain⟨cl,e1,e2,e3,e4⟩:=pH hf r cs h1r h2
   refine⟨cl,?_,e2,e3,λx hx hk'=>?_⟩
   ·rw[<-e1,hb]
    rfl
   ·rcases aU.mp hx with rfl|hx
    ·exact absurd hk' hk
    ·exact e4 x hx hk'
theorem uv{scope:Scope}{env:Env}(h1:∀x∈scope.names,x.2=NameKind.free->∃c,env.cells.lookup x.1=some c) :
  ∃cl,closureFor scope env=pure cl/\(∀n c,cl.lookup n=some c->env.cells.lookup n=some c)/\∀x∈scope.names,x.2=NameKind.free->(cl.lookup x.1).isSome=true:=by
 obtain⟨cl,e1,e2,_,e4⟩:=pH (env:=env) (f:=λ(x:Str×NameKind) cs=>if(x.2==NameKind.free)=true then(do let c <-cellOf env x.1;pure (.yield ((x.1,c)::cs))) else pure (.yield cs)) (λ_ _ _=>rfl) scope.names [] h1 (λ_ _ h=>nomatch h)
 refine⟨cl,Eq.trans (show closureFor scope env=((forIn scope.names ([]:List (Str×Addr)) λ(x:Str×NameKind) cs=>if(x.2==NameKind.free)=true then(do let c <-cellOf env x.1;pure (.yield ((x.1,c)::cs))) else pure (.yield cs)) >>= λcs=>pure cs) from rfl) ?_,e2,e4⟩
 rw[e1]
 all_goals rfl
theorem i5{env:Env}{x:Str}:∀(names:List (Str×NameKind)),
  (names.map λ(n,k)=>if(k==NameKind.free&&env.scope.kind==.function&&env.kindOf n==some .cell) then(n,NameKind.cell) else(n,k)).lookup x =
   (names.lookup x).map λk=>if(k==NameKind.free&&env.scope.kind==.function&&env.kindOf x==some .cell) then NameKind.cell else k
 |[]=>rfl
 |(n,k)::r=>by
  have ih:=i5 (env:=env) (x:=x) r
  show gL x ((if(k==NameKind.free&&env.scope.kind==.function&&env.kindOf n==some .cell)=true then(n,NameKind.cell) else(n,k))::_)=_
  cases hx:x==n with
  |true=>
   have e:x=n:=by simpa using hx
   subst e
   by_cases hc:(k==NameKind.free&&env.scope.kind==.function&&env.kindOf x==some .cell)=true
   ·rw[if_pos hc];simp only[e9,hx,cT,if_pos hc]
   ·rw[if_neg hc];simp only[e9,hx,cT,if_neg hc]
  |false=>
   by_cases hc:(k==NameKind.free&&env.scope.kind==.function&&env.kindOf n==some .cell)=true
   ·rw[if_pos hc];simp only[e9,hx];exact ih
   ·rw[if_neg hc];simp only[e9,hx];exact ih
theorem Gx{scope:Scope}{env:Env}{x:Str}(hcell:∀y∈scope.names,y.2≠NameKind.cell)(h:(relabel scope env).names.lookup x=some .cell\/(relabel scope env).names.lookup x=some .free):scope.names.lookup x=some .free:=by
 have e:(relabel scope env).names.lookup x=_:=i5 (env:=env) (x:=x) scope.names
 rw[e] at h
 cases q:scope.names.lookup x with
 |none=>rw[q] at h;rcases h with h|h<;>cases h
 |some k=>
  rw[q] at h
  by_cases hk:k=NameKind.free
  ·rw[hk]
  ·have hb:(k==NameKind.free)=false:=by simpa using hk
   simp only[cT,hb,Bool.false_and,Bool.false_eq_true,if_false] at h
   rcases h with h|h
   ·cases h;exact absurd rfl (hcell _ (cW q))
   ·exact h
theorem Jq{scope:Scope}{env:Env}{x:Str}(h:(relabel scope env).names.lookup x≠none):scope.names.lookup x≠none:=by
 have e:(relabel scope env).names.lookup x=_:=i5 (env:=env) (x:=x) scope.names
 intro q
 rw[e,q] at h
 exact h rfl
structure ue(sc:Scope)(N:List Str)(scope:Scope)(NY:List Str)(js:List Nat):Prop where
 kind:scope.kind=.function
 cell:∀y∈scope.names,y.2≠NameKind.cell
 names:∀x∈scope.names,x.2=NameKind.local->scope.names.lookup x.1=some .local
 free:∀x∈scope.names,x.2=NameKind.free->sc.names.lookup x.1=some .cell\/sc.names.lookup x.1=some .free
 pre:NY.take N.length=N
 cap:∀p∈N.zipIdx,js.contains p.2=true\/scope.names.lookup p.1=none\/scope.names.lookup p.1=some .free
def Cm(js:List Nat)(k:Nat)(σ:St):St:=js.foldl (λs j=>s.set j none) σ++bD k none
theorem oO:∀(js:List Nat) (σ:St),(js.foldl (λs j=>s.set j none) σ).length=σ.length
 |[],_=>rfl
 |j::r,σ=>by rw[ny,oO r,eL]
theorem wk:∀(js:List Nat) (σ:St) (i:Nat) (v:V),(js.foldl (λs j=>s.set j none) σ)[i]?=some (some v)->σ[i]?=some (some v)/\js.contains i=false
 |[],σ,i,v,h=>⟨h,rfl⟩
 |j::r,σ,i,v,h=>by
  rw[ny] at h
  obtain⟨h1,h2⟩:=wk r _ i v h
  by_cases e:j=i
  ·subst e
   by_cases hj:j<σ.length
   ·rw[bp hj] at h1;cases h1
   ·rw[dy (by rw[eL];lia)] at h1;cases h1
  ·rw[bM e] at h1
   refine⟨h1,?_⟩
   rw[gi,h2]
   have:(i==j)=false:=by simpa using λz=>e z.symm
   rw[this];rfl
theorem HH{js:List Nat}{k:Nat}{σ:St}{i:Nat}{v:V}(h:(Cm js k σ)[i]?=some (some v)):σ[i]?=some (some v)/\js.contains i=false:=by
 unfold Cm at h
 by_cases hi:i<σ.length
 ·rw[cq (by rw[oO];exact hi)] at h
  exact wk js σ i v h
 ·rw[bJ (by rw[oO];lia),iS] at h
  split at h<;>cases h
theorem HI{js:List Nat}{k:Nat}{σ:St}:(Cm js k σ).length=σ.length+k:=by
 unfold Cm
 rw[aG,oO,cv]
def eU(X:Cx)(NY:List Str)(scope:Scope)(cl:List (Str×Addr))(C:Addr)(s₀:Shared)(H₀:Hp)(fp:List Addr):Cx:=
 {X with N:=NY,s₀:=s₀,H₀:=H₀,env:=compEnvC scope cl C X.env,outer:=X.stack,ex:=fp,fn:=λ_=>false,pn:=[],xe:=λ_ _=>False}
def C6(X:Cx)(ifs:List Expr)(t:TT):Prop:=
 ∀(pins:List (Addr×Obj)) (s:Shared) (σ:St) (H:Hp) (Q:Bool->Hp->Prop),bP X pins σ H s->t σ H Q->
  wpAny (model X.prog X.w) X.A (forIn ifs true λc r=>if r=true then do let ok <-isTrue c X.env (eval c X.env);pure (ForInStep.yield ok) else pure (ForInStep.yield r)) (TP X pins σ Q) X.xe s
def qA:TT:=λ_ H Q=>Q true H
theorem IJ{X:Cx}:C6 X [] qA:=λ_ _ _ H _ I h=>wpAny_tests_nil ⟨H,I,h⟩
theorem IK{X:Cx}{c:Expr}{t:TT}(h:PT X c t):C6 X [c] t:=λpins s σ H Q I q=>wpAny_tests_one (h pins s σ H Q I q)
def tJ(D:Addr)(tc:TT)(te:TE):TS:=λE σ H=>tc σ H λb H1=>if b=true then te σ H1 λy H2=>∃ys,H2 D=some (.lst ys)/\ys.length<sizeLine/\E.nx σ (upd H2 D (.lst (ys++[y]))) else E.nx σ H1
def jO(js:List Nat)(k:Nat)(wi:TI)(g:TG)(tc:TT)(te:TE):TE:=λσ H Q=>wi σ H λJ H1=>∀D,H1 D=none->
 ∃W:Nat->Nat->St->Hp->Prop,(∃m,W 0 m (Cm js k σ) (upd H1 D (.lst [])))/\∀i m σ H,W i m σ H->
  (J.stop i H/\Q (.ref D) H)\/(J.go i H/\∃N:St->Hp->Prop,(∀σ' H',N σ' H'->∃m',m'<m/\W (i+1) m' σ' H')/\∀x H',J.yld i H x H'->g x σ H' λσ2 H2=>tJ D tc te {nx:=N,rt:=λ_ _=>False,ct:=N,bk:=λ_ H'=>Q (.ref D) H'} σ2 H2)
section
variable{X:Cx}{pins:List (Addr×Obj)}{σ:St}{H2:Hp}{s₂:Shared}{N NY:List Str}{sc scope:Scope}{cl:List (Str×Addr)}{C:Addr}{fp:List Addr}{js:List Nat}{k:Nat}
theorem Hx(I2:bP X pins σ H2 s₂)(hf:∀b∈fp,pT X pins H2 b)(hfl:∀b∈fp,∃o,s₂.heap.get? b=some o)(hkind:scope.kind=.function)(hcell:∀y∈scope.names,y.2≠NameKind.cell)
  (hcl1:∀n c,cl.lookup n=some c->X.env.cells.lookup n=some c) (hcl2:∀x∈scope.names,x.2=NameKind.free->(cl.lookup x.1).isSome=true) (hC:s₂.heap.objs.size<=C) :
  (eU X NY scope cl C s₂ H2 fp).Ok where
 mod:=I2.ok.mod
 kind:=hkind
 glob:=I2.ok.glob
 blt:=I2.ok.blt
 above:=hC
 inj:=λx y c h1 h2=>I2.ok.inj x y c (hcl1 x c h1) (hcl1 y c h2)
 has:=λx hx=>by
  have e:scope.names.lookup x=some .free:=Gx (env:=X.env) hcell hx
  exact iq.mp (hcl2 (x,.free) (cW e) rfl)
 cab:=λ_ _ h _=>nomatch h
 hd:=I2.ok.hd
 frames:=I2.ok.frames
 stk:=.inl rfl
 exf:=λb hb=>by
  obtain⟨o,ho⟩:=hfl b hb
  exact⟨bh (aV (aJ ho) hC),λx c h=>(hf b hb).2.2.2.2.1 x c (hcl1 x c h)⟩
 bs:=I2.bs
 bsz:=ck I2.ok.bsz I2.sz
 noex:=λb o e hb=>by
  rcases(hf b hb).2.2.2.1 with z|z
  ·exact I2.ok.noex b o e z
  ·exact absurd (aV (aJ e) (ck I2.ok.bsz z)) (cI _)
 exfs:=λb hb z=>by
  rcases aU.mp (I2.stkSub b z) with e|e
  ·exact(hf b hb).2.1 e
  ·exact(hf b hb).2.2.1 e
 funs:=I2.stack
 frf:=I2.stkFree
variable{elt iter target:Expr}{ifs:List Expr}{pos:Pos}{it:Addr}{tn:Nat->Heap->Prop}{J:It}{g:TG}{tc:TT}{te:TE}{Q:VK}{RR:Value->Addr->Result->Shared->Prop}{E:Value->Shared->Prop}
theorem uw(ok:ue sc N scope NY js)(hsc:X.env.scope=sc)(hN:X.N=N)(hk:NY.length=N.length+k)(hc:X.calm=true)(I2:bP X pins σ H2 s₂)(T:yL X.prog X.w X.K target J fp it tn)(st2:tn 0 s₂.heap)(f2:∀b∈fp,pT X pins H2 b)
  (hcl1:∀n c,cl.lookup n=some c->X.env.cells.lookup n=some c) (hcl2:∀x∈scope.names,x.2=NameKind.free->(cl.lookup x.1).isSome=true)
  (hg:∀cl C s₀ H₀ fp,PG (eU X NY scope cl C s₀ H₀ fp) target g) (hi:∀cl C s₀ H₀ fp,C6 (eU X NY scope cl C s₀ H₀ fp) ifs tc) (he:∀cl C s₀ H₀ fp,PE (eU X NY scope cl C s₀ H₀ fp) elt te)
  (loop:∀D,H2 D=none->
   ∃W:Nat->Nat->St->Hp->Prop,(∃m,W 0 m (Cm js k σ) (upd H2 D (.lst [])))/\∀i m σ H,W i m σ H->
    (J.stop i H/\Q (.ref D) H)\/(J.go i H/\∃N:St->Hp->Prop,(∀σ' H',N σ' H'->∃m',m'<m/\W (i+1) m' σ' H')/\∀x H',J.yld i H x H'->g x σ H' λσ2 H2=>tJ D tc te {nx:=N,rt:=λ_ _=>False,ct:=N,bk:=λ_ H'=>Q (.ref D) H'} σ2 H2))
  (hRR:∀D C H' s' m,s'.heap.Ns C m->bP X pins σ H' s'->H' C=none->C≠X.env.locals->X.s₀.heap.objs.size<=C->(∀x c,X.env.cells.lookup x=some c->c≠C)->(∀p∈X.pn++pins,p.1≠C)->D≠C->Q (.ref D) H'->RR (.ref D) C (.ok .next) s') :
  wpAny (model X.prog X.w) X.A (newList []) (λacc s₃=>wpAny (model X.prog X.w) X.A (newFunctionEnv scope X.env.globals cl [] X.env.qual none .none (some X.env)) (λcenv s₄=>
   codeAny (model X.prog X.w) X.A (.compStart (.ListComp elt [⟨target,iter,ifs,0⟩] scope pos) 0 (.ref it) acc {cenv with scope:=relabel scope X.env}) (RR acc cenv.locals) s₄) E s₃) E s₂:=by
 refine wpAny_newObj_type (wpAny_newFunctionEnv ok.cell (by intro y hy;simp at hy) (λh₁ hns₁ hsb₁=>?_) ok.kind)
 dsimp only at hns₁ hsb₁ ⊢
 generalize hG:s₂.heap.push {cls:=.type "list",dict:=none,data:=.seq ([]:List Value).toArray}=G at hns₁ hsb₁ ⊢
 have hC:G.objs.size=s₂.heap.objs.size+1:=by rw[<-hG,dz]
 have hDC:s₂.heap.objs.size≠G.objs.size:=by rw[hC];exact bh (lX _)
 have hCle:s₂.heap.objs.size<=G.objs.size:=by rw[hC];exact lj _
 have below:∀b,b<s₂.heap.objs.size->b≠G.objs.size:=λb hb=>by rw[hC];exact bh (fA hb)
 have old:∀b o,s₂.heap.get? b=some o->h₁.get? b=some o:=λb o e=>hsb₁.extBut b o (below b (aJ e)) (az _ (hG ▸ az _ e))
 have hacc:h₁.get? s₂.heap.objs.size=some {cls:=.type "list",dict:=none,data:=.seq ([]:List Value).toArray}:=hsb₁.extBut _ _ hDC (az _ (hG ▸ aW _ rfl))
 have hfl:∀b∈fp,∃o,s₂.heap.get? b=some o:=λb hb=>let⟨o,ho,_⟩:=T.obj 0 _ st2 b hb;⟨o,ho⟩
 have fD:H2 s₂.heap.objs.size=none:=I2.hok.fresh (aC _)
 have fC:H2 G.objs.size=none:=I2.hok.fresh hCle
 have I4:bP (eU X NY scope cl G.objs.size s₂ H2 fp) [] (Cm js k σ) (upd H2 s₂.heap.objs.size (.lst [])) {s₂ with heap:=h₁,toks:=s₂.toks+([]:List (Str×Value)).length}:=by
  refine⟨Hx I2 f2 hfl ok.kind ok.cell hcl1 hcl2 hCle,rfl,I2.bare,Un.laid old (aC _) fD,⟨_,hns₁,λi y v h1 h2 h3=>?_⟩,λx c h=>?_,?_,λx c h=>?_,λp hp=>absurd (show p∈([]:List (Addr×Obj)) from hp) (by simp),I2.hok.laid old (aC _) ⟨dh _,[],0,.nil,hacc⟩,?_⟩
  ·obtain⟨e1,e2⟩:=HH h2
   have hi:i<N.length:=by
    have:=(aj.mp e1).1
    rw[I2.len,hN] at this;exact this
   have hy:N[i]?=some y:=by
    rw[<-ok.pre,fJ hi];exact h1
   have hz:(y,i)∈N.zipIdx:=by
    rw[List.mem_zipIdx_iff_getElem?];exact hy
   have nn:scope.names.lookup y≠none:=Jq (env:=X.env) (x:=y) (by
    rcases h3 with z|z|z
    ·intro q;rw[show(relabel scope X.env).names.lookup y=_ from z] at q;cases q
    ·intro q;rw[show(relabel scope X.env).names.lookup y=_ from z] at q;cases q
    ·intro q;rw[show(relabel scope X.env).names.lookup y=_ from z] at q;cases q)
   have hfr:scope.names.lookup y=some .free:=by
    rcases ok.cap (y,i) hz with z|z|z
    ·rw[e2] at z;cases z
    ·exact absurd z nn
    ·exact z
   have hX:=ok.free (y,.free) (cW hfr) rfl
   rw[<-hsc] at hX
   obtain⟨m,hn,hl⟩:=I2.loc
   obtain⟨u,ru,lk⟩:=hl i y v (by rw[hN];exact hy) e1 (by
    rcases hX with z|z
    ·exact .inr (.inl z)
    ·exact .inr (.inr z))
   refine⟨u,ru,?_⟩
   rcases lk with⟨lk,_⟩|⟨_,c,hc1,hc2⟩
   ·have lk:X.env.scope.names.lookup y=some .local:=lk
    rcases hX with z|z<;>· rw[z] at lk;cases lk
   ·have hs:=hcl2 (y,.free) (cW hfr) rfl
    obtain⟨c',hc'⟩:=iq.mp hs
    have e3:=hcl1 y c' hc'
    rw[hc1] at e3;cases e3
    refine .inr ⟨?_,c,hc',hc2.keeps old⟩
    show(relabel scope X.env).names.lookup y=some .cell\/(relabel scope X.env).names.lookup y=some .free
    have e:(relabel scope X.env).names.lookup y=_:=i5 (env:=X.env) (x:=y) scope.names
    rw[e,hfr,cT]
    split
    ·exact .inl rfl
    ·exact .inr rfl
  ·obtain⟨v,q⟩:=I2.cell x c (hcl1 x c h)
   exact⟨v,q.keeps old⟩
  ·show upd H2 s₂.heap.objs.size (.lst []) G.objs.size=none
   rw[aA (Ne.symm hDC)];exact fC
  ·have q:=I2.freeC x c (hcl1 x c h)
   obtain⟨v,o,ho,_⟩:=I2.cell x c (hcl1 x c h)
   show upd H2 s₂.heap.objs.size (.lst []) c=none
   rw[aA (bh (aJ ho))];exact q
  ·show(Cm js k σ).length=NY.length
   rw[HI,I2.len,hN,hk]
 have st4:tn 0 h₁:=T.keep _ _ _ st2 λb _ o e=>old b o e
 obtain⟨W,⟨m0,w0⟩,turn⟩:=loop s₂.heap.objs.size fD
 have stat:∀{H':Hp},(∀b∈fp,H' b=none)->∀b∈fp,pT (eU X NY scope cl G.objs.size s₂ H2 fp) [] H' b:=λhn b hb=>by
  obtain⟨o,ho⟩:=hfl b hb
  refine⟨hn b hb,below b (aJ ho),λz=>?_,.inl hb,λx c h=>(f2 b hb).2.2.2.2.1 x c (hcl1 x c h),λp hp=>absurd (show p∈([]:List (Addr×Obj)) from hp) (by simp)⟩
  rcases aU.mp (I2.stkSub b z) with e|e
  ·exact(f2 b hb).2.1 e
  ·exact(f2 b hb).2.2.1 e
 have go:∀s₄:Shared,s₄={s₂ with heap:=h₁,toks:=s₂.toks+([]:List (Str×Value)).length}->
   codeAny (model X.prog X.w) X.A (.compLoop (.ListComp elt [⟨target,iter,ifs,0⟩] scope pos) 0 (.ref it) (.ref s₂.heap.objs.size) (compEnvC scope cl G.objs.size X.env)) (RR (.ref s₂.heap.objs.size) G.objs.size) s₄:=by
  rintro s₄ rfl
  refine xQ (λn s'=>∃i σ' H',bP (eU X NY scope cl G.objs.size s₂ H2 fp) [] σ' H' s'/\tn i s'.heap/\(∀b∈fp,H' b=none)/\W i n σ' H') ?_ m0
   ⟨0,_,_,I4,st4,λb hb=>by
    obtain⟨o,ho⟩:=hfl b hb
    rw[aA (bh (aJ ho))];exact(f2 b hb).1,w0⟩
  rintro n s3 ⟨i,σ3,H3,I3,st3,fr3,w3⟩
  rcases turn i n σ3 H3 w3 with⟨stop,qn⟩|⟨go,Nx,hNx,step⟩
  ·refine gg (T.done (eU X NY scope cl G.objs.size s₂ H2 fp) rfl rfl rfl hc i [] s3 σ3 H3 _ I3 (stat fr3) st3 stop) λr s5 ⟨hr,I5⟩=>?_
   subst hr
   have IX:bP X pins σ H3 s5:=I2.call' (ch:=fp) I5.os I5.base I5.hok I5.bare λb hb=>⟨(f2 b hb).2.2.2.1,(f2 b hb).2.1,(f2 b hb).2.2.2.2.1,(f2 b hb).2.2.2.2.2⟩
   obtain⟨m,hm,_⟩:=I5.loc
   refine hRR _ _ H3 s5 m hm IX I5.free (λz=>?_) (ck I2.sz hCle) (λx c h z=>?_) (λp hp z=>?_) hDC qn
   ·have:=I2.lt;rw[<-z] at this;exact cI _ (aV this hCle)
   ·obtain⟨v,o,ho,_⟩:=I2.cell x c h
    have:=aJ ho;rw[z] at this;exact cI _ (aV this hCle)
   ·have:=aJ (I2.pin p hp).1;rw[z] at this;exact cI _ (aV this hCle)
  ·refine gg (T.item (eU X NY scope cl G.objs.size s₂ H2 fp) rfl rfl rfl hc i [] s3 σ3 H3 _ I3 (stat fr3) st3 go) λr s5 ⟨u,hr,h5⟩=>?_
   subst hr
   refine gg h5 λ_ s6 ⟨x,H6,I6,r6,y6,st6,fr6⟩=>?_
   have I6':=I6.pinned (stat fr6) (T.obj _ _ st6)
   have again:∀{σ7:St} {H7:Hp} {s7:Shared},bP (eU X NY scope cl G.objs.size s₂ H2 fp) ([]++uO fp s6.heap) σ7 H7 s7->Nx σ7 H7->∃m,m<n/\∃i σ' H',bP (eU X NY scope cl G.objs.size s₂ H2 fp) [] σ' H' s7/\tn i s7.heap/\(∀b∈fp,H' b=none)/\W i m σ' H':=λ{σ7 H7 s7} I7 n7=>by
    obtain⟨m',hm,w7⟩:=hNx σ7 H7 n7
    refine⟨m',hm,i+1,σ7,H7,I7.unpinned,T.keep _ _ _ st6 λb hb o e=>(I7.pin (b,o) (bB _ (bB _ (mU hb e)))).1,λb hb=>?_,w7⟩
    obtain⟨o,e,d⟩:=T.obj _ _ st6 b hb
    exact(I7.pin (b,o) (bB _ (bB _ (mU hb e)))).2.1
   refine gg (hg cl G.objs.size s₂ H2 fp _ s6 σ3 H6 x u _ I6' r6 (step x H6 y6)) λ_ s7 ⟨σ7,H7,I7,q7⟩=>?_
   refine gg (hi cl G.objs.size s₂ H2 fp _ s7 σ7 H7 _ I7 q7) λok s8 ⟨H8,I8,q8⟩=>?_
   cases ok with
   |false=>
    rw[if_neg Bool.false_ne_true] at q8 ⊢
    exact again I8 q8
   |true=>
    rw[if_pos rfl] at q8 ⊢
    refine gg (he cl G.objs.size s₂ H2 fp _ s8 σ7 H8 _ I8 q8) λy s9 ⟨z,H9,I9,r9,ys,hD,hz,n9⟩=>?_
    refine gg (fX (X:=eU X NY scope cl G.objs.size s₂ H2 fp) _ s9 σ7 H9 (.ref s₂.heap.objs.size) [z] (.ref s₂.heap.objs.size) [y] (λ_ H'=>H'=upd H9 s₂.heap.objs.size (.lst (ys++[z]))) I9 rfl (.cons r9 .nil) ⟨_,ys,z,rfl,rfl,hD,hz,rfl⟩) λ_ s10 ⟨_,H10,I10,_,q10⟩=>?_
    subst q10
    exact again I10 n9
 exact codeAny_compStart_list (go _ rfl) (T.self _ 0 _ _ _ st4 (go _ rfl))
theorem IA{wi:TI}(ok:ue sc N scope NY js)(hsc:X.env.scope=sc)(hN:X.N=N)(hk:NY.length=N.length+k)(hc:X.calm=true)(hit:PI X target iter wi)
  (hg:∀cl C s₀ H₀ fp,PG (eU X NY scope cl C s₀ H₀ fp) target g) (hi:∀cl C s₀ H₀ fp,C6 (eU X NY scope cl C s₀ H₀ fp) ifs tc) (he:∀cl C s₀ H₀ fp,PE (eU X NY scope cl C s₀ H₀ fp) elt te)
  (hs:∀x,foldedSetIterable iter X.env x=pure x:=by intro _;rfl):PE X (.ListComp elt [⟨target,iter,ifs,0⟩] scope pos) (jO js k wi g tc te):=by
 intro pins s σ H Q I h
 obtain⟨cl,hclos,hcl1,hcl2⟩:=uv (scope:=scope) (env:=X.env) λx hx hf=>I.ok.has x.1 (by
  have:=ok.free x hx hf
  rw[<-hsc] at this
  exact this)
 rw[eval_ListComp]
 refine wpAny_comprehension_free (use:=none) rfl hs hclos ok.kind ok.names (gg (hit pins s σ H _ I h) λxv s₁ h₁=>gg h₁ λitv s₂ h₂=>?_)
 obtain⟨it,fp,tn,J,H2,rfl,I2,T,st2,f2,loop⟩:=h₂
 refine uw (RR:=λacc C=>compPost (model X.prog X.w) X.A X.xe none (EP X pins σ Q) acc C) (Q:=Q) ok hsc hN hk hc I2 T st2 f2 hcl1 hcl2 hg hi he loop ?_
 intro D C H' s' m hm IX fC c1 c2 c3 c4 _ q
 exact⟨m,hm,λh' hs'=>⟨.ref D,H',IX.turned (t':=s'.toks) (λb o hb e=>(hs'.2 b hb).trans e) fC c1 (.inr c2) c3 c4,rfl,q⟩⟩
theorem IR{wi:TI}{i:Nat}{y:Str}{py spos:Pos}(ok:ue sc N scope NY js)(hsc:X.env.scope=sc)(hN:X.N=N)(hk:NY.length=N.length+k)(hc:X.calm=true)(hit:PI X target iter wi)
  (hg:∀cl C s₀ H₀ fp,PG (eU X NY scope cl C s₀ H₀ fp) target g) (hi:∀cl C s₀ H₀ fp,C6 (eU X NY scope cl C s₀ H₀ fp) ifs tc) (he:∀cl C s₀ H₀ fp,PE (eU X NY scope cl C s₀ H₀ fp) elt te)
  (nd:X.N.Nodup) (hy:X.N[i]?=some y) (hl:JK X.env.scope y) (hsw:swapsWith (.ListComp elt [⟨target,iter,ifs,0⟩] scope pos) (some (.Name y py)) spos.line X.env=pure true)
  (hs:∀x,foldedSetIterable iter X.env x=pure x:=by intro _;rfl) (hf:X.fn y=true\/X.env.scope.names.lookup y=some .local:=by first|exact .inl rfl|exact .inr rfl|assumption) :
  PS X (.Assign [.Name y py] (.ListComp elt [⟨target,iter,ifs,0⟩] scope pos) spos) (bV (jO js k wi g tc te) (aP i)):=by
 intro pins s σ H D I h
 obtain⟨cl,hclos,hcl1,hcl2⟩:=uv (scope:=scope) (env:=X.env) λx hx hf=>I.ok.has x.1 (by
  have:=ok.free x hx hf
  rw[<-hsc] at this
  exact this)
 rw[exec_Assign_Name_used _ _ _ _ hsw]
 refine wpAny_bind (wpAny_standAt (wpAny_bind ?_))
 show wpAny _ X.A (do let _ <-comprehension (.ListComp elt [⟨target,iter,ifs,0⟩] scope pos) scope X.env _ (newList []) false (eval iter X.env) (some (assign (.Name y py) X.env))) _ _ s
 refine wpAny_bind (wpAny_mono (wpAny_comprehension_free (use:=some (assign (.Name y py) X.env)) (Q:=λ_ s'=>SP X pins D .next s') rfl hs hclos ok.kind ok.names
  (gg (hit pins s σ H _ I h) λxv s₁ h₁=>gg h₁ λitv s₂ h₂=>?_)) (λ_ s' hq=>wpAny_pure (wpAny_pure hq)) λ_ _ e=>e)
 obtain⟨it,fp,tn,J,H2,rfl,I2,T,st2,f2,loop⟩:=h₂
 refine uw (RR:=λacc C=>compPost (model X.prog X.w) X.A X.xe (some (assign (.Name y py) X.env)) (λ_ s'=>SP X pins D .next s') acc C) (Q:=λx H1=>aP i x σ H1 D.nx) ok hsc hN hk hc I2 T st2 f2 hcl1 hcl2 hg hi he loop ?_
 intro Da C H' s' m hm IX fC c1 c2 c3 c4 _ q
 show wpAny _ X.A (assign (.Name y py) X.env (.ref Da)) _ _ _
 refine wpAny_assign_Name (wM IX nd hy hl (v:=.ref Da) rfl (λs2 IY ⟨a,sb,ha⟩=>?_) hf)
 have hne:C≠a:=by
  rcases ha with rfl|ha
  ·exact c1
  ·exact λz=>c3 y a ha z.symm
 exact⟨m,hm.sameBut sb hne,λh' hs'=>⟨_,H',IY.turned (t':=s2.toks) (λb o hb e=>(hs'.2 b hb).trans e) fC c1 (.inr c2) c3 c4,q⟩⟩
end
section
variable{X:Cx}{pins:List (Addr×Obj)}{σ:St}{H:Hp}{s:Shared}{h':Heap}
theorem bP.turnedL{t':Nat}{ch:List Addr}(I:bP X pins σ H s)(k:∀b o,b∉ch->s.heap.get? b=some o->h'.get? b=some o)(hf:∀b∈ch,pT X pins H b) :
  bP X pins σ H {s with heap:=h',toks:=t'}:=by
 have nit:∀b u,H b=some u->b∉ch:=λb u e z=>by rw[(hf b z).1] at e;cases e
 refine I.step (g':=s.gens) (d':=s.drawn) (ch:=ch) (λb hb=>⟨(hf b hb).2.2.2.1,(hf b hb).2.1,(hf b hb).2.2.2.2.1,(hf b hb).2.2.2.2.2⟩) (λb o _ _ hc e _=>k b o hc e) (λb o _ _ hc e _=>⟨o.slots,k b o hc e⟩) (λ_ _ _ _ n=>n)
  (λb o hc e=>⟨o,k b o hc e⟩) (λ_ _ e=>e) (λ_ _ _ e=>e) (λb ps e=>⟨#[],by rw[e];simp⟩) (λm hm=>?_) (λb u e=>?_) I.bare
 ·obtain⟨o,es,ep,ho,r⟩:=hm
  exact⟨o,es,ep,k _ o (λz=>(hf _ z).2.1 rfl) ho,r⟩
 ·refine(I.hok b u e).stay (λc v hc q=>k c v ?_ q) (λ_ q=>q) λ_ _ q=>q
  rcases hc with z|z
  ·rw[z];exact nit b u e
  ·exact nit c _ z
theorem bP.adopt{T:Addr}{o:HO}(I:bP X pins σ H s)(hf:pT X pins H T)(new:eB X.prog X.w (upd H T o) s.heap T o):bP X pins σ (upd H T o) s:=by
 have nT:∀b u,H b=some u->b≠T:=λb u e z=>by rw[z,hf.1] at e;cases e
 refine I.step (h':=s.heap) (H':=upd H T o) (g':=s.gens) (d':=s.drawn) (t':=s.toks) (ch:=[T]) (λb hb=>?_) (λb _ _ _ _ e _=>e) (λb ob _ _ _ e _=>⟨ob.slots,e⟩) (λb ob hb _ n=>?_)
  (λb ob _ e=>⟨ob,e⟩) (λb xs e=>?_) (λb ob u e=>?_) (λb ps e=>⟨#[],?_⟩) (λm hm=>hm) (λb u e=>?_) I.bare
 ·have e:b=T:=by simpa using hb
  subst e
  exact⟨hf.2.2.2.1,hf.2.1,hf.2.2.2.2.1,hf.2.2.2.2.2⟩
 ·rw[aA (λz=>hb (by simp[z]))];exact n
 ·rw[aA (nT b _ e)];exact e
 ·rw[aA (nT b _ e)];exact e
 ·rw[aA (nT b _ e),e];simp
 ·by_cases hb:b=T
  ·subst hb;rw[ag] at e;cases e;exact new
  ·rw[aA hb] at e
   exact(I.hok b u e).stay (λc v _ q=>q) (λc q=>by rw[aA (nT c _ q)];exact q) λc xs q=>by rw[aA (nT c _ q)];exact q
end
def LL(K:Fg)(a:Addr):It:=
 ⟨λi H=>∃xs x,cz K H a xs/\xs[i]?=some x,λi H x H'=>∃p v,H p=none/\x=.ref p/\H'=upd H p (.tup [.int (i:Nat),v])/\∀xs,cz K H a xs->xs[i]?=some v,λi H=>∃xs,cz K H a xs/\xs.length<=i⟩
def LM(K:Fg)(a b:Addr):It:=
 ⟨λi H=>∃xs x ys y,cz K H a xs/\xs[i]?=some x/\cz K H b ys/\ys[i]?=some y,
  λi H x H'=>∃p v u,H p=none/\x=.ref p/\H'=upd H p (.tup [v,u])/\(∀xs,cz K H a xs->xs[i]?=some v)/\∀ys,cz K H b ys->ys[i]?=some u,
  λi H=>∃xs ys,cz K H a xs/\cz K H b ys/\(xs.length<=i\/ys.length<=i)⟩
theorem yD{X:Cx}{H:Hp}{h:Heap}{T:Addr}{x y:V}{u v:Value}{n:Nat}(e:h.get? T=some {cls:=.type "tuple",data:=.seq #[u,v] n})(r1:de x u)(r2:de y v):eB X.prog X.w H h T (.tup [x,y]):=
 ⟨show 2<=sizeLine by decide,[u,v],.cons r1 (.cons r2 .nil),⟨_,e,⟨rfl,rfl⟩,_,rfl⟩⟩
theorem Ih{h:Heap}{it a:Addr}{i:Nat}{l:Addr}{items:Array Value}(p:h.IsList a items)(q:h.IsListIter it l i):a≠it:=by
 intro e;subst e
 obtain⟨o,e1,c1,_⟩:=p
 obtain⟨o',e2,c2,_⟩:=q
 rw[e1] at e2;cases e2;rw[c1] at c2
 injection c2 with c3
 exact absurd c3 (by decide)
theorem Ey{P:Program}{w:World}{K:Fg}{elts:List Expr}{k:Nat}{pos:Pos}(a e it:Addr)(hne:e≠it) :
  yL P w K (.Tuple elts k pos) (LL K a) [e,it] e (λi h=>(∃old,IsEnum h e it (i:Nat) old)/\h.IsListIter it a i) where
 mem:=by simp
 obj:=λi h st b hb=>by
  obtain⟨⟨old,he⟩,⟨o,ho,c,d⟩⟩:=st
  rcases aU.mp hb with rfl|hb
  ·exact⟨_,he,λv z=>by have z':Data.fields _=Data.cell v:=z;cases z'⟩
  ·rw[ak.mp hb]
   exact⟨o,ho,λv z=>by rw[d] at z;cases z⟩
 keep:=λi h h' st k=>⟨let⟨old,he⟩:=st.1;⟨old,k e (by simp) _ he⟩,st.2.at λo q=>k it (by simp) o q⟩
 item:=by
  intro X hP hw hK hc i pins s σ H E I hf st hg
  subst hP hw hK
  obtain⟨⟨old,he⟩,hit⟩:=st
  obtain⟨xs,x,hq,hx⟩:=hg
  obtain⟨its,rv,p,hz⟩:=I.list hq
  obtain⟨u,hu,ru⟩:=rv.get hx
  have hlt:i<its.toArray.size:=by have:=(aj.mp hu).1;simpa using this
  have na:a≠it:=Ih p.isList hit
  have nb:e≠a:=by
   intro z;subst z
   obtain⟨o,n,e1,c1,_⟩:=p
   rw[he] at e1;cases e1
   injection c1 with c3
   exact absurd c3 (by decide)
  have Dw:=Draws.list (prog:=X.prog) (w:=X.w) (A:=X.A.in1) (show X.A.in1.handled=none from I.ok.hd hc) it a na its.toArray
  refine wpAny_pyNext_enum_itemD Dw he ⟨hit,p.isList⟩ hlt hne (by simp[hne,nb]) λy h1 tk hP ho st1 hT hsz hk=>?_
  have ey:y=u:=by
   have h1:its.toArray[i]?=some y:=hP
   have h2:its[i]?=some y:=by simpa using h1
   rw[hu] at h2;exact(Option.some.inj h2).symm
  subst ey
  refine⟨_,rfl,?_⟩
  have fT:pT X pins H s.heap.objs.size:=I.fpOk (aC _) (I.hok.fresh (aC _))
  refine wpAny_letOwnedTupleGo_enum ho λh2 he2 hs2=>?_
  have helt:e<s.heap.objs.size:=aJ he
  have I1:bP X pins σ H {s with heap:=h2,toks:=tk+1}:=I.turnedL (t':=tk+1) (ch:=[e,it]) (λb o hb q=>by
   have b1:b≠e:=λz=>hb (by simp[z])
   have b2:b≠it:=λz=>hb (by simp[z])
   exact(hs2.2 b b1).trans (hk b o b1 b2 q)) hf
  have gT:h2.get? s.heap.objs.size=some {cls:=.type "tuple",data:=.seq #[.int i tk,y]}:=(hs2.2 _ (iY helt)).trans hT
  have I2:=I1.adopt (T:=s.heap.objs.size) (o:=.tup [.int (i:Nat),x]) fT (yD (X:=X) gT ⟨tk,rfl⟩ ru)
  refine⟨.ref s.heap.objs.size,_,I2,rfl,⟨s.heap.objs.size,x,fT.1,rfl,rfl,λys hy=>by rw[I.list_inj hy hq];exact hx⟩,⟨⟨y,?_⟩,?_⟩,λb hb=>?_⟩
  ·have e2:(((i+1:Nat):Nat):Int)=(i:Int)+1:=by lia
   show IsEnum h2 e it (((i+1:Nat):Nat):Int) y
   rw[e2];exact he2
  ·obtain⟨o,q1,q2⟩:=st1.1
   exact⟨o,(hs2.2 it (Ne.symm hne)).trans q1,q2⟩
  ·have nT:b≠s.heap.objs.size:=by
    rcases aU.mp hb with rfl|hb
    ·exact bh helt
    ·rw[ak.mp hb]
     obtain⟨o,ho,_⟩:=hit
     exact bh (aJ ho)
   rw[aA nT];exact(hf b hb).1
 done:=by
  intro X hP hw hK hc i pins s σ H E I hf st hg
  subst hP hw hK
  obtain⟨⟨old,he⟩,hit⟩:=st
  obtain⟨xs,hq,hx⟩:=hg
  obtain⟨its,rv,p,hz⟩:=I.list hq
  have hl:=rv.length
  have hT:s.TypeIs (.ref e) "enumerate":=⟨_,he,rfl⟩
  unfold pyNext
  refine wpAny_bind (wpAny_attempt (wpAny_callSpecial?_slot (name:=Str.ofString "__next__") hT F.slot_enumerate_next
   (wpAny_call_entry F.slot_enumerate_next hT F.entry_enumerate_next ?_ (F.args_enumerate_next_1 _))))
  show wpAny _ _ (field (.ref e) 2 >>= _) _ _ _
  refine wpAny_bind (wpAny_field he rfl (x:=.ref it) rfl ?_)
  refine wpAny_bind (wpAny_nextOf_list_end (show X.A.in1.handled=none from I.ok.hd hc) hit p.isList (by simp;lia) λh1 x1 eb hx1=>?_)
  obtain⟨o,ho,hcl⟩:=hx1
  refine wpAny_bind (wpAny_isInstance (T:="StopIteration") (b:=true) ⟨o,ho,hcl⟩ isSubtype_stop ?_)
  exact wpAny_pure ⟨rfl,I.turnedL (t':=s.toks) (ch:=[e,it]) (λb ob hb q=>eb b ob (λz=>hb (by simp[z])) q) hf⟩
 self:=λ_ _ _ _ _ st h=>let⟨_,he⟩:=st.1;wpAny_pyIter_enum he h
section
variable{X:Cx}{elts:List Expr}{k:Nat}{tpos:Pos}
def Fj(K:Fg)(tl:TA):TI:=λσ H R=>tl σ H λvs H1=>∃a,vs=[.ref a]/\(∃xs,cz K H1 a xs)/\R (LL K a) H1
theorem IH{a:Expr}{ta:TA}{p pos:Pos}(hg:Gl X "enumerate")(hm:X.mg "enumerate"=none)(ha:PA X [a] ta)(hs:starEach [a] X.env=[(false,eval a X.env)]:=by rfl) :
  PI X (.Tuple elts k tpos) (.Call (.Name "enumerate" p) [a] [] pos) (Fj X.K ta):=by
 intro pins s σ H R I h
 refine Call_ (kS I hg hm boot_enumerate (cK (gg (ha pos pins s σ H _ I h) λus s1 ⟨vs,H1,I1,r1,q1⟩=>?_) hs rfl))
 obtain⟨l,e,⟨xs,hq⟩,q⟩:=q1
 subst e
 cases r1 with
 |cons r rr=>
  cases rr
  cases r
  obtain⟨its,rv,pl,hz⟩:=I1.list hq
  refine call_enumerate_list pl.isList λh1 he hit hsz hk=>?_
  refine wpAny_pyIter_enum he ?_
  have I2:bP X pins σ H1 {s1 with heap:=h1}:=I1.kept (t':=s1.toks) hk
  refine⟨s1.heap.objs.size+1,[s1.heap.objs.size+1,s1.heap.objs.size],_,_,H1,rfl,I2,Ey l _ _ (Nat.succ_ne_self _),⟨⟨.none,he⟩,hit⟩,λb hb=>?_,q⟩
  have hb':s1.heap.objs.size<=b:=by
   rcases aU.mp hb with rfl|hb
   ·lia
   ·rw[ak.mp hb];exact aC _
  exact I1.fpOk hb' (I1.hok.fresh hb')
end
theorem G2{P:Program}{w:World}{K:Fg}{elts:List Expr}{k:Nat}{pos:Pos}(z TI TO i1 i2 l1 l2:Addr)(D:ZipApart z TI TO i1 i2 l1 l2) :
  yL P w K (.Tuple elts k pos) (LM K l1 l2) [z,TI,TO,i1,i2] z (λi h=>IsZip h z TI TO .none/\IsPair h TI (.ref i1) (.ref i2)/\(∃a b,IsPair h TO a b)/\h.IsListIter i1 l1 i/\h.IsListIter i2 l2 i) where
 mem:=by simp
 obj:=λi h st b hb=>by
  obtain⟨hz,hTI,⟨a',b',hTO⟩,⟨o1,e1,c1,d1⟩,⟨o2,e2,c2,d2⟩⟩:=st
  simp only[aU,fb,or_false] at hb
  rcases hb with rfl|rfl|rfl|rfl|rfl
  ·exact⟨_,hz,λv q=>by have q':Data.fields _=Data.cell v:=q;cases q'⟩
  ·exact⟨_,hTI,λv q=>by have q':Data.seq _ _=Data.cell v:=q;cases q'⟩
  ·exact⟨_,hTO,λv q=>by have q':Data.seq _ _=Data.cell v:=q;cases q'⟩
  ·exact⟨o1,e1,λv q=>by rw[d1] at q;cases q⟩
  ·exact⟨o2,e2,λv q=>by rw[d2] at q;cases q⟩
 keep:=λi h h' st k=>by
  obtain⟨hz,hTI,⟨a',b',hTO⟩,h1,h2⟩:=st
  exact⟨k z (by simp) _ hz,k TI (by simp) _ hTI,⟨a',b',k TO (by simp) _ hTO⟩,h1.at λo q=>k i1 (by simp) o q,h2.at λo q=>k i2 (by simp) o q⟩
 item:=by
  intro X hP hw hK hc i pins s σ H E I hf st hg
  subst hP hw hK
  obtain⟨hz,hTI,⟨a',b',hTO⟩,h1,h2⟩:=st
  obtain⟨xs,x,ys,y,hq1,hx,hq2,hy⟩:=hg
  obtain⟨its1,rv1,p1,_⟩:=I.list hq1
  obtain⟨its2,rv2,p2,_⟩:=I.list hq2
  obtain⟨u,hu,ru⟩:=rv1.get hx
  obtain⟨v,hv,rv⟩:=rv2.get hy
  refine wpAny_pyNext_zip_item D hz hTI hTO h1 h2 p1.isList p2.isList (x:=u) (y:=v) (by simpa using hu) (by simpa using hv) λh3 a1 a2 a3 a4 a5 a6 hk=>?_
  refine⟨_,rfl,?_⟩
  have fT:pT X pins H s.heap.objs.size:=I.fpOk (aC _) (I.hok.fresh (aC _))
  have lt:∀{c o},s.heap.get? c=some o->c≠s.heap.objs.size:=λe=>bh (aJ e)
  refine wpAny_letOwnedTupleGo_zip a1 λh4 hz4 hs4=>?_
  have I1:bP X pins σ H {s with heap:=h4,toks:=s.toks}:=I.turnedL (t':=s.toks) (ch:=[z,TI,TO,i1,i2]) (λb o hb q=>by
   have b1:b≠z:=λe=>hb (by simp[e])
   exact(hs4.2 b b1).trans (hk b o b1 (λe=>hb (by simp[e])) (λe=>hb (by simp[e])) (λe=>hb (by simp[e])) q)) hf
  have gT:h4.get? s.heap.objs.size=some {cls:=.type "tuple",data:=.seq #[u,v]}:=(hs4.2 _ (Ne.symm (lt hz))).trans a5
  have I2:=I1.adopt (T:=s.heap.objs.size) (o:=.tup [x,y]) fT (yD (X:=X) gT ru rv)
  have ext:∀c o,c≠z->h3.get? c=some o->h4.get? c=some o:=λc o hc q=>(hs4.2 c hc).trans q
  refine⟨.ref s.heap.objs.size,_,I2,rfl,⟨s.heap.objs.size,x,y,fT.1,rfl,rfl,λzs hz=>by rw[I.list_inj hz hq1];exact hx,λzs hz=>by rw[I.list_inj hz hq2];exact hy⟩,
   ⟨hz4,ext _ _ D.TIz (hk _ _ D.TIz D.TITO D.TIi1 D.TIi2 hTI),⟨_,_,ext _ _ D.TOz a2⟩,a3.at λo q=>ext _ o D.i1z q,a4.at λo q=>ext _ o D.i2z q⟩,λb hb=>?_⟩
  have nT:b≠s.heap.objs.size:=by
   obtain⟨o1,e1,_⟩:=h1
   obtain⟨o2,e2,_⟩:=h2
   simp only[aU,fb,or_false] at hb
   rcases hb with rfl|rfl|rfl|rfl|rfl
   ·exact lt hz
   ·exact lt hTI
   ·exact lt hTO
   ·exact lt e1
   ·exact lt e2
  rw[aA nT];exact(hf b hb).1
 done:=by
  intro X hP hw hK hc i pins s σ H E I hf st hg
  subst hP hw hK
  obtain⟨hz,hTI,⟨a',b',hTO⟩,h1,h2⟩:=st
  obtain⟨xs,ys,hq1,hq2,hend⟩:=hg
  obtain⟨its1,rv1,p1,_⟩:=I.list hq1
  obtain⟨its2,rv2,p2,_⟩:=I.list hq2
  have l1':=rv1.length
  have l2':=rv2.length
  refine wpAny_pyNext_zip_end (I.ok.hd hc) D hz hTI hTO h1 h2 p1.isList p2.isList (hend.imp (λh=>by simp;lia) λh=>by simp;lia) λh3 hk=>⟨rfl,?_⟩
  exact I.turnedL (t':=s.toks) (ch:=[z,TI,TO,i1,i2]) (λb o hb q=>hk b o (λe=>hb (by simp[e])) (λe=>hb (by simp[e])) (λe=>hb (by simp[e])) (λe=>hb (by simp[e])) q) hf
 self:=λ_ _ _ _ _ st h=>wpAny_pyIter_zip st.1 h
section
variable{X:Cx}{elts:List Expr}{k:Nat}{tpos:Pos}
def Kg(K:Fg)(tl:TA):TI:=λσ H R=>tl σ H λvs H1=>∃a b,vs=[.ref a,.ref b]/\(∃xs,cz K H1 a xs)/\(∃xs,cz K H1 b xs)/\R (LM K a b) H1
theorem K8{a b:Expr}{ta:TA}{p pos:Pos}(hg:Gl X "zip")(hm:X.mg "zip"=none)(ha:PA X [a,b] ta)(hs:starEach [a,b] X.env=[(false,eval a X.env),(false,eval b X.env)]:=by rfl)(hs2:starEach [b] X.env=[(false,eval b X.env)]:=by rfl) :
  PI X (.Tuple elts k tpos) (.Call (.Name "zip" p) [a,b] [] pos) (Kg X.K ta):=by
 intro pins s σ H R I h
 refine Call_ (kS I hg hm boot_zip (cK (gg (ha pos pins s σ H _ I h) λus s1 ⟨vs,H1,I1,r1,q1⟩=>?_) (by rw[hs,hs2]) (by rw[hs2];rfl)))
 obtain⟨l1,l2,e,⟨xs,hq1⟩,⟨ys,hq2⟩,q⟩:=q1
 subst e
 cases r1 with
 |cons r rr=>
  cases rr with
  |cons r' rr=>
   cases rr
   cases r
   cases r'
   obtain⟨its1,rv1,p1,_⟩:=I1.list hq1
   obtain⟨its2,rv2,p2,_⟩:=I1.list hq2
   have b1:l1<s1.heap.objs.size:=by obtain⟨o,e,_⟩:=p1.isList;exact aJ e
   have b2:l2<s1.heap.objs.size:=by obtain⟨o,e,_⟩:=p2.isList;exact aJ e
   refine call_zip_2 p1.isList p2.isList λh1 hz hTI hTO hi1 hi2 hsz hk=>?_
   refine wpAny_pyIter_zip hz ?_
   have I2:bP X pins σ H1 {s1 with heap:=h1}:=I1.kept (t':=s1.toks) hk
   refine⟨_,_,_,_,H1,rfl,I2,G2 _ _ _ _ _ l1 l2 (zipApart_new b1 b2),⟨hz,hTI,⟨_,_,hTO⟩,hi1,hi2⟩,λb hb=>?_,q⟩
   have hb':s1.heap.objs.size<=b:=by
    simp only[aU,fb,or_false] at hb
    rcases hb with rfl|rfl|rfl|rfl|rfl<;>lia
   exact I1.fpOk hb' (I1.hok.fresh hb')
end
theorem Fd{K:Fg}{a:Addr}{xs:List V}{g:TG}{tb:TS}{D:nJ}{σ:St}{H:Hp}(Pv:Nat->St->Hp->Prop)(h0:Pv 0 σ H)(hl:∀i σ H,i<=xs.length->Pv i σ H->cz K H a xs)
  (hs:∀i x σ H p,xs[i]?=some x->H p=none->Pv i σ H->g (.ref p) σ (upd H p (.tup [.int (i:Nat),x])) λσ2 H2=>tb {D with nx:=Pv (i+1),ct:=Pv (i+1),bk:=D.nx} σ2 H2) (hd:∀σ H,Pv xs.length σ H->D.nx σ H) :
  ∃W:Nat->Nat->St->Hp->Prop,(∃m,W 0 m σ H)/\∀i m σ H,W i m σ H->
   ((LL K a).stop i H/\D.nx σ H)\/((LL K a).go i H/\∃N:St->Hp->Prop,(∀σ' H',N σ' H'->∃m',m'<m/\W (i+1) m' σ' H')/\∀x H',(LL K a).yld i H x H'->g x σ H' λσ2 H2=>tb {D with nx:=N,ct:=N,bk:=D.nx} σ2 H2):=by
 refine⟨λi m σ H=>m=xs.length-i/\i<=xs.length/\Pv i σ H,⟨xs.length,by simp,dh _,h0⟩,?_⟩
 rintro i m σ H ⟨rfl,hi,p⟩
 have q:=hl i σ H hi p
 by_cases hlt:i<xs.length
 ·refine .inr ⟨⟨xs,xs[i],q,by simp[hlt]⟩,Pv (i+1),λσ' H' p'=>⟨xs.length-(i+1),by lia,rfl,hlt,p'⟩,λx H' y=>?_⟩
  obtain⟨pp,v,e1,rfl,rfl,y⟩:=y
  exact hs i v σ H pp (y xs q) e1 p
 ·have e:i=xs.length:=by lia
  subst e
  exact .inl ⟨⟨xs,q,aC _⟩,hd σ H p⟩
theorem HM{K:Fg}{a b:Addr}{xs ys:List V}{g:TG}{tb:TS}{D:nJ}{σ:St}{H:Hp}(el:xs.length=ys.length)(Pv:Nat->St->Hp->Prop)(h0:Pv 0 σ H)(hl:∀i σ H,i<=xs.length->Pv i σ H->cz K H a xs/\cz K H b ys)
  (hs:∀i x y σ H p,xs[i]?=some x->ys[i]?=some y->H p=none->Pv i σ H->g (.ref p) σ (upd H p (.tup [x,y])) λσ2 H2=>tb {D with nx:=Pv (i+1),ct:=Pv (i+1),bk:=D.nx} σ2 H2) (hd:∀σ H,Pv xs.length σ H->D.nx σ H) :
  ∃W:Nat->Nat->St->Hp->Prop,(∃m,W 0 m σ H)/\∀i m σ H,W i m σ H->
   ((LM K a b).stop i H/\D.nx σ H)\/((LM K a b).go i H/\∃N:St->Hp->Prop,(∀σ' H',N σ' H'->∃m',m'<m/\W (i+1) m' σ' H')/\∀x H',(LM K a b).yld i H x H'->g x σ H' λσ2 H2=>tb {D with nx:=N,ct:=N,bk:=D.nx} σ2 H2):=by
 refine⟨λi m σ H=>m=xs.length-i/\i<=xs.length/\Pv i σ H,⟨xs.length,by simp,dh _,h0⟩,?_⟩
 rintro i m σ H ⟨rfl,hi,p⟩
 obtain⟨q1,q2⟩:=hl i σ H hi p
 by_cases hlt:i<xs.length
 ·have hlt2:i<ys.length:=by lia
  refine .inr ⟨⟨xs,xs[i],ys,ys[i],q1,by simp[hlt],q2,by simp[hlt2]⟩,Pv (i+1),λσ' H' p'=>⟨xs.length-(i+1),by lia,rfl,hlt,p'⟩,λx H' y=>?_⟩
  obtain⟨pp,v,u,e1,rfl,rfl,y1,y2⟩:=y
  exact hs i v u σ H pp (y1 xs q1) (y2 ys q2) e1 p
 ·have e:i=xs.length:=by lia
  subst e
  exact .inl ⟨⟨xs,ys,q1,q2,.inl (aC _)⟩,hd σ H p⟩
end L2
namespace PySem
open Sem (wp)
open Builtin MeetsSeq MeetsSeq2 MeetsSeq3
theorem rF:fillsNumberSlot (.type "tuple") "mul"=pure false:=
 fillsNumberSlot_seq (id:="tuple.__mul__") (r:=some (.builtin "tuple.__rmul__")) F.slot_tuple_mul.lookup (by decide +kernel) F.slot_tuple_rmul.lookup (by decide +kernel)
theorem yv:seqRepeat? (.type "tuple")=pure (some (.builtin "tuple.__mul__")):=by
 unfold seqRepeat?
 rw[seqSlot_of (T:="tuple") (name:="__mul__") (id:="tuple.__mul__") F.slot_tuple_mul.lookup (by decide +kernel),seqSlot_of (T:="tuple") (name:="__rmul__") (id:="tuple.__rmul__") F.slot_tuple_rmul.lookup (by decide +kernel)]
 rfl
theorem uF(a:Int)(t:Tok)(l:Addr)(items:Array Value)(n:Nat)(dd:Option Addr)(sl:Array (Option Value)) :
  Meets (Builtin.«int.__rmul__» ⟨[.int a t,.ref l],[]⟩) (λ_ R s=>s.heap.get? l=some {cls:=.type "tuple",dict:=dd,data:=.seq items n,slots:=sl}/\R (.ok (.ret Value.notImplemented)) s):=
 .of_wp λprog w A R s h=>by obtain⟨hp,g,d,tk,os⟩:=s;obtain⟨hl,h⟩:=h;wp_walk;exact⟨_,rfl,h⟩
theorem vp(l:Addr)(items:Array Value)(n:Nat)(dd:Option Addr)(sl:Array (Option Value))(x:Int)(u:Tok)(hlo:-(2 ^ 63)<=x)(hhi:x<2 ^ 63)(he:items.isEmpty=false)(h1:¬x=1)(hp:0<x)(hsz:items.size*x.toNat<=sizeLine) :
  Meets (Builtin.«tuple.__mul__» ⟨[.ref l,.int x u],[]⟩) (λ_ R s=>s.heap.get? l=some {cls:=.type "tuple",dict:=dd,data:=.seq items n,slots:=sl}/\
   R (.ok (.ret (Value.ref s.heap.objs.size))) {s with heap:=s.heap.push {cls:=Value.type "tuple",data:=Data.seq (ua (λx1 x2=>x1++x2) #[] (bD x.toNat items))},toks:=s.toks}):=
 .of_wp λprog w A R s h=>by
  obtain⟨hp,g,d,tk,os⟩:=s;obtain⟨hl,h⟩:=h
  have z1:(decide (x < -(2 ^ 63)) || decide (x >= 2 ^ 63))=false:=by simp;lia
  have z2:(items.isEmpty || x==1)=false:=by simp[he,h1]
  have z3:(decide (x<=0) || items.isEmpty)=false:=by simp[he];lia
  have ex:(items.size:Int)*x=((items.size*x.toNat:Nat):Int):=by
   rw[Int.natCast_mul];congr 1;lia
  have z4:¬((items.size:Int)*x>(2 ^ 63-1) / 8):=by
   rw[ex]
   have:(sizeLine:Nat)<=(2 ^ 63-1) / 8:=by decide
   lia
  have z5:Tuple.tupleTooMany ((items.size:Int)*x)=false:=by
   unfold Tuple.tupleTooMany
   rw[ex]
   exact decide_eq_false (by lia)
  have z6:(ua (λ(x1 x2:Array Value)=>x1++x2) #[] (bD x.toNat items)).size<=sizeLine:=by
   have e:=AutoListH.size_joined items x.toNat #[]
   rw[e,Nat.mul_comm]
   simpa using hsz
  wp_walk
  refine wpAny_ite_false (by rw[z1];rfl) ?_
  wp_walk using AutoSeq1.wpAny_loadPart' hl
  refine wpAny_ite_false (decide_eq_false z4) ?_
  wp_walk
  refine wpAny_ite_false (by rw[z5];rfl) ?_
  wp_walk
  exact⟨_,rfl,h⟩
theorem vZ(l:Addr)(items:Array Value)(n:Nat)(dd:Option Addr)(sl:Array (Option Value))(u:Tok) :
  Meets (Builtin.«tuple.__mul__» ⟨[.ref l,.int 1 u],[]⟩) (λ_ R s=>s.heap.get? l=some {cls:=.type "tuple",dict:=dd,data:=.seq items n,slots:=sl}/\R (.ok (.ret (Value.ref l))) s):=
 .of_wp λprog w A R s h=>by
  obtain⟨hp,g,d,tk,os⟩:=s;obtain⟨hl,h⟩:=h
  have z2:(items.isEmpty || (1:Int)==1)=true:=by simp
  wp_walk using AutoSeq1.wpAny_loadPart' hl
  first|exact⟨_,rfl,h⟩|trace_state
theorem vq(l:Addr)(items:Array Value)(n:Nat)(dd:Option Addr)(sl:Array (Option Value))(u:Tok)(he:items.isEmpty=false) :
  Meets (Builtin.«tuple.__mul__» ⟨[.ref l,.int 0 u],[]⟩) (λ_ R s=>s.heap.get? l=some {cls:=.type "tuple",dict:=dd,data:=.seq items n,slots:=sl}/\
   R (.ok (.ret (Value.ref s.heap.objs.size))) {s with heap:=s.heap.push {cls:=Value.type "tuple",data:=Data.seq #[]},toks:=s.toks}):=
 .of_wp λprog w A R s h=>by
  obtain⟨hp,g,d,tk,os⟩:=s;obtain⟨hl,h⟩:=h
  have z2:(items.isEmpty || (0:Int)==1)=false:=by simp[he]
  have z3:(decide ((0:Int)<=0) || items.isEmpty)=true:=by simp
  wp_walk using AutoSeq1.wpAny_loadPart' hl
  first|exact⟨_,rfl,h⟩|trace_state
end PySem
namespace L2
open PySem PySem.Spec PyProof.Rows
section
variable{X:Cx}
def JY(K:Fg):R2:=λx y H Q=>∃(l:Addr) (k:Nat) (xs:List V),x=.ref l/\y=.int (k:Nat)/\cY K H l xs/\xs≠[]/\xs.length*k<=sizeLine/\(k=1->Q (.ref l) H)/\
 (k≠1->∀p,H p=none->Q (.ref p) (upd H p (.tup (bD k xs).flatten)))
theorem Iv:kf X (binaryOp .Mult) (JY X.K):=by
 intro pins s σ H x y v u Q I rx ry h
 obtain⟨l,k,xs,rfl,rfl,hq,hne,hz,q1,q2⟩:=h
 cases rx
 obtain⟨t,rfl⟩:=ry
 obtain⟨its,r,⟨⟨cls,dd,data,sl⟩,e,hc,n,hd⟩,hl⟩:=I.tuple hq
 simp only at hc hd
 subst hc hd
 have hlen:=r.length
 have he:its.toArray.isEmpty=false:=by
  cases its with
  |nil=>simp at hlen;exact absurd hlen hne
  |cons a r'=>rfl
 have hs:its.toArray.size*k<=sizeLine:=by rw[ax,<-hlen];exact hz
 have road:wpAny (model X.prog X.w) X.A (call (.builtin "tuple.__mul__") [.ref l,.int (k:Nat) t]) (EP X pins σ Q) X.xe s->wpAny (model X.prog X.w) X.A (binaryOp .Mult (.ref l) (.int (k:Nat) t)) (EP X pins σ Q) X.xe s:=λhcall=>
  wpAny_binaryOp_repeat_ref (T:="tuple") (U:="int") (by decide) ⟨_,e,rfl⟩ (λs'=>typeIs_int s' k t) rF F.fills_int_mul F.slot_int_rmul yv F.slot_int_index.lookup
   (call_meets F.slot_int_rmul (typeIs_int s k t) F.entry_int_rmul (F.args_int_rmul_2 _ _) (uF k t l its.toArray n dd sl) ⟨e,rfl,⟨_,e,rfl⟩,hcall⟩)
 refine road ?_
 by_cases h1:k=1
 ·subst h1
  exact call_meets F.slot_tuple_mul ⟨_,e,rfl⟩ F.entry_tuple_mul (F.args_tuple_mul_2 _ _) (vZ l its.toArray n dd sl t) ⟨e,⟨.ref l,H,I,rfl,q1 rfl⟩⟩
 ·have hn:H s.heap.objs.size=none:=I.hok.fresh (aC _)
  by_cases h0:k=0
  ·subst h0
   refine call_meets F.slot_tuple_mul ⟨_,e,rfl⟩ F.entry_tuple_mul (F.args_tuple_mul_2 _ _) (vq l its.toArray n dd sl t he) ⟨e,⟨.ref s.heap.objs.size,_,?_,rfl,q2 h1 _ hn⟩⟩
   exact I.laid (t':=s.toks) (λb o e=>az _ e) (aC _) ⟨dh _,[],.nil,⟨_,aW _ rfl,⟨rfl,rfl⟩,_,rfl⟩⟩
  ·have hk64:(k:Int)<2 ^ 63:=by
    have h3:1<=its.toArray.size:=by
     cases its with
     |nil=>simp at he
     |cons a r'=>simp
    have h4:k<=its.toArray.size*k:=Nat.le_mul_of_pos_left k h3
    have h5:(sizeLine:Nat)<2 ^ 63:=by decide
    lia
   refine call_meets F.slot_tuple_mul ⟨_,e,rfl⟩ F.entry_tuple_mul (F.args_tuple_mul_2 _ _) (vp l its.toArray n dd sl k t (by lia) hk64 he (by lia) (by lia) (by simpa using hs)) ⟨e,?_⟩
   have f0:=wq its k []
   rw[List.nil_append] at f0
   have ek:((k:Nat):Int).toNat=k:=by simp
   rw[ek,f0]
   refine⟨.ref s.heap.objs.size,_,?_,rfl,q2 h1 _ hn⟩
   refine I.laid (t':=s.toks) (λb o e=>az _ e) (aC _) ⟨?_,(bD k its).flatten,r.rep k,⟨_,aW _ rfl,⟨rfl,rfl⟩,_,rfl⟩⟩
   rw[Ie,Nat.mul_comm];exact hz
theorem xO:jh X (.builtin "divmod") (λxs H Q=>∃i j,xs=[.int i,.int j]/\(0<j/\j<2 ^ 64)/\∀p,H p=none->Q (.ref p) (upd H p (.tup [.int (i / j),.int (i % j)]))):=by
 intro pins s σ H xs us Q I r h
 obtain⟨i,j,rfl,⟨h1,h2⟩,q⟩:=h
 obtain⟨u,w',rfl,⟨t,rfl⟩,⟨t',rfl⟩⟩:=sW r
 have hb:j.natAbs.log2<9000:=by
  have h3:j.natAbs.log2<64:=(Nat.log2_lt (by lia)).mpr (by lia)
  lia
 refine divmod_int (by lia) ?_ (.inl (PyProof.noPylong_of_log2 hb))
 rw[Int.fdiv_eq_ediv_of_nonneg i (by lia),Int.fmod_eq_emod_of_nonneg i (by lia)]
 have hn:H s.heap.objs.size=none:=I.hok.fresh (aC _)
 refine⟨.ref s.heap.objs.size,_,?_,rfl,q _ hn⟩
 refine I.laid (λb o e=>az _ e) (aC _) ⟨by simp only[cA,jP];rw[sizeLine_eq];decide,[.int (i / j) s.toks,.int (i % j) (s.toks+1)],.cons ⟨_,rfl⟩ (.cons ⟨_,rfl⟩ .nil),?_⟩
 exact⟨_,aW s.heap rfl,⟨rfl,rfl⟩,0,rfl⟩
inductive vA(K:Fg)(H:Hp):V->String->Bool->Prop where
 |int_int (i:Int):vA K H (.int i) "int" true
 |int_bool (i:Int):vA K H (.int i) "bool" false
 |int_tuple (i:Int):vA K H (.int i) "tuple" false
 |str_tuple (x:Str):vA K H (.str x) "tuple" false
 |tup_tuple {a:Addr} {xs:List V} (h:cY K H a xs):vA K H (.ref a) "tuple" true
 |lst_list {a:Addr} {xs:List V} (h:cz K H a xs):vA K H (.ref a) "list" true
 |str_str (x:Str):vA K H (.str x) "str" true
 |bl_bool (b:Bool):vA K H (.bl b) "bool" true
theorem EU:jh X (.builtin "isinstance") (λxs H Q=>∃x T b,xs=[x,.ty T]/\vA X.K H x T b/\Q (.bl b) H):=by
 intro pins s σ H xs us Q I r h
 obtain⟨x,T,b,rfl,hi,q⟩:=h
 obtain⟨u,w',rfl,r1,r2⟩:=sW r
 cases r2
 cases hi with
 |int_int i=>obtain⟨t,rfl⟩:=r1;exact IsiPair.int_int ⟨.bl true,H,I,rfl,q⟩
 |int_bool i=>obtain⟨t,rfl⟩:=r1;exact IsiPair.int_bool ⟨.bl false,H,I.tok _,rfl,q⟩
 |int_tuple i=>obtain⟨t,rfl⟩:=r1;exact IsiPair.int_tuple ⟨.bl false,H,I.tok _,rfl,q⟩
 |str_tuple z=>obtain⟨t,rfl⟩:=r1;exact IsiPair.str_tuple ⟨.bl false,H,I.tok _,rfl,q⟩
 |tup_tuple hs=>
  cases r1
  obtain⟨its,rv,⟨o,e,hc,_⟩,hz⟩:=I.tuple hs
  exact IsiPair.tuple_tuple e hc ⟨.bl true,H,I,rfl,q⟩
 |lst_list hs=>
  cases r1
  obtain⟨its,rv,pl,hz⟩:=I.list hs
  obtain⟨o,e,hc,_⟩:=pl.isList
  exact IsiPair.list_list e hc ⟨.bl true,H,I,rfl,q⟩
 |str_str z=>obtain⟨t,rfl⟩:=r1;exact IsiPair.str_str ⟨.bl true,H,I,rfl,q⟩
 |bl_bool z=>cases r1;exact IsiPair.bool_bool ⟨.bl true,H,I,rfl,q⟩
theorem ER(bs:List Bool):(cH bs.length).all (λi=>(bs[i]?).getD false)=bs.all id:=by
 rw[Bool.eq_iff_iff,fU,fU]
 constructor
 ·intro h b hb
  obtain⟨i,hi,e⟩:=cD.mp hb
  have:=h i (kG.mpr hi)
  rw[ai hi,g7,e] at this
  exact this
 ·intro h i hi
  have hi:=kG.mp hi
  rw[ai hi,g7]
  exact h _ (e8 hi)
theorem xP(hc:X.calm=true):jh X (.builtin "sum") (λxs H Q=>∃(p:Addr) (ns:List Int),xs=[.ref p]/\cz X.K H p (ns.map V.int)/\∀z:Int,Q (.int z) H):=by
 intro pins s σ H xs us Q I r h
 obtain⟨p,ns,rfl,hq,q⟩:=h
 obtain⟨u,rfl,rx⟩:=oC r
 cases rx
 obtain⟨its,rv,pl,hz⟩:=I.list hq
 have intsOf:∀(ns:List Int) (its:List Value),cO (ns.map V.int) its->∃xs:List (Int×Tok),its=xs.map λp=>Value.int p.1 p.2:=by
  intro ns
  induction ns with
  |nil=>intro its r;cases r;exact⟨[],rfl⟩
  |cons n ns ih=>
   intro its r
   cases r with
   |cons r rr=>
    obtain⟨xs,rfl⟩:=ih _ rr
    obtain⟨t,rfl⟩:=r
    exact⟨(n,t)::xs,rfl⟩
 obtain⟨xs,rfl⟩:=intsOf ns its rv
 refine sum_intListG (xs:=xs.toArray) (I.ok.hd hc) ?_ λh' tk t' hk=>⟨.int _,H,I.kept hk,⟨t',rfl⟩,q _⟩
 have e:=pl.isList
 simpa[intItems] using e
end
section
variable{X:Cx}
theorem u4:∀{ys:List Str} {us:List Value},cO (ys.map V.str) us->StrsAre us ys
 |[],_,r=>by cases r;exact .nil
 |y::ys,_,r=>by
  cases r with
  |cons r rr=>
   obtain⟨t,rfl⟩:=r
   exact .cons _ _ (u4 rr)
def JW(K:Fg):V->List V->Hp->VK->Prop:=λx vs H Q=>∃(sep:Str) (p:Addr) (ys:List Str),x=.str sep/\vs=[.ref p]/\cz K H p (ys.map V.str)/\(ys.map (·.length)).sum+ys.length*sep.length<=16777216/\Q (.str (Txt.join sep ys)) H
theorem Ig:LD X "str.join" (JW X.K):=by
 intro pins s σ H x vs v us Q I rx rv h
 obtain⟨sep,p,ys,rfl,rfl,hq,hz,q⟩:=h
 obtain⟨t,rfl⟩:=rx
 obtain⟨u,rfl,ru⟩:=rv.one
 cases ru
 obtain⟨its,r,pl,_⟩:=I.list hq
 exact join_list pl.isList (by simpa using u4 r) hz λt' k=>⟨.str _,H,I.tok k,⟨t',rfl⟩,q⟩
end
section
variable{X:Cx}
def lO(xs ys:List V):Bool:=(cH (min xs.length ys.length)).all (λj=>AX ((xs[j]?).getD .non) ((ys[j]?).getD .non))&&xs.length==ys.length
def Jg(K:Fg)(neg:Bool):R2:=λx y H Q=>∃p q xs ys,x=.ref p/\y=.ref q/\cY K H p xs/\cY K H q ys/\xs.all ji=true/\ys.all ji=true/\Q (.bl (if neg then !lO xs ys else lO xs ys)) H
theorem Cd{A:Around}{s:Shared}{xs ys:List V}{us vs:List Value}(r1:cO xs us)(r2:cO ys vs)(f1:xs.all ji=true)(f2:ys.all ji=true) :
  ∀j (h1:j<us.toArray.size) (h2:j<vs.toArray.size),SeqAt.EqAt A s us.toArray[j] vs.toArray[j] (AX ((xs[j]?).getD .non) ((ys[j]?).getD .non)):=by
 intro j h1 h2
 have l1:=r1.length
 have l2:=r2.length
 rw[ax] at h1 h2
 have j1:j<xs.length:=by lia
 have j2:j<ys.length:=by lia
 obtain⟨u,hu,ru⟩:=r1.get (ai j1)
 obtain⟨v,hv,rv⟩:=r2.get (ai j2)
 have eu:us.toArray[j]=u:=by
  have:=ai h1
  rw[hu] at this
  simpa using(Option.some.inj this).symm
 have ev:vs.toArray[j]=v:=by
  have:=ai h2
  rw[hv] at this
  simpa using(Option.some.inj this).symm
 rw[eu,ev,ai j1,ai j2,g7,g7]
 exact AV ru rv (fU.mp f1 _ (e8 j1)) (fU.mp f2 _ (e8 j2))
theorem KC(hu:X.A.units<cLine):kf X (compareOp .Eq) (Jg X.K false):=by
 intro pins s σ H x y v u Q I rx ry h
 obtain⟨p,q,xs,ys,rfl,rfl,h1,h2,f1,f2,qq⟩:=h
 cases rx
 cases ry
 obtain⟨us,r1,t1,_⟩:=I.tuple h1
 obtain⟨vs,r2,t2,_⟩:=I.tuple h2
 refine SeqAt.eq_tupleAt (show s.heap.IsTuple p us.toArray from t1) (show s.heap.IsTuple q vs.toArray from t2) hu (Cd r1 r2 f1 f2) ⟨.bl (lO xs ys),H,I,?_,qq⟩
 show Value.bool _=Value.bool _
 unfold lO
 rw[ax,ax,r1.length,r2.length]
def JU(K:Fg):R2:=λx y H Q=>∃p xs z,x=.ref p/\y=.str z/\cY K H p xs/\Q (.bl false) H
theorem Ir(hu:X.A.units<cLine):kf X (compareOp .Eq) (JU X.K):=by
 intro pins s σ H x y v u Q I rx ry h
 obtain⟨p,xs,z,rfl,rfl,h1,qq⟩:=h
 cases rx
 obtain⟨t,rfl⟩:=ry
 obtain⟨us,r1,t1,_⟩:=I.tuple h1
 exact SeqAt.RcAt.tuple_str z t (show s.heap.IsTuple p us.toArray from t1) hu X.prog X.w X.xe _ ⟨.bl false,H,I,rfl,qq⟩
theorem KI(hu:X.A.units<cLine):kf X (compareOp .NotEq) (Jg X.K true):=by
 intro pins s σ H x y v u Q I rx ry h
 obtain⟨p,q,xs,ys,rfl,rfl,h1,h2,f1,f2,qq⟩:=h
 cases rx
 cases ry
 obtain⟨us,r1,t1,_⟩:=I.tuple h1
 obtain⟨vs,r2,t2,_⟩:=I.tuple h2
 refine SeqAt.RcNeAt.tuples (show s.heap.IsTuple p us.toArray from t1) (show s.heap.IsTuple q vs.toArray from t2) hu (Cd r1 r2 f1 f2) X.prog X.w X.xe _ ⟨.bl (!lO xs ys),H,I,?_,qq⟩
 show Value.bool _=Value.bool _
 unfold lO
 rw[ax,ax,r1.length,r2.length]
end
section
variable{X:Cx}
def Jf(K:Fg)(neg:Bool):R2:=λx y H Q=>∃p q xs ys,x=.ref p/\y=.ref q/\cz K H p xs/\cz K H q ys/\xs.all ji=true/\ys.all ji=true/\Q (.bl (if neg then !lO xs ys else lO xs ys)) H
theorem yV{xs ys:List V}(h:xs.length=ys.length):lO xs ys=(cH xs.length).all (λj=>AX ((xs[j]?).getD .non) ((ys[j]?).getD .non)):=by
 unfold lO;rw[<-h,Nat.min_self];simp
theorem xV{xs ys:List V}(h:¬xs.length=ys.length):lO xs ys=false:=by
 unfold lO;rw[Bool.and_eq_false_iff];right;simpa using h
theorem KA(hu:X.A.units<cLine):kf X (compareOp .Eq) (Jf X.K false):=by
 intro pins s σ H x y v u Q I rx ry h
 obtain⟨p,q,xs,ys,rfl,rfl,h1,h2,f1,f2,qq⟩:=h
 cases rx
 cases ry
 obtain⟨us,r1,t1,_⟩:=I.list h1
 obtain⟨vs,r2,t2,_⟩:=I.list h2
 have l1:=r1.length
 have l2:=r2.length
 by_cases c:xs.length=ys.length
 ·refine SeqAt.eq_listAt t1.isList t2.isList (by rw[ax,ax];lia) hu (Cd r1 r2 f1 f2) ⟨.bl (lO xs ys),H,I,?_,qq⟩
  show Value.bool _=Value.bool _
  rw[yV c,ax,l1]
 ·refine SeqAt.eq_list_lengthsAt t1.isList t2.isList (by rw[ax,ax];simp;lia) hu ⟨.bl (lO xs ys),H,I,?_,qq⟩
  show Value.bool _=Value.bool _
  rw[xV c]
theorem KG(hu:X.A.units<cLine):kf X (compareOp .NotEq) (Jf X.K true):=by
 intro pins s σ H x y v u Q I rx ry h
 obtain⟨p,q,xs,ys,rfl,rfl,h1,h2,f1,f2,qq⟩:=h
 cases rx
 cases ry
 obtain⟨us,r1,t1,_⟩:=I.list h1
 obtain⟨vs,r2,t2,_⟩:=I.list h2
 have l1:=r1.length
 have l2:=r2.length
 by_cases c:xs.length=ys.length
 ·refine SeqAt.RcNeAt.lists t1.isList t2.isList (by rw[ax,ax];lia) hu (Cd r1 r2 f1 f2) X.prog X.w X.xe _ ⟨.bl (!lO xs ys),H,I,?_,qq⟩
  show Value.bool _=Value.bool _
  rw[yV c,ax,l1]
 ·refine SeqAt.RcNeAt.lists_lengths t1.isList t2.isList (by rw[ax,ax];simp;lia) hu X.prog X.w X.xe _ ⟨.bl (!lO xs ys),H,I,?_,qq⟩
  show Value.bool _=Value.bool _
  rw[xV c];rfl
end
section
variable{prog:Program}{w:World}{A:Around}{E:Value->Shared->Prop}
theorem uB{it t:Addr}{items:Array Value}(hne:t≠it):∀(n i:Nat) (s:Shared) (Q:List Value->Shared->Prop),s.heap.IsListIter it t i->s.heap.IsList t items->i+n<=items.size->
  (∀h':Heap,h'.IsListIter it t (i+n)->Heap.SameBut it s.heap h'->Q ((items.toList.drop i).take n) {s with heap:=h'})->wpAny (model prog w) A (draw (.ref it) n) Q E s
 |0,i,s,Q,hit,_,_,hQ=>by
  show wpAny _ _ (pure []) Q E s
  exact wpAny_pure (by simpa using hQ s.heap hit (Heap.SameBut.refl ..))
 |n+1,i,s,Q,hit,ht,hle,hQ=>by
  have hlt:i<items.size:=by lia
  show wpAny _ _ (pyNext (.ref it) >>= _) Q E s
  refine wpAny_bind (wpAny_pyNext_list_item hit ht (x:=items[i]) (by simp[hlt]) λh₁ hit₁ hs₁=>?_)
  refine wpAny_bind (wpAny_holding (uB hne n (i+1) _ _ hit₁ (ht.extBut hs₁.extBut hne) (by lia) λh₂ hit₂ hs₂=>wpAny_pure ?_))
  have hd:items.toList.drop i=items[i]::items.toList.drop (i+1):=by simp[List.drop_eq_getElem_cons,hlt]
  have:=hQ h₂ (by rw[show i+(n+1)=i+1+n by lia];exact hit₂) (hs₁.trans hs₂)
  rw[hd,List.take_succ_cons] at this
  exact this
theorem qX{s:Shared}{t:Addr}{items:Array Value}{Q:List Value->Shared->Prop}(hh:A.handled=none)(ht:s.heap.IsList t items)
  (hQ:∀h':Heap,Heap.ExtBut s.heap.objs.size s.heap h'->Q items.toList {s with heap:=h'}):wpAny (model prog w) A (unpackItems (.ref t) items.size none) Q E s:=by
 have hlt:t≠s.heap.objs.size:=by obtain⟨o,ho,_⟩:=ht;exact bh (aJ ho)
 unfold unpackItems
 refine wpAny_bind ?_
 ·unfold notIterableAtAll
  refine wpAny_bind (wpAny_specialOf ht.typeIs slot_list_iter.lookup ?_)
  refine wpAny_pure ?_
  simp only[Bool.false_eq_true,if_false]
  refine wpAny_bind (wpAny_holding (wpAny_pyIter_list ht ?_))
  refine wpAny_bind (wpAny_holding (uB hlt items.size 0 _ _ ⟨_,aW _ rfl,rfl,rfl⟩ (ht.push _) (by lia) λh₁ hit₁ hs₁=>?_))
  have hall:List.take items.size (List.drop 0 items.toList)=items.toList:=by
   rw[nM];exact bZ (by simp)
  rw[hall]
  rw[if_neg (by simp)]
  have ht₁:h₁.IsList t items:=(ht.push _).extBut hs₁.extBut hlt
  refine wpAny_bind (wpAny_holding (wpAny_pyNext_list_end hh hit₁ ht₁ (by simp) λh₂ he₂=>?_))
  simp only[Option.isSome_none,Bool.false_eq_true,if_false]
  refine wpAny_pure (hQ h₂ λb o hb e=>he₂ b o hb (hs₁.extBut b o hb (az _ e)))
end
section
variable{X:Cx}{pos:Pos}
def Fe(K:Fg)(n:Nat)(t:C7):TG:=λv σ H Q=>∃a xs,v=.ref a/\cz K H a xs/\xs.length=n/\t xs σ H Q
theorem IF{es:List Expr}{k:Nat}{t:C7}{n:Nat}(hc:X.calm=true)(h:LF X es t)
  (hn:(assignEach es X.env).length=n:=by rfl) (hst:(assignEach es X.env).findIdx? (·.1)=none:=by rfl):PG X (.Tuple es k pos) (Fe X.K n t):=by
 intro pins s σ H v u Q I r hw
 obtain⟨a,xs,e1,hq,hl,hw⟩:=hw
 subst e1
 cases r
 obtain⟨its,rv,ht,hz⟩:=I.list hq
 rw[assign_Tuple]
 refine wpAny_bind (wpAny_standAt ?_)
 unfold unpack
 have e:(assignEach es X.env).length=its.toArray.size:=by simp[hn,<-hl,rv.length]
 rw[e,hst]
 refine wpAny_bind (wpAny_holding (qX (I.ok.hd hc) ht.isList λh' hx=>?_))
 have I1:bP X pins σ H {s with heap:=h'}:=I.kept (t':=s.toks) λb o e=>hx b o (bh (aJ e)) e
 exact h pins _ σ H xs _ Q I1 (by simpa using rv) hw
end
def Mx:R2:=λx y H Q=>∃i j,x=.str i/\y=.str j/\i.length+j.length<=sizeLine/\Q (.str (i++j)) H
def dr(K:Fg):R2:=λx y H Q=>EF (λi j=>.int (i+j)) x y H Q\/(Mx x y H Q\/(Mo x y H Q\/JT K x y H Q))
def sd:R2:=EF λi j=>.int (i-j)
def jW(K:Fg):R2:=λx y H Q=>rI Hg (λi j=>.int (i*j)) x y H Q\/JY K x y H Q
def lE:R2:=rI (λ_ j=>0<j) λi j=>.int (i % j)
def Bx:R2:=rI LJ λi j=>.int (i / j)
def CA:R2:=rI LK λi j=>.int (i ^ j.toNat)
def eX(K:Fg):R2:=λx y H Q=>Nk x y H Q\/(Jg K false x y H Q\/(JU K x y H Q\/Jf K false x y H Q))
def uP(K:Fg):R2:=λx y H Q=>Nl x y H Q\/(Jg K true x y H Q\/Jf K true x y H Q)
def pN:R2:=EF λi j=>.bl (decide (i<j))
def Lm:R2:=EF λi j=>.bl (decide (j<i))
def Jh:R2:=EF λi j=>.bl (decide (j<=i))
def Mp:R2:=λx y H Q=>y=.non/\Q (.bl (decide (x=.non))) H
def JX:R2:=λx y H Q=>y=.non/\Q (.bl (!decide (x=.non))) H
def zy:V->Hp->VK->Prop:=rU λi=>.int (-i)
def r8(K:Fg):V->Option Int->Option Int->Hp->VK->Prop:=λx lo hi H Q=>Mv K x lo hi H Q\/Mw K x lo hi H Q
def eP(K:Fg):List V->Hp->VK->Prop:=λxs H Q=>∃x n,xs=[x]/\LN K x H n/\Q (.int n) H
def Je:List V->Hp->VK->Prop:=λxs H Q=>∃i j,xs=[.int i,.int j]/\(0<j/\j<2 ^ 64)/\∀p,H p=none->Q (.ref p) (upd H p (.tup [.int (i / j),.int (i % j)]))
def Mt:List V->Hp->VK->Prop:=λxs H Q=>∃i j,xs=[.int i,.int j]/\Q (.int (if j>i then j else i)) H
def Mu:List V->Hp->VK->Prop:=λxs H Q=>∃i j,xs=[.int i,.int j]/\Q (.int (if j<i then j else i)) H
def M4(K:Fg):List V->Hp->VK->Prop:=λxs H Q=>∃(p:Addr) (ns:List Int),xs=[.ref p]/\cz K H p (ns.map V.int)/\∀z:Int,Q (.int z) H
def M3(K:Fg):List V->Hp->VK->Prop:=λxs H Q=>∃x T b,xs=[x,.ty T]/\vA K H x T b/\Q (.bl b) H
def Gn:List V->Hp->VK->Prop:=λxs H Q=>(∃i,xs=[.int i]/\Q (.int i) H)\/∃k,xs=[.bl k]/\Q (.int (if k then 1 else 0)) H
def t8(K:Fg):List V->Hp->VK->Prop:=λxs H Q=>∃p ys,xs=[.ref p]/\(cz K H p ys\/cY K H p ys)/\∀l,H l=none->Q (.ref l) (upd H l (.lst ys))
def i9(K:Fg):List V->Hp->VK->Prop:=λxs H Q=>∃p ys,xs=[.ref p]/\((cz K H p ys/\∀l,H l=none->Q (.ref l) (upd H l (.tup ys)))\/(cY K H p ys/\Q (.ref p) H))
def ju(K:Fg)(tl:TE):TI:=λσ H R=>JN K tl σ H R\/L4 K tl σ H R
section
variable{X:Cx}
theorem cw:kf X (binaryOp .Add) (dr X.K):=Ky.or (Bt.or (Kz.or Ip))
theorem gU:kf X (binaryOp .Mult) (jW X.K):=KF.or Iv
theorem cy(hu:X.A.units<cLine):kf X (compareOp .Eq) (eX X.K):=Ma.or ((KC hu).or ((Ir hu).or (KA hu)))
theorem lP(hu:X.A.units<cLine):kf X (compareOp .NotEq) (uP X.K):=Mb.or ((KI hu).or (KG hu))
theorem iL:Hn X (r8 X.K):=Jv.or Lx
theorem K6{tg l:Expr}{tl:TE}(hl:PE X l tl):PI X tg l (ju X.K tl):=by
 intro pins s σ H R I h
 rcases h with h|h
 ·exact II hl pins s σ H R I h
 ·exact K7 hl pins s σ H R I h
end
structure aL(P:Program)(w:World)(K:Fg)(mg:Str->Option Value)(base:Heap)(x:Str)(ps:List Str)(k:Nat)(sp:Sp):Prop where
 ex:∃(f:Addr) (fd:FuncData),mg x=some (.ref f)/\aI K (.ref f)=true/\nN K fd ps []/\d5 P w K mg base fH k f fd ps sp
theorem Mg{X:Cx}{x:Str}{ps:List Str}{k:Nat}{sp:Sp}{e:Expr}{es:List Expr}{t:TA}{p pos:Pos}(c:aL X.prog X.w X.K X.mg X.base x ps k sp)(hr:df k X.A)(hg:Gl X x)(ha:PA X (e::es) t)
  (hdb:(x==("__debug__":Str))=false:=by decide) (he:starEach (e::es) X.env=(false,eval e X.env)::starEach es X.env:=by rfl) (hpl:(backTo pos (starEach es X.env)).any (·.1)=false:=by rfl) :
  PE X (.Call (.Name x p) (e::es) [] pos) (bE sp [] E0 t):=by
 obtain⟨f,fd,hm,hk,hb,F⟩:=c.ex
 exact Cw F hr hg hm hk hb .nil Mc ha hdb he hpl
structure gf(mg:Str->Option Value):Prop where
 len_:mg "len"=none
 range_:mg "range"=none
 divmod_:mg "divmod"=none
 max_:mg "max"=none
 min_:mg "min"=none
 sum_:mg "sum"=none
 all_:mg "all"=none
 isinstance_:mg "isinstance"=none
 int_:mg "int"=none
 bool_:mg "bool"=none
 list_:mg "list"=none
 tuple_:mg "tuple"=none
 enumerate_:mg "enumerate"=none
 zip_:mg "zip"=none
 sorted_:mg "sorted"=none
 set_:mg "set"=none
 dict_:mg "dict"=none
 str_:mg "str"=none
 any_:mg "any"=none
 reversed_:mg "reversed"=none
 abs_:mg "abs"=none
def fu(a:Addr)(H H':Hp):Prop:=∀b o,b≠a->H b=some o->H' b=some o
theorem fu.refl(a:Addr)(H:Hp):fu a H H:=λ_ _ _ h=>h
theorem fu.trans{a:Addr}{H H1 H2:Hp}(x:fu a H H1)(y:fu a H1 H2):fu a H H2:=λc o n h=>y c o n (x c o n h)
theorem aS.but{a:Addr}{H H':Hp}(x:aS H H'):fu a H H':=λb o _ h=>x b o h
theorem fu.upd_at{a:Addr}{H:Hp}{o:HO}:fu a H (upd H a o):=λb u n h=>by rw[aA n];exact h
theorem fu.new{a p:Addr}{H H1:Hp}{o:HO}(x:fu a H H1)(hp:H1 p=none):fu a H (upd H1 p o):=λb u n h=>by
 rw[aA (ar (x b u n h) hp)];exact x b u n h
theorem aS.new{p:Addr}{H H1:Hp}{o:HO}(x:aS H H1)(hp:H1 p=none):aS H (upd H1 p o):=λb u h=>by
 rw[aA (ar (x b u h) hp)];exact x b u h
theorem fu.free{a p:Addr}{H H':Hp}(x:fu a H H')(n:p≠a)(h:H' p=none):H p=none:=by
 cases q:H p with
 |none=>rfl
 |some o=>rw[x p o n q] at h;cases h
theorem mT{js:List Nat}{k:Nat}{lo:Int}{n:Nat}{g:TG}{tc:TT}{te:TE}{R:Hp->Prop}{σ:St}{H:Hp}{D:Addr}(Pv:Nat->St->Hp->Prop)(h0:Pv 0 (Cm js k σ) (upd H D (.lst [])))
  (hs:∀i σ H,i<n->Pv i σ H->g (.int (lo+i)) σ H λσ2 H2=>tJ D tc te {nx:=Pv (i+1),rt:=λ_ _=>False,ct:=Pv (i+1),bk:=λ_ H'=>R H'} σ2 H2) (hd:∀σ H,Pv n σ H->R H) :
  ∃W:Nat->Nat->St->Hp->Prop,(∃m,W 0 m (Cm js k σ) (upd H D (.lst [])))/\∀i m σ H,W i m σ H->
   ((Hc lo n).stop i H/\R H)\/((Hc lo n).go i H/\∃N:St->Hp->Prop,(∀σ' H',N σ' H'->∃m',m'<m/\W (i+1) m' σ' H')/\∀x H',(Hc lo n).yld i H x H'->g x σ H' λσ2 H2=>tJ D tc te {nx:=N,rt:=λ_ _=>False,ct:=N,bk:=λ_ H'=>R H'} σ2 H2):=
 gD (D:={nx:=λ_ H'=>R H',rt:=λ_ _=>False}) Pv h0 hs hd
theorem ma{js:List Nat}{k:Nat}{K:Fg}{a:Addr}{xs:List V}{g:TG}{tc:TT}{te:TE}{R:Hp->Prop}{σ:St}{H:Hp}{D:Addr}(Pv:Nat->St->Hp->Prop)(h0:Pv 0 (Cm js k σ) (upd H D (.lst [])))(hl:∀i σ H,i<=xs.length->Pv i σ H->cz K H a xs)
  (hs:∀i x σ H,xs[i]?=some x->Pv i σ H->g x σ H λσ2 H2=>tJ D tc te {nx:=Pv (i+1),rt:=λ_ _=>False,ct:=Pv (i+1),bk:=λ_ H'=>R H'} σ2 H2) (hd:∀σ H,Pv xs.length σ H->R H) :
  ∃W:Nat->Nat->St->Hp->Prop,(∃m,W 0 m (Cm js k σ) (upd H D (.lst [])))/\∀i m σ H,W i m σ H->
   ((JH K a).stop i H/\R H)\/((JH K a).go i H/\∃N:St->Hp->Prop,(∀σ' H',N σ' H'->∃m',m'<m/\W (i+1) m' σ' H')/\∀x H',(JH K a).yld i H x H'->g x σ H' λσ2 H2=>tJ D tc te {nx:=N,rt:=λ_ _=>False,ct:=N,bk:=λ_ H'=>R H'} σ2 H2):=
 md (D:={nx:=λ_ H'=>R H',rt:=λ_ _=>False}) Pv h0 hl hs hd
theorem qd{js:List Nat}{k:Nat}{K:Fg}{a:Addr}{xs:List V}{g:TG}{tc:TT}{te:TE}{R:Hp->Prop}{σ:St}{H:Hp}{D:Addr}(Pv:Nat->St->Hp->Prop)(h0:Pv 0 (Cm js k σ) (upd H D (.lst [])))(hl:∀i σ H,i<=xs.length->Pv i σ H->cY K H a xs)
  (hs:∀i x σ H,xs[i]?=some x->Pv i σ H->g x σ H λσ2 H2=>tJ D tc te {nx:=Pv (i+1),rt:=λ_ _=>False,ct:=Pv (i+1),bk:=λ_ H'=>R H'} σ2 H2) (hd:∀σ H,Pv xs.length σ H->R H) :
  ∃W:Nat->Nat->St->Hp->Prop,(∃m,W 0 m (Cm js k σ) (upd H D (.lst [])))/\∀i m σ H,W i m σ H->
   ((JI K a).stop i H/\R H)\/((JI K a).go i H/\∃N:St->Hp->Prop,(∀σ' H',N σ' H'->∃m',m'<m/\W (i+1) m' σ' H')/\∀x H',(JI K a).yld i H x H'->g x σ H' λσ2 H2=>tJ D tc te {nx:=N,rt:=λ_ _=>False,ct:=N,bk:=λ_ H'=>R H'} σ2 H2):=
 ki (D:={nx:=λ_ H'=>R H',rt:=λ_ _=>False}) Pv h0 hl hs hd
theorem fu.through{a l:Addr}{H H1 H2:Hp}{o:HO}(x:fu a H H1)(hl:H1 l=none)(y:fu l (upd H1 l o) H2):fu a H H2:=λb u n h=>by
 have h1:=x b u n h
 have nl:b≠l:=ar h1 hl
 exact y b u nl (by rw[aA nl];exact h1)
structure QE(X:Cx)(e:Expr)(t:TE):Prop where
 up:PE X e t
structure QT(X:Cx)(e:Expr)(t:TT):Prop where
 up:PT X e t
structure QW(X:Cx)(e:Expr)(t:TT):Prop where
 up:PW X e t
structure QA(X:Cx)(e:List Expr)(t:TA):Prop where
 up:PA X e t
structure QS(X:Cx)(e:Stmt)(t:TS):Prop where
 up:PS X e t
structure j6(X:Cx)(e:List Stmt)(t:TS):Prop where
 up:jg X e t
structure QG(X:Cx)(e:Expr)(t:TG):Prop where
 up:PG X e t
structure LR(X:Cx)(e:List Expr)(t:C7):Prop where
 up:LF X e t
structure QI(X:Cx)(a b:Expr)(t:TI):Prop where
 up:PI X a b t
structure QO(X:Cx)(e:Option Expr)(t:TO):Prop where
 up:PO X e t
structure Hm(X:Cx)(e:List Expr)(t:TT):Prop where
 up:C6 X e t
theorem qv(i:Nat){x:Str}{pos:Pos}(hN:X.N[i]?=some x:=by rfl)(hv:MI X.env.scope x:=by first|exact Or.inl rfl|exact Or.inr (Or.inl rfl)|exact Or.inr (Or.inr rfl))(hd:(x==("__debug__":Str))=false:=by decide)(hcd:(x==("__classdict__":Str))=false:=by decide):QE X (.Name x pos) (aq i):=
 ⟨pv i hN hv hd hcd⟩
theorem ay{i j pos}:QE X (.Constant (.int i) j pos) (tC (.int i)):=
 ⟨KP ⟩
theorem jM{b j pos}:QE X (.Constant (.bool b) j pos) (tC (.bl b)):=
 ⟨Me ⟩
theorem mY{j pos}:QE X (.Constant .none j pos) (tC .non):=
 ⟨FV ⟩
theorem aR{x j pos}:QE X (.Constant (.str x) j pos) (tC (.str x)):=
 ⟨KS ⟩
theorem bS{op:Operator}{r:R2}(ho:kf X (binaryOp op) r)(ha:QE X a ta)(hb:QE X b tb):QE X (.BinOp a op b pos) (bb r ta tb):=
 ⟨Mi ho ha.up hb.up⟩
theorem rZ{op:UnaryOp}{r:V->Hp->VK->Prop}(ho:MH X (unaryOp op) r)(ha:QE X a ta):QE X (.UnaryOp op a pos) (Hf r ta):=
 ⟨Ml ho ha.up⟩
theorem eI{op:CmpOp}{r:R2}(ho:kf X (compareOp op) r)(ha:QE X a ta)(hb:QE X b tb)(hm:behindInMarks op b=false):QE X (.Compare a [op] [b] pos) (bb r ta tb):=
 ⟨Iz ho ha.up hb.up hm⟩
theorem pL{rest:List Expr}(ha:QE X a ta)(hb:QE X (.BoolOp .And (b::rest) pos) tb):QE X (.BoolOp .And (a::b::rest) pos) (qz ta tb):=
 ⟨KM ha.up hb.up⟩
theorem Gg{rest:List Expr}(ha:QE X a ta)(hb:QE X (.BoolOp .Or (b::rest) pos) tb):QE X (.BoolOp .Or (a::b::rest) pos) (GI ta tb):=
 ⟨Mj ha.up hb.up⟩
theorem n5{op}{t:TE}(h:QE X a t):QE X (.BoolOp op [a] pos) t:=
 ⟨KR h.up⟩
theorem fh{lo hi:Option Expr}{r:V->Option Int->Option Int->Hp->VK->Prop}(hr:Hn X r)(he:QE X e te)(hl:QO X lo tl)(hu:QO X hi th):QE X (.Subscript e (.Slice lo hi none p2) pos) (u5 r te tl th):=
 ⟨FW hr he.up hl.up hu.up⟩
theorem aQ{r:R2}(hr:Hd X r)(ha:QE X a ta)(hb:QE X b tb)(hs:Ca b):QE X (.Subscript a b pos) (bb r ta tb):=
 ⟨Mh hr ha.up hb.up hs⟩
theorem bR{x1}(h:QA X es t):QE X (.Tuple es x1 pos) (dC t):=
 ⟨KU h.up⟩
theorem cR(h:QA X es t):QE X (.List es pos) (fZ t):=
 ⟨KQ h.up⟩
theorem mq{id:String}(pa:PlainAttrs T)(slot:Slot T name id)(hty:typeOf (.builtin id)=pure (.type "method_descriptor"))(hm:LD X id r)(ho:QE X o to)(ha:QA X (e::es) t)(hbase:attributeBase o name X.env (eval o X.env)=eval o X.env:=by rfl)(hfew:((backTo cpos (starEach (e::es) X.env)).all (λx=>!x.1)&&(backToKw cpos (keywordEach [] X.env)).all (λx=>x.1.isSome)
   && decide ((e::es).length+([]:List Keyword).length+(if([]:List Keyword).isEmpty then 0 else 1)<30))=true:=by rfl) (hline:(apos.endLine==cpos.line)=true:=by rfl) (hs:starEach (e::es) X.env=(false,eval e X.env)::starEach es X.env:=by rfl) (hplain:(backTo cpos (starEach es X.env)).any (·.1)=false:=by rfl):QE X (.Call (.Attribute o name apos) (e::es) [] cpos) (BD X.K T r to t):=
 ⟨Mf pa slot hty hm ho.up ha.up hbase hfew hline hs hplain⟩
theorem Ge{id:String}(pa:PlainAttrs T)(slot:Slot T name id)(hty:typeOf (.builtin id)=pure (.type "method_descriptor"))(hm:LD X id r)(ho:QE X o to)(hbase:attributeBase o name X.env (eval o X.env)=eval o X.env:=by rfl)(hline:(apos.endLine==cpos.line)=true:=by rfl):QE X (.Call (.Attribute o name apos) [] [] cpos) (Jx X.K T r to):=
 ⟨KN pa slot hty hm ho.up hbase hline⟩
theorem bq{id:String}(hc:jh X (.builtin id) r)(hg:Gl X x)(hm:X.mg x=none)(hv:bootBuiltins x=some (.builtin id))(ha:QA X (e::es) t)(hn:x≠"__name__":=by decide)(hdb:(x==("__debug__":Str))=false:=by decide)(he:starEach (e::es) X.env=(false,eval e X.env)::starEach es X.env:=by rfl)(hpl:(backTo pos (starEach es X.env)).any (·.1)=false:=by rfl):QE X (.Call (.Name x p) (e::es) [] pos) (fR r t):=
 ⟨FS hc hg hm hv ha.up hn hdb he hpl⟩
theorem dG(hc:jh X (.type T) r)(hg:Gl X x)(hm:X.mg x=none)(hv:bootBuiltins x=some (.type T))(ha:QA X (e::es) t)(hn:x≠"__name__":=by decide)(hdb:(x==("__debug__":Str))=false:=by decide)(he:starEach (e::es) X.env=(false,eval e X.env)::starEach es X.env:=by rfl)(hpl:(backTo pos (starEach es X.env)).any (·.1)=false:=by rfl):QE X (.Call (.Name x p) (e::es) [] pos) (fR r t):=
 ⟨D0 hc hg hm hv ha.up hn hdb he hpl⟩
theorem bQ{X:Cx}{x:Str}{ps:List Str}{k:Nat}{sp:Sp}{e:Expr}{es:List Expr}{t:TA}{p pos:Pos}(c:aL X.prog X.w X.K X.mg X.base x ps k sp)(hr:df k X.A)(hg:Gl X x)(ha:QA X (e::es) t)(hdb:(x==("__debug__":Str))=false:=by decide)(he:starEach (e::es) X.env=(false,eval e X.env)::starEach es X.env:=by rfl)(hpl:(backTo pos (starEach es X.env)).any (·.1)=false:=by rfl):QE X (.Call (.Name x p) (e::es) [] pos) (bE sp [] E0 t):=
 ⟨Mg c hr hg ha.up hdb he hpl⟩
theorem mX{wi:TI}(ok:ue sc N scope NY js)(hsc:X.env.scope=sc)(hN:X.N=N)(hk:NY.length=N.length+k)(hc:X.calm=true)(hit:QI X target iter wi)(hg:∀cl C s₀ H₀ fp,QG (eU X NY scope cl C s₀ H₀ fp) target g)(hi:∀cl C s₀ H₀ fp,Hm (eU X NY scope cl C s₀ H₀ fp) ifs tc)(he:∀cl C s₀ H₀ fp,QE (eU X NY scope cl C s₀ H₀ fp) elt te)(hs:∀x,foldedSetIterable iter X.env x=pure x:=by intro _;rfl):QE X (.ListComp elt [⟨target,iter,ifs,0⟩] scope pos) (jO js k wi g tc te):=
 ⟨IA ok hsc hN hk hc hit.up (λcl C s₀ H₀ fp=>(hg cl C s₀ H₀ fp).up) (λcl C s₀ H₀ fp=>(hi cl C s₀ H₀ fp).up) (λcl C s₀ H₀ fp=>(he cl C s₀ H₀ fp).up) hs⟩
theorem oQ{wi:TI}{i:Nat}{y:Str}{py spos:Pos}(ok:ue sc N scope NY js)(hsc:X.env.scope=sc)(hN:X.N=N)(hk:NY.length=N.length+k)(hc:X.calm=true)(hit:QI X target iter wi)(hg:∀cl C s₀ H₀ fp,QG (eU X NY scope cl C s₀ H₀ fp) target g)(hi:∀cl C s₀ H₀ fp,Hm (eU X NY scope cl C s₀ H₀ fp) ifs tc)(he:∀cl C s₀ H₀ fp,QE (eU X NY scope cl C s₀ H₀ fp) elt te)(nd:X.N.Nodup)(hy:X.N[i]?=some y)(hl:JK X.env.scope y)(hsw:swapsWith (.ListComp elt [⟨target,iter,ifs,0⟩] scope pos) (some (.Name y py)) spos.line X.env=pure true)(hs:∀x,foldedSetIterable iter X.env x=pure x:=by intro _;rfl)(hf:X.fn y=true\/X.env.scope.names.lookup y=some .local:=by first|exact .inl rfl|exact .inr rfl|assumption):QS X (.Assign [.Name y py] (.ListComp elt [⟨target,iter,ifs,0⟩] scope pos) spos) (bV (jO js k wi g tc te) (aP i)):=
 ⟨IR ok hsc hN hk hc hit.up (λcl C s₀ H₀ fp=>(hg cl C s₀ H₀ fp).up) (λcl C s₀ H₀ fp=>(hi cl C s₀ H₀ fp).up) (λcl C s₀ H₀ fp=>(he cl C s₀ H₀ fp).up) nd hy hl hsw hs hf⟩
theorem gI :QO X none dU:=
 ⟨IM ⟩
theorem fQ(h:QE X e te):QO X (some e) (gJ te):=
 ⟨IP h.up⟩
theorem av :QA X [] aE:=
 ⟨KL ⟩
theorem ae(ha:QE X e te)(hr:QA X es t)(hs:starEach (e::es) X.env=(false,eval e X.env)::starEach es X.env:=by rfl):QA X (e::es) (af te t):=
 ⟨Iw ha.up hr.up hs⟩
theorem aT{op:CmpOp}{r:R2}(ho:kf X (compareOp op) r)(ha:QE X a ta)(hb:QE X b tb)(hm:behindInMarks op b=false):QT X (.Compare a [op] [b] pos) (bH (bb r ta tb)):=
 ⟨IW ho ha.up hb.up hm⟩
theorem Lk(ha:QT X a tA):QT X (.UnaryOp .Not a pos) (LA tA):=
 ⟨Lf ha.up⟩
theorem lS{rest:List Expr}(ha:QT X a tA)(hb:QW X (.BoolOp .And (b::rest) pos) tB'):QW X (.BoolOp .And (a::b::rest) pos) (qy tA tB'):=
 ⟨Lh ha.up hb.up⟩
theorem kq(ha:QT X a tA):QW X (.BoolOp .And [a] pos) tA:=
 ⟨IZ ha.up⟩
theorem oX{rest:List Expr}(ha:QT X a tA)(hb:QW X (.BoolOp .Or (b::rest) pos) tB'):QW X (.BoolOp .Or (a::b::rest) pos) (EG tA tB'):=
 ⟨Mn ha.up hb.up⟩
theorem mZ(ha:QT X a tA):QW X (.BoolOp .Or [a] pos) tA:=
 ⟨Li ha.up⟩
theorem QW.pt{X:Cx}{e:Expr}{t:TT}(h:QW X e t):QT X e t:=
 ⟨PW.pt h.up⟩
theorem i8{e:Expr}{t:TE}(h:QE X e t)(he:∀whole,isTrue e X.env whole=(do let v <-whole;standAt e.pos;holding [v] (truthy v)):=by intro _;rfl):QT X e (tB t):=
 ⟨Lg h.up he⟩
theorem fz{a:Expr}{ta:TA}{p pos:Pos}(hg:Gl X "range")(hm:X.mg "range"=none)(ha:QA X [a] ta)(hs:starEach [a] X.env=[(false,eval a X.env)]:=by rfl):QI X tg (.Call (.Name "range" p) [a] [] pos) (lB ta):=
 ⟨D5 hg hm ha.up hs⟩
theorem D8{a b:Expr}{ta:TA}{p pos:Pos}(hg:Gl X "range")(hm:X.mg "range"=none)(ha:QA X [a,b] ta)(hs:starEach [a,b] X.env=[(false,eval a X.env),(false,eval b X.env)]:=by rfl)(hs2:starEach [b] X.env=[(false,eval b X.env)]:=by rfl):QI X tg (.Call (.Name "range" p) [a,b] [] pos) (Fk ta):=
 ⟨D6 hg hm ha.up hs hs2⟩
theorem Jc{a:Expr}{ta:TA}{p pos:Pos}(hg:Gl X "enumerate")(hm:X.mg "enumerate"=none)(ha:QA X [a] ta)(hs:starEach [a] X.env=[(false,eval a X.env)]:=by rfl):QI X (.Tuple elts k tpos) (.Call (.Name "enumerate" p) [a] [] pos) (Fj X.K ta):=
 ⟨IH hg hm ha.up hs⟩
theorem Lj{a b:Expr}{ta:TA}{p pos:Pos}(hg:Gl X "zip")(hm:X.mg "zip"=none)(ha:QA X [a,b] ta)(hs:starEach [a,b] X.env=[(false,eval a X.env),(false,eval b X.env)]:=by rfl)(hs2:starEach [b] X.env=[(false,eval b X.env)]:=by rfl):QI X (.Tuple elts k tpos) (.Call (.Name "zip" p) [a,b] [] pos) (Kg X.K ta):=
 ⟨K8 hg hm ha.up hs hs2⟩
theorem fo{tg l:Expr}{tl:TE}(hl:QE X l tl):QI X tg l (ju X.K tl):=
 ⟨K6 hl.up⟩
theorem bL{i:Nat}{x:Str}(hN:X.N.Nodup)(hi:X.N[i]?=some x)(hx:JK X.env.scope x)(hf:X.fn x=true\/X.env.scope.names.lookup x=some .local:=by first|exact .inl rfl|exact .inr rfl|assumption):QG X (.Name x pos) (aP i):=
 ⟨IE hN hi hx hf⟩
theorem pM{es:List Expr}{k:Nat}{t:C7}{n:Nat}(hc:X.calm=true)(h:LR X es t)(hn:(assignEach es X.env).length=n:=by rfl)(hst:(assignEach es X.env).findIdx? (·.1)=none:=by rfl):QG X (.Tuple es k pos) (xY X.K n t):=
 ⟨KZ hc h.up hn hst⟩
theorem Jb{es:List Expr}{k:Nat}{t:C7}{n:Nat}(hc:X.calm=true)(h:LR X es t)(hn:(assignEach es X.env).length=n:=by rfl)(hst:(assignEach es X.env).findIdx? (·.1)=none:=by rfl):QG X (.Tuple es k pos) (Fe X.K n t):=
 ⟨IF hc h.up hn hst⟩
theorem lD :LR X [] vD:=
 ⟨IG ⟩
theorem dY{e:Expr}{es:List Expr}{t:TG}{u:C7}(h1:QG X e t)(h2:LR X es u)(hs:(assignEach (e::es) X.env).map (·.2)=assign e X.env::(assignEach es X.env).map (·.2):=by rfl):LR X (e::es) (iT t u):=
 ⟨FX h1.up h2.up hs⟩
theorem jV{o i:Expr}{to ti:TE}{t:Ho}(ho:QE X o to)(hi:QE X i ti)(hs:Hk X t)(ha:∀v,assign (.Subscript o i pos) X.env v=(do
   let ov <-holding [v] (eval o X.env)
   let iv <-holding [v,ov] (eval i X.env)
   standAt pos
   holding [v,ov,iv] (setItem ov iv v)
   release [v,ov,iv] []):=by intro _;rfl):QG X (.Subscript o i pos) (pI to ti t):=
 ⟨KY ho.up hi.up hs ha⟩
theorem bx{i:Nat}{x:Str}{e:Expr}{te:TE}{pos':Pos}(hN:X.N.Nodup)(hi:X.N[i]?=some x)(hx:JK X.env.scope x)(he:QE X e te)(hs:swapsWith e (some (.Name x pos')) pos.line X.env=pure false:=by rfl)(hf:X.fn x=true\/X.env.scope.names.lookup x=some .local:=by first|exact .inl rfl|exact .inr rfl|assumption):QS X (.Assign [.Name x pos'] e pos) (bV te (aP i)):=
 ⟨Ld hN hi hx he.up hs hf⟩
theorem i6{tg e:Expr}{te:TE}{g:TG}(he:QE X e te)(hg:QG X tg g)(hs:swapsWithSole [tg] e pos.line X.env=pure false:=by rfl)(hw:swappedStores [tg] e X.env=pure none:=by rfl)(h1:(assignEach [tg] X.env).map (·.2)=[assign tg X.env]:=by rfl):QS X (.Assign [tg] e pos) (bV te g):=
 ⟨La he.up hg.up hs hw h1⟩
theorem fE(he:QE X e te)(hs:swapsWith e none pos.line X.env=pure false:=by rfl):QS X (.Expr e pos) (jf te):=
 ⟨IS he.up hs⟩
theorem bw(he:QE X e te):QS X (.Return (some e) pos) (cM te):=
 ⟨Lc he.up⟩
theorem cf{c:Expr}{a b:List Stmt}{tc:TT}(hc:QT X c tc)(ha:j6 X a t)(hb:j6 X b u):QS X (.If c a b pos) (cZ tc t u):=
 ⟨Mm hc.up ha.up hb.up⟩
theorem qo{c:Expr}{body:List Stmt}{tc:TT}{tb:TS}(hp:PassesOwn (model X.prog X.w) X.A X.env X.xe)(hc:QT X c tc)(hb:j6 X body tb):QS X (.While c body [] pos) (rP tc tb):=
 ⟨Gc hp hc.up hb.up⟩
theorem eC{iter:Expr}{body:List Stmt}{wi:TI}{g:TG}{tb:TS}{pos:Pos}(hp:PassesOwn (model X.prog X.w) X.A X.env X.xe)(hc:X.calm=true)(hi:QI X tg iter wi)(hg:QG X tg g)(hb:j6 X body tb)(hs:∀x,foldedSetIterable iter X.env x=pure x:=by intro _;rfl):QS X (.For tg iter body [] pos) (iR wi g tb):=
 ⟨Lb hp hc hi.up hg.up hb.up hs⟩
theorem aw{st:Stmt}{rest:List Stmt}(h1:QS X st t)(h2:j6 X rest u):j6 X (st::rest) (bA t u):=
 ⟨Gd h1.up h2.up⟩
theorem aB{st:Stmt}(h1:QS X st t):j6 X [st] t:=
 ⟨IV h1.up⟩
theorem bo :j6 X [] bW:=
 ⟨IU ⟩
theorem qm{x:Str}{v:V}{u:Value}{pos:Pos}(hg:Gl X x)(hm:X.mg x=none)(hv:bootBuiltins x=some u)(r:de v u)(hn:x≠"__name__":=by decide)(hd:(x==("__debug__":Str))=false:=by decide):QE X (.Name x pos) (tC v):=
 ⟨Iy hg hm hv r hn hd⟩
theorem ko{X:Cx}:Hm X [] qA:=
 ⟨IJ ⟩
theorem tZ{X:Cx}{c:Expr}{t:TT}(h:QT X c t):Hm X [c] t:=
 ⟨IK h.up⟩
def Gm(neg:Bool):R2:=λx y H Q=>∃a o,y=.ref a/\yI H a x o/\Q (.bl (if neg then !o.isSome else o.isSome)) H
def CB:V->V->V->Hp->(Hp->Prop)->Prop:=λo i v H Q=>∃a H',o=.ref a/\AB H a i v H'/\Q H'
section
variable{X:Cx}
theorem KD(hu:X.A.units+1<cLine):kf X (compareOp .In) (Gm false):=by
 intro pins s σ H x y v u Q I rx ry h
 obtain⟨a,o,rfl,g,q⟩:=h
 cases ry
 exact MW hu I g rx λs' I'=>⟨.bl o.isSome,H,I',rfl,q⟩
theorem wF(hu:X.A.units+1<cLine):kf X (compareOp .NotIn) (Gm true):=by
 intro pins s σ H x y v u Q I rx ry h
 obtain⟨a,o,rfl,g,q⟩:=h
 cases ry
 exact HB hu I g rx λs' I'=>⟨.bl (!o.isSome),H,I',rfl,q⟩
theorem uZ(hu:X.A.units+1<cLine):Hk X CB:=by
 intro pins s σ H o i v ov iv u Q I ro ri rv h
 obtain⟨a,H',rfl,g,q⟩:=h
 cases ro
 exact Dn hu I g ri rv λs' I'=>⟨H',I',q⟩
theorem yE:∀{us:List Value} {ns:List Int},IntsAre us ns->cO (ns.map V.int) us:=by
 intro us ns h
 induction h with
 |nil=>exact .nil
 |cons n t _ ih=>exact .cons ⟨t,rfl⟩ ih
theorem uH{prog:Program}{w:World}:∀{ns:List Int} {vs:List (gC×Value)} {us:List Value},vs.map (·.1)=ns.map Sum.inl->us.length=vs.length->(∀(j:Nat) v,us[j]?=some v->∃k x,vs[j]?=some (k,x)/\(eW prog w).is k v=true)->IntsAre us ns
 |[],vs,us,h1,h2,_=>by
  have:vs=[]:=by cases vs with|nil=>rfl|cons a r=>cases h1
  subst this
  have:us=[]:=dc.mp h2
  subst this
  exact .nil
 |n::ns,vs,us,h1,h2,h3=>by
  cases vs with
  |nil=>cases h1
  |cons a vs=>
   cases us with
   |nil=>cases h2
   |cons u us=>
    obtain⟨k,x,e,hk⟩:=h3 0 u rfl
    have e':a=(k,x):=Option.some.inj e
    subst e'
    injection h1 with h1 h1'
    have h1:k=Sum.inl n:=h1
    subst h1
    obtain⟨t,rfl⟩:=Value.isInt_shape (k:=n) (v:=u) hk
    refine .cons n t (uH (prog:=prog) (w:=w) h1' (by simpa using h2) λj v e=>?_)
    exact h3 (j+1) v (by simpa using e)
def Gr:List V->Hp->VK->Prop:=λxs H Q=>∃(d:Addr) (kvs:List (gC×V)) (ns:List Int),xs=[.ref d]/\H d=some (.dK kvs)/\kvs.map (·.1)=ns.map Sum.inl/\ns.length<64/\∀(l:Addr) (ns':List Int),H l=none->ns'.Perm ns->ns'.Pairwise (·<=·)->Q (.ref l) (upd H l (.lst (ns'.map V.int)))
theorem AQ(hc:X.calm=true):jh X (.builtin "sorted") Gr:=by
 intro pins s σ H xs us Q I r h
 obtain⟨d,kvs,ns,rfl,hd,hk,h64,q⟩:=h
 obtain⟨u,rfl,rx⟩:=oC r
 cases rx
 obtain⟨z,lo,vs,rel,dd⟩:=uA I.hok hd
 obtain⟨ep,hat⟩:=dd.dictAt
 have hh:X.A.handled=none:=I.ok.hd hc
 have kl:=rel.length
 have hv:vs.map (·.1)=ns.map Sum.inl:=by rw[<-rel.keys];exact hk
 have vl:vs.length=ns.length:=by have:=congrArg jG hv;simpa using this
 refine Calls.call_function_entry kind_sorted plain_sorted entry_sorted (args_sorted1 _) ?_
 unfold Builtin.«sorted»
 refine wpAny_bind (m:=checkCount "sorted" 1 1 _) (wpAny_pure ?_)
 refine wpAny_bind (PySem.W.kdu_collect (A:=X.A.in1) (PySem.W.kdl_dict (knd:=eW X.prog X.w) (kvs:=vs) (ep:=ep) lo) hh hat (by rw[<-kl];exact z) λh' tk acc hkp hacc=>?_)
 have hl:acc.toList.length=vs.length:=by rw[bX];exact hacc.1
 have hI:IntsAre acc.toList ns:=uH (prog:=X.prog) (w:=X.w) hv hl λj v e=>hacc.2 j v (by rw[<-dW];exact e)
 refine wpAny_bind (wpAny_newList ?_ (by rw[hl,<-kl];exact z))
 have hoL:(h'.push (seqObj "list" acc.toList.toArray 0)).get? h'.objs.size=some (seqObj "list" acc.toList.toArray 0):=aW _ rfl
 show wpAny _ _ _ _ _ {s with heap:=h'.push (seqObj "list" acc.toList.toArray 0),toks:=tk}
 refine wpAny_bind (wpAny_holding (wpAny_call_entry slot_list_sort ⟨_,hoL,rfl⟩ entry_list_sort (list_sort_tree hoL hI (by rw[hl,vl];exact h64) λout ns' a1 a2 a3=>⟨_,rfl,?_⟩) (args_list_sort _)))
 refine wpAny_pure ⟨_,rfl,?_⟩
 obtain⟨e,he⟩:=sortedHeap_at (n:=0) (out:=out) hoL
 have hn:=yE a1
 have hlen:ns'.length=ns.length:=a2.length_eq
 have I1:bP X pins σ H {s with heap:=h',toks:=tk}:=I.kept hkp
 refine⟨.ref h'.objs.size,_,I1.laid (t':=tk) (λb u q1=>?_) (aC _) (show eB X.prog X.w _ _ _ (.lst (ns'.map V.int)) from⟨?_,out.toList,e,hn,?_⟩),rfl,q _ _ (I1.hok.fresh (aC _)) a2 a3⟩
 ·have lt:=aJ q1
  rw[sortedHeap_old (bh lt) (by rw[size_push'];exact fA lt)]
  exact az _ q1
 ·rw[ao,hlen];exact ck (iX h64) (by decide)
 ·rw[Array.toArray_toList];exact he
end
structure Hi(K:Fg)(x qual:Str)(st:Stmt)(dV:Value)(f:Addr)(fd:FuncData):Prop where
 ex:∃(oc:Value) (od:Option Addr) (kV doc pm:Value) (an:Option Addr) (cdv ct:Value) (osl:Array (Option Value)),
  fd=aM x qual (bN st) (aO st) (au st) dV kV doc pm an cdv ct/\K.lookup f=some ⟨oc,od,.func fd,osl⟩/\aK K cdv qual=true
 kp:aI K (.ref f)=true
section
variable{P:Program}{w:World}{K:Fg}{mg:Str->Option Value}{base:Heap}
theorem Hi.ok{x qual:Str}{st:Stmt}{dV:Value}{f:Addr}{fd:FuncData}{N ps:List Str}{k:Nat}{sp:Sp}(F:Hi K x qual st dV f fd)(S:bU N ps (au st))(len:∀vs H Q E,sp vs H Q E->vs.length=ps.length)
  (hbody:∀(cdv:Value) (A:Around) (outer:List Env) (s:Shared) (H:Hp) (vs:List V) (Q:VK) (E:XK),df k (A.deeper (envOfC qual (au st) s.heap.objs.size f cdv))->sp vs H Q E->
   ∃t,jg (eE fH P w K mg base N qual (au st) f cdv A outer s H E).nox (aO st) t/\t {nx:=λ_ H'=>Q .non H',rt:=Q} (cU N vs) H):d5 P w K mg base fH (k+1) f fd ps sp:=by
 obtain⟨oc,od,kV,doc,pm,an,cdv,ct,osl,rfl,lk,hcd⟩:=F.ex
 refine Fc lk hcd S len λA outer s H vs Q E hr hsp=>?_
 obtain⟨t,h,q⟩:=hbody cdv A outer s H vs Q E hr hsp
 exact⟨t,h.nox,q⟩
theorem HN{x qual:Str}{st:Stmt}{dV:Value}{f:Addr}{oc:Value}{od an:Option Addr}{osl:Array (Option Value)}{kV doc pm cdv ct:Value}(l:K.lookup f=some ⟨oc,od,.func (aM x qual (bN st) (aO st) (au st) dV kV doc pm an cdv ct),osl⟩)
  (c:aK K cdv qual=true) (k:aI K (.ref f)=true):Hi K x qual st dV f (aM x qual (bN st) (aO st) (au st) dV kV doc pm an cdv ct):=⟨⟨oc,od,kV,doc,pm,an,cdv,ct,osl,rfl,l,c⟩,k⟩
end
structure MG(X:Cx)(pos:Pos)(keys:List (Option Expr))(values:List Expr)(trs:List (TE×TE)):Prop where
 up:LQ X pos keys values trs
theorem Jd{X:Cx}{pos:Pos}:MG X pos [] [] []:=⟨IQ⟩
theorem Gh{X:Cx}{pos:Pos}{k v:Expr}{ks:List (Option Expr)}{vs:List Expr}{tk tv:TE}{trs:List (TE×TE)}(hk:QE X k tk)(hv:QE X v tv)(hr:MG X pos ks vs trs):MG X pos (some k::ks) (v::vs) ((tk,tv)::trs):=⟨Ga hk.up hv.up hr.up⟩
theorem I0{X:Cx}{pos:Pos}{keys:List (Option Expr)}{values:List Expr}{trs:List (TE×TE)}(h:MG X pos keys values trs)(hall:keys.all (·.isSome)=true)(hl:keys.length=values.length)(h0:keys≠[])(h15:keys.length<=15):QE X (.Dict keys values pos) (GG trs):=⟨IB h.up hall hl h0 h15⟩
theorem zw{X:Cx}{pos:Pos}:QE X (.Dict [] [] pos) yz:=⟨FT⟩
end L2
end
section
namespace BgSet
open PySem
def He(ps:Array Nat):Prop:=ps.toList.Pairwise (·<·)
theorem He.at{ps:Array Nat}(hr:He ps){i j a b:Nat}(hij:i<j)(ha:ps[i]?=some a)(hb:ps[j]?=some b):a<b:=by
 rw[<-dW] at ha hb
 obtain⟨hi,rfl⟩:=aj.mp ha
 obtain⟨hj,rfl⟩:=aj.mp hb
 exact ia.mp hr i j hi hj hij
theorem ET{ps:Array Nat}{j:Nat}(hr:He ps):∀fl lo hi,hi-lo<=fl->hi<=ps.size->lo<=hi->
  (∀i a,i<lo->ps[i]?=some a->a<j)->(∀i a,hi<=i->ps[i]?=some a->j<=a)->
  SetTable.below.go ps j fl lo hi<=ps.size/\(∀i a,i<SetTable.below.go ps j fl lo hi->ps[i]?=some a->a<j)
   /\(∀i a,SetTable.below.go ps j fl lo hi<=i->ps[i]?=some a->j<=a):=by
 intro fl
 induction fl with
 |zero=>
  intro lo hi hf hs hl h1 h2
  have:lo=hi:=by lia
  subst this
  exact⟨hs,h1,h2⟩
 |succ fl ih=>
  intro lo hi hf hs hl h1 h2
  unfold SetTable.below.go
  by_cases hlt:lo<hi
  ·rw[if_pos hlt]
   have hm:(lo+hi) / 2<ps.size:=by lia
   have hg:ps[(lo+hi) / 2]?=some (ps.getD ((lo+hi) / 2) j):=by
    simp[Array.getD,hm]
   dsimp only
   by_cases hc:ps.getD ((lo+hi) / 2) j<j
   ·rw[if_pos hc]
    refine ih _ _ (by lia) hs (by lia) (λi a hi' ha=>?_) h2
    rcases mH i ((lo+hi) / 2) with hq|hq
    ·exact pS (hr.at hq ha hg) hc
    ·have:i=(lo+hi) / 2:=by lia
     subst this;rw[hg] at ha;cases ha;exact hc
   ·rw[if_neg hc]
    refine ih _ _ (by lia) (by lia) (by lia) h1 (λi a hi' ha=>?_)
    rcases mH ((lo+hi) / 2) i with hq|hq
    ·exact iX (iC (ub.mp hc) (hr.at hq hg ha))
    ·have:i=(lo+hi) / 2:=by lia
     subst this;rw[hg] at ha;cases ha;exact ub.mp hc
  ·rw[if_neg hlt]
   have:lo=hi:=by lia
   subst this
   exact⟨hs,h1,h2⟩
theorem yO{ps:Array Nat}(hr:He ps)(j:Nat):SetTable.below ps j<=ps.size/\(∀i a,i<SetTable.below ps j->ps[i]?=some a->a<j)
  /\(∀i a,SetTable.below ps j<=i->ps[i]?=some a->j<=a):=by
 refine ET hr ps.size 0 ps.size (aC _) (aC _) (dh _) (λi a h=>absurd h (cB _)) (λi a h ha=>?_)
 rw[Array.getElem?_eq_none h] at ha;cases ha
theorem BB{ps:Array Nat}(hr:He ps){j:Nat}(hn:∀i:Nat,ps[i]?≠some j):He (SetTable.insertAt ps (SetTable.below ps j) j):=by
 obtain⟨h1,h2,h3⟩:=yO hr j
 unfold He
 rw[SetTable.toList_insertAt]
 have hlow:∀a∈ps.toList.take (SetTable.below ps j),a<j:=λa ha=>by
  obtain⟨i,hi⟩:=List.getElem?_of_mem ha
  rw[List.getElem?_take] at hi
  split at hi
  ·rename_i hlt;exact h2 i a hlt (by rw[<-dW];exact hi)
  ·cases hi
 have hhigh:∀a∈ps.toList.drop (SetTable.below ps j),j<a:=λa ha=>by
  obtain⟨i,hi⟩:=List.getElem?_of_mem ha
  rw[List.getElem?_drop,dW] at hi
  have:=h3 _ a (Nat.le_add_right _ _) hi
  rcases Nat.lt_or_eq_of_le this with h|h
  ·exact h
  ·subst h;exact absurd hi (hn _)
 refine jH.mpr ⟨hr.sublist (iW _ _),List.pairwise_cons.mpr ⟨hhigh,hr.sublist (List.drop_sublist _ _)⟩,λa ha b hb=>?_⟩
 rcases aU.mp hb with rfl|hb
 ·exact hlow a ha
 ·exact pS (hlow a ha) (hhigh b hb)
structure rg(led:Bool)(t:SetTable):Prop where
 led:t.led=led
 dum:t.dummies=#[]
 ris:t.plain=true->He t.place
theorem rg.fresh(a b:Nat)(led:Bool):rg led (SetTable.fresh a b led):=⟨rfl,rfl,λ_=>List.Pairwise.nil⟩
theorem rg.standIn{led:Bool}{t:SetTable}(h:rg led t)(n:Nat):rg led (t.standIn n):=
 ⟨h.led,rfl,λhp=>by simp[SetTable.standIn] at hp⟩
theorem rg.orStandIn{led:Bool}{t:SetTable}(h:rg led t)(n:Nat):rg led (t.orStandIn n):=by
 unfold SetTable.orStandIn
 split
 ·exact h
 ·exact h.standIn n
theorem yX(j:Nat):SetTable.has #[] j=false:=by
 unfold SetTable.has;simp
theorem BC{t:SetTable}(hd:t.dummies=#[]){j:Nat}:t.slot j≠.dummy:=by
 unfold SetTable.slot
 rw[hd,yX]
 dsimp only
 split<;>simp
theorem Bv{t:SetTable}(hd:t.dummies=#[]){f:Nat->Int}{h:Int}:∀fl (p:SetTable.Probe) (j:Nat) (d:Option Nat),p.dummy=none->
  SetTable.probe.go t f h fl p=some (.empty j d)->d=none/\t.slot j=.empty:=by
 intro fl
 induction fl with
 |zero=>intro p j d hp hq;unfold SetTable.probe.go at hq;cases hq
 |succ fl ih=>
  intro p j d hp hq
  unfold SetTable.probe.go at hq
  have hadv:(t.advance p).dummy=none:=by
   unfold SetTable.advance;split<;>exact hp
  cases hs:t.slot p.j with
  |empty=>rw[hs] at hq;simp only[Option.some.injEq,SetTable.Met.empty.injEq] at hq;obtain⟨rfl,rfl⟩:=hq;exact⟨hp,hs⟩
  |dummy=>exact absurd hs (BC hd)
  |live i=>
   rw[hs] at hq
   simp only at hq
   split at hq
   ·cases hq
   ·exact ih _ j d hadv hq
theorem Ds{t:SetTable}(hd:t.dummies=#[]){h:Int}{sl:Nat}{wd:Bool}(hq:t.freeSlot h=some (sl,wd)):t.slot sl=.empty:=by
 unfold SetTable.freeSlot SetTable.probe at hq
 split at hq
 ·rename_i j d he
  obtain⟨rfl,hs⟩:=Bv hd _ _ j d rfl he
  simp only[lY,Option.some.injEq,Prod.mk.injEq] at hq
  rw[<-hq.1];exact hs
 ·cases hq
theorem GF{t:SetTable}(hr:He t.place){j:Nat}(hs:t.slot j=.empty):∀i:Nat,t.place[i]?≠some j:=by
 intro i hi
 obtain⟨h1,h2,h3⟩:=yO hr j
 have hb:SetTable.below t.place j=i:=by
  rcases ll (SetTable.below t.place j) i with h|h|h
  ·have hlt:SetTable.below t.place j<t.place.size:=by
    have:=(bI.mp hi).1;lia
   have hq:=Array.getElem?_eq_getElem hlt
   have a1:=h3 _ _ (aC _) hq
   have a2:=hr.at h hq hi
   lia
  ·exact h
  ·exact absurd (h2 i j h hi) (cI _)
 unfold SetTable.slot at hs
 rw[hb] at hs
 dsimp only at hs
 rw[hi] at hs
 simp at hs
theorem rg.put{led:Bool}{t:SetTable}(h:rg led t){sl:Nat}(hs:t.slot sl=.empty):rg led (t.put sl).1:=by
 refine⟨h.led,?_,λhp=>?_⟩
 ·show(if SetTable.has t.dummies sl=true then _ else t.dummies)=#[]
  rw[h.dum,yX];rfl
 ·exact BB (h.ris hp) (GF (h.ris hp) hs)
theorem rg.layNew{led:Bool}{t:SetTable}(h:rg led t)(es:Array (Int×Value))(hs:Int)(x:Value):rg led (layNew t es hs x).2.1:=by
 unfold PySem.layNew
 split
 ·rename_i sl wd hq
  exact(h.put (Ds h.dum hq)).orStandIn _
 ·exact h.standIn _
theorem rg.off{led:Bool}{t:SetTable}(h:rg led t):rg led {t with plain:=false}:=⟨h.led,h.dum,λhp=>by simp at hp⟩
theorem uL(g:Nat->Option Nat):∀l:List Nat,((l.filterMap λj=>(g j).map (j,·)).map (·.1)).Sublist l
 |[]=>List.Sublist.refl _
 |j::l=>by
  rw[ic]
  cases hg:g j with
  |none=>simpa using(uL g l).cons j
  |some b=>simpa using(uL g l).cons_cons j
theorem rg.relaid{led:Bool}{t t':SetTable}{hs:Array Int}{n:Nat}{o:Array Nat}(h:rg led t)(hq:t.relaid hs n=some (t',o)):rg led t':=by
 unfold SetTable.relaid SetTable.laid at hq
 cases ho:SetTable.layClean (SetTable.sizeAbove n-1) hs with
 |none=>rw[ho] at hq;simp at hq
 |some ow=>
  rw[ho] at hq
  simp only[Option.bind_eq_bind,fc,Option.pure_def,Option.some.injEq,Prod.mk.injEq] at hq
  rw[<-hq.1]
  refine⟨h.led,rfl,λ_=>?_⟩
  unfold He
  rw[List.toList_toArray]
  exact(List.pairwise_lt_range).sublist (uL (λj=>ow.getD j none) _)
theorem rg.relay{led:Bool}{t:SetTable}(h:rg led t)(es:Array (Int×Value))(n:Nat):rg led (relayAll t es n).2.1:=by
 unfold relayAll
 split
 ·rename_i t' o hq
  dsimp only
  split
  ·exact h.relaid hq
  ·exact h.standIn _
 ·exact h.standIn _
theorem zu{t:SetTable}(h:t.plain=false)(es:Array (Int×Value))(n:Nat):(relayAll t es n).2.1.plain=false:=by
 unfold relayAll
 split
 ·rename_i t' o hq
  dsimp only
  split
  ·unfold SetTable.relaid SetTable.laid at hq
   cases ho:SetTable.layClean (SetTable.sizeAbove n-1) (es.map (·.1)) with
   |none=>rw[ho] at hq;simp at hq
   |some ow=>
    rw[ho] at hq
    simp only[Option.bind_eq_bind,fc,Option.pure_def,Option.some.injEq,Prod.mk.injEq] at hq
    rw[<-hq.1];exact h
  ·rfl
 ·rfl
section
variable{prog:Program}{w:World}{K:Type}[DecidableEq K]
def ud(kd:KeyKind prog w K)(l:List (Int×Value)):Prop:=
 l.Pairwise λe e'=>∀k,kd.is k e.2=true->kd.is k e'.2=false
theorem ud.perm{kd:KeyKind prog w K}{l l':List (Int×Value)}(h:ud kd l)(p:l'.Perm l):ud kd l':=by
 refine(p.pairwise_iff (λ{x y} hxy k hk=>?_)).mpr h
 cases hx:kd.is k x.2 with
 |false=>rfl
 |true=>have:=hxy k hx;rw[hk] at this;cases this
def SetTb(kd:KeyKind prog w K)(h:Heap)(a:Addr)(S:K->Bool)(n:Nat)(led np:Bool):Prop:=
 ∃o es ep t,h.get? a=some o/\o.ExactSet/\o.data=.set es ep t/\ElemsOf kd es.toList/\(∀k,S k=true↔∃e∈es.toList,kd.is k e.2=true)
  /\es.size<scanBound/\t.fits es.size=true/\es.size=n/\rg led t/\(np=true->n≠0->t.plain=false)/\ud kd es.toList
variable{kd:KeyKind prog w K}{A:Around}{E:Value->Shared->Prop}{s:Shared}
theorem SetTb.congr{h:Heap}{a:Addr}{S S':K->Bool}{n n':Nat}{led np:Bool}(hS:SetTb kd h a S n led np)(e:∀k,S k=S' k)(en:n=n'):SetTb kd h a S' n' led np:=by
 cases(funext e:S=S');cases en;exact hS
theorem SetTb.keep{h h':Heap}{a:Addr}{S:K->Bool}{n:Nat}{led np:Bool}(hS:SetTb kd h a S n led np)(e:∀o,h.get? a=some o->h'.get? a=some o):SetTb kd h' a S n led np:=by
 obtain⟨o,es,ep,t,ho,r⟩:=hS
 exact⟨o,es,ep,t,e o ho,r⟩
theorem SetTb.fresh{h:Heap}{a:Addr}{led np:Bool}{x y:Nat}(hg:h.get? a=some {cls:=.type "set",dict:=none,data:=.set #[] 0 (.fresh x y led)}) :
  SetTb kd h a (λ_=>false) 0 led np:=
 ⟨_,#[],0,_,hg,⟨rfl,rfl,rfl⟩,rfl,λe he=>by simp at he,λk=>by simp,by decide,rfl,rfl,rg.fresh x y led,λ_ hn=>absurd rfl hn,List.Pairwise.nil⟩
structure AD(kd:KeyKind prog w K)(S:K->Bool)(n:Nat)(led np:Bool)(es:Array (Int×Value))(t:SetTable):Prop where
 el:ElemsOf kd es.toList
 mem:∀k,S k=true↔∃e∈es.toList,kd.is k e.2=true
 few:es.size<scanBound
 fit:t.fits es.size=true
 many:es.size=n
 tab:rg led t
 off:np=true->t.plain=false
 apart:ud kd es.toList
theorem AD.relay{S:K->Bool}{n:Nat}{led np:Bool}{es:Array (Int×Value)}{t:SetTable}(h:AD kd S n led np es t)(wn:Nat) :
  AD kd S n led np (relayAll t es wn).1 (relayAll t es wn).2.1:=by
 have hp:=relayAll_perm t es wn
 have hz:(relayAll t es wn).1.size=es.size:=by rw[<-bX,hp.length_eq,bX]
 exact⟨h.el.perm hp,λk=>(h.mem k).trans ⟨λ⟨e,he,q⟩=>⟨e,hp.mem_iff.mpr he,q⟩,λ⟨e,he,q⟩=>⟨e,hp.mem_iff.mp he,q⟩⟩,
  by rw[hz];exact h.few,relayAll_fits t es wn,by rw[hz];exact h.many,h.tab.relay es wn,λe=>zu (h.off e) es wn,h.apart.perm hp⟩
theorem AD.stored{S:K->Bool}{n:Nat}{led np:Bool}{es':Array (Int×Value)}{t':SetTable}(L:AD kd S n led np es' t')
  {h:Heap} {a:Addr} {o:Obj} {es:Array (Int×Value)} {ep:Nat} {t:SetTable} (ho:h.get? a=some o) (hex:o.ExactSet) (hd:o.data=.set es ep t) :
  (h.update a (Obj.putSet es' t')).get? a=some {o with data:=.set es' (ep+1) t'}/\SetTb kd (h.update a (Obj.putSet es' t')) a S n led np:=by
 have hg:=(SetOf_store (knd:=kd) ho hex hd L.el L.mem L.few L.fit).1
 exact⟨hg,_,es',ep+1,t',hg,hex,rfl,L.el,L.mem,L.few,L.fit,L.many,L.tab,λe _=>L.off e,L.apart⟩
theorem yN{g:Bool->Sem Unit}(hg:∀(b:Bool) (s₁:Shared) (Q':Unit->Shared->Prop),Q' () s₁->wpAny (model prog w) A (g b) Q' E s₁)
  {a:Addr} {o:Obj} {es:Array (Int×Value)} {ep:Nat} {t:SetTable} (ho:s.heap.get? a=some o) (hex:o.ExactSet) (hd:o.data=.set es ep t)
  {es1:Array (Int×Value)} {t2:SetTable} {S:K->Bool} {n:Nat} {led np:Bool} (L:AD kd S n led np es1 t2) {wd:Bool} {R:Option Bool->Shared->Prop}
  (hR:∀h',Heap.SameBut a s.heap h'->SetTb kd h' a S n led np->R (some true) {s with heap:=h'}) :
  wpAny (model prog w) A (do
    storeSet a es1 t2
    if(!wd&&t2.tooFull)=true then do
      g (relayAll t2 es1 (SetTable.grown es1.size)).2.2
      storeSet a (relayAll t2 es1 (SetTable.grown es1.size)).1 (relayAll t2 es1 (SetTable.grown es1.size)).2.1
      pure (some true)
     else pure (some true)) R E s:=by
 refine wpAny_bind (wpAny_storeSet_of ho hd ?_ (fits_of_scanBound L.few))
 obtain⟨g1,T1⟩:=L.stored ho hex hd
 have sb:=Heap.SameBut.update s.heap a (Obj.putSet es1 t2)
 split
 ·have L2:=L.relay (SetTable.grown es1.size)
  refine wpAny_bind (hg _ _ _ ?_)
  refine wpAny_bind (wpAny_storeSet_of g1 rfl ?_ (fits_of_scanBound L2.few))
  obtain⟨-,T2⟩:=L2.stored g1 hex rfl
  exact wpAny_pure (hR _ (sb.trans (Heap.SameBut.update _ a _)) T2)
 ·exact wpAny_pure (hR _ sb T1)
theorem Jr{a:Addr}{S:K->Bool}{n:Nat}{led np:Bool}{k:K}{x:Value}{Q:Bool->Shared->Prop}(hkey:kd.is k x=true)(hsc:x.scannable=true)
  (hnp:np=true->plainKind x=false) (hS:SetTb kd s.heap a S n led np) (hroom:n+1<scanBound)
  (hQ:∀h',Heap.SameBut a s.heap h'->SetTb kd h' a (λk'=>S k' || decide (k'=k)) (if S k then n else n+1) led np->Q (!S k) {s with heap:=h'}) :
  wpAny (model prog w) A (setAddHashed a x (kd.hash k)) Q E s:=by
 obtain⟨o,es,ep,t,ho,hex,hd,hel,hmem,hb,hf,hn,htab,hoff,hap⟩:=hS
 have hb1:es.size+1<scanBound:=by rw[hn];exact hroom
 unfold setAddHashed setAddHashedIn
 refine wpAny_holding (wpAny_bind (wpAny_setState_of ho hd hf ?_))
 dsimp only
 rw[byScan_of hsc hb hel]
 simp only[↓reduceIte]
 unfold setAddByScan
 refine wpAny_bind ?_
 refine wpAny_bind (wpAny_rule ?_)
 refine wpAny_bind (wpAny_setScan_of hkey ho hd hf hel ?_)
 cases hr:List.findIdx? (λe=>kd.is k e.2) es.toList with
 |some j=>
  dsimp only
  obtain⟨hj,hpj,-⟩:=List.findIdx?_eq_some_iff_getElem.mp hr
  have hk:S k=true:=(hmem k).mpr ⟨_,e8 hj,hpj⟩
  refine wpAny_pure (wpAny_pure ?_)
  have es0:s={s with heap:=s.heap}:=by cases s;rfl
  have done:=hQ s.heap (Heap.SameBut.refl a s.heap) (SetTb.congr (S:=S) (n:=n) ⟨o,es,ep,t,ho,hex,hd,hel,hmem,hb,hf,hn,htab,hoff,hap⟩
   (λk'=>by by_cases e:k'=k<;>simp[e,hk]) (by rw[hk];rfl))
  rw[hk] at done;rw[es0];exact done
 |none=>
  dsimp only
  have hall:=List.findIdx?_eq_none_iff.mp hr
  have hk:S k=false:=by
   cases hk:S k with
   |false=>rfl
   |true=>obtain⟨e,he,hp⟩:=(hmem k).mp hk;rw[hall e he] at hp;cases hp
  have hper:=layNew_perm t es (kd.hash k) x
  have hfit:=layNew_fits t es (kd.hash k) x
  have htb:=htab.layNew es (kd.hash k) x
  generalize layNew t es (kd.hash k) x=L at hper hfit htb ⊢
  obtain⟨es1,t1,wd,gv⟩:=L
  dsimp only at hper hfit htb ⊢
  rw[Array.toList_push] at hper
  have hz:es1.size=n+1:=by rw[<-bX,hper.length_eq,aG,bX,hn];rfl
  have hap1:ud kd es1.toList:=by
   refine ud.perm (jH.mpr ⟨hap,List.pairwise_singleton _ _,λe he e' he' k' hk'=>?_⟩) hper
   rw[ak] at he';subst he'
   cases hq:kd.is k' x with
   |false=>rfl
   |true=>cases kd.inj x k' k hq hkey;rw[hall e he] at hk';cases hk'
  have hL:∀t2:SetTable,t2.fits es1.size=true->rg led t2->(np=true->t2.plain=false)->AD kd (λk'=>S k' || decide (k'=k)) (n+1) led np es1 t2:=
   λt2 f2 tb2 o2=>⟨(hel.push hkey hsc).perm hper,mem_push_iff hkey hmem hper,by rw[hz];exact hroom,f2,hz,tb2,o2,hap1⟩
  have hend:∀h',Heap.SameBut a s.heap h'->SetTb kd h' a (λk'=>S k' || decide (k'=k)) (n+1) led np->Q true {s with heap:=h'}:=by
   intro h' sb T;have q:=hQ h' sb;rw[hk] at q;exact q T
  have gw:∀(c:Bool) {s₁:Shared} {Q₁:Unit->Shared->Prop},Q₁ () s₁->
    wpAny (model prog w) A (match c with|true=>rule "set.scan.the-table-gave-way"|false=>pure ()) Q₁ E s₁:=λc s₁ Q₁ hq=>by
   cases c<;>first|exact wpAny_pure hq|exact wpAny_rule hq
  refine wpAny_bind (gw _ ?_)
  split
  ·refine wpAny_bind ?_
   rw[hashByValue_scannable 8 hsc]
   refine wpAny_pure ?_
   refine yN (n:=n+1) (led:=led) (np:=np) ?_ ho hex hd (hL _ ?_ ?_ ?_) ?_
   ·exact λb s₁ Q' hq=>gw b hq
   ·split
    ·exact hfit
    ·exact SetTable.fits_plain_off hfit
   ·split
    ·exact htb
    ·exact htb.off
   ·intro e;rw[hnp e];rfl
   ·intro h' sb T;dsimp only;exact wpAny_pure (hend h' sb T)
  ·rename_i hpl
   refine wpAny_bind (wpAny_pure ?_)
   simp only[↓reduceIte]
   refine yN (n:=n+1) (led:=led) (np:=np) ?_ ho hex hd (hL _ hfit htb (λ_=>by simpa using hpl)) ?_
   ·exact λb s₁ Q' hq=>gw b hq
   ·intro h' sb T;dsimp only;exact wpAny_pure (hend h' sb T)
end
def byText(w:World):Bool:=w.params.followText "set-order"
section
variable{prog:Program}{w:World}{A:Around}{E:Value->Shared->Prop}{s:Shared}
end
section
variable{prog:Program}{w:World}{A:Around}{E:Value->Shared->Prop}{s:Shared}{I a:Addr}{i n ep:Nat}{es:Array (Int×Value)}{t:SetTable}
end
end BgSet
end
section
namespace BgSet
open PySem PyProof.Rows
section
variable{prog:Program}{w:World}{A:Around}{R:Result->Shared->Prop}{I:Addr}{fp wr:List Addr}{G:Array GenState->Array GenState->Prop}{n:Nat}{P:Nat->Value->Prop}{St:Nat->Shared->Prop}
variable{K:Type}[DecidableEq K]{kd:KeyKind prog w K}
def met(val:Nat->K)(i:Nat)(k:K):Bool:=decide (k∈(cH i).map val)
theorem FE(val:Nat->K)(i:Nat)(k:K):(met val i k || decide (k=val i))=met val (i+1) k:=by
 unfold met
 rw[Bool.eq_iff_iff,Bool.or_eq_true,decide_eq_true_eq,decide_eq_true_eq,decide_eq_true_eq,gB,aZ,aY]
 simp
theorem zP(W:WalksS prog w A.in1 I fp wr G n P St)(S:Addr)(hSf:S∉fp)(val:Nat->K)(led np:Bool)
  (hval:∀i v,P i v->kd.is (val i) v=true/\v.scannable=true/\(np=true->plainKind v=false)) (hb:n+1<scanBound) :
  ∀(k i m:Nat) (s:Shared),n-i=k->i<=n->m<=i->St i s->SetTb kd s.heap S (met val i) m led np->
   (∀s' m',Moved (S::wr) G s s'->m'<=n->SetTb kd s'.heap S (met val n) m' led np->R (.ok (.ret .none)) s')->
   codeAny (model prog w) A (.builtin "set.update.loop" ⟨[.ref S,.ref I],[]⟩) R s:=by
 have hSw:S∉wr:=λh=>hSf (W.sub _ h)
 have more:∀b∈wr,b∈S::wr:=λb hb=>cP _ hb
 intro k
 induction k with
 |zero=>
  intro i m s hk hi hm st T hR
  cases(by lia:i=n)
  refine codeAny_builtin PyProof.Rows.F.entry_set_update_loop ?_
  rw[Around.under_plainId PyProof.Rows.F.plain_set_update_loop _]
  show wpAny _ A.in1 (pyNext (.ref I) >>= _) _ _ s
  refine wpAny_bind (W.done s _ _ st λs' mv=>?_)
  show wpAny _ A.in1 (ret Value.none) _ _ s'
  exact wpAny_pure (hR s' m (mv.mono more) hm (T.keep λo e=>mv.heap S _ hSw e))
 |succ k ih=>
  intro i m s hk hi hm st T hR
  have lt:i<n:=by lia
  refine codeAny_builtin PyProof.Rows.F.entry_set_update_loop ?_
  rw[Around.under_plainId PyProof.Rows.F.plain_set_update_loop _]
  show wpAny _ A.in1 (pyNext (.ref I) >>= _) _ _ s
  refine wpAny_bind (W.item i s _ _ lt st λv s' hP st' mv=>?_)
  obtain⟨h1,h2,h3⟩:=hval i v hP
  have T':=T.keep (h':=s'.heap) λo e=>mv.heap S _ hSw e
  show wpAny _ A.in1 (holding [v] (setAdd S v) >>= _) _ _ s'
  refine wpAny_bind (wpAny_holding ?_)
  unfold setAdd
  refine wpAny_holding ?_
  refine wpAny_bind (kd.pyHash (k:=val i) h1 ?_)
  refine Jr (s:={s' with toks:=s'.toks+1}) h1 h2 h3 T' (by lia) λh' sb T2=>?_
  have hm2:(if met val i (val i)=true then m else m+1)<=i+1:=by split<;>lia
  refine wpAny_pure ⟨plainId_quiet PyProof.Rows.F.plain_set_update_loop _,ih (i+1) _ _ (by lia) lt hm2 (W.frame _ s' _ _ st' (lj _) λb hb o e=>?_)
   (T2.congr (λk'=>FE val i k') rfl) λs'' m' mv2 hm' T3=>?_⟩
  ·rw[sb.2 b (λh:b=S=>hSf (by rw[<-h];exact hb))];exact e
  ·refine hR s'' m' (Moved.trans W.gtrans ((mv.mono more).then_heap (lj _) λb o hb e=>?_) mv2) hm' T3
   rw[sb.2 b (λh:b=S=>hb (by rw[h];exact cG))];exact e
end
section
variable{prog:Program}{w:World}{A:Around}{E:Value->Shared->Prop}{s:Shared}{K:Type}[DecidableEq K]{kd:KeyKind prog w K}
def dP(w:World):Obj:={cls:=.type "set",dict:=none,data:=.set #[] 0 (.fresh 0 0 (!byText w))}
theorem CJ(v:Value){Q:Value->Shared->Prop}(h:Q (.ref s.heap.objs.size) {s with heap:=s.heap.push (dP w)}) :
  codeAny (model prog w) A (.call (.builtin "set.__new__") ⟨[.type "set",v],[]⟩) (wants Q E) s:=by
 refine codeAny_of_tree ?_
 show wpAny _ A.in1 (checkBuiltinCall "set.__new__" ⟨[.type "set",v],[]⟩ >>= λ_=>again (.builtin "set.__new__" ⟨[.type "set",v],[]⟩)) _ _ s
 refine wpAny_bind (wpAny_of_eq (PySem.F.newCall_set_1 v) (wpAny_pure ⟨plainId_quiet PySem.F.plain_set_new _,codeAny_builtin PySem.F.entry_set_new ?_⟩))
 rw[Around.under_plainId PySem.F.plain_set_new _]
 unfold Builtin.«set.__new__» Builtin.Frozenset.newClass
 have hsub:=sub_set_self
 obtain⟨hp,g,d,tk,os⟩:=s
 dsimp only
 wp_walk
 refine wpAny_askSetting (wpAny_pure ?_)
 dsimp only
 simp only[newObj]
 refine wpAny_bind (wpAny_alloc (wpAny_pure ?_))
 exact wpAny_pure h
end
section
variable{prog:Program}{w:World}{A:Around}{E:Value->Shared->Prop}{s:Shared}{K:Type}[DecidableEq K][Inhabited K]{kd:KeyKind prog w K}
theorem set_of_list{l:Addr}{its:Array Value}(ks:List K)(np:Bool){Q:Value->Shared->Prop}(hh:A.handled=none)(hl:s.heap.IsList l its)(hk:ks.length=its.size)
  (hv:∀(i:Nat) k v,ks[i]?=some k->its[i]?=some v->kd.is k v=true/\v.scannable=true/\(np=true->plainKind v=false)) (hb:its.size+1<scanBound)
  (hQ:∀(h':Heap) (tk m:Nat),m<=its.size->SetTb kd h' s.heap.objs.size (λk=>decide (k∈ks)) m (!byText w) np->
   (∀b o,b<s.heap.objs.size->s.heap.get? b=some o->h'.get? b=some o)->Q (.ref s.heap.objs.size) {s with heap:=h',toks:=tk}) :
  wpAny (model prog w) A (call (.type "set") [.ref l]) Q E s:=by
 obtain⟨c,tl,mro⟩:=PySem.F.called_set.mro
 have made:=PySem.F.called_set.made
 have sub0:=PySem.F.called_set.sub
 refine wpAny_call (codeAny_of_tree ?_)
 show wpAny _ _ (callAny (.type "set") _) _ _ _
 refine wpAny_pure ⟨Code.quiet_builtin _ (by decide +kernel),codeAny_builtin PySem.F.entry_type_call ?_⟩
 rw[Around.under_plain (weight_type_call_type "set" [.ref l] []) rfl]
 have f1:=PySem.F.called_set.notType
 have f2:=PySem.F.called_set.canCreate
 have f3:=PySem.F.typeCall_set_1 (.ref l)
 repeat (any_goals (first|assumption|wp_step))
 refine codeAny_mono (CJ (.ref l) (E:=E) (Q:=λv s1=>v=.ref s.heap.objs.size/\s1={s with heap:=s.heap.push (dP w)}) ⟨rfl,rfl⟩) λr s1 hr=>?_
 cases r with
 |error e=>exact hr
 |ok fl=>
  cases fl with
  |ret v=>
   obtain⟨rfl,rfl⟩:=hr
   have gS:(s.heap.push (dP w)).get? s.heap.objs.size=some (dP w):=aW _ rfl
   have tS:Shared.TypeIs {s with heap:=s.heap.push (dP w)} (.ref s.heap.objs.size) "set":=⟨_,gS,rfl⟩
   have li:=PySem.F.called_set.init.lookup
   have bi:=PySem.F.called_set.init.bind (.ref s.heap.objs.size)
   repeat (any_goals (first|assumption|wp_step))
   refine codeAny_mono (codeAny_call_builtin (R:=wants (λr s2=>r=.none/\∃h' tk m,s2={s with heap:=h',toks:=tk}/\m<=its.size/\
     SetTb kd h' s.heap.objs.size (λk=>decide (k∈ks)) m (!byText w) np/\(∀b o,b<s.heap.objs.size->s.heap.get? b=some o->h'.get? b=some o)) E)
     PySem.F.called_set.init.plain PySem.F.entry_set_init (check_set_init_1 tS ?_)) λr2 s2 hr2=>?_
   ·obtain⟨ol,gl,hcl,nl,hdl⟩:=hl
    obtain⟨ocls,odict,odata,oslots⟩:=ol
    simp only at hcl hdl
    subst hcl;subst hdl
    have gl2:(s.heap.push (dP w)).get? l=some {cls:=.type "list",dict:=odict,data:=.seq its nl,slots:=oslots}:=az _ gl
    have u1:=PySem.F.sub_list_set
    have u2:=PySem.F.sub_list_frozenset
    have u3:(Value.type "list"==Value.type "dict")=false:=by decide
    have hl1:(s.heap.push (dP w)).IsList l its:=⟨_,gl2,rfl,nl,rfl⟩
    unfold Builtin.«set.__init__» noKeywords Builtin.Frozenset.updateFrom
    generalize hPI:pyIter=PI
    wp_walk
    subst hPI
    refine wpAny_pyIter_list hl1 ?_
    refine wpAny_bind (wpAny_runValue ?_)
    have lt:l<s.heap.objs.size:=aJ gl
    have hh3:A.in1.in1.in1.handled=none:=by simp[hh]
    have ne:l≠(s.heap.push (dP w)).objs.size:=by
     rw[dz];exact bh (fA lt)
    have nf:s.heap.objs.size∉[(s.heap.push (dP w)).objs.size,l]:=by
     rw[dz]
     simp only[aU,fb,or_false,not_or]
     exact⟨bh (lX _),iY lt⟩
    have hval:∀(i:Nat) (v:Value),its[i]?=some v->kd.is (ks.getD i default) v=true/\v.scannable=true/\(np=true->plainKind v=false):=λi v hi=>by
     have hlt:i<ks.length:=by rw[hk];exact(bI.mp hi).1
     refine hv i _ v ?_ hi
     rw[ff,ai hlt];rfl
    refine zP ((Walks.list hh3 _ l ne its).toS) s.heap.objs.size nf (λi=>ks.getD i default) (!byText w) np hval hb (its.size-0) 0 0 _ (by lia) (dh _) (aC _)
     ⟨⟨_,aW _ rfl,rfl,rfl⟩,(hl1.push _)⟩ (SetTb.congr (SetTb.fresh (x:=0) (y:=0) (az _ gS)) (λk=>rfl) rfl) λs' m mv hm T=>?_
    obtain⟨h',g',d',tk',os'⟩:=s'
    have eg:g'=s.gens:=mv.gens
    have ed:d'=s.drawn:=mv.drawn
    have eo:os'=s.os:=mv.os
    subst eg;subst ed;subst eo
    show wpAny _ _ _ _ _ _
    refine wpAny_pure ?_
    show wpAny _ _ (ret Value.none) _ _ _
    refine wpAny_pure ⟨rfl,h',tk',m,rfl,hm,T.congr (λk=>?_) rfl,λb o hb e=>?_⟩
    ·unfold met
     rw[Bool.eq_iff_iff,decide_eq_true_eq,decide_eq_true_eq]
     have:(cH its.size).map (λi=>ks.getD i default)=ks:=by
      refine lh λi=>?_
      rw[aX]
      rcases mH i its.size with h|h
      ·rw[ig h,ai (by rw[hk];exact h)]
       simp[ff,hk,h]
      ·rw[dy (by simpa using h),dy (by rw[hk];exact h)];rfl
     rw[this]
    ·have n1:b≠s.heap.objs.size:=bh hb
     have n2:b≠(s.heap.push (dP w)).objs.size:=by
      rw[dz];exact bh (fA hb)
     refine mv.heap b o ?_ (az _ (az _ e))
     simp only[aU,fb,or_false,not_or]
     exact⟨n1,n2⟩
   ·cases r2 with
    |error e=>exact hr2
    |ok fl2=>
     cases fl2 with
     |ret r=>
      obtain⟨rfl,h',tk,m,rfl,hm,T,kp⟩:=hr2
      repeat (any_goals (first|assumption|wp_step))
      exact hQ _ _ m hm T kp
     |_=>exact hr2.elim
  |_=>exact hr.elim
theorem set_of_tuple{l:Addr}{its:Array Value}(ks:List K)(np:Bool){Q:Value->Shared->Prop}(hh:A.handled=none)(hl:s.heap.IsTuple l its)(hk:ks.length=its.size)
  (hv:∀(i:Nat) k v,ks[i]?=some k->its[i]?=some v->kd.is k v=true/\v.scannable=true/\(np=true->plainKind v=false)) (hb:its.size+1<scanBound)
  (hQ:∀(h':Heap) (tk m:Nat),m<=its.size->SetTb kd h' s.heap.objs.size (λk=>decide (k∈ks)) m (!byText w) np->
   (∀b o,b<s.heap.objs.size->s.heap.get? b=some o->h'.get? b=some o)->Q (.ref s.heap.objs.size) {s with heap:=h',toks:=tk}) :
  wpAny (model prog w) A (call (.type "set") [.ref l]) Q E s:=by
 obtain⟨c,tl,mro⟩:=PySem.F.called_set.mro
 have made:=PySem.F.called_set.made
 have sub0:=PySem.F.called_set.sub
 refine wpAny_call (codeAny_of_tree ?_)
 show wpAny _ _ (callAny (.type "set") _) _ _ _
 refine wpAny_pure ⟨Code.quiet_builtin _ (by decide +kernel),codeAny_builtin PySem.F.entry_type_call ?_⟩
 rw[Around.under_plain (weight_type_call_type "set" [.ref l] []) rfl]
 have f1:=PySem.F.called_set.notType
 have f2:=PySem.F.called_set.canCreate
 have f3:=PySem.F.typeCall_set_1 (.ref l)
 repeat (any_goals (first|assumption|wp_step))
 refine codeAny_mono (CJ (.ref l) (E:=E) (Q:=λv s1=>v=.ref s.heap.objs.size/\s1={s with heap:=s.heap.push (dP w)}) ⟨rfl,rfl⟩) λr s1 hr=>?_
 cases r with
 |error e=>exact hr
 |ok fl=>
  cases fl with
  |ret v=>
   obtain⟨rfl,rfl⟩:=hr
   have gS:(s.heap.push (dP w)).get? s.heap.objs.size=some (dP w):=aW _ rfl
   have tS:Shared.TypeIs {s with heap:=s.heap.push (dP w)} (.ref s.heap.objs.size) "set":=⟨_,gS,rfl⟩
   have li:=PySem.F.called_set.init.lookup
   have bi:=PySem.F.called_set.init.bind (.ref s.heap.objs.size)
   repeat (any_goals (first|assumption|wp_step))
   refine codeAny_mono (codeAny_call_builtin (R:=wants (λr s2=>r=.none/\∃h' tk m,s2={s with heap:=h',toks:=tk}/\m<=its.size/\
     SetTb kd h' s.heap.objs.size (λk=>decide (k∈ks)) m (!byText w) np/\(∀b o,b<s.heap.objs.size->s.heap.get? b=some o->h'.get? b=some o)) E)
     PySem.F.called_set.init.plain PySem.F.entry_set_init (check_set_init_1 tS ?_)) λr2 s2 hr2=>?_
   ·obtain⟨ol,gl,hcl,nl,hdl⟩:=hl
    obtain⟨ocls,odict,odata,oslots⟩:=ol
    simp only at hcl hdl
    subst hcl;subst hdl
    have gl2:(s.heap.push (dP w)).get? l=some {cls:=.type "tuple",dict:=odict,data:=.seq its nl,slots:=oslots}:=az _ gl
    have u1:=PySem.F.sub_tuple_set
    have u2:=PySem.F.sub_tuple_frozenset
    have u3:(Value.type "tuple"==Value.type "dict")=false:=by decide
    have hl1:(s.heap.push (dP w)).IsTuple l its:=⟨_,gl2,rfl,nl,rfl⟩
    unfold Builtin.«set.__init__» noKeywords Builtin.Frozenset.updateFrom
    generalize hPI:pyIter=PI
    wp_walk
    subst hPI
    refine wpAny_pyIter_tuple hl1 ?_
    refine wpAny_bind (wpAny_runValue ?_)
    have lt:l<s.heap.objs.size:=aJ gl
    have hh3:A.in1.in1.in1.handled=none:=by simp[hh]
    have ne:l≠(s.heap.push (dP w)).objs.size:=by
     rw[dz];exact bh (fA lt)
    have nf:s.heap.objs.size∉[(s.heap.push (dP w)).objs.size,l]:=by
     rw[dz]
     simp only[aU,fb,or_false,not_or]
     exact⟨bh (lX _),iY lt⟩
    have hval:∀(i:Nat) (v:Value),its[i]?=some v->kd.is (ks.getD i default) v=true/\v.scannable=true/\(np=true->plainKind v=false):=λi v hi=>by
     have hlt:i<ks.length:=by rw[hk];exact(bI.mp hi).1
     refine hv i _ v ?_ hi
     rw[ff,ai hlt];rfl
    refine zP ((Walks.tuple hh3 _ l ne its).toS) s.heap.objs.size nf (λi=>ks.getD i default) (!byText w) np hval hb (its.size-0) 0 0 _ (by lia) (dh _) (aC _)
     ⟨⟨_,aW _ rfl,rfl,rfl⟩,(hl1.push _)⟩ (SetTb.congr (SetTb.fresh (x:=0) (y:=0) (az _ gS)) (λk=>rfl) rfl) λs' m mv hm T=>?_
    obtain⟨h',g',d',tk',os'⟩:=s'
    have eg:g'=s.gens:=mv.gens
    have ed:d'=s.drawn:=mv.drawn
    have eo:os'=s.os:=mv.os
    subst eg;subst ed;subst eo
    show wpAny _ _ _ _ _ _
    refine wpAny_pure ?_
    show wpAny _ _ (ret Value.none) _ _ _
    refine wpAny_pure ⟨rfl,h',tk',m,rfl,hm,T.congr (λk=>?_) rfl,λb o hb e=>?_⟩
    ·unfold met
     rw[Bool.eq_iff_iff,decide_eq_true_eq,decide_eq_true_eq]
     have:(cH its.size).map (λi=>ks.getD i default)=ks:=by
      refine lh λi=>?_
      rw[aX]
      rcases mH i its.size with h|h
      ·rw[ig h,ai (by rw[hk];exact h)]
       simp[ff,hk,h]
      ·rw[dy (by simpa using h),dy (by rw[hk];exact h)];rfl
     rw[this]
    ·have n1:b≠s.heap.objs.size:=bh hb
     have n2:b≠(s.heap.push (dP w)).objs.size:=by
      rw[dz];exact bh (fA hb)
     refine mv.heap b o ?_ (az _ (az _ e))
     simp only[aU,fb,or_false,not_or]
     exact⟨n1,n2⟩
   ·cases r2 with
    |error e=>exact hr2
    |ok fl2=>
     cases fl2 with
     |ret r=>
      obtain⟨rfl,h',tk,m,rfl,hm,T,kp⟩:=hr2
      repeat (any_goals (first|assumption|wp_step))
      exact hQ _ _ m hm T kp
     |_=>exact hr2.elim
  |_=>exact hr.elim
end
section
variable{prog:Program}{w:World}{A:Around}{E:Value->Shared->Prop}{s:Shared}{a:Addr}{es:Array (Int×Value)}{ep:Nat}{t:SetTable}
end
end BgSet
end
section
namespace PySem.W
open PySem PySem.Calls PyProof.Rows PyProof.V PySem.Spec
section
variable{prog:Program}{w:World}{A:Around}{E:Value->Shared->Prop}{s:Shared}{r l:Addr}
end
end PySem.W
namespace L2
open PySem PySem.Spec PyProof.Rows
section
variable{X:Cx}
end
end L2
end
section
namespace HT
open PySem PyProof.Rows
section
variable{prog:Program}{w:World}{A:Around}{E:Value->Shared->Prop}{s:Shared}
end
end HT
namespace L2
open PySem PySem.Spec PyProof.Rows
section
variable{X:Cx}
end
end L2
end
section
namespace PySem
open Sem (wp)
namespace F
end F
def Np(tp:Bool)(h:Heap)(i l:Addr)(k:Nat):Prop:=match tp with
 |true=>h.IsTupleIter i l k
 |false=>h.IsListIter i l k
def LS(tp:Bool)(h:Heap)(l:Addr)(xs:Array Value):Prop:=match tp with
 |true=>h.IsTuple l xs
 |false=>h.IsList l xs
section
variable{prog:Program}{w:World}{A:Around}{E:Value->Shared->Prop}{s:Shared}
end
section
variable{prog:Program}{w:World}{A:Around}{E:Value->Shared->Prop}{s:Shared}{t1 t2:Bool}
end
section
variable{prog:Program}{w:World}{A:Around}{E:Value->Shared->Prop}{s:Shared}{t1 t2:Bool}
end
section
variable{prog:Program}{w:World}{A:Around}{R:Result->Shared->Prop}{t1 t2:Bool}{K:Type}[DecidableEq K]{knd:KeyKind prog w K}
end
section
variable{prog:Program}{w:World}{A:Around}{E:Value->Shared->Prop}{s:Shared}{t1 t2:Bool}{K:Type}[DecidableEq K]{knd:KeyKind prog w K}
end
end PySem
namespace L2
open PySem PySem.Spec PyProof.Rows
section
variable{X:Cx}
end
def cS(K:Fg)(x:Str):Addr:=match aD K mainGlobals x with
 |some (some (.ref C))=>C
 |_=>0
theorem qc{K:Fg}{x:Str}{C:Addr}(h:aD K mainGlobals x=some (some (.ref C))):cS K x=C:=by unfold cS;rw[h]
def L5(s:Stmt)(i:Nat):Stmt:=match s with
 |.ClassDef _ _ _ b _ _ _ _ _ _ _=>b.getD i (.Pass ⟨0,0,0,0⟩)
 |_=>.Pass ⟨0,0,0,0⟩
section
variable{X:Cx}{C:Addr}{m x:Str}{ps:List Str}{k:Nat}{sp:Sp}{e o:Expr}{es:List Expr}{ta:TE}{t:TA}{p pos apos:Pos}
end
section
variable{X:Cx}
theorem uz{es:List Bool}{us vs:List Value}(h1:us.length=es.length)(h2:vs.length=es.length):((cH (min us.toArray.size vs.toArray.size)).all (λj=>(es[j]?).getD false)&&us.toArray.size==vs.toArray.size)=es.all id:=by
 rw[ax,ax,h1,h2,Nat.min_self,ER]
 simp
end
inductive C5(K:Fg)(H:Hp):Nat->V->V->Bool->Prop where
 |flat {d:Nat} {x y:V} (hx:ji x=true) (hy:ji y=true):C5 K H d x y (AX x y)
 |same {d:Nat} {a:Addr}:C5 K H d (.ref a) (.ref a) true
 |lists {d:Nat} {a b:Addr} {us vs:List V} {es:List Bool} (n:a≠b) (ha:cz K H a us) (hb:cz K H b vs) (l1:us.length=vs.length) (l2:es.length=us.length) (h:∀(j:Nat) x y e,us[j]?=some x->vs[j]?=some y->es[j]?=some e->C5 K H d x y e):C5 K H (d+1) (.ref a) (.ref b) (es.all id)
 |listsL {d:Nat} {a b:Addr} {us vs:List V} (n:a≠b) (ha:cz K H a us) (hb:cz K H b vs) (l1:us.length≠vs.length):C5 K H (d+1) (.ref a) (.ref b) false
 |tups {d:Nat} {a b:Addr} {us vs:List V} {es:List Bool} (n:a≠b) (ha:cY K H a us) (hb:cY K H b vs) (l1:us.length=vs.length) (l2:es.length=us.length) (h:∀(j:Nat) x y e,us[j]?=some x->vs[j]?=some y->es[j]?=some e->C5 K H d x y e):C5 K H (d+1) (.ref a) (.ref b) (es.all id)
section
variable{X:Cx}
theorem Cp{A:Around}{s:Shared}{kb:List (gC×V)}{vb:List (gC×Value)}(rb:KV kb vb){ka:List (gC×V)}{va:List (gC×Value)}(ra:KV ka va):∀(f:Nat->V),(∀(j:Nat) k v,ka[j]?=some (k,v)->kZ kb k=some (f j))->(∀(j:Nat) k v u w,ka[j]?=some (k,v)->de v u->de (f j) w->SeqAt.EqAt A s u w true)->PySem.W.KeqHits A s vb va true:=by
 induction ra with
 |nil=>intro f _ _;exact .nil
 |@cons p q ps qs r _ ih=>
  intro f h1 h2
  obtain⟨k,v⟩:=p
  obtain⟨k',u⟩:=q
  obtain⟨e,rv⟩:=r
  have e':k=k':=e
  subst e'
  have hv:=h1 0 k v rfl
  have rel:=rb.val k
  rw[hv] at rel
  obtain⟨w,hw,rw'⟩:=pG.some_of rel
  have hh:=ih (λj=>f (j+1)) (λj k v e=>h1 (j+1) k v e) λj k v u w e=>h2 (j+1) k v u w e
  exact .hit hw (h2 0 k v u w rfl rv rw') hh
theorem oP{A:Around}{s:Shared}{xs ys:List V}{us vs:List Value}{es:List Bool}(r1:cO xs us)(r2:cO ys vs)(hl:xs.length=ys.length)(he:es.length=xs.length)
  (h:∀(j:Nat) a b e u v,xs[j]?=some a->ys[j]?=some b->es[j]?=some e->de a u->de b v->SeqAt.EqAt A s u v e) :
  ∀j (h1:j<us.toArray.size) (h2:j<vs.toArray.size),SeqAt.EqAt A s us.toArray[j] vs.toArray[j] ((es[j]?).getD false):=by
 intro j h1 h2
 have l1:=r1.length
 have l2:=r2.length
 rw[ax] at h1 h2
 have j1:j<xs.length:=by lia
 have j2:j<ys.length:=by lia
 have j3:j<es.length:=by lia
 obtain⟨u,hu',ru⟩:=r1.get (ai j1)
 obtain⟨v,hv,rv⟩:=r2.get (ai j2)
 have eu:us.toArray[j]=u:=by
  have:=ai h1
  rw[hu'] at this
  simpa using(Option.some.inj this).symm
 have ev:vs.toArray[j]=v:=by
  have:=ai h2
  rw[hv] at this
  simpa using(Option.some.inj this).symm
 rw[eu,ev,ai j3,g7]
 exact h j _ _ _ _ _ (ai j1) (ai j2) (ai j3) ru rv
theorem uC{es:List Bool}{us:List Value}(h1:us.length=es.length):(cH us.toArray.size).all (λj=>(es[j]?).getD false)=es.all id:=by
 rw[ax,h1,ER]
theorem rz{pins:List (Addr×Obj)}{σ:St}{H:Hp}{s:Shared}(I:bP X pins σ H s){d:Nat}{x y:V}{b:Bool}(h:C5 X.K H d x y b):∀{A:Around} {u v:Value},A.units+d<cLine->de x u->de y v->SeqAt.EqAt A s u v b:=by
 induction h with
 |flat hx hy=>exact λ_ rx ry=>AV rx ry hx hy
 |same=>
  intro A u v _ rx ry
  cases rx
  cases ry
  exact SeqAt.EqAt.same _
 |@lists d a b us vs es n ha hb hl he h ih=>
  intro A u v hu rx ry
  cases rx
  cases ry
  obtain⟨us',r1,t1,_⟩:=I.list ha
  obtain⟨vs',r2,t2,_⟩:=I.list hb
  have l1:=r1.length
  have l2:=r2.length
  have:=SeqAt.EqAt.of_refs n (SeqAt.RcAt.lists (A:=A) t1.isList t2.isList (by rw[ax,ax];lia) (by lia) (oP (A:=A.in1) r1 r2 hl he λj a b e u v e1 e2 e3 ru rv=>ih j a b e e1 e2 e3 (by show A.units+1+d<cLine;lia) ru rv))
  rw[uC (by lia)] at this
  exact this
 |@listsL d a b us vs n ha hb hl=>
  intro A u v hu rx ry
  cases rx
  cases ry
  obtain⟨us',r1,t1,_⟩:=I.list ha
  obtain⟨vs',r2,t2,_⟩:=I.list hb
  have l1:=r1.length
  have l2:=r2.length
  exact SeqAt.EqAt.of_refs n (SeqAt.RcAt.lists_lengths (A:=A) t1.isList t2.isList (by rw[ax,ax];simp;lia) (by lia))
 |@tups d a b us vs es n ha hb hl he h ih=>
  intro A u v hu rx ry
  cases rx
  cases ry
  obtain⟨us',r1,t1,_⟩:=I.tuple ha
  obtain⟨vs',r2,t2,_⟩:=I.tuple hb
  have l1:=r1.length
  have l2:=r2.length
  have:=SeqAt.EqAt.of_refs n (SeqAt.RcAt.tuples (A:=A) (show s.heap.IsTuple a us'.toArray from t1) (show s.heap.IsTuple b vs'.toArray from t2) (by lia) (oP (A:=A.in1) r1 r2 hl he λj a b e u v e1 e2 e3 ru rv=>ih j a b e e1 e2 e3 (by show A.units+1+d<cLine;lia) ru rv))
  rw[uz (by lia) (by lia)] at this
  exact this
def Gk(K:Fg)(neg:Bool):R2:=λx y H Q=>∃(p q:Addr) (xs ys:List V),x=.ref p/\y=.ref q/\((cz K H p xs/\cz K H q ys)\/(cY K H p xs/\cY K H q ys/\xs.length=ys.length))/\
 ((xs.length≠ys.length/\Q (.bl neg) H)\/∃es:List Bool,xs.length=ys.length/\es.length=xs.length/\(∀(j:Nat) a b e,xs[j]?=some a->ys[j]?=some b->es[j]?=some e->C5 K H 4 a b e)/\Q (.bl (if neg then !es.all id else es.all id)) H)
theorem KB(hu:X.A.units+5<cLine):kf X (compareOp .Eq) (Gk X.K false):=by
 intro pins s σ H x y v u Q I rx ry h
 obtain⟨p,q,xs,ys,rfl,rfl,hk,hc⟩:=h
 cases rx
 cases ry
 have hu':X.A.units<cLine:=by lia
 rcases hk with⟨h1,h2⟩|⟨h1,h2,hl0⟩
 ·obtain⟨us,r1,t1,_⟩:=I.list h1
  obtain⟨vs,r2,t2,_⟩:=I.list h2
  have l1:=r1.length
  have l2:=r2.length
  rcases hc with⟨hl,qq⟩|⟨es,hl,he,hE,qq⟩
  ·exact SeqAt.eq_list_lengthsAt t1.isList t2.isList (by rw[ax,ax];simp;lia) hu' ⟨.bl false,H,I,rfl,qq⟩
  ·refine SeqAt.eq_listAt t1.isList t2.isList (by rw[ax,ax];lia) hu' (oP (A:=X.A.in1) r1 r2 hl he λj a b e u v e1 e2 e3 ru rv=>rz I (hE j a b e e1 e2 e3) (by show X.A.units+1+4<cLine;lia) ru rv) ⟨.bl (es.all id),H,I,?_,qq⟩
   show Value.bool _=Value.bool _
   rw[uC (by lia)]
 ·obtain⟨us,r1,t1,_⟩:=I.tuple h1
  obtain⟨vs,r2,t2,_⟩:=I.tuple h2
  have l1:=r1.length
  have l2:=r2.length
  rcases hc with⟨hl,_⟩|⟨es,hl,he,hE,qq⟩
  ·exact absurd hl0 hl
  ·refine SeqAt.eq_tupleAt (show s.heap.IsTuple p us.toArray from t1) (show s.heap.IsTuple q vs.toArray from t2) hu' (oP (A:=X.A.in1) r1 r2 hl he λj a b e u v e1 e2 e3 ru rv=>rz I (hE j a b e e1 e2 e3) (by show X.A.units+1+4<cLine;lia) ru rv) ⟨.bl (es.all id),H,I,?_,qq⟩
   show Value.bool _=Value.bool _
   rw[uz (by lia) (by lia)]
theorem KH(hu:X.A.units+5<cLine):kf X (compareOp .NotEq) (Gk X.K true):=by
 intro pins s σ H x y v u Q I rx ry h
 obtain⟨p,q,xs,ys,rfl,rfl,hk,hc⟩:=h
 cases rx
 cases ry
 have hu':X.A.units<cLine:=by lia
 rcases hk with⟨h1,h2⟩|⟨h1,h2,hl0⟩
 ·obtain⟨us,r1,t1,_⟩:=I.list h1
  obtain⟨vs,r2,t2,_⟩:=I.list h2
  have l1:=r1.length
  have l2:=r2.length
  rcases hc with⟨hl,qq⟩|⟨es,hl,he,hE,qq⟩
  ·exact SeqAt.RcNeAt.lists_lengths t1.isList t2.isList (by rw[ax,ax];simp;lia) hu' X.prog X.w X.xe _ ⟨.bl true,H,I,rfl,qq⟩
  ·refine SeqAt.RcNeAt.lists t1.isList t2.isList (by rw[ax,ax];lia) hu' (oP (A:=X.A.in1) r1 r2 hl he λj a b e u v e1 e2 e3 ru rv=>rz I (hE j a b e e1 e2 e3) (by show X.A.units+1+4<cLine;lia) ru rv) X.prog X.w X.xe _ ⟨.bl (!es.all id),H,I,?_,qq⟩
   show Value.bool _=Value.bool _
   rw[uC (by lia)]
 ·obtain⟨us,r1,t1,_⟩:=I.tuple h1
  obtain⟨vs,r2,t2,_⟩:=I.tuple h2
  have l1:=r1.length
  have l2:=r2.length
  rcases hc with⟨hl,_⟩|⟨es,hl,he,hE,qq⟩
  ·exact absurd hl0 hl
  ·refine SeqAt.RcNeAt.tuples (show s.heap.IsTuple p us.toArray from t1) (show s.heap.IsTuple q vs.toArray from t2) hu' (oP (A:=X.A.in1) r1 r2 hl he λj a b e u v e1 e2 e3 ru rv=>rz I (hE j a b e e1 e2 e3) (by show X.A.units+1+4<cLine;lia) ru rv) X.prog X.w X.xe _ ⟨.bl (!es.all id),H,I,?_,qq⟩
   show Value.bool _=Value.bool _
   rw[uz (by lia) (by lia)]
def Cy(K:Fg)(neg:Bool):R2:=λx y H Q=>∃(a b:Addr) (ka kb:List (gC×V)) (f:Nat->V),x=.ref a/\y=.ref b/\H a=some (.dK ka)/\H b=some (.dK kb)/\ka.length=kb.length/\(∀(j:Nat) k v,ka[j]?=some (k,v)->kZ kb k=some (f j))/\(∀(j:Nat) k v,ka[j]?=some (k,v)->C5 K H 4 v (f j) true)/\Q (.bl (!neg)) H
theorem Iq(hu:X.A.units+5<cLine):kf X (compareOp .Eq) (Cy X.K false):=by
 intro pins s σ H x y v u Q I rx ry h
 obtain⟨a,b,ka,kb,f,rfl,rfl,ha,hb,hl,hf,hE,qq⟩:=h
 cases rx
 cases ry
 obtain⟨_,la,va,ra,da⟩:=uA I.hok ha
 obtain⟨_,lb,vb,rb,db⟩:=uA I.hok hb
 refine PySem.W.keq_eq (r:=true) la lb da db (by lia) (λ_=>Cp rb ra f hf λj k v u w e ru rw'=>rz I (hE j k v e) (by show X.A.units+1+4<cLine;lia) ru rw') ⟨.bl true,H,I,?_,qq⟩
 show Value.bool _=Value.bool _
 rw[<-ra.length,<-rb.length,hl];simp
theorem Iu(hu:X.A.units+5<cLine):kf X (compareOp .NotEq) (Cy X.K true):=by
 intro pins s σ H x y v u Q I rx ry h
 obtain⟨a,b,ka,kb,f,rfl,rfl,ha,hb,hl,hf,hE,qq⟩:=h
 cases rx
 cases ry
 obtain⟨_,la,va,ra,da⟩:=uA I.hok ha
 obtain⟨_,lb,vb,rb,db⟩:=uA I.hok hb
 refine PySem.W.keq_ne (r:=true) la lb da db (by lia) (λ_=>Cp rb ra f hf λj k v u w e ru rw'=>rz I (hE j k v e) (by show X.A.units+1+4<cLine;lia) ru rw') ⟨.bl false,H,I,?_,qq⟩
 show Value.bool _=Value.bool _
 rw[<-ra.length,<-rb.length,hl];simp
def Ll(K:Fg):R2:=λx y H Q=>Gk K false x y H Q\/(Cy K false x y H Q\/eX K x y H Q)
def Ji(K:Fg):R2:=λx y H Q=>Gk K true x y H Q\/(Cy K true x y H Q\/uP K x y H Q)
theorem FO(hu:X.A.units+5<cLine):kf X (compareOp .Eq) (Ll X.K):=(KB hu).or ((Iq hu).or (cy (by lia)))
theorem FR(hu:X.A.units+5<cLine):kf X (compareOp .NotEq) (Ji X.K):=(KH hu).or ((Iu hu).or (lP (by lia)))
end
section
variable{X:Cx}{pins:List (Addr×Obj)}{σ:St}{H:Hp}{s:Shared}{d:Addr}{kvs:List (gC×V)}{u u':HO}
theorem HZ{P:Program}{w:World}{k:gC}{u:Value}(h:(eW P w).is k u=true):de (kV k) u:=by
 cases k with
 |inl i=>
  obtain⟨t,rfl⟩:=Value.isInt_shape (k:=i) (v:=u) h
  exact⟨t,rfl⟩
 |inr x=>
  obtain⟨t,rfl⟩:=Value.isStrOf_shape (x:=x) (v:=u) h
  exact⟨t,rfl⟩
end
section
variable{X:Cx}{tg:Expr}
end
end L2
end
section
namespace PySem
open Sem (wp)
section
variable{prog:Program}{w:World}{A:Around}{R:Result->Shared->Prop}{K:Type}[DecidableEq K]{knd:KeyKind prog w K}
end
section
variable{prog:Program}{w:World}{A:Around}{E:Value->Shared->Prop}{s:Shared}{K:Type}[DecidableEq K]{knd:KeyKind prog w K}
end
end PySem
end
section
namespace L2
open PySem PySem.Spec PyProof.Rows
section
variable{X:Cx}
theorem xq:∀{xs:List V} {us:List Value},us.length=xs.length->(∀(j:Nat) x u,xs[j]?=some x->us[j]?=some u->de x u)->cO xs us
 |[],[],_,_=>.nil
 |x::xs,u::us,hl,h=>.cons (h 0 x u rfl rfl) (xq (Nat.succ.inj hl) λj x u e1 e2=>h (j+1) x u e1 e2)
def Gq:List V->Hp->VK->Prop:=λxs H Q=>∃(d:Addr) (kvs:List (gC×V)),xs=[.ref d]/\Rd H d (.dK kvs)/\∀l,H l=none->Q (.ref l) (upd H l (.lst (kvs.map λkv=>kV kv.1)))
theorem AO(hc:X.calm=true):jh X (.type "list") Gq:=by
 intro pins s σ H xs us Q I r h
 obtain⟨d,kvs,rfl,hd,q⟩:=h
 obtain⟨u,rfl,rx⟩:=oC r
 cases rx
 obtain⟨z,lo,vs,rel,dd⟩:=Ck I.hok hd
 obtain⟨ep,hat⟩:=dd.dictAt
 have kl:=rel.length
 refine PySem.W.kdl_call (PySem.W.kdl_dict (knd:=eW X.prog X.w) (kvs:=vs) (ep:=ep) lo) (I.ok.hd hc) hat (by rw[<-kl];exact z) λh' tk acc c hk hD hacc=>?_
 have hl:acc.toList.length=vs.length:=by rw[bX];exact hacc.1
 have hv:cO (kvs.map λkv=>kV kv.1) acc.toList:=xq (by rw[ao];lia) λj x v e1 e2=>by
  rw[aX] at e1
  cases ek:kvs[j]? with
  |none=>rw[ek] at e1;cases e1
  |some p=>
   rw[ek] at e1
   have e1':kV p.1=x:=Option.some.inj e1
   obtain⟨k,y,e3,his⟩:=hacc.2 j v (by rw[<-dW];exact e2)
   have:k=p.1:=by
    have a1:(vs.map (·.1))[j]?=some k:=by rw[aX,e3];rfl
    rw[<-rel.keys,aX,ek] at a1
    exact(Option.some.inj a1).symm
   subst this
   rw[<-e1']
   exact HZ his
 have hn:H s.heap.objs.size=none:=I.hok.fresh (aC _)
 refine⟨.ref s.heap.objs.size,_,I.laid (t':=tk) (o:=.lst (kvs.map λkv=>kV kv.1)) hk (aC _) ⟨by rw[ao];exact z,acc.toList,c,hv,?_⟩,rfl,q _ hn⟩
 rw[Array.toArray_toList];exact hD
end
section
variable{X:Cx}
end
section
variable{X:Cx}{tg:Expr}
end
section
variable{X:Cx}{tg l o e f:Expr}{tl td ty tx:TE}{apos cpos:Pos}
theorem Fi{A:Around}{k:Nat}(hr:df k A):A.units+5<cLine:=iC (Nat.add_le_add_left (by decide:5<=64) _) hr.units
end
def Nd(K:Fg)(tp:Bool)(H:Hp)(a:Addr)(xs:List V):Prop:=match tp with
 |true=>cY K H a xs
 |false=>cz K H a xs
theorem bP.seqB{X:Cx}{pins:List (Addr×Obj)}{σ:St}{H:Hp}{s:Shared}{tp:Bool}{a:Addr}{xs:List V}(I:bP X pins σ H s)(h:Nd X.K tp H a xs):∃its:List Value,cO xs its/\LS tp s.heap a its.toArray:=by
 cases tp with
 |true=>obtain⟨its,r,p,_⟩:=I.tuple h;exact⟨its,r,p⟩
 |false=>obtain⟨its,r,p,_⟩:=I.list h;exact⟨its,r,p.isList⟩
section
variable{X:Cx}{elts:List Expr}{k:Nat}{tpos:Pos}
end
end L2
end
section
namespace PySem.SeqAt
open AutoSeq1 (wpAny_loadPart')
open MeetsSeq MeetsSeq2 MeetsSeq3 SeqRoads2
end PySem.SeqAt
namespace L2
open PySem PySem.Spec PyProof.Rows
section
variable{X:Cx}{o e:Expr}{es:List Expr}{to ta tb:TE}{t:TA}{apos cpos:Pos}
end
section
variable{X:Cx}{C:Addr}{m x:Str}{ps:List Str}{k:Nat}{sp:Sp}{e:Expr}{es:List Expr}{t:TA}{p pos apos:Pos}
end
end L2
end
section
namespace Bg
open PySem L2
inductive bz where
 |num (x:Str) (z:Int)
 |op (x s a b:Str)
 |call (x:Str) (k:Nat) (as:List Str)
 |say (a:Str)
 |jump (to:Nat)
 |test (a:Str) (to:Nat)
 |give (a:Str)
structure dj where
 name:Str
 params:List Str
 rows:List bz
def gc:bz->Str
 |.num _ _=>"num"|.op _ _ _ _=>"op"|.call _ _ _=>"call"|.say _=>"say"|.jump _=>"jump"|.test _ _=>"test"|.give _=>"give"
def cx(H:Hp)(v:V):bz->Prop
 |.num x z=>∃p,v=.ref p/\H p=some (.tup [.str "num",.str x,.int z])
 |.op x s a b=>∃p,v=.ref p/\H p=some (.tup [.str "op",.str x,.str s,.str a,.str b])
 |.call x k as=>∃p q,v=.ref p/\H p=some (.tup [.str "call",.str x,.int (k:Nat),.ref q])/\H q=some (.tup (as.map V.str))
 |.say a=>∃p,v=.ref p/\H p=some (.tup [.str "say",.str a])
 |.jump to=>∃p,v=.ref p/\H p=some (.tup [.str "jump",.int (to:Nat)])
 |.test a to=>∃p,v=.ref p/\H p=some (.tup [.str "test",.str a,.int (to:Nat)])
 |.give a=>∃p,v=.ref p/\H p=some (.tup [.str "give",.str a])
def Tp(H H':Hp):Prop:=∀p xs,H p=some (.tup xs)->H' p=some (.tup xs)
theorem Tp.refl(H:Hp):Tp H H:=λ_ _ h=>h
theorem Tp.trans{H H1 H2:Hp}(x:Tp H H1)(y:Tp H1 H2):Tp H H2:=λp xs h=>y p xs (x p xs h)
theorem Tp.of_same{H H':Hp}(x:aS H H'):Tp H H':=λp xs h=>x p _ h
theorem Tp.of_but{a:Addr}{ys:List V}{H H':Hp}(x:fu a H H')(ha:H a=some (.lst ys)):Tp H H':=λp xs h=>x p _ (by rintro rfl;rw[h] at ha;cases ha) h
theorem Tp.new{p:Addr}{H H1:Hp}{o:HO}(x:Tp H H1)(hp:H1 p=none):Tp H (upd H1 p o):=λb xs h=>by
 rw[aA (ar (x b xs h) hp)];exact x b xs h
theorem Tp.lst{p:Addr}{H H1:Hp}{ys:List V}{o:HO}(x:Tp H H1)(hp:H1 p=some (.lst ys)):Tp H (upd H1 p o):=λb xs h=>by
 have h1:=x b xs h
 rw[aA (by rintro rfl;rw[h1] at hp;cases hp)];exact h1
theorem cx.mono{H H':Hp}{v:V}{r:bz}(h:cx H v r)(t:Tp H H'):cx H' v r:=by
 cases r with
 |num x z=>obtain⟨p,e,h⟩:=h;exact⟨p,e,t _ _ h⟩
 |op x s a b=>obtain⟨p,e,h⟩:=h;exact⟨p,e,t _ _ h⟩
 |call x k as=>obtain⟨p,q,e,h,h'⟩:=h;exact⟨p,q,e,t _ _ h,t _ _ h'⟩
 |say a=>obtain⟨p,e,h⟩:=h;exact⟨p,e,t _ _ h⟩
 |jump to=>obtain⟨p,e,h⟩:=h;exact⟨p,e,t _ _ h⟩
 |test a to=>obtain⟨p,e,h⟩:=h;exact⟨p,e,t _ _ h⟩
 |give a=>obtain⟨p,e,h⟩:=h;exact⟨p,e,t _ _ h⟩
theorem cx.ref{H:Hp}{v:V}{r:bz}(h:cx H v r):∃p xs,v=.ref p/\H p=some (.tup (.str (gc r)::xs)):=by
 cases r with
 |num x z=>obtain⟨p,e,h⟩:=h;exact⟨p,_,e,h⟩
 |op x s a b=>obtain⟨p,e,h⟩:=h;exact⟨p,_,e,h⟩
 |call x k as=>obtain⟨p,q,e,h,h'⟩:=h;exact⟨p,_,e,h⟩
 |say a=>obtain⟨p,e,h⟩:=h;exact⟨p,_,e,h⟩
 |jump to=>obtain⟨p,e,h⟩:=h;exact⟨p,_,e,h⟩
 |test a to=>obtain⟨p,e,h⟩:=h;exact⟨p,_,e,h⟩
 |give a=>obtain⟨p,e,h⟩:=h;exact⟨p,_,e,h⟩
structure cF{α:Type}(R:V->α->Prop)(vs:List V)(rs:List α):Prop where
 len:vs.length=rs.length
 at_:∀(i:Nat) v r,vs[i]?=some v->rs[i]?=some r->R v r
theorem cF.nil{α:Type}{R:V->α->Prop}:cF R [] []:=⟨rfl,λi v r h=>by simp at h⟩
theorem cF.imp{α:Type}{R R':V->α->Prop}{vs:List V}{rs:List α}(h:cF R vs rs)(f:∀v r,R v r->R' v r):cF R' vs rs:=⟨h.len,λi v r a b=>f v r (h.at_ i v r a b)⟩
theorem cF.snoc{α:Type}{R:V->α->Prop}{vs:List V}{rs:List α}{v:V}{r:α}(h:cF R vs rs)(q:R v r):cF R (vs++[v]) (rs++[r]):=by
 refine⟨by simp[h.len],λi w t a b=>?_⟩
 by_cases hi:i<vs.length
 ·rw[cq hi] at a
  rw[cq (by rw[<-h.len];exact hi)] at b
  exact h.at_ i w t a b
 ·rw[bJ (by omega)] at a
  rw[bJ (by rw[<-h.len];omega)] at b
  have e:i-vs.length=0:=by
   have:=(aj.mp a).1
   simp at this;omega
  rw[e] at a
  rw[<-h.len,e] at b
  simp at a b
  rw[<-a,<-b];exact q
theorem cF.set{α:Type}{R:V->α->Prop}{vs:List V}{rs:List α}{j:Nat}{v:V}{r:α}(h:cF R vs rs)(q:R v r):cF R (vs.set j v) (rs.set j r):=by
 refine⟨by simp[h.len],λi w t a b=>?_⟩
 by_cases e:j=i
 ·subst e
  have hj:j<vs.length:=by have:=(aj.mp a).1;rw[eL] at this;exact this
  rw[bp hj] at a
  rw[bp (by rw[<-h.len];exact hj)] at b
  cases a;cases b;exact q
 ·rw[bM e] at a b
  exact h.at_ i w t a b
theorem cF.get{α:Type}{R:V->α->Prop}{vs:List V}{rs:List α}(h:cF R vs rs){i:Nat}(hi:i<rs.length):∃v r,vs[i]?=some v/\rs[i]?=some r/\R v r:=by
 have h1:i<vs.length:=by rw[h.len];exact hi
 exact⟨vs[i],rs[i],ai h1,ai hi,h.at_ i _ _ (ai h1) (ai hi)⟩
theorem cF.of_v{α:Type}{R:V->α->Prop}{vs:List V}{rs:List α}(h:cF R vs rs){i:Nat}{v:V}(e:vs[i]?=some v):∃r,rs[i]?=some r/\R v r:=by
 have h1:=(aj.mp e).1
 obtain⟨v',r,e1,e2,q⟩:=h.get (i:=i) (by rw[<-h.len];exact h1)
 rw[e] at e1;cases e1
 exact⟨r,e2,q⟩
def lN(H:Hp)(v:V)(b:dj):Prop:=∃p q r rs,v=.ref p/\H p=some (.tup [.str b.name,.ref q,.ref r])/\H q=some (.tup (b.params.map V.str))/\H r=some (.tup rs)/\cF (cx H) rs b.rows
theorem lN.mono{H H':Hp}{v:V}{b:dj}(h:lN H v b)(t:Tp H H'):lN H' v b:=by
 obtain⟨p,q,r,rs,e,h1,h2,h3,h4⟩:=h
 exact⟨p,q,r,rs,e,t _ _ h1,t _ _ h2,t _ _ h3,h4.imp λ_ _ z=>z.mono t⟩
def lA(K:Fg)(H:Hp)(a:Addr)(ns:List Int):Prop:=
 (∃o,H a=some (.frz o (.lst (ns.map V.int))))\/∃(o:Obj) (its:Array Value) (n:Nat),K.lookup a=some o/\o.cls=.type "list"/\o.dict=none/\o.data=.seq its n/\its.size<=sizeLine/\cO (ns.map V.int) its.toList
theorem lA.sq{K:Fg}{H:Hp}{a:Addr}{ns:List Int}(h:lA K H a ns):cz K H a (ns.map V.int):=by
 rcases h with⟨o,h⟩|h
 ·exact .inl (.inr ⟨o,h⟩)
 ·exact .inr h
def Fz(H H':Hp):Prop:=∀p o u,H p=some (.frz o u)->H' p=some (.frz o u)
theorem Fz.of_but{a:Addr}{ys:List V}{H H':Hp}(x:fu a H H')(ha:H a=some (.lst ys)):Fz H H':=λp o u h=>x p _ (by rintro rfl;rw[h] at ha;cases ha) h
theorem Fz.of_same{H H':Hp}(x:aS H H'):Fz H H':=λp o u h=>x p _ h
theorem lA.mono{K:Fg}{H H':Hp}{a:Addr}{ns:List Int}(h:lA K H a ns)(f:Fz H H'):lA K H' a ns:=by
 rcases h with⟨o,h⟩|h
 ·exact .inl ⟨o,f _ _ _ h⟩
 ·exact .inr h
def iJ(K:Fg)(H:Hp)(st:Addr)(k:Nat):Prop:=∃scr ns c,H st=some (.lst [.ref scr,.int (k:Nat),.int c])/\lA K H scr ns/\ns.length<=63
theorem iJ.lst{K:Fg}{H:Hp}{st:Addr}{k:Nat}(h:iJ K H st k):∃ys,H st=some (.lst ys):=by
 obtain⟨scr,ns,c,e,_⟩:=h;exact⟨_,e⟩
theorem iJ.mono{K:Fg}{H H':Hp}{a st:Addr}{k:Nat}{ys:List V}(h:iJ K H st k)(x:fu a H H')(ha:H a=some (.lst ys))(n:st≠a):iJ K H' st k:=by
 obtain⟨scr,ns,c,e,q,l⟩:=h
 exact⟨scr,ns,c,x _ _ n e,q.mono (.of_but x ha),l⟩
theorem iJ.same{K:Fg}{H H':Hp}{st:Addr}{k:Nat}(h:iJ K H st k)(x:aS H H'):iJ K H' st k:=by
 obtain⟨scr,ns,c,e,q,l⟩:=h
 exact⟨scr,ns,c,x _ _ e,q.mono (.of_same x),l⟩
theorem iJ.new{K:Fg}{H:Hp}{st p:Addr}{o:HO}{k:Nat}(h:iJ K H st k)(hp:H p=none):iJ K (upd H p o) st k:=h.same ((aS.refl H).new hp)
def bu(K:Fg):Sp:=λvs H Q _=>∃(st:Addr) (m:Int) (k:Nat),vs=[.ref st,.int m]/\iJ K H st k/\k<=1000000/\0<m/\m<2 ^ 64/\
 ∀(d:Int) (H':Hp),0<=d->d<m->iJ K H' st (k+1)->fu st H H'->Q (.int d) H'
def Gy:List Str:=["part","call","say","jump","test","give"]
structure Nm(y:Str):Prop where
 l1:1<=y.length
 l8:y.length<=8
 Hs:∀c∈y.cps.toList,97<=c/\c<=122
 no:y∉Gy
theorem Nm.ne{y:Str}(h:Nm y):y≠"":=by
 rintro rfl
 exact absurd h.l1 (by decide +kernel)
def jN(K:Fg):Sp:=λvs H Q _=>∃(st:Addr) (n k:Nat),vs=[.ref st,.int (n:Nat)]/\iJ K H st k/\k<=900000/\n<=20/\
 ∀(l:Addr) (ys:List Str) (k':Nat) (H':Hp),H l=none->ys.length=n->ys.Nodup->(∀y∈ys,Nm y)->H' l=some (.lst (ys.map V.str))->iJ K H' st k'->k'<=k+11->fu st H H'->Q (.ref l) H'
def kY(K:Fg):Sp:=λvs H Q _=>∃(st:Addr) (k:Nat),vs=[.ref st]/\iJ K H st k/\k<=900000/\
 ∀(z:Int) (k':Nat) (H':Hp),0<=z->z<2 ^ 64->iJ K H' st k'->k'<=k+4->fu st H H'->Q (.int z) H'
def CK:List Str:=["+","-","*","<","="]
def uo(ys:List Str)(cs:List Nat)(n:Nat):bz->Prop
 |.num x z=>x∈ys/\0<=z/\z<2 ^ 64
 |.op x s a b=>x∈ys/\s∈CK/\a=""/\b=""
 |.call x k as=>x∈ys/\∃c,cs[k]?=some c/\as=bD c ("":Str)
 |.say a=>a=""
 |.jump to=>to<n
 |.test a to=>a=""/\to<n
 |.give a=>a=""
def bG(ns:List Nat):List V:=ns.map λn=>V.int (n:Nat)
def gy(K:Fg):Sp:=λvs H Q _=>∃(st nm cn:Addr) (n k:Nat) (ys:List Str) (cs:List Nat),vs=[.ref st,.ref nm,.int (n:Nat),.ref cn]/\iJ K H st k/\k<=800000/\H nm=some (.lst (ys.map V.str))/\ys≠[]/\ys.length<=100/\
 1<=n/\n<=1000/\H cn=some (.lst (bG cs))/\cs≠[]/\cs.length<=100/\(∀c∈cs,c<=4)/\nm≠st/\cn≠st/\
 ∀(v:V) (r:bz) (k':Nat) (H':Hp),cx H' v r->uo ys cs n r->iJ K H' st k'->k'<=k+8->fu st H H'->Q v H'
def cL(n:Nat):bz->List Nat
 |.jump to=>[to]
 |.test _ to=>[n+1,to]
 |.give _=>[]
 |_=>[n+1]
def kT(K:Fg):Sp:=λvs H Q _=>∃(rl:Addr) (n:Nat) (rvs:List V) (v:V) (r:bz),vs=[.ref rl,.int (n:Nat)]/\(H rl=some (.lst rvs)\/H rl=some (.tup rvs))/\rvs[n]?=some v/\cx H v r/\∀l,H l=none->Q (.ref l) (upd H l (.lst (bG (cL n r))))
def ij:bz->V
 |.num x _=>.str x
 |.op x _ _ _=>.str x
 |.call x _ _=>.str x
 |_=>.non
def gR:bz->Bool
 |.jump _=>true
 |.give _=>true
 |_=>false
def uG:bz->Bool
 |.num _ _=>true
 |_=>false
structure uq(ys:List Str)(cs:List Nat)(rs:List bz):Prop where
 pos:rs≠[]
 few:rs.length<=100
 rough:∀r∈rs,uo ys cs rs.length r
def stp(rs:List bz)(n:Nat):Nat:=match rs[n]? with
 |some (.jump t)=>t
 |_=>n
def runJ(rs:List bz):Nat->Nat->Nat
 |0,n=>n
 |k+1,n=>runJ rs k (stp rs n)
def eV:bz->Bool
 |.jump _=>true
 |_=>false
def ui(rs:List bz):Prop:=∀n,n<rs.length->∀r,rs[runJ rs rs.length n]?=some r->eV r=false
def jz(K:Fg):Sp:=λvs H Q _=>∃(rl nm:Addr) (bare:Bool) (rvs:List V) (rs:List bz) (ys:List Str) (R:bz->Prop),vs=[.ref rl,.ref nm,.bl bare]/\H rl=some (.lst rvs)/\cF (cx H) rvs rs/\rs≠[]/\rs.length<=100/\(∀r∈rs,R r)/\R (.say "")/\R (.give "")/\(∀t,R (.jump t)->t<rs.length)/\H nm=some (.lst (ys.map V.str))/\ys≠[]/\(∀y∈ys,bare=true->R (.num y 3))/\nm≠rl/\
 (bare=true->2<=rs.length)/\∀(rvs':List V) (rs':List bz) (H':Hp),H' rl=some (.lst rvs')->cF (cx H') rvs' rs'->rs'.length=rs.length->(∀r∈rs',R r)->(rs'.getLast?.map gR=some true)->(bare=true->rs'.head?.map uG=some true)->ui rs'->fu rl H H'->Q (.ref rl) H'
def xI(H:Hp)(v:V)(ks:List Str):Prop:=∃a,v=.ref a/\H a=some (.lst (ks.map V.str))
structure JJ(ps:List Str)(rs:List bz)(kss:List (List Str)):Prop where
 zero:∀ks,kss[0]?=some ks->∀y∈ks,y∈ps
 on:∀(n m:Nat) r ks km,rs[n]?=some r->m∈cL n r->kss[n]?=some ks->kss[m]?=some km->∀y∈km,y∈ks\/ij r=.str y
def gz(K:Fg):Sp:=λvs H Q _=>∃(rl nm pr:Addr) (rvs:List V) (rs:List bz) (ys ps:List Str) (cs:List Nat),vs=[.ref rl,.ref nm,.ref pr]/\H rl=some (.lst rvs)/\cF (cx H) rvs rs/\uq ys cs rs/\(rs.getLast?.map gR=some true)/\
 H nm=some (.lst (ys.map V.str))/\ys.length<=100/\H pr=some (.lst (ps.map V.str))/\ps.length<=100/\(∀y∈ps,y∈ys)/\(ps=[]->rs.head?.map uG=some true)/\
 ∀(kl:Addr) (refs:List V) (kss:List (List Str)) (H':Hp),H kl=none->H' kl=some (.lst refs)->cF (xI H') refs kss->kss.length=rs.length->(∀(i:Nat) ks,kss[i]?=some ks->ks.length<=100/\(∀y∈ks,y∈ys)/\(ks≠[]\/(i=0/\ps=[])))->JJ ps rs kss->aS H H'->Q (.ref kl) H'
def jR(ks:List Str):bz->bz->Prop
 |.num x z,r=>r=.num x z
 |.op x s _ _,r=>∃a b,r=.op x s a b/\a∈ks/\b∈ks
 |.call x k as,r=>∃bs:List Str,r=.call x k bs/\bs.length=as.length/\∀b∈bs,b∈ks
 |.say _,r=>∃a,r=.say a/\a∈ks
 |.jump to,r=>r=.jump to
 |.test _ to,r=>∃a,r=.test a to/\a∈ks
 |.give _,r=>∃a,r=.give a/\a∈ks
def jy(K:Fg):Sp:=λvs H Q _=>∃(st rl kl:Addr) (k:Nat) (rvs refs:List V) (rs:List bz) (kss:List (List Str)) (ys:List Str) (cs:List Nat),vs=[.ref st,.ref rl,.ref kl]/\iJ K H st k/\k<=700000/\H rl=some (.lst rvs)/\cF (cx H) rvs rs/\uq ys cs rs/\(∀y∈ys,y≠"")/\(∀c∈cs,c<=4)/\
 H kl=some (.lst refs)/\cF (xI H) refs kss/\kss.length=rs.length/\(∀(i:Nat) ks,kss[i]?=some ks->ks.length<=100)/\(∀(i:Nat) ks r,kss[i]?=some ks->rs[i]?=some r->ks≠[]\/uG r=true)/\(∀a∈refs,a≠.ref st)/\rl≠st/\kl≠st/\
 ∀(p:Addr) (rvs':List V) (rs':List bz) (k':Nat) (H':Hp),H' p=some (.tup rvs')->cF (cx H') rvs' rs'->rs'.length=rs.length->(∀(i:Nat) ks r r',kss[i]?=some ks->rs[i]?=some r->rs'[i]?=some r'->jR ks r r')->iJ K H' st k'->k'<=k+5*rs.length->fu st H H'->Q (.ref p) H'
def dw:bz->List Str
 |.op _ _ a b=>[a,b]
 |.call _ _ as=>as
 |.say a=>[a]
 |.test a _=>[a]
 |.give a=>[a]
 |_=>[]
def EL(ys:List Str)(cs:List Nat)(n:Nat):bz->Prop
 |.num x z=>x∈ys/\0<=z/\z<2 ^ 64
 |.op x s a b=>x∈ys/\s∈CK/\a∈ys/\b∈ys
 |.call x k as=>x∈ys/\cs[k]?=some as.length/\∀a∈as,a∈ys
 |.say a=>a∈ys
 |.jump to=>to<n
 |.test a to=>a∈ys/\to<n
 |.give a=>a∈ys
structure nQ(ys:List Str)(cs:List Nat)(b:dj):Prop where
 pnd:b.params.Nodup
 pin:∀y∈b.params,y∈ys
 pos:b.rows≠[]
 few:b.rows.length<=60
 rows:∀r∈b.rows,EL ys cs b.rows.length r
 last:b.rows.getLast?.map gR=some true
 ring:ui b.rows
 known:∃kss,kss.length=b.rows.length/\JJ b.params b.rows kss/\∀(n:Nat) r ks,b.rows[n]?=some r->kss[n]?=some ks->∀y∈dw r,y∈ks
structure pF(ys:List Str)(cs:List Nat)(bs:List dj):Prop where
 ynd:ys.Nodup
 ynm:∀y∈ys,Nm y
 y2:2<=ys.length
 y6:ys.length<=6
 pos:1<=bs.length
 few:bs.length<=5
 nnd:(bs.map (·.name)).Nodup
 nnm:∀b∈bs,Nm b.name
 cnt:bs.map (·.params.length)=cs
 c4:∀c∈cs,c<=4
 part:∀b∈bs,nQ ys cs b
def m9(K:Fg):Sp:=λvs H Q _=>∃(st nm pr cn:Addr) (wd:Str) (m k:Nat) (ys ps:List Str) (cs:List Nat),vs=[.ref st,.str wd,.ref nm,.ref pr,.ref cn,.int (m:Nat)]/\iJ K H st k/\k<=600000/\H nm=some (.lst (ys.map V.str))/\ys≠[]/\ys.length<=100/\(∀y∈ys,y≠"")/\
 H pr=some (.lst (ps.map V.str))/\ps.length<=100/\ps.Nodup/\(∀y∈ps,y∈ys)/\H cn=some (.lst (bG cs))/\cs≠[]/\cs.length<=100/\(∀c∈cs,c<=4)/\1<=m/\m<=50/\nm≠st/\pr≠st/\cn≠st/\
 ∀(v:V) (b:dj) (k':Nat) (H':Hp),lN H' v b->b.name=wd->b.params=ps->nQ ys cs b->b.rows.length<=m+1->iJ K H' st k'->k'<=k+1000->fu st H H'->Q v H'
def iP(K:Fg):Sp:=λvs H Q _=>∃(st:Addr) (m k:Nat),vs=[.ref st,.int (m:Nat)]/\iJ K H st k/\k<=500000/\1<=m/\m<=50/\
 ∀(p:Addr) (pvs:List V) (bs:List dj) (ys:List Str) (cs:List Nat) (k':Nat) (H':Hp),H' p=some (.tup pvs)->cF (lN H') pvs bs->pF ys cs bs->(∀b∈bs,b.rows.length<=m+1)->iJ K H' st k'->k'<=k+10000->fu st H H'->Q (.ref p) H'
def jt:bz->V
 |.jump to=>.int (to:Nat)
 |.test _ to=>.int (to:Nat)
 |_=>.non
def Jw:Sp:=λvs H Q _=>∃v r,vs=[v]/\cx H v r/\∀(p:Addr) (H':Hp),H' p=some (.tup ((dw r).map V.str))->aS H H'->Q (.ref p) H'
abbrev fO(_:Fg):Sp:=Jw
def jA(_:Fg):Sp:=λvs H Q _=>∃v r,vs=[v]/\cx H v r/\∀(H':Hp),aS H H'->Q (ij r) H'
def eJ(_:Fg):Sp:=λvs H Q _=>∃v r,vs=[v]/\cx H v r/\Q (jt r) H
def Ly:Sp:=λvs H Q _=>∃(rt:Addr) (n:Nat) (rvs:List V) (v:V) (r:bz),vs=[.ref rt,.int (n:Nat)]/\H rt=some (.tup rvs)/\rvs[n]?=some v/\cx H v r/\∀(p:Addr) (H':Hp),H' p=some (.tup (bG (cL n r)))->aS H H'->Q (.ref p) H'
abbrev gW(_:Fg):Sp:=Ly
def sp_law(K:Fg):Sp:=λvs H Q _=>∃(scr:Addr) (ns:List Int),vs=[.ref scr]/\lA K H scr ns/\ns.length<=63/\∀H',Q (.bl true) H'
abbrev Kl:Nat:=0
abbrev fV:Nat:=1
abbrev HU:Nat:=1
abbrev tN:Nat:=2
abbrev HY:Nat:=1
abbrev tR:Nat:=2
abbrev y0:Nat:=2
abbrev ly:Nat:=3
abbrev HR:Nat:=0
abbrev tL:Nat:=1
abbrev Fm:Nat:=0
abbrev pV:Nat:=1
abbrev y3:Nat:=1
abbrev lz:Nat:=2
abbrev Fl:Nat:=1
abbrev pU:Nat:=2
abbrev Kn:Nat:=3
abbrev xu:Nat:=4
abbrev DE:Nat:=4
abbrev oJ:Nat:=5
abbrev DD:Nat:=0
abbrev kD:Nat:=1
abbrev Fo:Nat:=0
abbrev pW:Nat:=1
abbrev Fn:Nat:=0
abbrev jI:Nat:=1
abbrev DC:Nat:=1
abbrev oH:Nat:=2
theorem cJ{c:Prop}[Decidable c]{A B:Prop}(h1:c->A)(h2:¬c->B):if decide c=true then A else B:=by
 by_cases h:c
 ·rw[decide_eq_true h];exact pJ (h1 h)
 ·rw[decide_eq_false h];exact iU (h2 h)
theorem jv{c:Prop}[Decidable c]{A B:Prop}(h1:¬c->A)(h2:c->B):if(!decide c)=true then A else B:=by
 by_cases h:c
 ·rw[decide_eq_true h];exact iU (h2 h)
 ·rw[decide_eq_false h];exact pJ (h1 h)
theorem qf{b:Bool}{A B:Prop}(h1:b=true->A)(h2:b=false->B):if b=true then A else B:=by
 cases b with
 |true=>exact pJ (h1 rfl)
 |false=>exact iU (h2 rfl)
theorem xN{α:Type}{xs:List α}{i:Int}{v:α}(h0:0<=i)(e:xs[i.toNat]?=some v):Ht xs i=some v:=by
 have h1:=(aj.mp e).1
 unfold Ht JQ
 rw[if_pos h0,if_pos (by lia)]
 exact e
theorem mF{K:Fg}{p:Addr}{xs:List V}{i:Int}{v:V}{H:Hp}{Q:VK}(h:cz K H p xs)(h0:0<=i)(e:xs[i.toNat]?=some v)(q:Q v H):cE K (.ref p) (.int i) H Q:=
 .inl ⟨p,xs,i,v,rfl,rfl,h,xN h0 e,q⟩
theorem cg{K:Fg}{p:Addr}{xs:List V}{i:Int}{v:V}{H:Hp}{Q:VK}(h:H p=some (.tup xs))(h0:0<=i)(e:xs[i.toNat]?=some v)(q:Q v H):cE K (.ref p) (.int i) H Q:=
 .inr (.inl ⟨p,xs,i,v,rfl,rfl,cY.of h,xN h0 e,q⟩)
theorem MX{K:Fg}{z:Str}{i:Int}{c:Nat}{H:Hp}{Q:VK}(hz:z.length<=sizeLine)(h0:0<=i)(e:z.cps.toList[i.toNat]?=some c)(q:Q (.str ⟨#[c]⟩) H):cE K (.str z) (.int i) H Q:=
 .inr (.inr ⟨z,i,c,rfl,rfl,hz,xN h0 e,q⟩)
theorem yw{p:Addr}{xs:List V}{i:Int}{v:V}{H:Hp}{Q:Hp->Prop}(h:H p=some (.lst xs))(h0:0<=i)(h1:i.toNat<xs.length)(q:Q (upd H p (.lst (xs.set i.toNat v)))):nA (.ref p) (.int i) v H Q:=by
 refine⟨p,xs,i,i.toNat,rfl,rfl,h,?_,q⟩
 unfold JQ
 rw[if_pos h0,if_pos (by lia)]
theorem dq{n:Nat}(h:n<=100000):n<sizeLine:=iC h (by decide)
theorem Dv{ns:List Nat}{i:Nat}{n:Nat}(h:ns[i]?=some n):(bG ns)[i]?=some (.int (n:Nat)):=by
 unfold bG;rw[aX,h];rfl
theorem dk(ns:List Nat):(bG ns).length=ns.length:=by unfold bG;rw[ao]
theorem qx{ys:List Str}{i:Nat}{y:Str}(h:ys[i]?=some y):(ys.map V.str)[i]?=some (.str y):=by rw[aX,h];rfl
theorem mV{H:Hp}{a b:Addr}{xs ys:List V}(h:H a=some (.lst xs))(h':H b=some (.tup ys)):a≠b:=JS h h' (by intro z;cases z)
theorem kg{D:Addr}{te:TE}{E:nJ}{σ:St}{H:Hp}(h:te σ H λy H2=>∃ys,H2 D=some (.lst ys)/\ys.length<sizeLine/\E.nx σ (upd H2 D (.lst (ys++[y])))):tJ D qA te E σ H:=by
 unfold tJ qA
 dsimp only
 rw[if_pos rfl]
 exact h
theorem no{x y:V}{A B:Prop}(h:¬x=y)(q:B):if decide (x=y)=true then A else B:=cJ (λz=>absurd z h) λ_=>q
theorem Ay{x:V}{A B:Prop}(q:A):if decide (x=x)=true then A else B:=cJ (λ_=>q) λz=>absurd rfl z
theorem uE{b:Bool}{A B:Prop}(e:b=true)(q:A):if b=true then A else B:=by rw[e];exact pJ q
theorem uD{b:Bool}{A B:Prop}(e:b=false)(q:B):if b=true then A else B:=by rw[e];exact iU q
theorem jK(xs:List V)(c:Nat):nU xs none (some (c:Int))=xs.take c:=by
 unfold nU
 rw[HT.sIx_none,HT.sIx_nat,nM,Nat.sub_zero,<-List.take_eq_take_min]
theorem ux(xs:List V)(c:Nat):nU xs (some (c:Int)) none=xs.drop c:=by
 unfold nU
 rw[HT.sIx_none,HT.sIx_nat]
 by_cases h:c<=xs.length
 ·rw[Nat.min_eq_left h];exact bZ (by rw[dZ];lia)
 ·rw[Nat.min_eq_right (by lia),List.drop_length,List.drop_of_length_le (by lia),List.take_nil]
theorem kE(ys:List Str):(ys.map V.str).all ji=true:=by
 rw[fU]
 intro v hv
 obtain⟨y,_,rfl⟩:=dJ.mp hv
 rfl
theorem kQ(y:Str)(ls:List Str):kj (.str y) (ls.map V.str)=decide (y∈ls):=by
 unfold kj
 rw[List.any_map,Bool.eq_iff_iff,List.any_eq_true,decide_eq_true_eq]
 constructor
 ·rintro⟨z,hz,e⟩
  have e':(z==y)=true:=e
  have:z=y:=by simpa using e'
  rw[<-this];exact hz
 ·intro h
  exact⟨y,h,by show(y==y)=true;simp⟩
theorem fu.past{a l:Addr}{H H1 H2:Hp}(x:fu a H H1)(hl:H l=none)(y:fu l H1 H2):fu a H H2:=λc u n h=>y c u (ar h hl) (x c u n h)
end Bg
end
section
namespace Bg
open PySem PySem.Spec PyProof.Rows L2
abbrev dO:List Str:=["_law_state","_law_many"]
abbrev AF:List Str:=["_law_state","_law_many","_law_script","_law_k","_law_digit","_law_cell"]
def GK(K:Fg):TS:=(cM (bb (lE) (bb (lE) (bb (jW K) (aq 5) (aq 5)) (tC (.int 1999999973))) (aq 1)))
def GL(K:Fg):TS:=(bA (bV (bb (lE) (bb (jW K) (aq 5) (aq 5)) (tC (.int 2147483587))) (aP 5)) (GK K))
def zV(K:Fg):TS:=(bA (bV (bb (lE) (bb (jW K) (bb (lE) (aq 5) (tC (.int 2147483629))) (bb (dr K) (aq 3) (tC (.int 3)))) (tC (.int 2147483629))) (aP 5)) (GL K))
def GM(K:Fg):TS:=(bA (cZ (bH (bb (Lm) (fR (eP K) (af (aq 2) aE)) (tC (.int 0)))) (bV (bb (dr K) (aq 5) (bb (jW K) (bb (cE K) (aq 2) (bb (lE) (bb (jW K) (aq 3) (tC (.int 7))) (fR (eP K) (af (aq 2) aE)))) (bb (dr K) (tC (.int 48271)) (aq 3)))) (aP 5)) bW) (zV K))
def qF(K:Fg):TS:=(bA (bV (bb (dr K) (bb (jW K) (aq 3) (tC (.int 7919))) (tC (.int 5))) (aP 5)) (GM K))
def GN(K:Fg):TS:=(cM (aq 4))
def zW(K:Fg):TS:=(cZ (bH (bb ((vz K true)) (bb (cE K) (aq 0) (tC (.int 2))) (dC (af (tC (.int 0)) (af (Hf zy (tC (.int 1))) aE))))) (bA (bV (fR (Je) (af (bb (cE K) (aq 0) (tC (.int 2))) (af (aq 1) aE))) (xY K 2 (iT (pI (aq 0) (tC (.int 2)) nA) (iT (aP 4) vD)))) (GN K)) bW)
def zX(K:Fg):TS:=(bA (cZ (qy (bH (bb (pN) (bb (dr K) (bb (Bx) (aq 3) (tC (.int 12))) (tC (.int 1))) (fR (eP K) (af (aq 2) aE)))) (bH (bb (eX K) (bb (lE) (bb (cE K) (aq 2) (tC (.int 0))) (tC (.int 2))) (tC (.int 1))))) (bA (cZ (bH (bb (eX K) (bb (lE) (aq 3) (tC (.int 12))) (tC (.int 0)))) (bV (bb (cE K) (aq 2) (bb (dr K) (bb (Bx) (aq 3) (tC (.int 12))) (tC (.int 1)))) (pI (aq 0) (tC (.int 2)) nA)) bW) (zW K)) (cZ (bH (bb (pN) (aq 3) (fR (eP K) (af (aq 2) aE)))) (cM (bb (lE) (bb (cE K) (aq 2) (aq 3)) (aq 1))) bW)) (qF K))
def GO(K:Fg):TS:=(bA (bV (bb (dr K) (aq 3) (tC (.int 1))) (pI (aq 0) (tC (.int 1)) nA)) (zX K))
def GJ(K:Fg):TS:=(bA (bV (u5 (r8 K) (aq 0) dU (gJ (tC (.int 2)))) (Fe K 2 (iT (aP 2) (iT (aP 3) vD)))) (GO K))
abbrev kL:List Str:=["_law_state","_law_many"]
abbrev tT:List Str:=["_law_state","_law_many","_law_letters","_law_size","_law_at","_law_first","_law_base","_law_found","_law_k","_law_some","_law_name"]
def wW(K:Fg):TS:=(cM (aq 7))
def wX(K:Fg):TS:=(jf (BD K "list" iB (aq 7) (af (aq 10) aE)))
def wY(K:Fg):TS:=(bA (cZ (EG (bH (bb ((vz K false)) (aq 10) (dC (af (tC (.str "part")) (af (tC (.str "call")) (af (tC (.str "say")) (af (tC (.str "jump")) (af (tC (.str "test")) (af (tC (.str "give")) aE))))))))) (qy (bH (bb (pN) (aq 3) (tC (.int 8)))) (bH (bb (eX K) (bb (lE) (bb (dr K) (aq 3) (aq 8)) (tC (.int 3))) (tC (.int 1)))))) (bV (bb (dr K) (aq 10) (tC (.str "x"))) (aP 10)) bW) (wX K))
def Eo(K:Fg):TS:=(bA (bV (BD K "str" (JW K) (tC (.str "")) (af (aq 9) aE)) (aP 10)) (wY K))
def Ep(K:Fg):TS:=(bA (bV (bb (dr K) (bb (dr K) (u5 (r8 K) (aq 6) dU (gJ (aq 4))) (fZ (af (bb (cE K) (aq 2) (bb (lE) (bb (dr K) (aq 5) (bb (jW K) (tC (.int 5)) (aq 8))) (tC (.int 26)))) aE))) (u5 (r8 K) (aq 6) (gJ (bb (dr K) (aq 4) (tC (.int 1)))) dU)) (aP 9)) (Eo K))
def wZ(K:Fg):TS:=(bA (iR (lB (af (aq 1) aE)) (aP 8) (Ep K)) (wW K))
def Er(K:Fg):TS:=(bA (bV (fZ aE) (aP 7)) (wZ K))
def Es(K:Fg):TS:=(bA (bV (jO [] 1 (lB (af (aq 3) aE)) (aP 11) qA (bb (cE K) (aq 2) (bb (lE) (bb (dr K) (aq 5) (bb (jW K) (bb (jW K) (tC (.int 7)) (aq 11)) (bE (bu K) [] E0 (af (aq 0) (af (tC (.int 4)) aE))))) (tC (.int 26))))) (aP 6)) (Er K))
def Et(K:Fg):TS:=(bA (bV (bE (bu K) [] E0 (af (aq 0) (af (tC (.int 26)) aE))) (aP 5)) (Es K))
def vi(K:Fg):TS:=(bA (bV (bE (bu K) [] E0 (af (aq 0) (af (aq 3) aE))) (aP 4)) (Et K))
def BN(K:Fg):TS:=(bA (bV (bb (dr K) (tC (.int 1)) (bE (bu K) [] E0 (af (aq 0) (af (tC (.int 8)) aE)))) (aP 3)) (vi K))
def CW(K:Fg):TS:=(bA (bV (tC (.str "abcdefghijklmnopqrstuvwxyz")) (aP 2)) (BN K))
abbrev kP:List Str:=["_law_state"]
abbrev xG:List Str:=["_law_state"]
def Ex(K:Fg):TS:=(cM (bb (cE K) (fZ (af (tC (.int 0)) (af (tC (.int 1)) (af (bb (sd) (bb (sd) (bb (CA) (tC (.int 2)) (tC (.int 64))) (tC (.int 1))) (bE (bu K) [] E0 (af (aq 0) (af (tC (.int 3)) aE)))) (af (bE (bu K) [] E0 (af (aq 0) (af (tC (.int 12)) aE))) aE))))) (bE (bu K) [] E0 (af (aq 0) (af (tC (.int 4)) aE)))))
def C2(K:Fg):TS:=(bA (cZ (bH (bb (eX K) (bE (bu K) [] E0 (af (aq 0) (af (tC (.int 2)) aE))) (tC (.int 0)))) (cM (bb (dr K) (bb (jW K) (bE (bu K) [] E0 (af (aq 0) (af (bb (CA) (tC (.int 2)) (tC (.int 31))) aE))) (bb (CA) (tC (.int 2)) (tC (.int 33)))) (bE (bu K) [] E0 (af (aq 0) (af (bb (CA) (tC (.int 2)) (tC (.int 31))) aE))))) bW) (Ex K))
abbrev gp:List Str:=["_law_state","_law_names_here","_law_many","_law_counts"]
abbrev nP:List Str:=["_law_state","_law_names_here","_law_many","_law_counts","_law_x","_law_sort","_law_k"]
def vO(K:Fg):TS:=(cM (bb (cE K) (fZ (af (dC (af (tC (.str "jump")) (af (bE (bu K) [] E0 (af (aq 0) (af (aq 2) aE))) aE))) (af (dC (af (tC (.str "give")) (af (tC (.str "")) aE))) aE))) (bb (sd) (aq 5) (tC (.int 10)))))
def vP(K:Fg):TS:=(bA (cZ (bH (bb (pN) (aq 5) (tC (.int 10)))) (cM (dC (af (tC (.str "test")) (af (tC (.str "")) (af (bE (bu K) [] E0 (af (aq 0) (af (aq 2) aE))) aE))))) bW) (vO K))
def vQ(K:Fg):TS:=(bA (cZ (bH (bb (pN) (aq 5) (tC (.int 8)))) (cM (dC (af (tC (.str "say")) (af (tC (.str "")) aE)))) bW) (vP K))
def vR(K:Fg):TS:=(cM (dC (af (tC (.str "call")) (af (aq 4) (af (aq 6) (af (bb (jW K) (dC (af (tC (.str "")) aE)) (bb (cE K) (aq 3) (aq 6))) aE))))))
def vS(K:Fg):TS:=(bA (cZ (bH (bb (eX K) (aq 5) (tC (.int 6)))) (bA (bV (bE (bu K) [] E0 (af (aq 0) (af (fR (eP K) (af (aq 3) aE)) aE))) (aP 6)) (vR K)) bW) (vQ K))
def vT(K:Fg):TS:=(bA (cZ (bH (bb (pN) (aq 5) (tC (.int 6)))) (cM (dC (af (tC (.str "op")) (af (aq 4) (af (bb (cE K) (tC (.str "+-*<=")) (bE (bu K) [] E0 (af (aq 0) (af (tC (.int 5)) aE)))) (af (tC (.str "")) (af (tC (.str "")) aE))))))) bW) (vS K))
def vU(K:Fg):TS:=(bA (cZ (bH (bb (pN) (aq 5) (tC (.int 2)))) (cM (dC (af (tC (.str "num")) (af (aq 4) (af (bE (kY K) [] E0 (af (aq 0) aE)) aE))))) bW) (vT K))
def vV(K:Fg):TS:=(bA (bV (bE (bu K) [] E0 (af (aq 0) (af (tC (.int 12)) aE))) (aP 5)) (vU K))
def sR(K:Fg):TS:=(bA (bV (bb (cE K) (aq 1) (bE (bu K) [] E0 (af (aq 0) (af (fR (eP K) (af (aq 1) aE)) aE)))) (aP 4)) (vV K))
abbrev kJ:List Str:=["_law_rows","_law_n"]
abbrev xA:List Str:=["_law_rows","_law_n"]
def El(K:Fg):TS:=(cM (fZ (af (bb (dr K) (aq 1) (tC (.int 1))) aE)))
def Em(K:Fg):TS:=(bA (cZ (bH (bb (eX K) (bb (cE K) (bb (cE K) (aq 0) (aq 1)) (tC (.int 0))) (tC (.str "give")))) (cM (fZ aE)) bW) (El K))
def En(K:Fg):TS:=(bA (cZ (bH (bb (eX K) (bb (cE K) (bb (cE K) (aq 0) (aq 1)) (tC (.int 0))) (tC (.str "test")))) (cM (fZ (af (bb (dr K) (aq 1) (tC (.int 1))) (af (bb (cE K) (bb (cE K) (aq 0) (aq 1)) (tC (.int 2))) aE)))) bW) (Em K))
def CU(K:Fg):TS:=(bA (cZ (bH (bb (eX K) (bb (cE K) (bb (cE K) (aq 0) (aq 1)) (tC (.int 0))) (tC (.str "jump")))) (cM (fZ (af (bb (cE K) (bb (cE K) (aq 0) (aq 1)) (tC (.int 1))) aE))) bW) (En K))
abbrev jo:List Str:=["_law_rows","_law_names_here","_law_bare"]
abbrev uf:List Str:=["_law_rows","_law_names_here","_law_bare","_law_last","_law_n","_law_to","_law_turn"]
def BK(K:Fg):TS:=(cM (aq 0))
def BL(K:Fg):TS:=(cZ (bH (bb (eX K) (bb (cE K) (bb (cE K) (aq 0) (aq 5)) (tC (.int 0))) (tC (.str "jump")))) (bV (bb (cE K) (fZ (af (dC (af (tC (.str "say")) (af (tC (.str "")) aE))) (af (dC (af (tC (.str "give")) (af (tC (.str "")) aE))) aE))) (fR (Gn) (af (bb (eX K) (aq 4) (aq 3)) aE))) (pI (aq 0) (aq 4) nA)) bW)
def BM(K:Fg):TS:=(cZ (bH (bb (eX K) (bb (cE K) (bb (cE K) (aq 0) (aq 5)) (tC (.int 0))) (tC (.str "jump")))) (bV (bb (cE K) (bb (cE K) (aq 0) (aq 5)) (tC (.int 1))) (aP 5)) bW)
def vd(K:Fg):TS:=(bA (iR (ju K (aq 0)) (aP 6) (BM K)) (BL K))
def ve(K:Fg):TS:=(bA (bV (aq 4) (aP 5)) (vd K))
def vf(K:Fg):TS:=(bA (iR (lB (af (fR (eP K) (af (aq 0) aE)) aE)) (aP 4) (ve K)) (BK K))
def vg(K:Fg):TS:=(bA (cZ (qy (tB (aq 2)) (qy (bH (bb (uP K) (bb (cE K) (bb (cE K) (aq 0) (tC (.int 0))) (tC (.int 0))) (tC (.str "num")))) (bH (bb (Lm) (aq 3) (tC (.int 0)))))) (bV (dC (af (tC (.str "num")) (af (bb (cE K) (aq 1) (tC (.int 0))) (af (tC (.int 3)) aE)))) (pI (aq 0) (tC (.int 0)) nA)) bW) (vf K))
def vh(K:Fg):TS:=(bA (cZ (bH (bb ((vz K true)) (bb (cE K) (bb (cE K) (aq 0) (aq 3)) (tC (.int 0))) (dC (af (tC (.str "jump")) (af (tC (.str "give")) aE))))) (bV (dC (af (tC (.str "give")) (af (tC (.str "")) aE))) (pI (aq 0) (aq 3) nA)) bW) (vg K))
def zZ(K:Fg):TS:=(bA (bV (bb (sd) (fR (eP K) (af (aq 0) aE)) (tC (.int 1))) (aP 3)) (vh K))
abbrev gq:List Str:=["_law_rows","_law_names_here","_law_params"]
abbrev jJ:List Str:=["_law_rows","_law_names_here","_law_params","_law_known","_law_more","_law_n","_law_left","_law_m","_law_kept"]
def vW(K:Fg):TS:=(cM (aq 3))
def vX(K:Fg):TS:=(bV (tC (.bl true)) (aP 4))
def pq(K:Fg):TS:=(cZ (bH (bb (pN) (fR (eP K) (af (aq 8) aE)) (fR (eP K) (af (bb (cE K) (aq 3) (aq 7)) aE)))) (bA (bV (aq 8) (pI (aq 3) (aq 7) nA)) (vX K)) bW)
def px(K:Fg):TS:=(bA (bV (jO [] 1 (ju K (bb (cE K) (aq 3) (aq 7))) (aP 9) (bH (bb ((vz K false)) (aq 9) (aq 6))) (aq 9)) (aP 8)) (pq K))
def pA(K:Fg):TS:=(iR (ju K (bE (kT K) [] E0 (af (aq 0) (af (aq 5) aE)))) (aP 7) (px K))
def pB(K:Fg):TS:=(bA (cZ (bH (bb ((vz K false)) (bb (cE K) (bb (cE K) (aq 0) (aq 5)) (tC (.int 0))) (dC (af (tC (.str "num")) (af (tC (.str "op")) (af (tC (.str "call")) aE)))))) (bV (bb (dr K) (aq 6) (fZ (af (bb (cE K) (bb (cE K) (aq 0) (aq 5)) (tC (.int 1))) aE))) (aP 6)) bW) (pA K))
def lV(K:Fg):TS:=(bA (bV (bb (cE K) (aq 3) (aq 5)) (aP 6)) (pB K))
def pC(K:Fg):TS:=(iR (lB (af (fR (eP K) (af (aq 0) aE)) aE)) (aP 5) (lV K))
def vY(K:Fg):TS:=(bA (bV (tC (.bl false)) (aP 4)) (pC K))
def ou(K:Fg):TS:=(bA (rP (tB (aq 4)) (vY K)) (vW K))
def oy(K:Fg):TS:=(bA (bV (tC (.bl true)) (aP 4)) (ou K))
def oz(K:Fg):TS:=(bA (bV (fR (t8 K) (af (aq 2) aE)) (pI (aq 3) (tC (.int 0)) nA)) (oy K))
def sS(K:Fg):TS:=(bA (bV (jO [] 1 (ju K (aq 0)) (aP 9) qA (fR (t8 K) (af (aq 1) aE))) (aP 3)) (oz K))
abbrev jm:List Str:=["_law_state","_law_rows","_law_known"]
abbrev pX:List Str:=["_law_state","_law_rows","_law_known","_law_found","_law_n","_law_row","_law_some","_law_thing"]
def BI(K:Fg):TS:=(cM (fR (i9 K) (af (aq 3) aE)))
def BJ(K:Fg):TS:=(jf (BD K "list" iB (aq 3) (af (bb (dr K) (dC (af (bb (cE K) (aq 5) (tC (.int 0))) aE)) (fR (i9 K) (af (aq 6) aE))) aE)))
def u6(K:Fg):TS:=(jf (BD K "list" iB (aq 6) (af (aq 7) aE)))
def u7(K:Fg):TS:=(bA (cZ (bH (bb (eX K) (aq 7) (tC (.str "")))) (bV (bb (cE K) (bb (cE K) (aq 2) (aq 4)) (bE (bu K) [] E0 (af (aq 0) (af (fR (eP K) (af (bb (cE K) (aq 2) (aq 4)) aE)) aE)))) (aP 7)) (cZ (tB (fR (M3 K) (af (aq 7) (af (tC (.ty "tuple")) aE)))) (bV (fR (i9 K) (af (jO [] 1 (ju K (aq 7)) (aP 8) qA (bb (cE K) (bb (cE K) (aq 2) (aq 4)) (bE (bu K) [] E0 (af (aq 0) (af (fR (eP K) (af (bb (cE K) (aq 2) (aq 4)) aE)) aE))))) aE)) (aP 7)) bW)) (u6 K))
def u9(K:Fg):TS:=(bA (iR (ju K (u5 (r8 K) (aq 5) (gJ (tC (.int 1))) dU)) (aP 7) (u7 K)) (BJ K))
def pQ(K:Fg):TS:=(bA (bV (fZ aE) (aP 6)) (u9 K))
def vc(K:Fg):TS:=(bA (iR (Fj K (af (aq 1) aE)) (xY K 2 (iT (aP 4) (iT (aP 5) vD))) (pQ K)) (BI K))
def zY(K:Fg):TS:=(bA (bV (fZ aE) (aP 3)) (vc K))
abbrev mP:List Str:=["_law_state","_law_word","_law_names_here","_law_params","_law_counts","_law_most"]
abbrev xC:List Str:=["_law_state","_law_word","_law_names_here","_law_params","_law_counts","_law_most","_law_many","_law_rows","_law_known"]
def Al(K:Fg):TS:=(cM (dC (af (aq 1) (af (fR (i9 K) (af (aq 3) aE)) (af (bE (jy K) [] E0 (af (aq 0) (af (aq 7) (af (aq 8) aE)))) aE)))))
def Am(K:Fg):TS:=(bA (bV (bE (gz K) [] E0 (af (aq 7) (af (aq 2) (af (aq 3) aE)))) (aP 8)) (Al K))
def An(K:Fg):TS:=(bA (bV (bE (jz K) [] E0 (af (aq 7) (af (aq 2) (af (bb (eX K) (fR (eP K) (af (aq 3) aE)) (tC (.int 0))) aE)))) (aP 7)) (Am K))
def Ao(K:Fg):TS:=(bA (bV (jO [] 1 (lB (af (aq 6) aE)) (aP 9) qA (bE (gy K) [] E0 (af (aq 0) (af (aq 2) (af (aq 6) (af (aq 4) aE)))))) (aP 7)) (An K))
def GT(K:Fg):TS:=(bA (bV (fR (Mt) (af (bb (dr K) (tC (.int 1)) (fR (Gn) (af (bb (eX K) (fR (eP K) (af (aq 3) aE)) (tC (.int 0))) aE))) (af (bb (dr K) (tC (.int 1)) (bE (bu K) [] E0 (af (aq 0) (af (aq 5) aE)))) aE))) (aP 6)) (Ao K))
abbrev iH:List Str:=["_law_state","_law_most"]
abbrev oN:List Str:=["_law_state","_law_most","_law_five","_law_words","_law_names_here","_law_counts","_law_found","_law_word","_law_many","_law_turn","_law_params"]
def Ap(K:Fg):TS:=(cM (fR (i9 K) (af (aq 6) aE)))
def sI(K:Fg):TS:=(jf (BD K "list" iB (aq 6) (af (bE (m9 K) [] E0 (af (aq 0) (af (aq 7) (af (aq 4) (af (aq 10) (af (aq 5) (af (aq 1) aE))))))) aE)))
def sJ(K:Fg):TS:=(bA (bV (u5 (r8 K) (bb (dr K) (u5 (r8 K) (aq 4) (gJ (aq 9)) dU) (u5 (r8 K) (aq 4) dU (gJ (aq 9)))) dU (gJ (aq 8))) (aP 10)) (sI K))
def sL(K:Fg):TS:=(bA (bV (bE (bu K) [] E0 (af (aq 0) (af (fR (eP K) (af (aq 4) aE)) aE))) (aP 9)) (sJ K))
def sM(K:Fg):TS:=(bA (iR (Kg K (af (aq 3) (af (aq 5) aE))) (xY K 2 (iT (aP 7) (iT (aP 8) vD))) (sL K)) (Ap K))
def sN(K:Fg):TS:=(bA (bV (fZ aE) (aP 6)) (sM K))
def sO(K:Fg):TS:=(bA (bV (jO [7] 0 (ju K (aq 3)) (aP 7) qA (bE (bu K) [] E0 (af (aq 0) (af (bb (dr K) (fR (Mu) (af (tC (.int 4)) (af (fR (eP K) (af (aq 4) aE)) aE))) (tC (.int 1))) aE)))) (aP 5)) (sN K))
def sP(K:Fg):TS:=(bA (bV (bE (jN K) [] E0 (af (aq 0) (af (bb (dr K) (tC (.int 2)) (bE (bu K) [] E0 (af (aq 0) (af (tC (.int 5)) aE)))) aE))) (aP 4)) (sO K))
def sQ(K:Fg):TS:=(bA (bV (u5 (r8 K) (bE (jN K) [] E0 (af (aq 0) (af (tC (.int 5)) aE))) dU (gJ (bb (cE K) (fZ (af (bb (dr K) (tC (.int 1)) (bE (bu K) [] E0 (af (aq 0) (af (tC (.int 3)) aE)))) (af (tC (.int 5)) aE))) (aq 2)))) (aP 3)) (sP K))
def w9(K:Fg):TS:=(bA (bV (fR (Gn) (af (bb (eX K) (bb (lE) (bb (Bx) (fR (M4 K) (af (u5 (r8 K) (bb (cE K) (aq 0) (tC (.int 0))) dU (gJ (tC (.int 1)))) aE)) (tC (.int 4))) (tC (.int 16))) (tC (.int 5))) aE)) (aP 2)) (sQ K))
end Bg
end
section
namespace Bg
open PySem L2
abbrev Hs:Str:="abcdefghijklmnopqrstuvwxyz"
theorem Cc:Hs.length<=sizeLine:=by decide +kernel
def one(c:Nat):Str:=⟨#[c]⟩
theorem yQ:∀cs:List Nat,(Txt.join "" (cs.map one)).cps.toList=cs
 |[]=>by decide +kernel
 |c::r=>by
  unfold Txt.join
  rw[StrLaws.glued_eq_join]
  induction r generalizing c with
  |nil=>rfl
  |cons d r ih=>
   show(one c++("":Str)++Str.join "" ((d::r).map one)).cps.toList=_
   have e:(one c++("":Str)++Str.join "" ((d::r).map one)).cps.toList=(one c).cps.toList++("":Str).cps.toList++(Str.join "" ((d::r).map one)).cps.toList:=by
    show((one c).cps++("":Str).cps++(Str.join "" ((d::r).map one)).cps).toList=_
    rw[jY,jY]
   rw[e,ih d]
   rfl
theorem mj(y:Str):y.length=y.cps.toList.length:=by
 show y.cps.size=_
 rw[bX]
theorem yM:∀j:Nat,j<26->Hs.cps.toList[j]?=some (97+j):=by decide +kernel
theorem Gz:∀y∈Gy,y.length<=4:=by decide +kernel
theorem Ei:∀y∈Gy,y.cps.toList.getLast?≠some 120:=by decide +kernel
theorem Cf(y:Str):(y++"x").cps.toList=y.cps.toList++[120]:=by
 show(y.cps++("x":Str).cps).toList=_
 rw[jY]
 rfl
theorem zm{y:Str}{cs:List Nat}(h:y.cps.toList=cs)(l1:1<=cs.length)(l8:cs.length<=8)(a:∀c∈cs,97<=c/\c<=122)(n:y∉Gy):Nm y:=
 ⟨by rw[mj,h];exact l1,by rw[mj,h];exact l8,by rw[h];exact a,n⟩
theorem L8{y:Str}{cs:List Nat}(h:y.cps.toList=cs)(l8:cs.length<=7)(a:∀c∈cs,97<=c/\c<=122):Nm (y++"x"):=by
 have e:=Cf y
 rw[h] at e
 refine⟨by rw[mj,e,aG];simp,by rw[mj,e,aG];simp;lia,λc hc=>?_,λhm=>?_⟩
 ·rw[e] at hc
  rcases aY.mp hc with z|z
  ·exact a c z
  ·rw[ak.mp z];decide
 ·have:=Ei _ hm
  rw[e,List.getLast?_append] at this
  exact this rfl
def MS(st b l:Addr)(n sz at':Nat)(f:Int)(H4:Hp)(i:Nat):St->Hp->Prop:=λσ' H'=>∃(ys:List Str) (o1 o2 o3:Option V),σ'=[some (.ref st),some (.int (n:Nat)),some (.str Hs),some (.int (sz:Nat)),some (.int (at':Nat)),some (.int f),some (.ref b),some (.ref l),o1,o2,o3]/\H' l=some (.lst (ys.map V.str))/\ys.length=i/\(∀y∈ys,Nm y)/\(∀(j:Nat) y,ys[j]?=some y->y.cps.toList[at']?=some (97+((f+5*(j:Int)) % 26).toNat))/\fu l (upd H4 l (.lst [])) H'
theorem Jl{K:Fg}{vs:List V}{H:Hp}{Q:VK}{E:XK}(h:jN K vs H Q E):CW K {nx:=λ_ H'=>Q .non H',rt:=Q} (cU tT vs) H:=by
 obtain⟨st,n,k,rfl,S,hk,hn,q⟩:=h
 refine⟨_,rfl,st,8,k,rfl,S,by lia,by decide,by decide,λd H1 d0 d1 S1 B1=>.inl ⟨_,_,rfl,rfl,?_⟩⟩
 obtain⟨sz,hsz,z1,z8⟩:∃sz:Nat,(1:Int)+d=(sz:Int)/\1<=sz/\sz<=8:=⟨(1+d).toNat,by lia,by lia,by lia⟩
 show vi K _ [some (.ref st),some (.int (n:Nat)),some (.str Hs),some (.int ((1:Int)+d)),none,none,none,none,none,none,none] H1
 rw[hsz]
 refine⟨_,rfl,_,rfl,st,_,k+1,rfl,S1,by lia,by lia,by lia,λa H2 a0 a1 S2 B2'=>?_⟩
 obtain⟨at',rfl⟩:∃j:Nat,a=(j:Int):=⟨a.toNat,by lia⟩
 have B2:=B1.trans B2'
 refine⟨_,rfl,st,26,k+2,rfl,S2,by lia,by decide,by decide,λf H3 f0 f1 S3 B3'=>?_⟩
 have B3:=B2.trans B3'
 refine⟨_,rfl,_,rfl,by lia,by lia,λb hb=>?_⟩
 obtain⟨ys3,hs3⟩:=S3.lst
 have nb:b≠st:=λz=>by rw[z,hs3] at hb;cases hb
 refine mT (λi σ' H'=>∃(bc:List Nat) (kk:Nat) (o:Option V),σ'=[some (.ref st),some (.int (n:Nat)),some (.str Hs),some (.int (sz:Nat)),some (.int (at':Nat)),some (.int f),none,none,none,none,none,o]/\
  H' b=some (.lst ((bc.map one).map V.str))/\bc.length=i/\(∀c∈bc,97<=c/\c<=122)/\iJ K H' st kk/\kk<=k+3+i/\fu st H H') ?_ ?_ ?_
 ·exact⟨[],k+3,none,rfl,ag,rfl,by simp,S3.new hb,by lia,B3.new hb⟩
 ·rintro i σ' H' hi ⟨bs,kk,o,rfl,hbl,hlen,hone,S4,hkk,B4⟩
  have hi:i<sz:=by simpa using hi
  refine kg ?_
  refine⟨_,rfl,_,rfl,_,rfl,.inl ⟨_,_,rfl,rfl,.inl ⟨by decide,by decide⟩,_,rfl,st,4,kk,rfl,S4,by lia,by decide,by decide,λe H5 e0 e1 S5 B5=>.inl ⟨_,_,rfl,rfl,.inr ⟨by lia,by lia⟩,.inl ⟨_,_,rfl,rfl,_,_,rfl,rfl,(by show(0:Int)<26;decide),?_⟩⟩⟩⟩
  have x0:0<=(f+7*(0+(i:Int))*e) % 26:=di _ (by decide)
  have x1:(f+7*(0+(i:Int))*e) % 26<26:=dg _ (by decide)
  refine MX Cc x0 (yM _ (by lia)) ?_
  have x2:((f+7*(0+(i:Int))*e) % 26).toNat<26:=by lia
  generalize ((f+7*(0+(i:Int))*e) % 26).toNat=x at x2
  have h5:=B5 b _ nb hbl
  refine⟨_,h5,dq (by rw[ao,ao];lia),bs++[97+x],kk+1,_,rfl,?_,by simp[hlen],?_,?_,by lia,?_⟩
  ·rw[ag,aZ,aZ];rfl
  ·intro y hy
   rcases aY.mp hy with z|z
   ·exact hone y z
   ·rw[ak.mp z];lia
  ·exact S5.mono .upd_at h5 (Ne.symm nb)
  ·exact λc' u n' h'=>by
    have w:=(B4.trans B5) c' u n' h'
    have ncb:c'≠b:=λz=>by
     have:H c'=none:=(B3.free (λz'=>n' z') (by rw[z];exact hb))
     rw[this] at h';cases h'
    rw[aA ncb];exact w
 ·rintro σ' H4 ⟨bs,kk,o,rfl,hbl,hlen,hone,S4,hkk,B4⟩
  have hlen:bs.length=sz:=by simpa using hlen
  have hkk:kk<=k+3+sz:=by simpa using hkk
  refine⟨(by show 0<=sizeLine;decide),λl hl=>?_⟩
  have nlb:b≠l:=ar hbl hl
  obtain⟨ys4,hs4⟩:=S4.lst
  have nls:st≠l:=ar hs4 hl
  have Hl:H l=none:=B4.free (Ne.symm nls) hl
  show wZ K _ [some (.ref st),some (.int (n:Nat)),some (.str Hs),some (.int (sz:Nat)),some (.int (at':Nat)),some (.int f),some (.ref b),some (.ref l),none,none,none] (upd H4 l (.lst []))
  refine⟨_,rfl,_,rfl,by lia,by lia,gD (MS st b l n sz at' f H4) ⟨[],none,none,none,rfl,ag,rfl,by simp,by simp,.refl _ _⟩ ?_ ?_⟩
  ·rintro i σ' H5 hi ⟨ys,o1,o2,o3,rfl,hyl,ylen,yok,ycd,B5⟩
   have hi:i<n:=by simpa using hi
   have hb5:H5 b=some (.lst ((bs.map one).map V.str)):=B5 b _ nlb (by rw[aA nlb];exact hbl)
   refine⟨_,rfl,_,rfl,_,rfl,.inl ⟨b,_,rfl,cz.of hb5,λp1 hp1=>?_⟩⟩
   rw[jK,<-ik,<-ik]
   have np1b:b≠p1:=ar hb5 hp1
   have np1l:l≠p1:=ar hyl hp1
   refine⟨_,rfl,_,rfl,_,rfl,.inl ⟨_,_,rfl,rfl,.inl ⟨by decide,by decide⟩,.inl ⟨_,_,rfl,rfl,_,_,rfl,rfl,(by show(0:Int)<26;decide),?_⟩⟩⟩
   have e00:(0:Int)+(i:Int)=(i:Int):=by lia
   rw[e00]
   have x0:0<=(f+5*(i:Int)) % 26:=di _ (by decide)
   have x1:(f+5*(i:Int)) % 26<26:=dg _ (by decide)
   obtain⟨c,hc⟩:∃c,c=97+((f+5*(i:Int)) % 26).toNat:=⟨_,rfl⟩
   refine MX Cc x0 (by rw[yM _ (by lia),<-hc]) ⟨(by show 1<=sizeLine;decide),λp2 hp2=>?_⟩
   have np12:p1≠p2:=ar ag hp2
   have np2b:b≠p2:=ar (by rw[aA np1b];exact hb5) hp2
   have np2l:l≠p2:=ar (by rw[aA np1l];exact hyl) hp2
   refine .inr (.inr (.inl ⟨p1,p2,_,_,rfl,rfl,by rw[aA np12,ag],ag,?_,λp3 hp3=>?_⟩))
   ·have:=dq (n:=9) (by decide)
    rw[ao,ao,bg]
    show min at' bs.length+1<=sizeLine
    lia
   have np13:p1≠p3:=ar (by rw[aA np12];exact ag) hp3
   have np3b:b≠p3:=ar (by rw[aA np2b,aA np1b];exact hb5) hp3
   have np3l:l≠p3:=ar (by rw[aA np2l,aA np1l];exact hyl) hp3
   refine⟨_,rfl,_,rfl,.inl ⟨_,_,rfl,rfl,_,rfl,.inl ⟨b,_,rfl,cz.of (by rw[aA np3b,aA np2b,aA np1b];exact hb5),λp4 hp4=>?_⟩⟩⟩
   rw[show((at':Int)+1)=((at'+1:Nat):Int) by lia,ux,<-oS,<-oS]
   have np34:p3≠p4:=ar ag hp4
   have np4l:l≠p4:=ar (by rw[aA np3l,aA np2l,aA np1l];exact hyl) hp4
   refine .inr (.inr (.inl ⟨p3,p4,_,_,rfl,rfl,by rw[aA np34,ag],ag,?_,λp5 hp5=>?_⟩))
   ·have:=dq (n:=100) (by decide)
    rw[aG,ao,ao,ao,ao,bg,dZ]
    show min at' bs.length+1+(bs.length-(at'+1))<=sizeLine
    lia
   have np5l:l≠p5:=ar (by rw[aA np4l,aA np3l,aA np2l,aA np1l];exact hyl) hp5
   have ew:((bs.take at').map one).map V.str++[V.str ⟨#[c]⟩]++((bs.drop (at'+1)).map one).map V.str=((bs.take at'++[c]++bs.drop (at'+1)).map one).map V.str:=by rw[aZ,aZ,aZ,aZ];rfl
   rw[ew]
   have wl:(bs.take at'++[c]++bs.drop (at'+1)).length=sz:=by rw[aG,aG,bg,dZ,bC];lia
   have wone:∀y∈bs.take at'++[c]++bs.drop (at'+1),97<=y/\y<=122:=λy hy=>by
    rcases aY.mp hy with z|z
    ·rcases aY.mp z with z|z
     ·exact hone y (gM z)
     ·rw[ak.mp z];lia
    ·exact hone y (List.mem_of_mem_drop z)
   have wat:(bs.take at'++[c]++bs.drop (at'+1))[at']?=some c:=by
    have tl:(bs.take at').length=at':=by rw[bg];lia
    rw[List.append_assoc,bJ (by lia),tl,j7]
    rfl
   generalize bs.take at'++[c]++bs.drop (at'+1)=w at wl wone wat ⊢
   have B6:=((((B5.new (o:=.lst (((bs.take at').map one).map V.str)) hp1).new (o:=.lst [V.str ⟨#[c]⟩]) hp2).new (o:=.lst (((bs.take at').map one).map V.str++[V.str ⟨#[c]⟩])) hp3).new (o:=.lst (((bs.drop (at'+1)).map one).map V.str)) hp4).new (o:=.lst ((w.map one).map V.str)) hp5
   have h6:(upd (upd (upd (upd (upd H5 p1 (.lst (((bs.take at').map one).map V.str))) p2 (.lst [V.str ⟨#[c]⟩])) p3 (.lst (((bs.take at').map one).map V.str++[V.str ⟨#[c]⟩]))) p4 (.lst (((bs.drop (at'+1)).map one).map V.str))) p5 (.lst ((w.map one).map V.str))) l=some (.lst (ys.map V.str)):=by
    rw[aA np5l,aA np4l,aA np3l,aA np2l,aA np1l];exact hyl
   have g6:(upd (upd (upd (upd (upd H5 p1 (.lst (((bs.take at').map one).map V.str))) p2 (.lst [V.str ⟨#[c]⟩])) p3 (.lst (((bs.take at').map one).map V.str++[V.str ⟨#[c]⟩]))) p4 (.lst (((bs.drop (at'+1)).map one).map V.str))) p5 (.lst ((w.map one).map V.str))) p5=some (.lst ((w.map one).map V.str)):=ag
   generalize (upd (upd (upd (upd (upd H5 p1 (.lst (((bs.take at').map one).map V.str))) p2 (.lst [V.str ⟨#[c]⟩])) p3 (.lst (((bs.take at').map one).map V.str++[V.str ⟨#[c]⟩]))) p4 (.lst (((bs.drop (at'+1)).map one).map V.str))) p5 (.lst ((w.map one).map V.str)))=H6 at B6 h6 g6 ⊢
   have wsum:((w.map one).map (·.length)).sum=w.length:=by
    rw[eT,show((λx:Str=>x.length) ∘ one)=λ_=>1 from rfl,List.map_const',List.sum_replicate_nat,Nat.mul_one]
   refine⟨rfl,_,rfl,"",p5,w.map one,rfl,rfl,cz.of g6,?_,?_⟩
   ·have e:("":Str).length=0:=by decide +kernel
    rw[wsum,e,Nat.mul_zero];lia
   have jl:=yQ w
   generalize Txt.join "" (w.map one)=nmw at jl ⊢
   show wY K _ [some (.ref st),some (.int (n:Nat)),some (.str Hs),some (.int (sz:Nat)),some (.int (at':Nat)),some (.int f),some (.ref b),some (.ref l),some (.int (i:Int)),some (.ref p5),some (.str nmw)] H6
   have nl:nmw.length=sz:=by rw[mj,jl,wl]
   have app:∀(nw:Str) (H7:Hp),Nm nw->nw.cps.toList[at']?=some c->fu l (upd H4 l (.lst [])) H7->H7 l=some (.lst (ys.map V.str))->wX K {nx:=MS st b l n sz at' f H4 (i+1),rt:=Q,ct:=MS st b l n sz at' f H4 (i+1),bk:=wW K {nx:=λ_ H'=>Q .non H',rt:=Q}} [some (.ref st),some (.int (n:Nat)),some (.str Hs),some (.int (sz:Nat)),some (.int (at':Nat)),some (.int f),some (.ref b),some (.ref l),some (.int (i:Int)),some (.ref p5),some (.str nw)] H7:=λnw H7 w1 w2 B7 h7=>by
    refine⟨_,rfl,.inl ⟨rfl,_,cz.of h7⟩,_,rfl,l,_,_,rfl,rfl,h7,dq (by rw[ao];lia),?_⟩
    refine⟨ys++[nw],_,_,_,rfl,?_,by simp[ylen],?_,?_,B7.trans .upd_at⟩
    ·rw[ag,aZ];rfl
    ·intro y hy
     rcases aY.mp hy with z|z
     ·exact yok y z
     ·rw[ak.mp z];exact w1
    ·intro j y hy
     by_cases cj:j<ys.length
     ·rw[cq cj] at hy;exact ycd j y hy
     ·have cj2:j=i:=by
       have:=(aj.mp hy).1
       rw[aG,bC] at this
       lia
      subst cj2
      rw[bJ (by lia),ylen,j7] at hy
      cases hy
      rw[<-hc];exact w2
   refine⟨_,rfl,(by show 6<=sizeLine;decide),λt ht=>⟨t,_,rfl,.inr (cY.of ag),rfl,rfl,_,rfl,?_⟩⟩
   have ntl:l≠t:=ar h6 ht
   have B7:=B6.new (o:=.tup [V.str "part",V.str "call",V.str "say",V.str "jump",V.str "test",V.str "give"]) ht
   have h7:(upd H6 t (.tup [V.str "part",V.str "call",V.str "say",V.str "jump",V.str "test",V.str "give"])) l=some (.lst (ys.map V.str)):=by rw[aA ntl];exact h6
   have xl:("x":Str).length=1:=by decide +kernel
   have xat:(nmw++"x").cps.toList[at']?=some c:=by
    rw[Cf,jl,cq (by rw[wl];lia)];exact wat
   show if kj (.str nmw) (Gy.map V.str)=true then _ else _
   rw[kQ]
   refine cJ (λhin=>?_) (λhin=>?_)
   ·refine⟨_,rfl,.inr (.inl ⟨_,_,rfl,rfl,by rw[xl];have:=dq (n:=100) (by decide);lia,?_⟩)⟩
    have z4:=Gz _ hin
    exact app _ _ (L8 jl (by rw[wl];lia) wone) xat B7 h7
   ·refine⟨_,rfl,_,_,rfl,rfl,_,rfl,cJ (λh8=>?_) (λ_=>?_)⟩
    ·refine⟨_,rfl,_,rfl,.inl ⟨_,_,rfl,rfl,_,_,rfl,rfl,(by show(0:Int)<3;decide),.inl ⟨rfl,_,rfl,cJ (λ_=>?_) (λ_=>?_)⟩⟩⟩
     ·refine⟨_,rfl,.inr (.inl ⟨_,_,rfl,rfl,by rw[xl];have:=dq (n:=100) (by decide);lia,?_⟩)⟩
      exact app _ _ (L8 jl (by rw[wl];lia) wone) xat B7 h7
     ·exact app _ _ (zm jl (by lia) (by lia) wone hin) (by rw[jl];exact wat) B7 h7
    ·exact iU (app _ _ (zm jl (by lia) (by lia) wone hin) (by rw[jl];exact wat) B7 h7)
  ·rintro σ' H5 ⟨ys,o1,o2,o3,rfl,hyl,ylen,yok,ycd,B5⟩
   have ylen:ys.length=n:=by simpa using ylen
   have nd:ys.Nodup:=by
    rw[List.Nodup,ia]
    intro i j hi hj lt e
    have e1:=ycd i _ (ai hi)
    have e2:=ycd j _ (ai hj)
    rw[e,e2] at e1
    have e3:=Option.some.inj e1
    have a1:0<=(f+5*(i:Int)) % 26:=di _ (by decide)
    have a2:0<=(f+5*(j:Int)) % 26:=di _ (by decide)
    lia
   refine⟨_,rfl,q l ys kk H5 Hl ylen nd yok hyl ((S4.new hl).mono B5 ag nls) (by lia) (B4.through hl B5)⟩
structure MJ(rl:Addr)(H:Hp)(R:bz->Prop)(n:Nat)(H':Hp)(rvs:List V)(rs:List bz):Prop where
 at_:H' rl=some (.lst rvs)
 all:cF (cx H') rvs rs
 len:rs.length=n
 rough:∀r∈rs,R r
 but:fu rl H H'
theorem MJ.vlen{rl:Addr}{H H':Hp}{R:bz->Prop}{n:Nat}{rvs:List V}{rs:List bz}(m:MJ rl H R n H' rvs rs):rvs.length=n:=m.all.len.trans m.len
theorem MJ.grown{rl:Addr}{H H' H2:Hp}{R:bz->Prop}{n:Nat}{rvs:List V}{rs:List bz}(m:MJ rl H R n H' rvs rs)(s:aS H' H2):MJ rl H R n H2 rvs rs:=
 ⟨s _ _ m.at_,m.all.imp λ_ _ z=>z.mono (.of_same s),m.len,m.rough,λb o nb h=>s _ _ (m.but b o nb h)⟩
theorem MJ.set{rl:Addr}{H H':Hp}{R:bz->Prop}{n:Nat}{rvs:List V}{rs:List bz}{v:V}{r:bz}(j:Nat)(m:MJ rl H R n H' rvs rs)(q:cx H' v r)(ro:R r) :
  MJ rl H R n (upd H' rl (.lst (rvs.set j v))) (rvs.set j v) (rs.set j r):=by
 have t:Tp H' (upd H' rl (.lst (rvs.set j v))):=(Tp.refl H').lst m.at_
 refine⟨ag,(m.all.set q).imp λ_ _ z=>z.mono t,by rw[eL];exact m.len,λr' hr'=>?_,m.but.trans .upd_at⟩
 rcases List.mem_or_eq_of_mem_set hr' with z|z
 ·exact m.rough r' z
 ·rw[z];exact ro
theorem MJ.get{rl:Addr}{H H':Hp}{R:bz->Prop}{n:Nat}{rvs:List V}{rs:List bz}(m:MJ rl H R n H' rvs rs){j:Nat}(hj:j<n):∃p xs r,rvs[j]?=some (.ref p)/\rs[j]?=some r/\H' p=some (.tup (.str (gc r)::xs))/\cx H' (.ref p) r/\R r:=by
 obtain⟨v,r,e1,e2,q⟩:=m.all.get (i:=j) (by rw[m.len];exact hj)
 obtain⟨p,xs,rfl,hp⟩:=q.ref
 exact⟨p,xs,r,e1,e2,hp,q,m.rough r (aH e2)⟩
def JG(n:Nat)(rs:List bz):Prop:=∃r,rs[n-1]?=some r/\gR r=true
def LP(bare:Bool)(rs:List bz):Prop:=bare=true->∃r,rs[0]?=some r/\uG r=true
theorem mE{r:bz}(h:gc r="jump"):∃to,r=.jump to:=by
 cases r with
 |jump to=>exact⟨to,rfl⟩
 |num x z=>exact absurd h (by show ¬("num":Str)="jump";decide +kernel)
 |op x s a b=>exact absurd h (by show ¬("op":Str)="jump";decide +kernel)
 |call x k as=>exact absurd h (by show ¬("call":Str)="jump";decide +kernel)
 |say a=>exact absurd h (by show ¬("say":Str)="jump";decide +kernel)
 |test a to=>exact absurd h (by show ¬("test":Str)="jump";decide +kernel)
 |give a=>exact absurd h (by show ¬("give":Str)="jump";decide +kernel)
theorem Ki{r:bz}(h:gc r="num"):uG r=true:=by
 cases r with
 |num x z=>rfl
 |jump to=>exact absurd h (by show ¬("jump":Str)="num";decide +kernel)
 |op x s a b=>exact absurd h (by show ¬("op":Str)="num";decide +kernel)
 |call x k as=>exact absurd h (by show ¬("call":Str)="num";decide +kernel)
 |say a=>exact absurd h (by show ¬("say":Str)="num";decide +kernel)
 |test a to=>exact absurd h (by show ¬("test":Str)="num";decide +kernel)
 |give a=>exact absurd h (by show ¬("give":Str)="num";decide +kernel)
theorem Kh{r:bz}(h:kj (.str (gc r)) [V.str "jump",V.str "give"]=true):gR r=true:=by
 cases r with
 |jump to=>rfl
 |give a=>rfl
 |num x z=>exact absurd h (by show ¬kj (.str "num") [V.str "jump",V.str "give"]=true;decide +kernel)
 |op x s a b=>exact absurd h (by show ¬kj (.str "op") [V.str "jump",V.str "give"]=true;decide +kernel)
 |call x k as=>exact absurd h (by show ¬kj (.str "call") [V.str "jump",V.str "give"]=true;decide +kernel)
 |say a=>exact absurd h (by show ¬kj (.str "say") [V.str "jump",V.str "give"]=true;decide +kernel)
 |test a to=>exact absurd h (by show ¬kj (.str "test") [V.str "jump",V.str "give"]=true;decide +kernel)
theorem lG{a b:Str}(h:V.str a=V.str b):a=b:=by cases h;rfl
theorem zQ{rs:List bz}{n:Nat}(h:∀r,rs[n]?=some r->eV r=false):stp rs n=n:=by
 unfold stp
 cases e:rs[n]? with
 |none=>rfl
 |some r=>cases r with
  |jump t=>exact absurd (h _ e) (by show ¬true=false;decide)
  |_=>rfl
theorem rM{rs:List bz}{n:Nat}(h:∀r,rs[n]?=some r->eV r=false):∀k,runJ rs k n=n
 |0=>rfl
 |k+1=>by
  show runJ rs k (stp rs n)=n
  rw[zQ h];exact rM h k
theorem mr(rs:List bz):∀(k n:Nat),runJ rs (k+1) n=stp rs (runJ rs k n)
 |0,n=>rfl
 |k+1,n=>by
  show runJ rs (k+1) (stp rs n)=stp rs (runJ rs k (stp rs n))
  exact mr rs k (stp rs n)
theorem GB{rs:List bz}{j:Nat}{r':bz}(hr:eV r'=false)(hj:j<rs.length):∀(k m:Nat),(∀r,rs[runJ rs k m]?=some r->eV r=false)->∀r,(rs.set j r')[runJ (rs.set j r') k m]?=some r->eV r=false:=by
 have at_j:∀r,(rs.set j r')[j]?=some r->eV r=false:=λr e=>by
  rw[bp hj] at e;cases e;exact hr
 intro k
 induction k with
 |zero=>
  intro m h r e
  by_cases c:j=m
  ·subst c;exact at_j r e
  ·have e':(rs.set j r')[m]?=some r:=e
   rw[bM c] at e';exact h r e'
 |succ k ih=>
  intro m h r e
  by_cases c:j=m
  ·subst c
   rw[rM at_j] at e;exact at_j r e
  ·have es:stp (rs.set j r') m=stp rs m:=by unfold stp;rw[bM c]
   have e':(rs.set j r')[runJ (rs.set j r') k (stp (rs.set j r') m)]?=some r:=e
   rw[es] at e'
   exact ih (stp rs m) h r e'
theorem zo{r:bz}(h:¬gc r="jump"):eV r=false:=by
 cases r<;>first|rfl|exact absurd rfl h
def MP(rl nm:Addr)(bare:Bool)(H:Hp)(R:bz->Prop)(n i:Nat):St->Hp->Prop:=λσ' H'=>∃(rvs:List V) (rs:List bz) (o4 o5 o6:Option V),σ'=[some (.ref rl),some (.ref nm),some (.bl bare),some (.int ((n-1:Nat):Nat)),o4,o5,o6]/\MJ rl H R n H' rvs rs/\JG n rs/\LP bare rs/\∀m,m<i->∀r,rs[runJ rs n m]?=some r->eV r=false
theorem Gu{K:Fg}{vs:List V}{H:Hp}{Q:VK}{E:XK}(h:jz K vs H Q E):zZ K {nx:=λ_ H'=>Q .non H',rt:=Q} (cU uf vs) H:=by
 obtain⟨rl,nm,bare,rvs,rs,ys,R,rfl,hrl,hA,hpos,hfew,hR,rSay,rGive,rJump,hnm,ysne,rNum,nnr,hbare,q⟩:=h
 obtain⟨n,hn⟩:∃n,n=rs.length:=⟨_,rfl⟩
 have n1:1<=n:=by rw[hn];exact dn.mpr hpos
 have n100:n<=100:=by rw[hn];exact hfew
 have M0:MJ rl H R n H rvs rs:=⟨hrl,hA,hn.symm,hR,.refl _ _⟩
 refine⟨_,rfl,_,_,rfl,.inl ⟨_,cz.of hrl,rfl⟩,_,_,rfl,rfl,?_⟩
 show vh K _ [some (.ref rl),some (.ref nm),some (.bl bare),some (.int (((rvs.length:Nat):Int)-1)),none,none,none] H
 rw[show((rvs.length:Nat):Int)-1=((n-1:Nat):Nat) by rw[M0.vlen];lia]
 have loop:∀H',MP rl nm bare H R n 0 [some (.ref rl),some (.ref nm),some (.bl bare),some (.int ((n-1:Nat):Nat)),none,none,none] H'->vf K {nx:=λ_ H'=>Q .non H',rt:=Q} [some (.ref rl),some (.ref nm),some (.bl bare),some (.int ((n-1:Nat):Nat)),none,none,none] H':=λH' P0=>by
  obtain⟨rvs0,rs0,_,_,_,_,MM,_,_,_⟩:=id P0
  refine⟨_,rfl,_,_,rfl,.inl ⟨_,cz.of MM.at_,rfl⟩,_,rfl,by lia,by rw[MM.vlen];lia,gD (λi=>MP rl nm bare H R n i) P0 ?_ ?_⟩
  ·rintro i σ' H1 hi ⟨rvs,rs,o4,o5,o6,rfl,M,hE,hN,hJ⟩
   have hi:i<n:=by rw[MM.vlen] at hi;simpa using hi
   have e0:(0:Int)+(i:Int)=((i:Nat):Int):=by lia
   show ve K _ [some (.ref rl),some (.ref nm),some (.bl bare),some (.int ((n-1:Nat):Nat)),some (.int ((0:Int)+(i:Int))),o5,o6] H1
   rw[e0]
   refine⟨_,rfl,?_⟩
   show vd K _ [some (.ref rl),some (.ref nm),some (.bl bare),some (.int ((n-1:Nat):Nat)),some (.int (i:Nat)),some (.int (i:Nat)),o6] H1
   refine .inl ⟨_,rfl,rl,rfl,⟨_,cz.of M.at_⟩,md (xs:=rvs) (λj σ H'=>∃(to:Nat) (o:Option V),σ=[some (.ref rl),some (.ref nm),some (.bl bare),some (.int ((n-1:Nat):Nat)),some (.int (i:Nat)),some (.int (to:Nat)),o]/\H'=H1/\to<n/\(∀r,rs[i]?=some r->uG r=true->to=i)/\to=runJ rs j i)
    ⟨i,o6,rfl,rfl,hi,λ_ _ _=>rfl,rfl⟩ (λ_ _ _ _ ⟨_,_,_,e,_⟩=>by rw[e];exact cz.of M.at_) ?_ ?_⟩
   ·rintro j x σ' H2 hx ⟨to,o,rfl,rfl,hto,hk,hrun⟩
    obtain⟨p,xs,r,e1,e2,hp,hra,hro⟩:=M.get hto
    have e1':rvs[((to:Nat):Int).toNat]?=some (.ref p):=by simpa using e1
    refine⟨_,rfl,_,rfl,mF (cz.of M.at_) (by lia) e1' (cg hp (by decide) rfl (.inl ⟨rfl,_,rfl,cJ (λhw=>?_) (λhw=>?_)⟩))⟩
    ·obtain⟨t',rfl⟩:=mE (lG hw)
     obtain⟨p',e3,hp'⟩:=hra
     cases e3
     refine⟨_,rfl,_,rfl,mF (cz.of M.at_) (by lia) e1' (cg hp' (by decide) rfl ?_)⟩
     refine⟨t',_,rfl,rfl,by rw[hn];exact rJump _ hro,λr hr hnum=>?_,?_⟩
     ·have:=hk r hr hnum
      rw[this] at e2
      rw[e2] at hr;cases hr;cases hnum
     ·rw[mr,<-hrun];unfold stp;rw[e2]
    ·refine⟨to,_,rfl,rfl,hto,hk,?_⟩
     rw[mr,<-hrun,zQ]
     intro r' hr'
     rw[e2] at hr';cases hr'
     exact zo λz=>hw (by rw[z])
   ·rintro σ' H2 ⟨to,o,rfl,rfl,hto,hk,hrun⟩
    rw[M.vlen] at hrun
    obtain⟨p,xs,r,e1,e2,hp,hra,hro⟩:=M.get hto
    have e1':rvs[((to:Nat):Int).toNat]?=some (.ref p):=by simpa using e1
    refine⟨_,rfl,_,rfl,mF (cz.of M.at_) (by lia) e1' (cg hp (by decide) rfl (.inl ⟨rfl,_,rfl,cJ (λhw=>?_) (λhw=>⟨rvs,rs,_,_,_,rfl,M,hE,hN,λm hm=>?_⟩)⟩))⟩
    rotate_left
    ·by_cases cm:m<i
     ·exact hJ m cm
     ·have:m=i:=by lia
      subst this
      intro r' hr'
      rw[<-hrun,e2] at hr';cases hr'
      exact zo λz=>hw (by rw[z])
    obtain⟨t',rfl⟩:=mE (lG hw)
    refine⟨(by show 2<=sizeLine;decide),λp1 hp1=>⟨(by show 2<=sizeLine;decide),λp2 hp2=>⟨(by show 2<=sizeLine;decide),λl hl=>?_⟩⟩⟩
    have n12:p1≠p2:=ar ag hp2
    have n1l:p1≠l:=ar (by rw[aA n12];exact ag) hl
    have n2l:p2≠l:=ar ag hl
    have sm:aS H2 (upd (upd (upd H2 p1 (.tup [V.str "say",V.str ""])) p2 (.tup [V.str "give",V.str ""])) l (.lst [V.ref p1,V.ref p2])):=(((aS.refl H2).new hp1).new hp2).new hl
    have M2:=M.grown sm
    have hl2:(upd (upd (upd H2 p1 (.tup [V.str "say",V.str ""])) p2 (.tup [V.str "give",V.str ""])) l (.lst [V.ref p1,V.ref p2])) l=some (.lst [V.ref p1,V.ref p2]):=ag
    have h1:(upd (upd (upd H2 p1 (.tup [V.str "say",V.str ""])) p2 (.tup [V.str "give",V.str ""])) l (.lst [V.ref p1,V.ref p2])) p1=some (.tup [V.str "say",V.str ""]):=by rw[aA n1l,aA n12,ag]
    have h2:(upd (upd (upd H2 p1 (.tup [V.str "say",V.str ""])) p2 (.tup [V.str "give",V.str ""])) l (.lst [V.ref p1,V.ref p2])) p2=some (.tup [V.str "give",V.str ""]):=by rw[aA n2l,ag]
    generalize (upd (upd (upd H2 p1 (.tup [V.str "say",V.str ""])) p2 (.tup [V.str "give",V.str ""])) l (.lst [V.ref p1,V.ref p2]))=H3 at M2 hl2 h1 h2 ⊢
    have fin:∀(v:V) (r:bz),cx H3 v r->R r->eV r=false->(i=n-1->gR r=true)->pI (aq 0) (aq 4) nA v [some (.ref rl),some (.ref nm),some (.bl bare),some (.int ((n-1:Nat):Nat)),some (.int (i:Nat)),some (.int (to:Nat)),o] H3 (MP rl nm bare H R n (i+1)):=λv r hv hr hj he=>by
     refine⟨_,rfl,_,rfl,yw M2.at_ (by lia) (by rw[M2.vlen];simpa using hi) ?_⟩
     have ei:((i:Nat):Int).toNat=i:=by simp
     rw[ei]
     refine⟨_,rs.set i r,_,_,_,rfl,M2.set i hv hr,?_,λhb=>?_,λm hm=>?_⟩
     ·obtain⟨r1,a1,a2⟩:=hE
      by_cases c:i=n-1
      ·exact⟨r,by rw[<-c,bp (by rw[M2.len];exact hi)],he c⟩
      ·exact⟨r1,by rw[bM c];exact a1,a2⟩
     ·obtain⟨r0,a1,a2⟩:=hN hb
      have c:i≠0:=λc=>by
       subst c
       have:=hk r0 a1 a2
       subst this
       rw[e2] at a1;cases a1;cases a2
      exact⟨r0,by rw[bM c];exact a1,a2⟩
     ·have il:i<rs.length:=by rw[M2.len];exact hi
      by_cases cm:m<i
      ·exact GB hj il n m (hJ m cm)
      ·have:m=i:=by lia
       subst this
       have atm:∀r',(rs.set m r)[m]?=some r'->eV r'=false:=λr' e=>by rw[bp il] at e;cases e;exact hj
       intro r' hr'
       rw[rM atm] at hr'
       exact atm r' hr'
    refine⟨_,rfl,_,rfl,.inl ⟨rfl,?_⟩⟩
    refine .inr ⟨_,rfl,?_⟩
    by_cases c:i=n-1
    ·have ec:decide (V.int (i:Nat)=V.int ((n-1:Nat):Nat))=true:=by rw[c];exact decide_eq_true rfl
     rw[ec]
     exact mF (cz.of hl2) (by decide) rfl (fin _ (.give "") ⟨p2,rfl,h2⟩ rGive rfl λ_=>rfl)
    ·have ec:decide (V.int (i:Nat)=V.int ((n-1:Nat):Nat))=false:=decide_eq_false (λz=>c (by injection z with z;lia))
     rw[ec]
     exact mF (cz.of hl2) (by decide) rfl (fin _ (.say "") ⟨p1,rfl,h1⟩ rSay rfl λz=>absurd z c)
  ·rintro σ' H1 ⟨rvs,rs',o4,o5,o6,rfl,M,hE,hN,hJ⟩
   rw[MM.vlen,gG] at hJ
   refine⟨_,rfl,q rvs rs' H1 M.at_ M.all (M.len.trans hn) M.rough ?_ ?_ (by intro m hm;rw[M.len] at hm ⊢;exact hJ m hm) M.but⟩
   ·obtain⟨r,a1,a2⟩:=hE
    rw[bT,M.len,a1,cT,a2]
   ·intro hb
    obtain⟨r,a1,a2⟩:=hN hb
    rw[iV,a1,cT,a2]
 have second:∀(H':Hp) (rvs:List V) (rs:List bz),MJ rl H R n H' rvs rs->JG n rs->vg K {nx:=λ_ H'=>Q .non H',rt:=Q} [some (.ref rl),some (.ref nm),some (.bl bare),some (.int ((n-1:Nat):Nat)),none,none,none] H':=λH' rvs rs M hE=>by
  refine⟨_,rfl,bare,rfl,qf (λhb=>?_) (λhb=>?_)⟩
  ·have n2:2<=n:=by rw[hn];exact hbare hb
   obtain⟨p,xs,r,e1,e2,hp,hra,hro⟩:=M.get (j:=0) (by lia)
   refine⟨_,rfl,mF (cz.of M.at_) (by decide) e1 (cg hp (by decide) rfl (.inl ⟨rfl,_,rfl,jv (λhw=>?_) (λhw=>?_)⟩))⟩
   ·refine⟨_,rfl,_,_,rfl,rfl,_,rfl,cJ (λ_=>?_) (λhz=>absurd (show(0:Int)<((n-1:Nat):Nat) by lia) hz)⟩
    have hnm':=M.but nm _ nnr hnm
    obtain⟨y,yr,rfl⟩:∃y yr,ys=y::yr:=List.exists_cons_of_ne_nil ysne
    refine⟨_,rfl,mF (cz.of hnm') (by decide) rfl ⟨(by show 3<=sizeLine;decide),λp2 hp2=>?_⟩⟩
    have M2:=M.grown ((aS.refl H').new (o:=.tup [V.str "num",V.str y,V.int 3]) hp2)
    refine⟨_,rfl,yw M2.at_ (by decide) (by rw[M2.vlen];exact n1) (loop _ ⟨_,rs.set 0 (.num y 3),_,_,_,rfl,M2.set 0 ⟨p2,rfl,ag⟩ (rNum y cG hb),?_,λ_=>⟨.num y 3,bp (by rw[M.len];exact n1),rfl⟩,λ_ z=>absurd z (cB _)⟩)⟩
    obtain⟨r1,a1,a2⟩:=hE
    exact⟨r1,by rw[bM (by lia)];exact a1,a2⟩
   ·exact iU (loop _ ⟨rvs,rs,_,_,_,rfl,M,hE,λ_=>⟨r,e2,Ki (lG hw)⟩,λ_ z=>absurd z (cB _)⟩)
  ·exact iU (loop _ ⟨rvs,rs,_,_,_,rfl,M,hE,λhb'=>(by rw[hb] at hb';cases hb'),λ_ z=>absurd z (cB _)⟩)
 obtain⟨p,xs,r,e1,e2,hp,hra,hro⟩:=M0.get (j:=n-1) (by lia)
 have e1':rvs[((n-1:Nat):Int).toNat]?=some (.ref p):=by simpa using e1
 refine⟨_,rfl,_,rfl,mF (cz.of hrl) (by lia) e1' (cg hp (by decide) rfl ⟨(by show 2<=sizeLine;decide),λt ht=>⟨t,_,rfl,.inr (cY.of ag),rfl,rfl,_,rfl,?_⟩⟩)⟩
 have M1:=M0.grown ((aS.refl H).new (o:=.tup [V.str "jump",V.str "give"]) ht)
 refine qf (λhb=>?_) (λhb=>?_)
 ·refine⟨(by show 2<=sizeLine;decide),λp2 hp2=>?_⟩
  have M2:=M1.grown ((aS.refl _).new (o:=.tup [V.str "give",V.str ""]) hp2)
  refine⟨_,rfl,_,rfl,yw M2.at_ (by lia) (by rw[M2.vlen];lia) ?_⟩
  have ei:((n-1:Nat):Int).toNat=n-1:=by simp
  rw[ei]
  exact second _ _ _ (M2.set (n-1) (r:=.give "") ⟨p2,rfl,ag⟩ rGive) ⟨.give "",bp (by rw[M0.len];lia),rfl⟩
 ·refine second _ _ _ M1 ⟨r,e2,Kh ?_⟩
  have hb':(!kj (.str (gc r)) [V.str "jump",V.str "give"])=false:=hb
  simpa using hb'
def JL(kl:Addr)(H:Hp)(v:V)(ks:List Str):Prop:=∃a,v=.ref a/\a≠kl/\H a=some (.lst (ks.map V.str))
theorem JL.same{kl:Addr}{H H':Hp}{v:V}{ks:List Str}(h:JL kl H v ks)(s:aS H H'):JL kl H' v ks:=by
 obtain⟨a,e,n,h⟩:=h;exact⟨a,e,n,s _ _ h⟩
theorem JL.upd{kl:Addr}{H:Hp}{v:V}{ks:List Str}{o:HO}(h:JL kl H v ks):JL kl (upd H kl o) v ks:=by
 obtain⟨a,e,n,h⟩:=h;exact⟨a,e,n,by rw[aA n];exact h⟩
def rO(kss:List (List Str)):Nat:=(kss.map jG).sum
theorem zR:∀{kss:List (List Str)} {m:Nat} {ks kp:List Str},kss[m]?=some ks->rO (kss.set m kp)+ks.length=rO kss+kp.length
 |[],m,ks,kp,h=>by simp at h
 |a::r,0,ks,kp,h=>by
  simp at h;subst h
  show kp.length+rO r+a.length=a.length+rO r+kp.length
  lia
 |a::r,m+1,ks,kp,h=>by
  have ih:=zR (kss:=r) (m:=m) (ks:=ks) (kp:=kp) (by simpa using h)
  show a.length+rO (r.set m kp)+ks.length=a.length+rO r+kp.length
  lia
structure KJ(kl:Addr)(H:Hp)(ys ps:List Str)(w:Str)(n:Nat)(H':Hp)(refs:List V)(kss:List (List Str)):Prop where
 at_:H' kl=some (.lst refs)
 all:cF (JL kl H') refs kss
 len:kss.length=n
 wit:∀(i:Nat) ks,kss[i]?=some ks->ks.length<=100/\(∀y∈ks,y∈ys)/\(w∈ks\/(i=0/\ps=[]))
 same:aS H H'
theorem KJ.grown{kl:Addr}{H H' H2:Hp}{ys ps:List Str}{w:Str}{n:Nat}{refs:List V}{kss:List (List Str)}(k:KJ kl H ys ps w n H' refs kss)(s:aS H' H2):KJ kl H ys ps w n H2 refs kss:=
 ⟨s _ _ k.at_,k.all.imp λ_ _ z=>z.same s,k.len,k.wit,k.same.trans s⟩
theorem KJ.vlen{kl:Addr}{H H':Hp}{ys ps:List Str}{w:Str}{n:Nat}{refs:List V}{kss:List (List Str)}(k:KJ kl H ys ps w n H' refs kss):refs.length=n:=k.all.len.trans k.len
theorem KJ.get{kl:Addr}{H H':Hp}{ys ps:List Str}{w:Str}{n:Nat}{refs:List V}{kss:List (List Str)}(k:KJ kl H ys ps w n H' refs kss){j:Nat}(hj:j<n):∃a ks,refs[j]?=some (.ref a)/\kss[j]?=some ks/\a≠kl/\H' a=some (.lst (ks.map V.str)):=by
 obtain⟨v,ks,e1,e2,a,rfl,n1,h1⟩:=k.all.get (i:=j) (by rw[k.len];exact hj)
 exact⟨a,ks,e1,e2,n1,h1⟩
theorem KJ.set{kl a:Addr}{H H':Hp}{ys ps:List Str}{w:Str}{n m:Nat}{refs:List V}{kss:List (List Str)}{kp:List Str}(k:KJ kl H ys ps w n H' refs kss)(hkl:H kl=none)(na:a≠kl)(ha:H' a=some (.lst (kp.map V.str)))
  (hw:kp.length<=100/\(∀y∈kp,y∈ys)/\(w∈kp\/(m=0/\ps=[]))):KJ kl H ys ps w n (upd H' kl (.lst (refs.set m (.ref a)))) (refs.set m (.ref a)) (kss.set m kp):=by
 refine⟨ag,cF.set (k.all.imp λ_ _ z=>z.upd) ⟨a,rfl,na,by rw[aA na];exact ha⟩,by rw[eL];exact k.len,λi ks e=>?_,λb o h=>?_⟩
 ·by_cases c:m=i
  ·subst c
   have hi:m<kss.length:=by have:=(aj.mp e).1;rw[eL] at this;exact this
   rw[bp hi] at e;cases e;exact hw
  ·rw[bM c] at e;exact k.wit i ks e
 ·rw[aA (ar h hkl)];exact k.same _ _ h
theorem rV{α:Type}(p:α->Bool)(l:List α)(i:Nat)(v:α)(h:l[i]?=some v):(l.take (i+1)).filter p=(l.take i).filter p++(if p v=true then[v] else[]):=by
 rw[cu,h,kF]
 cases hp:p v<;>simp[hp]
theorem HP{r:bz}(h:kj (.str (gc r)) [V.str "num",V.str "op",V.str "call"]=true):∃x,ij r=.str x:=by
 cases r with
 |num x z=>exact⟨x,rfl⟩
 |op x s a b=>exact⟨x,rfl⟩
 |call x k as=>exact⟨x,rfl⟩
 |jump to=>exact absurd h (by show ¬kj (.str "jump") [V.str "num",V.str "op",V.str "call"]=true;decide +kernel)
 |say a=>exact absurd h (by show ¬kj (.str "say") [V.str "num",V.str "op",V.str "call"]=true;decide +kernel)
 |test a to=>exact absurd h (by show ¬kj (.str "test") [V.str "num",V.str "op",V.str "call"]=true;decide +kernel)
 |give a=>exact absurd h (by show ¬kj (.str "give") [V.str "num",V.str "op",V.str "call"]=true;decide +kernel)
theorem Js{H:Hp}{p:Addr}{r:bz}{x:Str}(h:cx H (.ref p) r)(e:ij r=.str x):∃xs,H p=some (.tup (.str (gc r)::.str x::xs)):=by
 cases r with
 |num y z=>cases e;obtain⟨p',e',h⟩:=h;cases e';exact⟨_,h⟩
 |op y s a b=>cases e;obtain⟨p',e',h⟩:=h;cases e';exact⟨_,h⟩
 |call y k as=>cases e;obtain⟨p',q,e',h,_⟩:=h;cases e';exact⟨_,h⟩
 |jump to=>cases e
 |say a=>cases e
 |test a to=>cases e
 |give a=>cases e
theorem Ft{ys:List Str}{cs:List Nat}{rs:List bz}{i m j:Nat}{r:bz}(hr:rs[i]?=some r)(ro:uo ys cs rs.length r)(hE:rs.getLast?.map gR=some true)(hm:(cL i r)[j]?=some m):m<rs.length:=by
 have hi:i<rs.length:=(aj.mp hr).1
 have nx:gR r=false->i+1<rs.length:=λhe=>by
  by_cases c:i+1<rs.length
  ·exact c
  ·have ei:i=rs.length-1:=by lia
   rw[bT,<-ei,hr,cT,he] at hE
   cases hE
 have mem:=aH hm
 cases r with
 |jump to=>rw[ak.mp mem];exact ro
 |test a to=>
  rcases aU.mp mem with e|e
  ·rw[e];exact nx rfl
  ·rw[ak.mp e];exact ro.2
 |give a=>cases mem
 |num x z=>rw[ak.mp mem];exact nx rfl
 |op x s a b=>rw[ak.mp mem];exact nx rfl
 |call x k as=>rw[ak.mp mem];exact nx rfl
 |say a=>rw[ak.mp mem];exact nx rfl
def uk(rs:List bz)(i:Nat)(kss:List (List Str)):Prop:=∀(n m:Nat) r ks km,n<i->rs[n]?=some r->m∈cL n r->kss[n]?=some ks->kss[m]?=some km->∀y∈km,y∈ks\/ij r=.str y
def xK(ps:List Str)(kss:List (List Str)):Prop:=∀ks,kss[0]?=some ks->∀y∈ks,y∈ps
theorem xK.set{ps:List Str}{kss:List (List Str)}{m:Nat}{km kp:List Str}(h:xK ps kss)(e:kss[m]?=some km)(s:∀y∈kp,y∈km):xK ps (kss.set m kp):=by
 intro ks e0 y hy
 by_cases c:m=0
 ·subst c
  have hl:0<kss.length:=(aj.mp e).1
  rw[bp hl] at e0;cases e0
  exact h km e y (s y hy)
 ·rw[bM c] at e0;exact h ks e0 y hy
def LG(rl nm pr kl:Addr)(H:Hp)(ys ps:List Str)(w:Str)(rs:List bz)(B i:Nat):St->Hp->Prop:=λσ' H'=>∃(refs:List V) (kss:List (List Str)) (more:Bool) (o5 o6 o7 o8:Option V),σ'=[some (.ref rl),some (.ref nm),some (.ref pr),some (.ref kl),some (.bl more),o5,o6,o7,o8]/\KJ kl H ys ps w rs.length H' refs kss/\2*rO kss+more.toNat<=B/\xK ps kss/\(more=false->uk rs i kss)
def MT(rl nm pr kl:Addr)(H:Hp)(ys ps:List Str)(w:Str)(rs:List bz)(B i:Nat)(la l:Addr)(ls:List Str)(ms:List Nat)(kss0:List (List Str))(j:Nat):St->Hp->Prop:=λσ' H'=>∃(refs:List V) (kss:List (List Str)) (more:Bool) (o7 o8:Option V),σ'=[some (.ref rl),some (.ref nm),some (.ref pr),some (.ref kl),some (.bl more),some (.int (i:Nat)),some (.ref la),o7,o8]/\KJ kl H ys ps w rs.length H' refs kss/\2*rO kss+more.toNat<=B/\H' la=some (.lst (ls.map V.str))/\H' l=some (.lst (bG ms))/\xK ps kss/\
 (more=false->kss=kss0/\uk rs i kss0/\∀j',j'<j->∀m km,ms[j']?=some m->kss0[m]?=some km->∀y∈km,y∈ls)
def vy(a b:Addr)(H H':Hp):Prop:=∀c o,c≠a->c≠b->H c=some o->H' c=some o
theorem vy.refl(a b:Addr)(H:Hp):vy a b H H:=λ_ _ _ _ h=>h
theorem vy.trans{a b:Addr}{H H1 H2:Hp}(x:vy a b H H1)(y:vy a b H1 H2):vy a b H H2:=λc o n m h=>y c o n m (x c o n m h)
theorem vy.of_l{a b:Addr}{H H':Hp}(x:fu a H H'):vy a b H H':=λc o n _ h=>x c o n h
theorem vy.of_r{a b:Addr}{H H':Hp}(x:fu b H H'):vy a b H H':=λc o _ m h=>x c o m h
theorem vy.upd_r{a b:Addr}{H:Hp}{o:HO}:vy a b H (upd H b o):=.of_r .upd_at
theorem vy.tp{a b:Addr}{H H':Hp}{xs ys:List V}(x:vy a b H H')(ha:H a=some (.lst xs))(hb:H b=some (.lst ys)):Tp H H':=λp zs h=>
 x p _ (by rintro rfl;rw[h] at ha;cases ha) (by rintro rfl;rw[h] at hb;cases hb) h
theorem vy.but{a b:Addr}{H H1 H2:Hp}(x:fu a H H1)(hb:H b=none)(y:vy a b H1 H2):fu a H H2:=λc o n h=>y c o n (ar h hb) (x c o n h)
def xR:V->Nat
 |.str s=>if s="" then 1 else 0
 |.ref _=>4
 |_=>0
def C8(ks:List Str)(H:Hp):V->Prop
 |.str s=>s=""->ks≠[]
 |.int _=>True
 |.ref q=>∃as:List Str,H q=some (.tup (as.map V.str))/\as.length<=4/\ks≠[]
 |_=>False
theorem C8.mono{ks:List Str}{H H':Hp}{x:V}(h:C8 ks H x)(t:Tp H H'):C8 ks H' x:=by
 cases x with
 |str s=>exact h
 |int i=>exact h
 |ref q=>obtain⟨as,h1,h2⟩:=h;exact⟨as,t _ _ h1,h2⟩
 |_=>exact h.elim
def EH(ks:List Str)(H:Hp)(y x:V):Prop:=match x with
 |.str s=>(s=""->∃z∈ks,y=.str z)/\(s≠""->y=.str s)
 |.int i=>y=.int i
 |.ref q=>∃(as bs:List Str) (q':Addr),H q=some (.tup (as.map V.str))/\y=.ref q'/\H q'=some (.tup (bs.map V.str))/\bs.length=as.length/\∀b∈bs,b∈ks
 |_=>False
theorem EH.mono{ks:List Str}{H H':Hp}{x y:V}(h:EH ks H y x)(t:Tp H H'):EH ks H' y x:=by
 cases x with
 |str s=>exact h
 |int i=>exact h
 |ref q=>obtain⟨as,bs,q',h1,h2,h3,h4⟩:=h;exact⟨as,bs,q',t _ _ h1,h2,t _ _ h3,h4⟩
 |_=>exact h.elim
theorem Cn{K:Fg}{σ:St}{st kl a:Addr}{i k:Nat}{refs:List V}{ks:List Str}{H:Hp}{Q:VK}(h0:σ[0]?=some (some (.ref st)))(h2:σ[2]?=some (some (.ref kl)))(h4:σ[4]?=some (some (.int (i:Nat))))
  (hkl:H kl=some (.lst refs)) (hr:refs[i]?=some (.ref a)) (ha:H a=some (.lst (ks.map V.str))) (ne:ks≠[]) (len:ks.length<=100) (S:iJ K H st k) (hk:k<=900000) (na:a≠st)
  (q:∀(y:Str) (H':Hp),y∈ks->iJ K H' st (k+1)->fu st H H'->Q (.str y) H') :
  bb (cE K) (bb (cE K) (aq 2) (aq 4)) (bE (bu K) [] E0 (af (aq 0) (af (fR (eP K) (af (bb (cE K) (aq 2) (aq 4)) aE)) aE))) σ H Q:=by
 have hl:0<ks.length:=dn.mpr ne
 have hr':refs[((i:Nat):Int).toNat]?=some (.ref a):=by simpa using hr
 refine⟨_,h2,_,h4,mF (cz.of hkl) (by lia) hr' ⟨_,h0,_,h2,_,h4,mF (cz.of hkl) (by lia) hr' ⟨_,_,rfl,.inl ⟨_,cz.of ha,rfl⟩,st,_,k,rfl,S,by lia,by rw[ao];lia,by rw[ao];lia,λd H1 d0 d1 S1 B1=>?_⟩⟩⟩
 rw[ao] at d1
 have dl:d.toNat<ks.length:=by lia
 exact mF (cz.of (B1 a _ na ha)) d0 (qx (ai dl)) (q _ H1 (e8 dl) S1 B1)
theorem E9{K:Fg}{st rl kl fd p sm a:Addr}{i k:Nat}{refs vs:List V}{ks:List Str}{x:V}{H:Hp}{D:nJ}(hkl:H kl=some (.lst refs))(hr:refs[i]?=some (.ref a))(ha:H a=some (.lst (ks.map V.str)))(len:ks.length<=100)(S:iJ K H st k)(hk:k<=800000)(na:a≠st)(nk:kl≠st)
  (hsm:H sm=some (.lst vs)) (vl:vs.length<=100) (ns:sm≠st) (ok:C8 ks H x)
  (q:∀(y:V) (k':Nat) (H':Hp),EH ks H' y x->H' sm=some (.lst (vs++[y]))->iJ K H' st k'->k'<=k+xR x->vy st sm H H'->D.nx [some (.ref st),some (.ref rl),some (.ref kl),some (.ref fd),some (.int (i:Nat)),some (.ref p),some (.ref sm),some y] H') :
  u7 K D [some (.ref st),some (.ref rl),some (.ref kl),some (.ref fd),some (.int (i:Nat)),some (.ref p),some (.ref sm),some x] H:=by
 have app:∀(y:V) (k':Nat) (H1:Hp),EH ks H1 y x->iJ K H1 st k'->k'<=k+xR x->fu st H H1->u6 K D [some (.ref st),some (.ref rl),some (.ref kl),some (.ref fd),some (.int (i:Nat)),some (.ref p),some (.ref sm),some y] H1:=λy k' H1 f S1 l1 B1=>by
  have h1:=B1 sm _ ns hsm
  refine⟨_,rfl,.inl ⟨rfl,_,cz.of h1⟩,_,rfl,sm,_,_,rfl,rfl,h1,dq (by lia),?_⟩
  exact q y k' _ (f.mono ((Tp.refl H1).lst h1)) ag (S1.mono .upd_at h1 (Ne.symm ns)) l1 ((vy.of_l B1).trans .upd_r)
 cases x with
 |str s=>
  refine⟨_,rfl,.inl ⟨rfl,_,rfl,cJ (λe=>?_) (λe=>?_)⟩⟩
  ·have e':s="":=by cases e;rfl
   refine Cn rfl rfl rfl hkl hr ha (ok e') len S (by lia) na λy H' hy S' B'=>?_
   refine app (.str y) _ H' ⟨λ_=>⟨y,hy,rfl⟩,λz=>absurd e' z⟩ S' ?_ B'
   show k+1<=k+(if s="" then 1 else 0)
   rw[if_pos e'];exact aC _
  ·refine⟨_,rfl,_,_,_,rfl,.str_tuple _,_,rfl,iU ?_⟩
   exact app (.str s) k H ⟨λz=>absurd (by rw[z]) e,λ_=>rfl⟩ S (by lia) (.refl _ _)
 |int j=>
  refine⟨_,rfl,.inl ⟨rfl,_,rfl,no (λz=>by cases z) ?_⟩⟩
  refine⟨_,rfl,_,_,_,rfl,.int_tuple _,_,rfl,iU ?_⟩
  exact app (.int j) k H rfl S (by lia) (.refl _ _)
 |ref t=>
  obtain⟨as,ht,l4,ne⟩:=ok
  obtain⟨ys0,hst⟩:=S.lst
  have nt:t≠st:=Ne.symm (mV hst ht)
  refine⟨_,rfl,.inr (.inr (.inl ⟨t,_,_,rfl,rfl,cY.of ht,_,rfl,iU ?_⟩))⟩
  refine⟨_,rfl,_,_,_,rfl,.tup_tuple (cY.of ht),_,rfl,pJ ?_⟩
  refine .inr ⟨_,rfl,t,rfl,⟨_,cY.of ht⟩,λL hL=>?_⟩
  have nL:L≠st:=λz=>by rw[z,hst] at hL;cases hL
  refine qd (xs:=as.map V.str) (λj σ' H'=>∃(bs:List Str) (k':Nat) (o:Option V),σ'=[some (.ref st),some (.ref rl),some (.ref kl),some (.ref fd),some (.int (i:Nat)),some (.ref p),some (.ref sm),some (.ref t),o]/\H' L=some (.lst (bs.map V.str))/\bs.length=j/\(∀b∈bs,b∈ks)/\iJ K H' st k'/\k'<=k+j/\fu st H H') ?_ ?_ ?_ ?_
  ·exact⟨[],k,none,rfl,ag,rfl,by simp,S.new hL,by lia,(fu.refl st H).new hL⟩
  ·rintro j σ' H' _ ⟨_,_,_,_,_,_,_,_,_,B⟩
   exact cY.of (B t _ nt ht)
  ·rintro j x σ' H' hx ⟨bs,k',o,rfl,hb,bl,bm,S',hk',B'⟩
   have jl:j<as.length:=by have:=(aj.mp hx).1;rw[ao] at this;exact this
   refine kg (Cn rfl rfl rfl (B' kl _ nk hkl) hr (B' a _ na ha) ne len S' (by lia) na λy H2 hy S2 B2=>?_)
   have h2:=B2 L _ nL hb
   refine⟨_,h2,dq (by rw[ao];lia),bs++[y],k'+1,_,rfl,by rw[ag,aZ];rfl,by simp[bl],λb hb'=>?_,S2.mono .upd_at h2 (Ne.symm nL),by lia,?_⟩
   ·rcases aY.mp hb' with z|z
    ·exact bm b z
    ·rw[ak.mp z];exact hy
   ·exact λc u n h=>by rw[aA (ar h hL)];exact(B'.trans B2) c u n h
  ·rintro σ' H2 ⟨bs,k',o,_,hb,bl,bm,S',hk',B'⟩
   rw[ao] at bl hk'
   refine⟨L,_,rfl,.inl ⟨cz.of hb,λl hl=>?_⟩⟩
   have nl:L≠l:=ar hb hl
   have h2:=B' t _ nt ht
   refine app (.ref l) k' _ ⟨as,bs,l,by rw[aA (ar h2 hl)];exact h2,rfl,ag,bl,bm⟩ (S'.new hl) ?_ (B'.new hl)
   show k'<=k+4
   lia
 |_=>exact ok.elim
theorem EW(w:V)(rest:List V):nU (w::rest) (some 1) none=rest:=by
 unfold nU
 have e1:HT.sIx (w::rest).length 0 (some 1)=1:=by
  rw[show(1:Int)=((1:Nat):Int) from rfl,HT.sIx_nat,cA];lia
 rw[e1,HT.sIx_none,List.drop_succ_cons,nM,cA]
 exact bZ (by lia)
theorem EV(w:V){rest:List V}(h:rest≠[]):¬(HT.sIx (w::rest).length 0 (some 1)=0/\HT.sIx (w::rest).length (w::rest).length none=(w::rest).length):=by
 rintro⟨h1,_⟩
 rw[show(1:Int)=((1:Nat):Int) from rfl,HT.sIx_nat,cA] at h1
 lia
theorem Ke{K:Fg}{st rl kl fd p a:Addr}{i k:Nat}{refs fs rest:List V}{w:Str}{ks:List Str}{H:Hp}{D:nJ}{o6 o7:Option V}(hkl:H kl=some (.lst refs))(hr:refs[i]?=some (.ref a))(ha:H a=some (.lst (ks.map V.str)))(len:ks.length<=100)(S:iJ K H st k)(hk:k<=750000)(na:a≠st)(nk:kl≠st)
  (hp:H p=some (.tup (.str w::rest))) (rne:rest≠[]) (rl4:rest.length<=4) (ok:∀x∈rest,C8 ks H x) (cs5:(rest.map xR).sum<=5) (hfd:H fd=some (.lst fs)) (fl:fs.length<=100) (nf:fd≠st)
  (q:∀(o6 o7:Option V) (p':Addr) (vs:List V) (k':Nat) (H':Hp),H' fd=some (.lst (fs++[.ref p']))->H' p'=some (.tup (.str w::vs))->cF (EH ks H') vs rest->iJ K H' st k'->k'<=k+5->vy st fd H H'->D.nx [some (.ref st),some (.ref rl),some (.ref kl),some (.ref fd),some (.int (i:Nat)),some (.ref p),o6,o7] H') :
  pQ K D [some (.ref st),some (.ref rl),some (.ref kl),some (.ref fd),some (.int (i:Nat)),some (.ref p),o6,o7] H:=by
 obtain⟨ys0,hst⟩:=S.lst
 refine⟨(by show 0<=sizeLine;decide),λsm hsm=>?_⟩
 have nsm:sm≠st:=λz=>by rw[z,hst] at hsm;cases hsm
 have s1:aS H (upd H sm (.lst [])):=(aS.refl H).new hsm
 have g1:(upd H sm (.lst [])) sm=some (.lst []):=ag
 show u9 K D [some (.ref st),some (.ref rl),some (.ref kl),some (.ref fd),some (.int (i:Nat)),some (.ref p),some (.ref sm),o7] (upd H sm (.lst []))
 generalize upd H sm (.lst [])=H1 at s1 g1 ⊢
 refine .inr ⟨_,rfl,_,rfl,.inr ⟨p,_,rfl,cY.of (s1 _ _ hp),EV _ rne,λtp htp=>?_⟩⟩
 rw[EW]
 have s2:aS H (upd H1 tp (.tup rest)):=s1.new htp
 have g2:(upd H1 tp (.tup rest)) sm=some (.lst []):=by rw[aA (ar g1 htp)];exact g1
 have t2:(upd H1 tp (.tup rest)) tp=some (.tup rest):=ag
 generalize upd H1 tp (.tup rest)=H2 at s2 g2 t2 ⊢
 have nts:tp≠st:=Ne.symm (mV (s2 _ _ hst) t2)
 have ntm:tp≠sm:=Ne.symm (mV g2 t2)
 have nfm:fd≠sm:=ar hfd hsm
 have nkm:kl≠sm:=ar hkl hsm
 have nam:a≠sm:=ar ha hsm
 have nps:p≠st:=Ne.symm (mV hst hp)
 have npm:p≠sm:=ar hp hsm
 refine⟨tp,rfl,⟨_,cY.of t2⟩,ki (xs:=rest) (λj σ' H'=>∃(vs:List V) (k':Nat) (o:Option V),σ'=[some (.ref st),some (.ref rl),some (.ref kl),some (.ref fd),some (.int (i:Nat)),some (.ref p),some (.ref sm),o]/\H' sm=some (.lst vs)/\cF (EH ks H') vs (rest.take j)/\iJ K H' st k'/\k'<=k+((rest.take j).map xR).sum/\vy st sm H2 H') ?_ ?_ ?_ ?_⟩
 ·exact⟨[],k,o7,rfl,g2,.nil,S.same s2,by simp,.refl _ _ _⟩
 ·rintro j σ' H' _ ⟨_,_,_,_,_,_,_,_,B⟩
  exact cY.of (B tp _ nts ntm t2)
 ·rintro j x σ' H' hx ⟨vs,k',o,rfl,hvs,hA,S',hk',B'⟩
  have jl:j<rest.length:=(aj.mp hx).1
  have et:rest.take (j+1)=rest.take j++[x]:=by rw[cu,hx];rfl
  have c5:((rest.take j).map xR).sum<=5:=by
   have e:=congrArg (λl=>(l.map xR).sum) (List.take_append_drop j rest)
   simp only[aZ,List.sum_append] at e
   lia
  have vl:vs.length<=4:=by rw[hA.len,bg];lia
  refine E9 (B' kl _ nk nkm (s2 _ _ hkl)) hr (B' a _ na nam (s2 _ _ ha)) len S' (by lia) na nk hvs (by lia) nsm (((ok x (aH hx)).mono (.of_same s2)).mono (B'.tp (s2 _ _ hst) g2)) λy k2 H3 f h3 S3 l3 B3=>?_
  obtain⟨ys1,hst'⟩:=S'.lst
  refine⟨vs++[y],k2,_,rfl,h3,?_,S3,?_,B'.trans B3⟩
  ·rw[et];exact(hA.imp λ_ _ z=>z.mono (B3.tp hst' hvs)).snoc f
  ·rw[et,aZ,List.sum_append]
   show k2<=k+(((rest.take j).map xR).sum+(xR x+0))
   lia
 ·rintro σ' H3 ⟨vs,k',o,rfl,hvs,hA,S',hk',B'⟩
  rw[List.take_length] at hA hk'
  have h3p:=B' p _ nps npm (s2 _ _ hp)
  have h3f:=B' fd _ nf nfm (s2 _ _ hfd)
  obtain⟨ys1,hst'⟩:=S'.lst
  have vl:vs.length=rest.length:=hA.len
  have vne:vs≠[]:=λz=>rne (dc.mp (by rw[<-vl,z];rfl))
  have BH:fu st H H3:=(vy.but (s2.but) hsm B')
  refine⟨_,rfl,.inl ⟨rfl,_,cz.of h3f⟩,_,rfl,cg h3p (by decide) rfl ⟨(by show 1<=sizeLine;decide),λt1 ht1=>⟨_,rfl,sm,_,rfl,.inl ⟨cz.of (by rw[aA (ar hvs ht1)];exact hvs),λt4 ht4=>?_⟩⟩⟩⟩
  have n14:t1≠t4:=ar ag ht4
  refine .inr (.inr (.inr ⟨t1,t4,[.str w],vs,rfl,rfl,cY.of (by rw[aA n14];exact ag),cY.of ag,by simp,?_,λz=>absurd z vne,λ_ t5 ht5=>?_⟩))
  ·have:=dq (n:=100) (by decide)
   show 1+vs.length<=sizeLine
   lia
  have s5:aS H3 (upd (upd (upd H3 t1 (.tup [.str w])) t4 (.tup vs)) t5 (.tup (.str w::vs))):=(((aS.refl H3).new ht1).new ht4).new ht5
  have g5:(upd (upd (upd H3 t1 (.tup [.str w])) t4 (.tup vs)) t5 (.tup (.str w::vs))) t5=some (.tup (.str w::vs)):=ag
  show iB (.ref fd) [.ref t5] (upd (upd (upd H3 t1 (.tup [.str w])) t4 (.tup vs)) t5 (.tup (.str w::vs))) λx H1=>D.nx [some (.ref st),some (.ref rl),some (.ref kl),some (.ref fd),some (.int (i:Nat)),some (.ref p),some (.ref sm),o] H1
  generalize upd (upd (upd H3 t1 (.tup [.str w])) t4 (.tup vs)) t5 (.tup (.str w::vs))=H5 at s5 g5 ⊢
  have h5f:=s5 _ _ h3f
  refine⟨fd,_,_,rfl,rfl,h5f,dq (by lia),?_⟩
  have tp6:Tp H5 (upd H5 fd (.lst (fs++[.ref t5]))):=(Tp.refl H5).lst h5f
  refine q _ _ t5 vs k' _ ag (tp6 _ _ g5) ((hA.imp λ_ _ z=>z.mono (.of_same s5)).imp λ_ _ z=>z.mono tp6) ((S'.same s5).mono .upd_at h5f (Ne.symm nf)) (by lia) ?_
  exact λc u n m h=>by rw[aA m];exact s5 _ _ (BH c u n h)
theorem GE{s:Str}(h:s∈CK):s≠"":=by
 intro e
 subst e
 exact absurd h (by decide +kernel)
theorem zg{as bs:List Str}(h:as.map V.str=bs.map V.str):as.length=bs.length:=by
 have:=congrArg jG h
 simpa using this
theorem tW{ks:List Str}{H:Hp}{y:V}{s:Str}(h:EH ks H y (.str s))(n:s≠""):y=.str s:=h.2 n
theorem qe{ks:List Str}{H:Hp}{y:V}(h:EH ks H y (.str "")):∃z∈ks,y=.str z:=h.1 rfl
theorem tV{s:Str}(n:s≠""):xR (.str s)=0:=by
 show(if s="" then 1 else 0)=0
 rw[if_neg n]
theorem Nn{vs:List V}(h:vs.length=2):∃a b,vs=[a,b]:=by
 match vs,h with
 |[a,b],_=>exact⟨a,b,rfl⟩
theorem Na{vs:List V}(h:vs.length=1):∃a,vs=[a]:=by
 match vs,h with
 |[a],_=>exact⟨a,rfl⟩
theorem NC{vs:List V}(h:vs.length=3):∃a b c,vs=[a,b,c]:=by
 match vs,h with
 |[a,b,c],_=>exact⟨a,b,c,rfl⟩
theorem ND{vs:List V}(h:vs.length=4):∃a b c d,vs=[a,b,c,d]:=by
 match vs,h with
 |[a,b,c,d],_=>exact⟨a,b,c,d,rfl⟩
theorem HJ{H:Hp}{p:Addr}{r:bz}{ys ks:List Str}{cs:List Nat}{n:Nat}(hra:cx H (.ref p) r)(ro:uo ys cs n r)(yne:∀y∈ys,y≠"")(cs4:∀c∈cs,c<=4)(hks:ks≠[]\/uG r=true) :
  ∃rest,H p=some (.tup (.str (gc r)::rest))/\rest≠[]/\rest.length<=4/\(∀x∈rest,C8 ks H x)/\(rest.map xR).sum<=5/\∀(H':Hp) (p':Addr) (vs:List V),cF (EH ks H') vs rest->H' p'=some (.tup (.str (gc r)::vs))->Tp H H'->∃r',cx H' (.ref p') r'/\jR ks r r':=by
 cases r with
 |num x z=>
  obtain⟨p',e,h⟩:=hra
  cases e
  have xn:=yne x ro.1
  refine⟨_,h,by simp,by simp,λv hv=>?_,?_,λH' p' vs hA hp' t=>?_⟩
  ·rcases aU.mp hv with rfl|hv
   ·exact λz=>absurd z xn
   ·rw[ak.mp hv];exact trivial
  ·show xR (.str x)+(0+0)<=5
   rw[tV xn];decide
  ·obtain⟨a,b,rfl⟩:=Nn hA.len
   have e1:=tW (hA.at_ 0 _ _ rfl rfl) xn
   have e2:b=.int z:=hA.at_ 1 _ _ rfl rfl
   subst e1 e2
   exact⟨.num x z,⟨p',rfl,hp'⟩,rfl⟩
 |op x s a b=>
  obtain⟨p',e,h⟩:=hra
  cases e
  obtain⟨xy,ss,rfl,rfl⟩:=ro
  have xn:=yne x xy
  have sn:=GE ss
  have kn:ks≠[]:=hks.resolve_right (by intro z;cases z)
  refine⟨_,h,by simp,by simp,λv hv=>?_,?_,λH' p' vs hA hp' t=>?_⟩
  ·rcases aU.mp hv with rfl|hv
   ·exact λz=>absurd z xn
   ·rcases aU.mp hv with rfl|hv
    ·exact λz=>absurd z sn
    ·rcases aU.mp hv with rfl|hv
     ·exact λ_=>kn
     ·rw[ak.mp hv];exact λ_=>kn
  ·show xR (.str x)+(xR (.str s)+(xR (.str "")+(xR (.str "")+0)))<=5
   rw[tV xn,tV sn];decide +kernel
  ·obtain⟨v1,v2,v3,v4,rfl⟩:=ND hA.len
   have e1:=tW (hA.at_ 0 _ _ rfl rfl) xn
   have e2:=tW (hA.at_ 1 _ _ rfl rfl) sn
   obtain⟨z3,m3,e3⟩:=qe (hA.at_ 2 _ _ rfl rfl)
   obtain⟨z4,m4,e4⟩:=qe (hA.at_ 3 _ _ rfl rfl)
   subst e1 e2 e3 e4
   exact⟨.op x s z3 z4,⟨p',rfl,hp'⟩,z3,z4,rfl,m3,m4⟩
 |call x k as=>
  obtain⟨p',q,e,h,hq⟩:=hra
  cases e
  obtain⟨xy,c,hc,rfl⟩:=ro
  have xn:=yne x xy
  have kn:ks≠[]:=hks.resolve_right (by intro z;cases z)
  have c4:=cs4 c (aH hc)
  refine⟨_,h,by simp,by simp,λv hv=>?_,?_,λH' p' vs hA hp' t=>?_⟩
  ·rcases aU.mp hv with rfl|hv
   ·exact λz=>absurd z xn
   ·rcases aU.mp hv with rfl|hv
    ·exact trivial
    ·rw[ak.mp hv];exact⟨_,hq,by rw[cv];exact c4,kn⟩
  ·show xR (.str x)+(0+(4+0))<=5
   rw[tV xn];decide
  ·obtain⟨v1,v2,v3,rfl⟩:=NC hA.len
   have e1:=tW (hA.at_ 0 _ _ rfl rfl) xn
   have e2:v2=.int (k:Nat):=hA.at_ 1 _ _ rfl rfl
   obtain⟨as',bs,q',hq',e3,h3,hl,hm⟩:=(show EH ks H' v3 (.ref q) from hA.at_ 2 _ _ rfl rfl)
   subst e1 e2 e3
   have:=t _ _ hq
   rw[hq'] at this
   have e:=zg (HO.tup.inj (Option.some.inj this))
   exact⟨.call x k bs,⟨p',q',rfl,hp',h3⟩,bs,rfl,hl.trans e,hm⟩
 |say a=>
  obtain⟨p',e,h⟩:=hra
  cases e
  have ro:a="":=ro
  subst ro
  have kn:ks≠[]:=hks.resolve_right (by intro z;cases z)
  refine⟨_,h,by simp,by simp,λv hv=>?_,?_,λH' p' vs hA hp' t=>?_⟩
  ·rw[ak.mp hv];exact λ_=>kn
  ·show xR (.str "")+0<=5
   decide +kernel
  ·obtain⟨v1,rfl⟩:=Na hA.len
   obtain⟨z,m,e⟩:=qe (hA.at_ 0 _ _ rfl rfl)
   subst e
   exact⟨.say z,⟨p',rfl,hp'⟩,z,rfl,m⟩
 |jump to=>
  obtain⟨p',e,h⟩:=hra
  cases e
  refine⟨_,h,by simp,by simp,λv hv=>?_,?_,λH' p' vs hA hp' t=>?_⟩
  ·rw[ak.mp hv];exact trivial
  ·show 0+0<=5
   decide
  ·obtain⟨v1,rfl⟩:=Na hA.len
   have e:v1=.int (to:Nat):=hA.at_ 0 _ _ rfl rfl
   subst e
   exact⟨.jump to,⟨p',rfl,hp'⟩,rfl⟩
 |test a to=>
  obtain⟨p',e,h⟩:=hra
  cases e
  obtain⟨ro,_⟩:a=""/\_:=ro
  subst ro
  have kn:ks≠[]:=hks.resolve_right (by intro z;cases z)
  refine⟨_,h,by simp,by simp,λv hv=>?_,?_,λH' p' vs hA hp' t=>?_⟩
  ·rcases aU.mp hv with rfl|hv
   ·exact λ_=>kn
   ·rw[ak.mp hv];exact trivial
  ·show xR (.str "")+(0+0)<=5
   decide +kernel
  ·obtain⟨v1,v2,rfl⟩:=Nn hA.len
   obtain⟨z,m,e⟩:=qe (hA.at_ 0 _ _ rfl rfl)
   have e2:v2=.int (to:Nat):=hA.at_ 1 _ _ rfl rfl
   subst e e2
   exact⟨.test z to,⟨p',rfl,hp'⟩,z,rfl,m⟩
 |give a=>
  obtain⟨p',e,h⟩:=hra
  cases e
  have ro:a="":=ro
  subst ro
  have kn:ks≠[]:=hks.resolve_right (by intro z;cases z)
  refine⟨_,h,by simp,by simp,λv hv=>?_,?_,λH' p' vs hA hp' t=>?_⟩
  ·rw[ak.mp hv];exact λ_=>kn
  ·show xR (.str "")+0<=5
   decide +kernel
  ·obtain⟨v1,rfl⟩:=Na hA.len
   obtain⟨z,m,e⟩:=qe (hA.at_ 0 _ _ rfl rfl)
   subst e
   exact⟨.give z,⟨p',rfl,hp'⟩,z,rfl,m⟩
theorem Gs{K:Fg}{vs:List V}{H:Hp}{Q:VK}{E:XK}(h:jy K vs H Q E):zY K {nx:=λ_ H'=>Q .non H',rt:=Q} (cU pX vs) H:=by
 obtain⟨st,rl,kl,k,rvs,refs,rs,kss,ys,cs,rfl,S,hk,hrl,hA,hOk,yne,cs4,hkl,hT,klen,k100,kne,rst,nrl,nkl,q⟩:=h
 obtain⟨ys0,hst⟩:=S.lst
 refine⟨(by show 0<=sizeLine;decide),λfd hfd=>?_⟩
 have nf:fd≠st:=λz=>by rw[z,hst] at hfd;cases hfd
 have s1:aS H (upd H fd (.lst [])):=(aS.refl H).new hfd
 have g1:(upd H fd (.lst [])) fd=some (.lst []):=ag
 show vc K _ [some (.ref st),some (.ref rl),some (.ref kl),some (.ref fd),none,none,none,none] (upd H fd (.lst []))
 generalize upd H fd (.lst [])=H1 at s1 g1 ⊢
 refine⟨_,rfl,rl,rfl,⟨_,cz.of (s1 _ _ hrl)⟩,Fd (xs:=rvs) (λi σ' H'=>∃(fs:List V) (rs':List bz) (k':Nat) (o4 o5 o6 o7:Option V),σ'=[some (.ref st),some (.ref rl),some (.ref kl),some (.ref fd),o4,o5,o6,o7]/\H' fd=some (.lst fs)/\cF (cx H') fs rs'/\rs'.length=i/\
  (∀(j:Nat) ks r r',kss[j]?=some ks->rs[j]?=some r->rs'[j]?=some r'->jR ks r r')/\iJ K H' st k'/\k'<=k+5*i/\fu st H H') ?_ ?_ ?_ ?_⟩
 ·exact⟨[],[],k,none,none,none,none,rfl,g1,.nil,rfl,λj ks r r' _ _ z=>by simp at z,S.same s1,by lia,s1.but⟩
 ·rintro i σ' H' _ ⟨_,_,_,_,_,_,_,_,_,_,_,_,_,_,B⟩
  exact cz.of (B rl _ nrl hrl)
 ·rintro i x σ' H' tp hx htp ⟨fs,rs',k',o4,o5,o6,o7,rfl,hfs,hR,rlen,hF,S',hk',B'⟩
  obtain⟨r,hr,hra⟩:=hA.of_v hx
  obtain⟨p,xs,rfl,_⟩:=hra.ref
  have il:i<rs.length:=(aj.mp hr).1
  have few:=hOk.few
  obtain⟨v,ks,e1,e2,a,rfl,ha⟩:=hT.get (i:=i) (by rw[klen];exact il)
  have na:a≠st:=λz=>rst (.ref a) (aH e1) (by rw[z])
  have B2:fu st H (upd H' tp (.tup [.int (i:Nat),.ref p])):=B'.new htp
  have s2:aS H' (upd H' tp (.tup [.int (i:Nat),.ref p])):=(aS.refl H').new htp
  have g2:(upd H' tp (.tup [.int (i:Nat),.ref p])) tp=some (.tup [.int (i:Nat),.ref p]):=ag
  generalize upd H' tp (.tup [.int (i:Nat),.ref p])=H2 at B2 s2 g2 ⊢
  refine⟨tp,_,rfl,cY.of g2,rfl,_,_,rfl,_,_,rfl,rfl,?_⟩
  show pQ K _ [some (.ref st),some (.ref rl),some (.ref kl),some (.ref fd),some (.int (i:Nat)),some (.ref p),o6,o7] H2
  have T2:Tp H H2:=.of_but B2 hst
  obtain⟨rest,h1,h2,h3,h4,h5,h6⟩:=HJ (ks:=ks) (hra.mono T2) (hOk.rough r (aH hr)) yne cs4 (kne i ks r e2 hr)
  have f2:=s2 _ _ hfs
  have S2:=S'.same s2
  obtain⟨ys2,hst2⟩:=S2.lst
  refine Ke (B2 kl _ nkl hkl) e1 (B2 a _ na ha) (k100 i ks e2) S2 (by lia) na nkl h1 h2 h3 h4 h5 f2 (by rw[hR.len,rlen];lia) nf λp6 p7 p' vs k3 H3 f3 g3 hA3 S3 l3 B3=>?_
  have T3:Tp H2 H3:=B3.tp hst2 f2
  obtain⟨r',hr',hf'⟩:=h6 H3 p' vs hA3 g3 T3
  refine⟨fs++[.ref p'],rs'++[r'],k3,_,_,_,_,rfl,f3,((hR.imp λ_ _ z=>(z.mono (.of_same s2)).mono T3)).snoc hr',by simp[rlen],λj ks' r1 r2 a1 a2 a3=>?_,S3,by lia,?_⟩
  ·by_cases c:j<rs'.length
   ·rw[cq c] at a3
    exact hF j ks' r1 r2 a1 a2 a3
   ·have c2:j=i:=by
     have:=(aj.mp a3).1
     rw[aG,bC] at this
     lia
    subst c2
    rw[bJ (by lia),rlen,j7] at a3
    cases a3
    rw[e2] at a1;cases a1
    rw[hr] at a2;cases a2
    exact hf'
  ·exact λc u n h=>by
    have hc:=B2 c u n h
    exact B3 c u n (ar h hfd) hc
 ·rintro σ' H' ⟨fs,rs',k',o4,o5,o6,o7,rfl,hfs,hR,rlen,hF,S',hk',B'⟩
  rw[hA.len] at rlen hk'
  refine⟨_,rfl,fd,_,rfl,.inl ⟨cz.of hfs,λl hl=>?_⟩⟩
  exact q l fs rs' k' _ ag (hR.imp λ_ _ z=>z.mono ((Tp.refl H').new hl)) rlen hF (S'.new hl) hk' (B'.new hl)
theorem C3{K:Fg}{H:Hp}{st:Addr}{k:Nat}{v:V}{ks:List Str}(S:iJ K H st k)(h:xI H v ks):v≠.ref st:=by
 rintro rfl
 obtain⟨a,e,h⟩:=h
 cases e
 obtain⟨scr,ns,c,hs,_⟩:=S
 rw[h] at hs
 cases ks with
 |nil=>cases hs
 |cons y r=>cases hs
theorem AZ{ks:List Str}{r r':bz}(h:jR ks r r')(n:Nat):cL n r'=cL n r:=by
 cases r with
 |num x z=>have h:r'=.num x z:=h;subst h;rfl
 |op x s a b=>obtain⟨_,_,rfl,_⟩:=h;rfl
 |call x k as=>obtain⟨_,rfl,_⟩:=h;rfl
 |say a=>obtain⟨_,rfl,_⟩:=h;rfl
 |jump t=>have h:r'=.jump t:=h;subst h;rfl
 |test a t=>obtain⟨_,rfl,_⟩:=h;rfl
 |give a=>obtain⟨_,rfl,_⟩:=h;rfl
theorem Dr{ks:List Str}{r r':bz}(h:jR ks r r'):ij r'=ij r:=by
 cases r with
 |num x z=>have h:r'=.num x z:=h;subst h;rfl
 |op x s a b=>obtain⟨_,_,rfl,_⟩:=h;rfl
 |call x k as=>obtain⟨_,rfl,_⟩:=h;rfl
 |say a=>obtain⟨_,rfl,_⟩:=h;rfl
 |jump t=>have h:r'=.jump t:=h;subst h;rfl
 |test a t=>obtain⟨_,rfl,_⟩:=h;rfl
 |give a=>obtain⟨_,rfl,_⟩:=h;rfl
theorem E8{ks:List Str}{r r':bz}(h:jR ks r r'):gR r'=gR r:=by
 cases r with
 |num x z=>have h:r'=.num x z:=h;subst h;rfl
 |op x s a b=>obtain⟨_,_,rfl,_⟩:=h;rfl
 |call x k as=>obtain⟨_,rfl,_⟩:=h;rfl
 |say a=>obtain⟨_,rfl,_⟩:=h;rfl
 |jump t=>have h:r'=.jump t:=h;subst h;rfl
 |test a t=>obtain⟨_,rfl,_⟩:=h;rfl
 |give a=>obtain⟨_,rfl,_⟩:=h;rfl
theorem Dq{ks:List Str}{r r':bz}(h:jR ks r r'):eV r'=eV r:=by
 cases r with
 |num x z=>have h:r'=.num x z:=h;subst h;rfl
 |op x s a b=>obtain⟨_,_,rfl,_⟩:=h;rfl
 |call x k as=>obtain⟨_,rfl,_⟩:=h;rfl
 |say a=>obtain⟨_,rfl,_⟩:=h;rfl
 |jump t=>have h:r'=.jump t:=h;subst h;rfl
 |test a t=>obtain⟨_,rfl,_⟩:=h;rfl
 |give a=>obtain⟨_,rfl,_⟩:=h;rfl
theorem A0{ks:List Str}{r r':bz}(h:jR ks r r'):∀y∈dw r',y∈ks:=by
 cases r with
 |num x z=>have h:r'=.num x z:=h;subst h;intro y hy;cases hy
 |op x s a b=>
  obtain⟨c,d,rfl,h1,h2⟩:=h
  intro y hy
  rcases aU.mp hy with rfl|hy
  ·exact h1
  ·rw[ak.mp hy];exact h2
 |call x k as=>obtain⟨_,rfl,_,h⟩:=h;exact h
 |say a=>obtain⟨_,rfl,h⟩:=h;intro y hy;rw[ak.mp hy];exact h
 |jump t=>have h:r'=.jump t:=h;subst h;intro y hy;cases hy
 |test a t=>obtain⟨_,rfl,h⟩:=h;intro y hy;rw[ak.mp hy];exact h
 |give a=>obtain⟨_,rfl,h⟩:=h;intro y hy;rw[ak.mp hy];exact h
theorem HK{ys ks:List Str}{cs:List Nat}{n:Nat}{r r':bz}(ro:uo ys cs n r)(hk:∀y∈ks,y∈ys)(h:jR ks r r'):EL ys cs n r':=by
 cases r with
 |num x z=>have h:r'=.num x z:=h;subst h;exact ro
 |op x s a b=>obtain⟨c,d,rfl,h1,h2⟩:=h;exact⟨ro.1,ro.2.1,hk _ h1,hk _ h2⟩
 |call x k as=>
  obtain⟨bs,rfl,hl,h⟩:=h
  obtain⟨r1,c,r2,r3⟩:=ro
  refine⟨r1,?_,λa ha=>hk _ (h a ha)⟩
  rw[hl,r3,cv];exact r2
 |say a=>obtain⟨_,rfl,h⟩:=h;exact hk _ h
 |jump t=>have h:r'=.jump t:=h;subst h;exact ro
 |test a t=>obtain⟨_,rfl,h⟩:=h;exact⟨hk _ h,ro.2⟩
 |give a=>obtain⟨_,rfl,h⟩:=h;exact hk _ h
structure oV(rs rs':List bz):Prop where
 len:rs'.length=rs.length
 fill:∀(i:Nat) r r',rs[i]?=some r->rs'[i]?=some r'->∃ks,jR ks r r'
theorem oV.get{rs rs':List bz}(h:oV rs rs'){i:Nat}{r':bz}(e:rs'[i]?=some r'):∃r ks,rs[i]?=some r/\jR ks r r':=by
 have hi:i<rs.length:=by rw[<-h.len];exact(aj.mp e).1
 obtain⟨ks,f⟩:=h.fill i _ _ (ai hi) e
 exact⟨_,ks,ai hi,f⟩
theorem oV.stp{rs rs':List bz}(h:oV rs rs')(n:Nat):stp rs' n=stp rs n:=by
 unfold Bg.stp
 cases e:rs'[n]? with
 |none=>
  have:rs[n]?=none:=by rw[List.getElem?_eq_none_iff] at e ⊢;rw[<-h.len];exact e
  rw[this]
 |some r'=>
  obtain⟨r,ks,e1,f⟩:=h.get e
  rw[e1]
  cases r with
  |num x z=>have f:r'=.num x z:=f;subst f;rfl
  |op x s a b=>obtain⟨_,_,rfl,_⟩:=f;rfl
  |call x k as=>obtain⟨_,rfl,_⟩:=f;rfl
  |say a=>obtain⟨_,rfl,_⟩:=f;rfl
  |jump t=>have f:r'=.jump t:=f;subst f;rfl
  |test a t=>obtain⟨_,rfl,_⟩:=f;rfl
  |give a=>obtain⟨_,rfl,_⟩:=f;rfl
theorem oV.runJ{rs rs':List bz}(h:oV rs rs'):∀(k n:Nat),runJ rs' k n=runJ rs k n
 |0,_=>rfl
 |k+1,n=>by
  show Bg.runJ rs' k (Bg.stp rs' n)=Bg.runJ rs k (Bg.stp rs n)
  rw[h.stp];exact oV.runJ h k _
theorem oV.ring{rs rs':List bz}(h:oV rs rs')(q:ui rs):ui rs':=by
 intro n hn r' e
 rw[h.len] at hn
 rw[h.len,h.runJ] at e
 obtain⟨r,ks,e1,f⟩:=h.get e
 rw[Dq f];exact q n hn r e1
theorem Lq{K:Fg}{vs:List V}{H:Hp}{Q:VK}{E:XK}(h:m9 K vs H Q E):GT K {nx:=λ_ H'=>Q .non H',rt:=Q} (cU xC vs) H:=by
 obtain⟨st,nm,pr,cn,wd,m,k,ys,ps,cs,rfl,S,hk,hnm,ysne,ysl,yne,hpr,psl,pnd,pin,hcn,csne,csl,cs4,m1,m50,nnm,npr,ncn,q⟩:=h
 refine⟨_,rfl,_,_,rfl,.inl ⟨_,cz.of hpr,rfl⟩,.inl ⟨rfl,.inr ⟨_,rfl,.inl ⟨_,_,rfl,rfl,_,rfl,_,rfl,st,_,k,rfl,S,by lia,by lia,by lia,λd H1 d0 d1 S1 B1=>.inl ⟨_,_,rfl,rfl,_,_,rfl,?_⟩⟩⟩⟩⟩
 rw[ao]
 obtain⟨n,hn,n1,n51,nm1,n2⟩:∃n:Nat,(if 1+d>1+(if decide (V.int ((ps.length:Nat):Int)=V.int 0)=true then 1 else 0) then 1+d else 1+(if decide (V.int ((ps.length:Nat):Int)=V.int 0)=true then 1 else 0))=(n:Int)/\1<=n/\n<=52/\n<=m+1/\(ps=[]->2<=n):=by
  by_cases c:ps=[]
  ·have e:decide (V.int ((ps.length:Nat):Int)=V.int 0)=true:=by rw[c];rfl
   rw[e,if_pos rfl]
   by_cases c2:1+d>1+1
   ·rw[if_pos c2];exact⟨(1+d).toNat,by lia,by lia,by lia,by lia,λ_=>by lia⟩
   ·rw[if_neg c2];exact⟨2,rfl,by lia,by lia,by lia,λ_=>by lia⟩
  ·have e:decide (V.int ((ps.length:Nat):Int)=V.int 0)=false:=decide_eq_false λz=>c (dc.mp (by injection z with z;lia))
   rw[e,if_neg Bool.false_ne_true]
   by_cases c2:1+d>1+0
   ·rw[if_pos c2];exact⟨(1+d).toNat,by lia,by lia,by lia,by lia,λz=>absurd z c⟩
   ·rw[if_neg c2];exact⟨1,rfl,by lia,by lia,by lia,λz=>absurd z c⟩
 rw[hn]
 show Ao K _ [some (.ref st),some (.str wd),some (.ref nm),some (.ref pr),some (.ref cn),some (.int (m:Nat)),some (.int (n:Nat)),none,none] H1
 refine⟨_,rfl,_,rfl,by lia,by lia,λL hL=>?_⟩
 obtain⟨ys1,hs1⟩:=S1.lst
 have nL:L≠st:=λz=>by rw[z,hs1] at hL;cases hL
 have HL:H L=none:=B1.free nL hL
 refine mT (λi σ' H'=>∃(rvs:List V) (rs:List bz) (k':Nat) (o:Option V),σ'=[some (.ref st),some (.str wd),some (.ref nm),some (.ref pr),some (.ref cn),some (.int (m:Nat)),some (.int (n:Nat)),none,none,o]/\
  H' L=some (.lst rvs)/\cF (cx H') rvs rs/\rs.length=i/\(∀r∈rs,uo ys cs n r)/\iJ K H' st k'/\k'<=k+1+8*i/\fu st H H') ?_ ?_ ?_
 ·exact⟨[],[],k+1,none,rfl,ag,.nil,rfl,by simp,S1.new hL,by lia,B1.new hL⟩
 ·rintro i σ' H' hi ⟨rvs,rs,k',o,rfl,hrl,hA,rlen,ro,S',hk',B'⟩
  have hi:i<n:=by simpa using hi
  refine kg ⟨_,rfl,_,rfl,_,rfl,_,rfl,st,nm,cn,n,k',ys,cs,rfl,S',by lia,B' nm _ nnm hnm,ysne,ysl,n1,by lia,B' cn _ ncn hcn,csne,csl,cs4,nnm,ncn,λv r k2 H2 hv hr S2 l2 B2=>?_⟩
  have h2:=B2 L _ nL hrl
  have t2:Tp H' H2:=by obtain⟨_,e⟩:=S'.lst;exact .of_but B2 e
  have t3:Tp H2 (upd H2 L (.lst (rvs++[v]))):=(Tp.refl H2).lst h2
  refine⟨_,h2,dq (by rw[hA.len];lia),rvs++[v],rs++[r],k2,_,rfl,ag,(hA.imp λ_ _ z=>(z.mono t2).mono t3).snoc (hv.mono t3),by simp[rlen],λr' hr'=>?_,S2.mono .upd_at h2 (Ne.symm nL),by lia,?_⟩
  ·rcases aY.mp hr' with z|z
   ·exact ro r' z
   ·rw[ak.mp z];exact hr
  ·exact fu.past (B'.trans B2) HL .upd_at
 ·rintro σ' H2 ⟨rvs,rs,k2,o,_,hrl,hA,rlen,ro,S2,hk2,B2⟩
  have rlen:rs.length=n:=by simpa using rlen
  have hk2:k2<=k+1+8*n:=by simpa using hk2
  have nnL:nm≠L:=ar hnm HL
  have npL:pr≠L:=ar hpr HL
  have Ok:uq ys cs rs:=⟨λz=>by rw[z] at rlen;simp at rlen;lia,by lia,by rw[rlen];exact ro⟩
  show An K _ [some (.ref st),some (.str wd),some (.ref nm),some (.ref pr),some (.ref cn),some (.int (m:Nat)),some (.int (n:Nat)),some (.ref L),none] H2
  have hpr2:=B2 pr _ npr hpr
  have ebare:decide (V.int (((ps.map V.str).length:Nat):Int)=V.int 0)=true->ps=[]:=λz=>by
   have z':=of_decide_eq_true z
   rw[ao] at z'
   injection z' with z'
   exact dc.mp (by lia)
  have ebare':ps=[]->decide (V.int (((ps.map V.str).length:Nat):Int)=V.int 0)=true:=λz=>by rw[z];rfl
  refine⟨_,rfl,_,rfl,_,rfl,_,_,rfl,.inl ⟨_,cz.of hpr2,rfl⟩,.inl ⟨rfl,L,nm,_,rvs,rs,ys,uo ys cs n,rfl,hrl,hA,Ok.pos,Ok.few,ro,rfl,rfl,λt ht=>by rw[rlen];exact ht,B2 nm _ nnm hnm,ysne,λy hy _=>⟨hy,by decide,by decide⟩,nnL,λz=>by rw[rlen];exact n2 (ebare z),λrvs' rs' H3 h3 hA3 len3 hR3 hE3 hN3 hJ3 B3=>?_⟩⟩
  have n3:rs'.length=n:=len3.trans rlen
  have Ok3:uq ys cs rs':=⟨λz=>by rw[z] at n3;simp at n3;lia,by lia,by rw[n3];exact hR3⟩
  have S3:iJ K H3 st k2:=S2.mono B3 hrl (Ne.symm nL)
  have BH3:fu st H H3:=fu.past B2 HL B3
  show Am K _ [some (.ref st),some (.str wd),some (.ref nm),some (.ref pr),some (.ref cn),some (.int (m:Nat)),some (.int (n:Nat)),some (.ref L),none] H3
  refine⟨_,rfl,_,rfl,_,rfl,L,nm,pr,rvs',rs',ys,ps,cs,rfl,h3,hA3,Ok3,hE3,BH3 nm _ nnm hnm,ysl,BH3 pr _ npr hpr,psl,pin,λz=>hN3 (ebare' z),λkl refs kss H4 hkl h4 hT lk hK hKn s4=>?_⟩
  have S4:=S3.same s4
  have BH4:fu st H H4:=BH3.trans s4.but
  have nkl:kl≠st:=λz=>by obtain⟨_,e⟩:=S3.lst;rw[z,e] at hkl;cases hkl
  show Al K _ [some (.ref st),some (.str wd),some (.ref nm),some (.ref pr),some (.ref cn),some (.int (m:Nat)),some (.int (n:Nat)),some (.ref L),some (.ref kl)] H4
  refine⟨_,rfl,_,rfl,pr,_,rfl,.inl ⟨cz.of (BH4 pr _ npr hpr),λt ht=>?_⟩⟩
  have s5:aS H4 (upd H4 t (.tup (ps.map V.str))):=(aS.refl H4).new ht
  have g5:(upd H4 t (.tup (ps.map V.str))) t=some (.tup (ps.map V.str)):=ag
  generalize upd H4 t (.tup (ps.map V.str))=H5 at s5 g5 ⊢
  have S5:=S4.same s5
  have hT5:cF (xI H5) refs kss:=hT.imp λ_ _ ⟨a,e,h⟩=>⟨a,e,s5 _ _ h⟩
  refine⟨_,rfl,_,rfl,_,rfl,st,L,kl,k2,rvs',refs,rs',kss,ys,cs,rfl,S5,by lia,s5 _ _ (s4 _ _ h3),(hA3.imp λ_ _ z=>(z.mono (.of_same s4)).mono (.of_same s5)),Ok3,yne,cs4,s5 _ _ h4,hT5,lk,λi ks e=>(hK i ks e).1,λi ks r e1 e2=>?_,λa ha=>?_,nL,nkl,λp rvs6 rs6 k6 H6 h6 hA6 len6 hF S6 l6 B6=>?_⟩
  ·rcases(hK i ks e1).2.2 with z|⟨z1,z2⟩
   ·exact .inl z
   ·subst z1
    have:=hN3 (ebare' z2)
    rw[iV,e2] at this
    exact .inr (Option.some.inj this)
  ·obtain⟨i,hi,e⟩:=cD.mp ha
   obtain⟨ks,_,z⟩:=hT5.of_v (i:=i) (v:=a) (by rw[ai hi,e])
   exact C3 S5 z
  refine⟨(by show 3<=sizeLine;decide),λf hf=>?_⟩
  obtain⟨_,e5⟩:=S5.lst
  have t6:Tp H5 H6:=.of_but B6 e5
  have t7:Tp H6 (upd H6 f (.tup [.str wd,.ref t,.ref p])):=(Tp.refl H6).new hf
  have ksAt:∀(i:Nat) r,rs'[i]?=some r->∃ks,kss[i]?=some ks:=λi r e=>⟨_,ai (by rw[lk];exact(aj.mp e).1)⟩
  have al:oV rs' rs6:=⟨len6,λi r r' e1 e2=>by
   obtain⟨ks,ek⟩:=ksAt i r e1
   exact⟨ks,hF i ks r r' ek e1 e2⟩⟩
  have both:∀(i:Nat) r',rs6[i]?=some r'->∃r ks,rs'[i]?=some r/\kss[i]?=some ks/\jR ks r r':=λi r' e=>by
   obtain⟨r,_,e1,_⟩:=al.get e
   obtain⟨ks,ek⟩:=ksAt i r e1
   exact⟨r,ks,e1,ek,hF i ks r r' ek e1 e⟩
  have ok:nQ ys cs ⟨wd,ps,rs6⟩:=by
   refine⟨pnd,pin,λz=>?_,?_,λr' hr'=>?_,?_,al.ring hJ3,kss,?_,⟨hKn.zero,λi m r' ks km e hm ek em y hy=>?_⟩,λi r' ks e ek=>?_⟩
   ·have z':rs6=[]:=z
    rw[z',n3] at len6;simp at len6;lia
   ·show rs6.length<=60
    lia
   ·show EL ys cs rs6.length r'
    obtain⟨i,hi,e⟩:=cD.mp hr'
    obtain⟨r,ks,e1,e2,f⟩:=both i r' (by rw[<-e];exact ai hi)
    rw[len6,n3]
    exact HK (hR3 r (aH e1)) (hK i ks e2).2.1 f
   ·show rs6.getLast?.map gR=some true
    have hl:rs6.length-1<rs6.length:=by lia
    obtain⟨r,ks,e1,e2,f⟩:=both (rs6.length-1) _ (ai hl)
    rw[bT,ai hl,cT,E8 f]
    rw[bT,<-len6,e1,cT] at hE3
    exact hE3
   ·show kss.length=rs6.length
    rw[lk,len6]
   ·obtain⟨r,ks',e1,e2,f⟩:=both i r' e
    rw[AZ f] at hm
    rw[Dr f]
    exact hKn.on i m r ks km e1 hm ek em y hy
   ·obtain⟨r,ks',e1,e2,f⟩:=both i r' e
    rw[ek] at e2;cases e2
    exact A0 f
  refine q _ ⟨wd,ps,rs6⟩ k6 _ ⟨f,t,p,rvs6,rfl,ag,t7 _ _ (t6 _ _ g5),t7 _ _ h6,hA6.imp λ_ _ z=>z.mono t7⟩ rfl rfl ok (by show rs6.length<=m+1;lia) (S6.new hf) (by lia) ?_
  exact((BH4.trans s5.but).trans B6).new hf
inductive xJ(rs:List bz)(un:Option Str):Nat->Prop where
 |zero:xJ rs un 0
 |step {n m:Nat} {r:bz}:xJ rs un n->rs[n]?=some r->(∀y,un=some y->ij r≠.str y)->m∈cL n r->xJ rs un m
structure eS(rs:List bz):Prop where
 pos:0<rs.length
 few:rs.length<64
 inr:∀(n m:Nat) r,rs[n]?=some r->m∈cL n r->m<rs.length
 ring:ui rs
theorem xJ.lt{rs:List bz}{un:Option Str}(g:eS rs){m:Nat}(h:xJ rs un m):m<rs.length:=by
 cases h with
 |zero=>exact g.pos
 |step _ e _ hm=>exact g.inr _ _ _ e hm
theorem y7{rs:List bz}(hg:∀r∈rs,∀t:Nat,jt r=.int (t:Nat)->t<rs.length)(hE:rs.getLast?.map gR=some true):∀(n m:Nat) r,rs[n]?=some r->m∈cL n r->m<rs.length:=by
 intro i m r hr mem
 have hi:i<rs.length:=(aj.mp hr).1
 have nx:gR r=false->i+1<rs.length:=λhe=>by
  by_cases c:i+1<rs.length
  ·exact c
  ·have ei:i=rs.length-1:=by lia
   rw[bT,<-ei,hr,cT,he] at hE
   cases hE
 have hm:=hg r (aH hr)
 cases r with
 |jump to=>rw[ak.mp mem];exact hm to rfl
 |test a to=>
  rcases aU.mp mem with e|e
  ·rw[e];exact nx rfl
  ·rw[ak.mp e];exact hm to rfl
 |give a=>cases mem
 |num x z=>rw[ak.mp mem];exact nx rfl
 |op x s a b=>rw[ak.mp mem];exact nx rfl
 |call x k as=>rw[ak.mp mem];exact nx rfl
 |say a=>rw[ak.mp mem];exact nx rfl
theorem nQ.good{ys:List Str}{cs:List Nat}{b:dj}(h:nQ ys cs b):eS b.rows:=by
 have:=h.few
 refine⟨dn.mpr h.pos,by lia,y7 (λr hr t e=>?_) h.last,h.ring⟩
 have ro:=h.rows r hr
 cases r with
 |jump to=>
  injection e with e
  have:to=t:=by lia
  subst this;exact ro
 |test a to=>
  injection e with e
  have:to=t:=by lia
  subst this;exact ro.2
 |_=>cases e
theorem zG(rs:List bz):∀(j k n:Nat),runJ rs (j+k) n=runJ rs j (runJ rs k n)
 |j,0,n=>rfl
 |j,k+1,n=>by
  show runJ rs (j+k) (stp rs n)=runJ rs j (runJ rs k (stp rs n))
  exact zG rs j k (stp rs n)
theorem Lz{rs:List bz}(g:eS rs){n:Nat}(h:n<rs.length):stp rs n<rs.length:=by
 unfold stp
 rw[ai h]
 cases e:rs[n] with
 |jump t=>exact g.inr n t (.jump t) (by rw[ai h,e]) (ak.mpr rfl)
 |_=>exact h
theorem oR{rs:List bz}(g:eS rs):∀(k:Nat) {n:Nat},n<rs.length->runJ rs k n<rs.length
 |0,_,h=>h
 |k+1,_,h=>oR g k (Lz g h)
theorem jL:∀{n:Nat} {l:List Nat},l.Nodup->(∀x∈l,x<n)->l.length<=n
 |0,l,_,h=>by
  cases l with
  |nil=>exact aC _
  |cons a r=>exact absurd (h a cG) (cB _)
 |n+1,l,nd,h=>by
  by_cases c:n∈l
  ·have h1:=jL (n:=n) (l:=l.erase n) (nd.erase n) λx hx=>by
    have:=(nd.mem_erase_iff).mp hx
    have:=h x this.2
    lia
   rw[List.length_erase_of_mem c] at h1
   lia
  ·have h1:=jL (n:=n) nd λx hx=>by
    have:=h x hx
    have:x≠n:=λz=>c (z ▸ hx)
    lia
   lia
theorem nW:∀{l:List Nat},l.Pairwise (·<=·)->l.Nodup->l.Pairwise (·<·)
 |[],_,_=>.nil
 |a::r,h,nd=>by
  rw[List.pairwise_cons] at h ⊢
  rw[eM] at nd
  refine⟨λx hx=>?_,nW h.2 nd.2⟩
  have:=h.1 x hx
  have:a≠x:=λz=>nd.1 (z ▸ hx)
  lia
theorem D4{ms:List Int}{ns:List Nat}(p:ms.Perm (ns.map λn=>((n:Nat):Int)))(s:ms.Pairwise (·<=·))(nd:ns.Nodup):∃ks:List Nat,ms=ks.map (λn=>((n:Nat):Int))/\(∀x,x∈ks↔x∈ns)/\ks.Pairwise (·<·):=by
 have hm:ms.map (λi=>((i.toNat:Nat):Int))=ms:=by
  have:∀i∈ms,((i.toNat:Nat):Int)=i:=λi hi=>by
   obtain⟨n,_,e⟩:=dJ.mp (p.mem_iff.mp hi)
   lia
  exact(jZ this).trans (List.map_id _)
 have pk:(ms.map fS).Perm ns:=by
  have:=p.map fS
  rw[eT] at this
  have e:ns.map (fS ∘ λn=>((n:Nat):Int))=ns:=by
   have:∀n∈ns,(fS ∘ λn=>((n:Nat):Int)) n=n:=λn _=>by simp
   exact(jZ this).trans (List.map_id _)
  rw[e] at this
  exact this
 refine⟨ms.map fS,?_,λx=>pk.mem_iff,nW ?_ (pk.nodup_iff.mpr nd)⟩
 ·rw[eT];exact hm.symm
 ·rw[List.pairwise_map]
  exact s.imp λ{a b} h=>by lia
end Bg
end
section
namespace L2
open PySem PySem.Spec PyProof.Rows
theorem Fw{α:Type}[DecidableEq α]{l:List α}:∀{zs:List α},l.Nodup->(∀y∈l,y∈zs)->l.length<=zs.length:=by
 induction l with
 |nil=>intro zs _ _;exact dh _
 |cons a r ih=>
  intro zs nd h
  obtain⟨na,nr⟩:=eM.mp nd
  have ha:a∈zs:=h a cG
  have:=ih (zs:=zs.erase a) nr λy hy=>(List.mem_erase_of_ne (λz=>na (by rw[<-z];exact hy))).mpr (h y (cP _ hy))
  rw[List.length_erase_of_mem ha] at this
  have:0<zs.length:=List.length_pos_of_mem ha
  simp only[cA]
  lia
section
variable{X:Cx}
end
section
variable{prog:Program}{w:World}{A:Around}{R:Result->Shared->Prop}{I:Addr}{fp wr:List Addr}{n:Nat}{P:Nat->Value->Prop}{St:Nat->Heap->Prop}
abbrev Dp:List (Str×Value):=[(("default":Str),Value.none)]
theorem tY:(toString "min"++toString ".loop":String)="min.loop":=by decide
theorem DR(W:Walks prog w A.in1 I fp wr n P St)(bt:Nat->Nat->Bool)(cm:CmpOf prog w A.in1 .Lt P bt)(S:Addr)(nS:S∉fp) :
  ∀(k j:Nat) (s:Shared) (vb:Value) (c:Nat),n-(j+1)=k->j+1<=n->St (j+1) s.heap->P (argBest bt j) vb->s.heap.get? S=some {cls:=.type "list",dict:=none,data:=.seq #[vb,vb] c,slots:=#[]}->
  (∀v h' tk,P (argBest bt (n-1)) v->(∀b o,b∉wr->b≠S->s.heap.get? b=some o->h'.get? b=some o)->R (.ok (.ret v)) {s with heap:=h',toks:=tk})->
  codeAny (model prog w) A (.builtin "min.loop" ⟨[.ref I,.none,.ref S],Dp⟩) R s:=by
 have nw:S∉wr:=λz=>nS (W.sub _ z)
 intro k
 induction k with
 |zero=>
  intro j s vb c hk hj st pb gS fin
  have jn:j+1=n:=by lia
  refine codeAny_builtin F.entry_min_loop ?_
  rw[Around.under_plainId F.plain_min_loop _]
  show wpAny _ A.in1 (seqItems? (.ref S) >>= _) _ _ s
  refine wpAny_bind (wpAny_seqItems gS rfl ?_)
  show wpAny _ A.in1 (tryCatch (pyNext (.ref I)) _ >>= _) _ _ s
  refine wpAny_bind (wpAny_tryCatch (W.done s _ _ (jn ▸ st) λh1 tk k1=>?_))
  have gS1:=k1 S _ nw gS
  show wpAny _ A.in1 (updateSeq S (λ_=>#[]) >>= _) _ _ _
  refine wpAny_bind ?_
  refine wpAny_updateSeq gS1 rfl (wpAny_bind (wpAny_letGo (wpAny_pure ?_)))
  exact fin vb _ tk (by rw[<-jn];exact pb) λb o nb ns q=>(bY _ _ (Ne.symm ns)).trans (k1 b o nb q)
 |succ k ih=>
  intro j s vb c hk hj st pb gS fin
  have jn:j+1<n:=by lia
  refine codeAny_builtin F.entry_min_loop ?_
  rw[Around.under_plainId F.plain_min_loop _]
  show wpAny _ A.in1 (seqItems? (.ref S) >>= _) _ _ s
  refine wpAny_bind (wpAny_seqItems gS rfl ?_)
  show wpAny _ A.in1 (tryCatch (pyNext (.ref I)) _ >>= _) _ _ s
  refine wpAny_bind (wpAny_tryCatch (W.item (j+1) s _ _ jn st λv h1 tk pv st1 k1=>?_))
  have gS1:=k1 S _ nw gS
  show wpAny _ A.in1 (tryCatch (holding [v,v] (richCompare .Lt v vb >>= _)) _ >>= _) _ _ _
  refine wpAny_bind (wpAny_tryCatch (wpAny_holding (wpAny_bind (cm (j+1) (argBest bt j) v vb _ _ _ pv pb ?_))))
  refine wpAny_bind (wpAny_holding (wpAny_truthy_bool ?_))
  refine wpAny_bind (wpAny_letGo (wpAny_pure ?_))
  cases hb:bt (j+1) (argBest bt j) with
  |true=>
   simp only[if_true]
   refine wpAny_bind ?_
   refine wpAny_updateSeq gS1 rfl (wpAny_bind (wpAny_letGo ?_))
   rw[tY]
   refine wpAny_pure ⟨plainId_quiet F.plain_min_loop _,ih (j+1) _ v _ (by lia) jn (W.frame _ _ _ st1 λb bf o q=>?_) (by simp only[argBest,hb,if_true];exact pv) (cX _ gS1 rfl)
    λv2 h2 t2 p2 k2=>fin v2 h2 t2 p2 λb o nb ns q=>k2 b o nb ns ((bY _ _ (Ne.symm ns)).trans (k1 b o nb q))⟩
   exact(bY _ _ (λz:S=b=>nS (by rw[z];exact bf))).trans q
  |false=>
   simp only[Bool.false_eq_true,if_false]
   refine wpAny_bind (wpAny_letGo ?_)
   rw[tY]
   exact wpAny_pure ⟨plainId_quiet F.plain_min_loop _,ih (j+1) _ vb c (by lia) jn st1 (by simp only[argBest,hb,Bool.false_eq_true,if_false];exact pb) gS1 λv2 h2 t2 p2 k2=>fin v2 h2 t2 p2 λb o nb ns q=>k2 b o nb ns (k1 b o nb q)⟩
theorem Bi(W:Walks prog w A.in1 I fp wr n P St)(bt:Nat->Nat->Bool)(cm:CmpOf prog w A.in1 .Lt P bt)(S:Addr)(nS:S∉fp){s:Shared}{c:Nat}(st:St 0 s.heap)
  (gS:s.heap.get? S=some {cls:=.type "list",dict:=none,data:=.seq #[] c,slots:=#[]})
  (fin0:n=0->∀h' tk,(∀b o,b∉wr->s.heap.get? b=some o->h'.get? b=some o)->R (.ok (.ret .none)) {s with heap:=h',toks:=tk})
  (fin:0<n->∀v h' tk,P (argBest bt (n-1)) v->(∀b o,b∉wr->b≠S->s.heap.get? b=some o->h'.get? b=some o)->R (.ok (.ret v)) {s with heap:=h',toks:=tk}) :
  codeAny (model prog w) A (.builtin "min.loop" ⟨[.ref I,.none,.ref S],Dp⟩) R s:=by
 have nw:S∉wr:=λz=>nS (W.sub _ z)
 refine codeAny_builtin F.entry_min_loop ?_
 rw[Around.under_plainId F.plain_min_loop _]
 show wpAny _ A.in1 (seqItems? (.ref S) >>= _) _ _ s
 refine wpAny_bind (wpAny_seqItems gS rfl ?_)
 show wpAny _ A.in1 (tryCatch (pyNext (.ref I)) _ >>= _) _ _ s
 by_cases hn:0<n
 ·refine wpAny_bind (wpAny_tryCatch (W.item 0 s _ _ hn st λv h1 tk pv st1 k1=>?_))
  have gS1:=k1 S _ nw gS
  show wpAny _ A.in1 (updateSeq S (λ_=>#[v,v]) >>= _) _ _ _
  refine wpAny_bind ?_
  refine wpAny_updateSeq gS1 rfl ?_
  rw[tY]
  refine wpAny_pure ⟨plainId_quiet F.plain_min_loop _,DR W bt cm S nS _ 0 _ v _ rfl hn (W.frame _ _ _ st1 λb bf o q=>?_) pv (cX _ gS1 rfl) λv2 h2 t2 p2 k2=>
   fin hn v2 h2 t2 p2 λb o nb ns q=>k2 b o nb ns ((bY _ _ (Ne.symm ns)).trans (k1 b o nb q))⟩
  exact(bY _ _ (λz:S=b=>nS (by rw[z];exact bf))).trans q
 ·have n0:n=0:=by lia
  refine wpAny_bind (wpAny_tryCatch (W.done s _ _ (n0 ▸ st) λh1 tk k1=>?_))
  exact wpAny_bind (wpAny_rule (wpAny_pure (fin0 n0 h1 tk k1)))
end
section
variable{prog:Program}{w:World}{A:Around}{E:Value->Shared->Prop}{s:Shared}{l:Addr}{xs:Array (Int×Tok)}
theorem C9(a:Value):argsOk "min" ⟨[a],Dp⟩:=by unfold argsOk;kernel_rfl
theorem H0{id:String}{b:Builtin}{us:List Value}{kw:List (Str×Value)}{Q:Value->Shared->Prop}(hk:builtinKind id=none)(hp:plainId id=true)(hb:entryFor table id=some b)(ha:argsOk id ⟨us,kw⟩)
  (hc:wpAny (model prog w) A.in1 (b ⟨us,kw⟩) (λfin s'=>match fin with
   |.done f=>(match(Except.ok f:Result) with|.ok (.ret v)=>Q v s'|.ok _=>False|.error e=>E e s')
   |.again c'=>c'.quiet=true/\codeAny (model prog w) A c' (λr s'=>match r with|.ok (.ret v)=>Q v s'|.ok _=>False|.error e=>E e s') s') E s):wpAny (model prog w) A (call (.builtin id) us kw) Q E s:=by
 refine wpAny_call (codeAny_call_builtin hp hb ?_)
 simp only[checkBuiltinCall,hk]
 cases sg:Manifest.signature? id with
 |none=>exact wpAny_pure hc
 |some sig=>
  have ok:Bind.checkArgs id sig ⟨us,kw⟩=pure ():=by simpa only[argsOk,sg] using ha
  simp only[ok]
  exact wpAny_pure hc
theorem DQ{Q:Value->Shared->Prop}(hh:A.handled=none)(hl:s.heap.IsList l (intItems xs))
  (h0:xs.size=0->∀h' tk,(∀b o,s.heap.get? b=some o->h'.get? b=some o)->Q .none {s with heap:=h',toks:=tk})
  (h:0<xs.size->∀v h' tk,(intItems xs)[argBest (λi j=>decide (numAt xs i<numAt xs j)) (xs.size-1)]?=some v->(∀b o,s.heap.get? b=some o->h'.get? b=some o)->Q v {s with heap:=h',toks:=tk}) :
  wpAny (model prog w) A (call (.builtin "min") [.ref l] Dp) Q E s:=by
 refine H0 F.kind_min F.plain_min F.entry_min (C9 _) ?_
 show wpAny _ A.in1 (Builtin.Builtins.bindParams "min" ["key","default"] 0 ⟨[],Dp⟩ >>= _) _ _ s
 refine wpAny_bind (wpAny_of_eq (show Builtin.Builtins.bindParams "min" ["key","default"] 0 ⟨[],Dp⟩=pure [none,some .none] by kernel_rfl) ?_)
 refine wpAny_bind (wpAny_pure ?_)
 refine wpAny_bind (iter_intList hl λs2 e st hfp nl=>?_)
 subst e
 refine wpAny_bind (wpAny_newObj_type ?_)
 rw[tY]
 have W:=Walks.list (prog:=prog) (w:=w) (A:=A.in1) hh s.heap.objs.size l nl (intItems xs)
 have zz:(intItems xs).size=xs.size:=by simp[intItems]
 have kk:∀{h':Heap},(∀b o,b∉[s.heap.objs.size]->b≠(s.heap.push {cls:=.type "list_iterator",data:=.fields #[.ref l,.int 0 0]}).objs.size->(((s.heap.push {cls:=.type "list_iterator",data:=.fields #[.ref l,.int 0 0]}).push {cls:=.type "list",data:=.seq #[]}).get? b=some o->h'.get? b=some o))->∀b o,s.heap.get? b=some o->h'.get? b=some o:=λ{h'} k b o q=>by
  have lt:=aJ q
  refine k b o (λz=>?_) (λz=>?_) (az _ (az _ q))
  ·have:=ak.mp z;lia
  ·rw[dz] at z;lia
 refine wpAny_pure ⟨plainId_quiet F.plain_min_loop _,Bi W _ (CmpOf.ints_lt (numAt xs) λ_ _=>intItems_at) _ (λz=>cI _ (hfp _ z)) (W.frame _ _ _ st λb _ o q=>az _ q) (aW _ rfl) (λn0 h' tk k=>?_) λn1 v h' tk p k=>?_⟩
 ·exact h0 (by rw[<-zz];exact n0) h' tk (kk λb o nb _ q=>k b o nb q)
 ·exact h (by rw[<-zz];exact n1) v h' tk (by simpa[zz] using p) (kk λb o nb ns q=>k b o nb ns q)
end
section
variable{X:Cx}
theorem FB{pins:List (Addr×Obj)}{s:Shared}{σ:St}{H:Hp}{a:Addr}{ss:List Str}{m:Nat}{Q:VK}(I:bP X pins σ H s)
  (T:BgSet.SetTb (jC X.prog X.w) s.heap a (λk=>decide (k∈ss)) m (!BgSet.byText X.w) true)
  (q:∀ss':List Str,ss'.Nodup->(∀x,x∈ss'↔x∈ss)->Q (.int (ss'.length:Nat)) H) :
  wpAny (model X.prog X.w) X.A (call (.builtin "len") [.ref a]) (EP X pins σ Q) X.xe s:=by
 obtain⟨o,es,ep,t,ho,hex,hdt,hel,hmem,hb,hf,hn,htb,hoff,hap⟩:=T
 have hz:es.size<=sizeLine:=fits_of_scanBound hb
 have hall:∀e∈es.toList,∃x t,e.2=.str x t:=λe he=>by
  obtain⟨⟨k,hk,_⟩,_⟩:=hel e he
  obtain⟨t,ht⟩:=Value.isStrOf_shape hk
  exact⟨k,t,ht⟩
 have hmm:∀x,x∈es.toList.map (λe=>strOf e.2)↔x∈ss:=λx=>by
  rw[dJ]
  have:=hmem x
  rw[decide_eq_true_eq] at this
  rw[this]
  constructor
  ·rintro⟨e,he,rfl⟩
   obtain⟨y,t,hy⟩:=hall e he
   refine⟨e,he,?_⟩
   show Value.isStrOf (strOf e.2) e.2=true
   rw[hy];simp[strOf,Value.isStrOf]
  ·rintro⟨e,he,hk⟩
   obtain⟨t,ht⟩:=Value.isStrOf_shape hk
   exact⟨e,he,by show strOf e.2=x;rw[ht];rfl⟩
 have hnd:(es.toList.map (λe=>strOf e.2)).Nodup:=by
  unfold List.Nodup
  rw[List.pairwise_map]
  refine List.Pairwise.imp_of_mem (λ{e e'} he he' r heq=>?_) hap
  obtain⟨y,t,hy⟩:=hall e he
  obtain⟨y',t',hy'⟩:=hall e' he'
  have e1:y=y':=by have:strOf e.2=strOf e'.2:=heq;rw[hy,hy'] at this;exact this
  have h1:Value.isStrOf y e.2=true:=by rw[hy];simp[Value.isStrOf]
  have h2:Value.isStrOf y e'.2=false:=r y h1
  rw[hy',e1] at h2;simp[Value.isStrOf] at h2
 have q1:=q _ hnd hmm
 rw[ao,bX] at q1
 have hl:=rD
 have hs:sizeLine=16777216:=sizeLine_eq
 exact call_len_set ho hex hdt hf (by lia) ⟨.int (es.size:Nat),H,I.tok _,⟨_,rfl⟩,q1⟩
def t9(K:Fg)(t:TA):TE:=λσ H Q=>t σ H λvs H1=>∃(p:Addr) (tp:Bool) (ss:List Str),vs=[.ref p]/\Nd K tp H1 p (ss.map V.str)/\ss.length<=4000/\
 ∀ss':List Str,ss'.Nodup->(∀x,x∈ss'↔x∈ss)->Q (.int (ss'.length:Nat)) H1
theorem D3{a:Expr}{ta:TA}{p1 p2 pos pos2:Pos}(hg:Gl X "len")(hg2:Gl X "set")(hm:X.mg "len"=none)(hm2:X.mg "set"=none)(hc:X.calm=true)(ha:PA X [a] ta)
  (hs2:starEach [a] X.env=[(false,eval a X.env)]:=by rfl) (hs:starEach [.Call (.Name "set" p2) [a] [] pos2] X.env=[(false,eval (.Call (.Name "set" p2) [a] [] pos2) X.env)]:=by rfl) :
  PE X (.Call (.Name "len" p1) [.Call (.Name "set" p2) [a] [] pos2] [] pos) (t9 X.K ta):=by
 intro pins s σ H Q I h
 refine wpAny_Call_Name_kw (kS I hg hm boot_len ?_)
 refine PyProof.Rows.callWith_builtin1 ?_ hs rfl
 rw[hs]
 show wpAny _ _ (spliced ((false,eval (.Call (.Name "set" p2) [a] [] pos2) X.env)::backTo pos [])) _ _ s
 refine Calls.spliced_cons ?_
 refine wpAny_Call_Name_kw (kS I hg2 hm2 (show bootBuiltins "set"=some (.type "set") by kernel_rfl) ?_)
 refine cK (gg (ha pos2 pins s σ H _ I h) λus s1 ⟨vs,H1,I1,r1,q1⟩=>?_) hs2 rfl
 obtain⟨l,tp,ss,rfl,hq,hlen,q⟩:=q1
 obtain⟨u,rfl,rx⟩:=oC r1
 cases rx
 obtain⟨its,rv,at_⟩:=I1.seqB hq
 have rl:=rv.length
 rw[ao] at rl
 have hS:=u4 rv
 have hv:∀(i:Nat) k v,ss[i]?=some k->its.toArray[i]?=some v->(jC X.prog X.w).is k v=true/\v.scannable=true/\(true=true->plainKind v=false):=λi k v h1 h2=>by
  rw[List.getElem?_toArray] at h2
  have:=hS.strs
  rw[<-this,aX,h2] at h1
  obtain⟨x,t,rfl⟩:=hS.all v (aH h2)
  have e:x=k:=by simpa[strOf] using h1
  subst e
  exact⟨by show Value.isStrOf x (.str x t)=true;simp[Value.isStrOf],rfl,λ_=>rfl⟩
 have hb:its.toArray.size+1<scanBound:=by rw[ax,<-rl];unfold scanBound;lia
 have go:∀(h':Heap) (tk m:Nat),m<=its.toArray.size->BgSet.SetTb (jC X.prog X.w) h' s1.heap.objs.size (λk=>decide (k∈ss)) m (!BgSet.byText X.w) true->
   (∀b o,b<s1.heap.objs.size->s1.heap.get? b=some o->h'.get? b=some o)->
   wpAny (model X.prog X.w) X.A (spliced (backTo pos [])) (λvs s'=>wpAny (model X.prog X.w) X.A (call (.builtin "len") (.ref s1.heap.objs.size::vs)) (EP X pins σ Q) X.xe s') X.xe {s1 with heap:=h',toks:=tk}:=λh' tk m hm T kp=>by
  have I2:bP X pins σ H1 {s1 with heap:=h',toks:=tk}:=I1.kept λb u e=>kp b u (aJ e) e
  exact Calls.spliced_nil (FB I2 T q)
 cases tp with
 |true=>exact BgSet.set_of_tuple (kd:=jC X.prog X.w) ss true (I1.ok.hd hc) at_ (by rw[ax];exact rl) hv hb go
 |false=>exact BgSet.set_of_list (kd:=jC X.prog X.w) ss true (I1.ok.hd hc) at_ (by rw[ax];exact rl) hv hb go
theorem wG{a:Expr}{ta:TA}{p1 p2 pos pos2:Pos}(hg:Gl X "len")(hg2:Gl X "set")(hm:X.mg "len"=none)(hm2:X.mg "set"=none)(hc:X.calm=true)(ha:QA X [a] ta)
  (hs2:starEach [a] X.env=[(false,eval a X.env)]:=by rfl) (hs:starEach [.Call (.Name "set" p2) [a] [] pos2] X.env=[(false,eval (.Call (.Name "set" p2) [a] [] pos2) X.env)]:=by rfl) :
  QE X (.Call (.Name "len" p1) [.Call (.Name "set" p2) [a] [] pos2] [] pos) (t9 X.K ta):=⟨D3 hg hg2 hm hm2 hc ha.up hs2 hs⟩
theorem wu:∀{ns:List Int} {us:List Value},cO (ns.map V.int) us->IntsAre us ns
 |[],_,.nil=>.nil
 |n::r,_,.cons (b:=u) h t=>by
  obtain⟨k,rfl⟩:=h
  exact .cons _ _ (wu t)
def GH(K:Fg)(t:TA):TE:=λσ H Q=>t σ H λvs H1=>∃(p:Addr) (ns:List Int),vs=[.ref p]/\cz K H1 p (ns.map V.int)/\(ns=[]->Q .non H1)/\∀z,z∈ns->(∀y∈ns,z<=y)->Q (.int z) H1
theorem ID{a:Expr}{ta:TA}{p1 pos kp kp2:Pos}{j:Nat}(hg:Gl X "min")(hc:X.calm=true)(hm:X.mg "min"=none)(ha:PA X [a] ta)(hs:starEach [a] X.env=[(false,eval a X.env)]:=by rfl) :
  PE X (.Call (.Name "min" p1) [a] [⟨some "default",.Constant .none j kp,kp2⟩] pos) (GH X.K ta):=by
 intro pins s σ H Q I h
 refine wpAny_Call_Name_kw (kS I hg hm boot_min ?_)
 refine PyProof.Rows.callWith_kw ?_ (by rw[hs];rfl) (by rw[hs];rfl) rfl rfl
 refine gg (ha pos pins s σ H _ I h) λus s1 ⟨vs,H1,I1,r1,l,ns,ev,hq,q0,q⟩=>?_
 subst ev
 obtain⟨u,rfl,rx⟩:=oC r1
 cases rx
 refine gg ((IL (nm:=some "default") (kpos:=kp2) (FV (X:=X) (j:=j) (pos:=kp)) K9) pos pins s1 σ H1 (λvs H2=>vs=[.non]/\H2=H1) I1 ⟨rfl,rfl⟩) λks s2 ⟨zs,H2,I2,r2,e1,e2⟩=>?_
 subst e1 e2
 obtain⟨k1,rfl,rk⟩:=oC r2
 obtain rfl:k1=Value.none:=rk
 obtain⟨its,rv,pl,hz⟩:=I2.list hq
 have hI:IntsAre its ns:=wu rv
 obtain⟨xs,e⟩:=hI.allInts.items
 have hns:ns=xs.toList.map (·.1):=by rw[<-hI.numsOf,<-nums_intItems,<-e]
 have hl:s2.heap.IsList l (intItems xs):=by rw[<-e];exact pl.isList
 refine DQ (I2.ok.hd hc) hl (λx0 h' tk k=>?_) λx1 v h' tk hv k=>?_
 ·refine⟨.non,H2,I2.kept k,rfl,q0 ?_⟩
  rw[hns];simp[Array.eq_empty_of_size_eq_zero x0]
 ·obtain⟨t,rfl⟩:=intItems_at hv
  obtain⟨h1,h2⟩:=argBest_lt (numAt xs) (xs.size-1)
  refine⟨.int _,H2,I2.kept k,⟨t,rfl⟩,q _ ?_ λy hy=>?_⟩
  ·rw[hns,numAt_eq];exact getD_mem (by rw[ao,bX];lia)
  ·rw[hns] at hy
   obtain⟨i,hi,rfl⟩:=mem_getD hy
   rw[ao,bX] at hi
   rw[<-numAt_eq];exact h2 i (by lia)
theorem Ja{a:Expr}{ta:TA}{p1 pos kp kp2:Pos}{j:Nat}(hg:Gl X "min")(hc:X.calm=true)(hm:X.mg "min"=none)(ha:QA X [a] ta)(hs:starEach [a] X.env=[(false,eval a X.env)]:=by rfl) :
  QE X (.Call (.Name "min" p1) [a] [⟨some "default",.Constant .none j kp,kp2⟩] pos) (GH X.K ta):=⟨ID hg hc hm ha.up hs⟩
end
def Cz(K:Fg):List V->Hp->VK->Prop:=λxs H Q=>∃x C dx v,xs=[.ref x,v]/\(H x=some (XF x C (some dx))\/H x=some (XL x C (some dx)))/\(∃fs,H dx=some (XD dx fs))/\ur K C/\Hr K C/\
 ((v=.ty "ValueError"/\Q (.bl true) H)\/((∃D b,v=.ref D/\vB K C D b/\Q (.bl b) H)\/∃tp D1 D2 b1 b2,v=.ref tp/\H tp=some (.tup [.ref D1,.ref D2])/\vB K C D1 b1/\vB K C D2 b2/\Q (.bl (b1 || b2)) H))
section
variable{prog:Program}{w:World}{A:Around}{E:Value->Shared->Prop}{s:Shared}
theorem rR{x:Addr}{c:Value}{b:Bool}{P:Shared->Prop}{Q:Value->Shared->Prop}(hn:∀{prog:Program} {w:World} {A:Around} {E:Value->Shared->Prop} {Q:PySem.Fin->Shared->Prop} {s:Shared},P s->(∀t,Q (.done (.ret (.bool b))) {s with toks:=t})->wpAny (model prog w) A (Builtin.«isinstance.nested» ⟨[.ref x,c,rawInt 0],[]⟩) Q E s)
  (p:P s) (h:∀t,Q (.bool b) {s with toks:=t}):wpAny (model prog w) A (call (.builtin "isinstance") [.ref x,c]) Q E s:=
 call_isinstance (S:=λ_ R s=>P s/\∀t,R (.ok (.ret (.bool b))) {s with toks:=t}) (λ_ _ _ _ _ hs=>isinstance_outer (hn hs.1 hs.2) (by intro q;cases q)) ⟨p,h⟩
end
section
variable{X:Cx}
theorem rj:jh X (.builtin "isinstance") (Cz X.K):=by
 intro pins s σ H xs us Q I r h
 obtain⟨x,C,dx,v,rfl,ea,⟨fs,ed⟩,c,wy,q⟩:=h
 obtain⟨z,mA,ns,_,_⟩:=XD.get I.hok ed
 obtain⟨od,ho,hlk⟩:=rE ns
 have J:∃ox,PySem.W.InstAt s.heap x ox C (some od):=by
  rcases ea with ea|ea
  ·obtain⟨a,hx⟩:=XF.get I.hok ea;exact⟨_,hx,rfl,rfl,ho⟩
  ·obtain⟨vs,sl,hx⟩:=XL.get I.hok ea;exact⟨_,hx,rfl,rfl,ho⟩
 obtain⟨ox,J⟩:=J
 obtain⟨u1,u2,rfl,r1,r2⟩:=sW r
 obtain rfl:u1=Value.ref x:=r1
 rcases q with⟨rfl,q⟩|⟨D,b,rfl,i,q⟩|⟨tp,D1,D2,b1,b2,rfl,ht,i1,i2,q⟩
 ·obtain rfl:u2=Value.type "ValueError":=r2
  exact rR (P:=λs=>X.K.In s.heap/\PySem.W.InstAt s.heap x ox C (some od)) (λp k=>JE p.1 p.2 c k) ⟨I.kIn,J⟩ λt=>⟨.bl true,H,I.tok t,rfl,q⟩
 ·obtain rfl:u2=Value.ref D:=r2
  exact rR (P:=λs=>X.K.In s.heap/\PySem.W.InstAt s.heap x ox C (some od)) (λp k=>Aw p.1 p.2 c wy i k) ⟨I.kIn,J⟩ λt=>⟨.bl b,H,I.tok t,rfl,q⟩
 ·obtain rfl:u2=Value.ref tp:=r2
  obtain⟨_,its,rv,ot,e1,e2,n,e3⟩:=(show eB X.prog X.w H s.heap tp (.tup [.ref D1,.ref D2]) from I.hok tp _ ht)
  obtain⟨w1,w2,rfl,rw1,rw2⟩:=sW rv
  obtain rfl:w1=Value.ref D1:=rw1
  obtain rfl:w2=Value.ref D2:=rw2
  have ne:C≠tp:=λz=>by
   obtain⟨nm,q',N,B,bs,sn,sub,ab,col,dd,k0,k1,k2,k3,k5,lk⟩:=c.ex
   have:=I.kIn _ _ lk
   rw[z,e1] at this
   have z2:ot.cls=Value.type "type":=by rw[Option.some.inj this]
   rw[e2.1] at z2
   injection z2 with z2
   exact absurd z2 (by decide)
  exact rR (P:=λs=>(X.K.In s.heap/\PySem.W.InstAt s.heap x ox C (some od))/\s.heap.get? tp=some ot) (λp k=>Ha p.1.1 p.1.2 c wy i1 i2 ne p.2 e2.1 e3 k) ⟨⟨I.kIn,J⟩,e1⟩ λt=>⟨.bl (b1 || b2),H,I.tok t,rfl,q⟩
theorem KO{cn:Str}{p:Pos}{C:Addr}(hg:Gl X cn)(hm:X.mg cn=some (.ref C))(hdb:(cn==("__debug__":Str))=false:=by decide):PE X (.Name cn p) (tC (.ref C)):=by
 intro pins s σ H Q I h
 exact tX I hg hm ⟨.ref C,H,I,rfl,h⟩ hdb
end
theorem sX:bootBuiltins "ValueError"=some (.type "ValueError"):=by kernel_rfl
structure j8(P:Program)(w:World)(K:Fg)(mg:Str->Option Value)(base:Heap)(x:Str)(ps:List Str)(k:Nat)(sp:Sp):Prop where
 ex:∃(f:Addr) (fd:FuncData),mg x=some (.ref f)/\aI K (.ref f)=true/\nN K fd ps []/\d5 P w K mg base (Az P w) k f fd ps sp
structure B9(P:Program)(w:World)(K:Fg)(mg:Str->Option Value)(base:Heap)(x:Str)(C:Addr)(ps:List Str)(k:Nat)(sp:Sp):Prop where
 ex:∃(f:Addr) (fd:FuncData),mg x=some (.ref C)/\MQ K C f/\nN K fd ps []/\d5 P w K mg base fH k f fd ps sp
section
variable{X:Cx}{k:Nat}{C:Addr}{ps:List Str}{sp:Sp}{x:Str}{p pos:Pos}{e o value:Expr}{es:List Expr}{ta tv te:TE}{t:TA}{E:XK}
theorem rK(c:j8 X.prog X.w X.K X.mg X.base x ps k sp)(hr:df k X.A)(hg:Gl X x)(hx:nR (Az X.prog X.w) X E)(ha:QA X (e::es) t)
  (hdb:(x==("__debug__":Str))=false:=by decide) (he:starEach (e::es) X.env=(false,eval e X.env)::starEach es X.env:=by rfl) (hpl:(backTo pos (starEach es X.env)).any (·.1)=false:=by rfl) :
  QE X (.Call (.Name x p) (e::es) [] pos) (bE sp [] E t):=by
 obtain⟨f,fd,hm,hk,hb,F⟩:=c.ex
 exact⟨Cw F hr hg hm hk hb .nil hx ha.up hdb he hpl⟩
theorem Gf(M:B9 X.prog X.w X.K X.mg X.base x C ps k sp)(hr:df (k+1) X.A)(hg:Gl X x)(hz:ps.length<=1000)(ha:QA X (e::es) t)
  (hdb:(x==("__debug__":Str))=false:=by decide) (he:starEach (e::es) X.env=(false,eval e X.env)::starEach es X.env:=by rfl) (hpl:(backTo pos (starEach es X.env)).any (·.1)=false:=by rfl) :
  QE X (.Call (.Name x p) (e::es) [] pos) (BE C sp t):=by
 obtain⟨f,fd,hm,mk,hb,F⟩:=M.ex
 exact⟨FU mk F hr hg hm hb hz ha.up hdb he hpl⟩
theorem Bw{cn:Str}{p:Pos}{C:Addr}(hg:Gl X cn)(hm:X.mg cn=some (.ref C))(hdb:(cn==("__debug__":Str))=false:=by decide):QE X (.Name cn p) (tC (.ref C)):=⟨KO hg hm hdb⟩
theorem yo{fl:Str}{pos':Pos}(ha:QE X o ta)(hv:QE X value tv)(hs:swapsWith value (some (.Attribute o fl pos')) pos.line X.env=pure false):QS X (.Assign [.Attribute o fl pos'] value pos) (zH X.K ta tv fl):=⟨IT ha.up hv.up hs⟩
theorem yn{fl:Str}(he:QE X e ta)(hb:attributeBase e fl X.env (eval e X.env)=eval e X.env):QE X (.Attribute e fl pos) (zS X.K ta fl):=⟨IC he.up hb⟩
theorem Gi(hl:AE X E)(hh:X.A.handled=none)(he:QE X e te):QS X (.Raise (some e) none pos) (BG X.K E te):=⟨Gb hl hh he.up⟩
theorem Gj{body suite:List Stmt}{b0:Stmt}{cn n:Str}{np hpos pos:Pos}{C0:Addr}{i:Nat}{tb:XK->TS}{th:TS}(hc:X.calm=true)(hst:X.stack=X.env::X.outer)(hfm:X.env.frame=some X.env.locals)(hg:Gl X cn)(hm:X.mg cn=some (.ref C0))
  (hN:X.N.Nodup) (hi:X.N[i]?=some n) (hk:X.env.kindOf n=some .local) (hb:∀pl E' Ein,nR (Az X.prog X.w) (X.tryIn pl E') Ein->j6 (X.tryIn pl E') body (tb Ein)) (hs:∀x,j6 (X.inSuite x) (b0::suite) th)
  (hdb:(cn==("__debug__":Str))=false:=by decide):QS X (.Try body [.ExceptHandler (some (.Name cn np)) (some n) (b0::suite) hpos] [] [] pos) (Jy X.K C0 X.N.length i tb th):=
 ⟨Le hc hst hfm hg hm hN hi hk (λpl E' Ein h=>(hb pl E' Ein h).up) (λx=>(hs x).up) hdb⟩
end
section
variable{P:Program}{w:World}{K:Fg}{mg:Str->Option Value}{base:Heap}{N:List Str}{qual:Str}{scope:Scope}{f:Addr}{cd:Value}{A:Around}{outer:List Env}{s:Shared}{H:Hp}{E:XK}
theorem yb:AE (eE (Az P w) P w K mg base N qual scope f cd A outer s H E) E:=λ_ _ _ _ _ _ _ I hx n q=>A9 I hx n q
theorem Co{x qual:Str}{st:Stmt}{f:Addr}{fd:FuncData}{N ps:List Str}{k:Nat}{sp:Sp}(F:lg K x qual st f fd)(S:bU N ps (au st))(len:∀vs H Q E,sp vs H Q E->vs.length=ps.length)
  (hbody:∀(cdv:Value) (A:Around) (outer:List Env) (s:Shared) (H:Hp) (vs:List V) (Q:VK) (E:XK),df k (A.deeper (envOfC qual (au st) s.heap.objs.size f cdv))->sp vs H Q E->
   ∃t,jg (eE (Az P w) P w K mg base N qual (au st) f cdv A outer s H E) (aO st) t/\t {nx:=λ_ H'=>Q .non H',rt:=Q} (cU N vs) H):d5 P w K mg base (Az P w) (k+1) f fd ps sp:=by
 obtain⟨oc,od,kV,doc,pm,an,cdv,ct,osl,rfl,lk,hcd⟩:=F.ex
 exact Fc lk hcd S len λA outer s H vs Q E hr hsp=>hbody cdv A outer s H vs Q E hr hsp
end
end L2
end
section
namespace Bg
open PySem L2
def J2:Option Str->V
 |none=>.non
 |some y=>.str y
def gX(_:Fg):Sp:=λvs H Q _=>∃(rt:Addr) (un:Option Str) (rvs:List V) (rs:List bz),vs=[.ref rt,J2 un]/\H rt=some (.tup rvs)/\cF (cx H) rvs rs/\eS rs/\
 ∀(l:Addr) (ns:List Nat) (H':Hp),(∀m,m∈ns↔xJ rs un m)->ns.Pairwise (·<·)->H' l=some (.lst (bG ns))->H l=none->aS H H'->Q (.ref l) H'
abbrev A6:Nat:=2
abbrev mJ:Nat:=3
def Cb(b:dj)(n:Nat):Prop:=∃r y,b.rows[n]?=some r/\y∈dw r/\y∉b.params/\xJ b.rows (some y) n
structure mS(cs:List Nat)(b:dj):Prop where
 pnd:b.params.Nodup
 p9:b.params.length<=100
 good:eS b.rows
 gl:∀r∈b.rows,∀t:Nat,jt r=.int (t:Nat)->t<b.rows.length
 calls:∀x k as,bz.call x k as∈b.rows->cs[k]?=some as.length
 last:b.rows.getLast?.map gR=some true
 rd:∀r∈b.rows,(dw r).length<=100
structure jr(bs:List dj):Prop where
 few:bs.length<=100
 nnd:(bs.map (·.name)).Nodup
 part:∀b∈bs,mS (bs.map (·.params.length)) b
def yH(bs:List dj):Prop:=∀(k:Nat) b,bs[k]?=some b->∀m,¬Cb b m
structure rS(bs:List dj)(k n:Nat):Prop where
 at_:∃b,bs[k]?=some b/\Cb b n/\∀m,m<n->¬Cb b m
 ahead:∀(j:Nat) b,j<k->bs[j]?=some b->∀m,¬Cb b m
def Hq(bs:List dj)(i j:Int)(w:Str):Prop:=(yH bs/\i=-1/\j=0/\w="")\/∃k n:Nat,rS bs k n/\i=(k:Int)/\j=(n:Int)/\w="unset"
theorem rS.clean{bs:List dj}{k n:Nat}(f:rS bs k n):¬yH bs:=λc=>by
 obtain⟨b,e,u,_⟩:=f.at_
 exact c k b e n u
theorem rS.one{bs:List dj}{k n k' n':Nat}(f:rS bs k n)(g:rS bs k' n'):k=k'/\n=n':=by
 obtain⟨b,e,u,mn⟩:=f.at_
 obtain⟨b',e',u',mn'⟩:=g.at_
 have ek:k=k':=by
  rcases ll k k' with lt|eq|lt
  ·exact absurd u (g.ahead k b lt e n)
  ·exact eq
  ·exact absurd u' (f.ahead k' b' lt e' n')
 subst ek
 rw[e] at e';cases e'
 refine⟨rfl,?_⟩
 rcases ll n n' with lt|eq|lt
 ·exact absurd u (mn' n lt)
 ·exact eq
 ·exact absurd u' (mn n' lt)
theorem Hq.one{bs:List dj}{i j i' j':Int}{w w':Str}(a:Hq bs i j w)(b:Hq bs i' j' w'):i=i'/\j=j'/\w=w':=by
 rcases a with⟨c,rfl,rfl,rfl⟩|⟨k,n,f,rfl,rfl,rfl⟩<;>rcases b with⟨c',rfl,rfl,rfl⟩|⟨k',n',f',rfl,rfl,rfl⟩
 ·exact⟨rfl,rfl,rfl⟩
 ·exact absurd c f'.clean
 ·exact absurd c' f.clean
 ·obtain⟨e1,e2⟩:=f.one f'
  subst e1;subst e2;exact⟨rfl,rfl,rfl⟩
theorem nQ.clean{ys:List Str}{cs:List Nat}{b:dj}(h:nQ ys cs b)(n:Nat):¬Cb b n:=by
 rintro⟨r,y,er,yr,yp,wy⟩
 obtain⟨kss,hl,kn,rd⟩:=h.known
 have g:=h.good
 have go:∀{m:Nat},xJ b.rows (some y) m->∀ks,kss[m]?=some ks->y∉ks:=λ{m} wm=>by
  induction wm with
  |zero=>exact λks e z=>yp (kn.zero ks e y z)
  |step w1 e1 s1 m1 ih=>
   rename_i n0 m0 r0
   intro ks e z
   have lt:=w1.lt g
   have e0:kss[n0]?=some kss[n0]:=ai (by rw[hl];exact lt)
   rcases kn.on n0 m0 r0 _ ks e1 m1 e0 e y z with q|q
   ·exact ih _ e0 q
   ·exact s1 y rfl q
 have lt:=wy.lt g
 have e0:kss[n]?=some kss[n]:=ai (by rw[hl];exact lt)
 exact go wy _ e0 (rd n r _ er e0 y yr)
theorem pF.sh{ys:List Str}{cs:List Nat}{bs:List dj}(h:pF ys cs bs):jr bs:=by
 refine⟨by have:=h.few;lia,h.nnd,λb hb=>?_⟩
 have p:=h.part b hb
 have pl:b.params.length<=4:=h.c4 _ (by rw[<-h.cnt];exact dJ.mpr ⟨b,hb,rfl⟩)
 refine⟨p.pnd,by lia,p.good,λr hr t e=>?_,λx k as hm=>?_,p.last,λr hr=>?_⟩
 ·have ro:=p.rows r hr
  cases r with
  |jump to=>
   have:to=t:=by injection e with e;lia
   subst this;exact ro
  |test a to=>
   have:to=t:=by injection e with e;lia
   subst this;exact ro.2
  |_=>cases e
 ·rw[h.cnt];exact(p.rows _ hm).2.1
 ·have ro:=p.rows r hr
  cases r with
  |call x k as=>
   have:as.length<=4:=h.c4 _ (aH ro.2.1)
   show as.length<=100
   lia
  |op x s a b=>show 2<=100;decide
  |num x z=>show 0<=100;decide
  |say a=>show 1<=100;decide
  |jump t=>show 0<=100;decide
  |test a t=>show 1<=100;decide
  |give a=>show 1<=100;decide
theorem pF.clean{ys:List Str}{cs:List Nat}{bs:List dj}(h:pF ys cs bs):yH bs:=λk b e m=>(h.part b (aH e)).clean m
structure xH(K:Fg):Prop where
 clN:ur K (cS K "NoProgram")
 nNp:mM K (cS K "NoProgram") "part"
 nNr:mM K (cS K "NoProgram") "row"
 nNw:mM K (cS K "NoProgram") "word"
 wyN:Hr K (cS K "NoProgram")
 mNN:EO K (cS K "NoProgram") (cS K "NoProgram")
 mNB:EO K (cS K "NoProgram") (cS K "BeltError")
 iNN:vB K (cS K "NoProgram") (cS K "NoProgram") true
 iNL:vB K (cS K "NoProgram") (cS K "NoLine") false
 iNS:vB K (cS K "NoProgram") (cS K "Short") false
def v8(k n:Int)(w:Str):List (Str×V):=[("part",.int k),("row",.int n),("word",.str w)]
def dR(K:Fg):Sp:=λvs H Q _=>∃(x:Addr) (a b c:V),vs=[.ref x,a,b,c]/\H x=some (XF x (cS K "NoProgram") none)/\
 ∀(dx:Addr) (H':Hp),H dx=none->dx≠x->H' x=some (XF x (cS K "NoProgram") (some dx))->H' dx=some (XD dx [("part",a),("row",b),("word",c)])->fu x H H'->Q .non H'
def eZ(K:Fg):Sp:=λvs H Q E=>∃(k:Int) (r:V) (wd:Str),vs=[.int k,r,.str wd]/\((r=.non/\Q .non H)\/
 ∃n:Int,r=.int n/\∀(dx:Addr) (H':Hp),aS H H'->H' dx=some (XD dx (v8 k n wd))->E (.ref (cS K "NoProgram")) (some dx) H')
def fk(H:Hp)(p:Addr)(bs:List dj):Prop:=∃pvs,H p=some (.tup pvs)/\cF (lN H) pvs bs
def fj(_:Fg):Sp:=λvs H Q _=>∃(v:V) (b:dj) (cs:List Nat),vs=[v]/\lN H v b/\mS cs b/\((∀n,¬Cb b n)->∀(H':Hp),aS H H'->Q .non H')/\
 ∀n:Nat,Cb b n->(∀m,m<n->¬Cb b m)->∀(H':Hp),aS H H'->Q (.int (n:Nat)) H'
def eR(_:Fg):Sp:=λvs H Q _=>∃(rt:Addr) (rvs:List V) (rs:List bz),vs=[.ref rt]/\H rt=some (.tup rvs)/\cF (cx H) rvs rs/\rs.length<64/\(∀r∈rs,(dw r).length<=100)/\
 ∀(l:Addr) (ss:List Str) (H':Hp),(∀y,y∈ss↔∃r∈rs,y∈dw r)->ss.length<=7000->H l=none->H' l=some (.lst (ss.map V.str))->aS H H'->Q (.ref l) H'
abbrev rA:Nat:=0
abbrev g8:Nat:=1
abbrev A5:Nat:=2
abbrev mI:Nat:=3
abbrev uI:Nat:=1
abbrev i4:Nat:=2
abbrev vE:Nat:=3
abbrev jD:Nat:=4
def kB(_:Fg):Sp:=λvs H Q _=>∃(rt:Addr) (n:Nat) (rvs:List V) (v:V) (r:bz),vs=[.ref rt,.int (n:Nat)]/\H rt=some (.tup rvs)/\rvs[n]?=some v/\cx H v r/\∀l,H l=none->Q (.ref l) (upd H l (.lst (bG (cL n r))))
abbrev Km:Nat:=0
abbrev xt:Nat:=1
def ng(_:Fg):Sp:=λvs H Q _=>∃(v:V) (r:bz),vs=[v]/\cx H v r/\∀(l:Addr) (H':Hp),H' l=some (.lst ((dw r).map V.str))->H l=none->aS H H'->Q (.ref l) H'
abbrev Ko:Nat:=0
abbrev xw:Nat:=1
def iQ(_:Fg):Sp:=λvs H Q _=>∃(pt rt:Addr) (y:Str) (ps:List Str) (rvs:List V) (rs:List bz),vs=[.ref pt,.ref rt,.str y]/\H pt=some (.tup (ps.map V.str))/\ps.length<=100/\H rt=some (.tup rvs)/\cF (cx H) rvs rs/\eS rs/\
 ∀(l:Addr) (bl:List Bool) (H':Hp),bl.length=rs.length->(∀(m:Nat) b,bl[m]?=some b->(b=true↔y∉ps/\xJ rs (some y) m))->H l=none->H' l=some (.lst (bl.map V.bl))->aS H H'->Q (.ref l) H'
abbrev DF:Nat:=1
abbrev oK:Nat:=2
def kX(_:Fg):Sp:=λvs H Q _=>∃(pt rt:Addr) (rvs:List V) (b:dj) (cs:List Nat),vs=[.ref pt,.ref rt]/\H pt=some (.tup (b.params.map V.str))/\H rt=some (.tup rvs)/\cF (cx H) rvs b.rows/\mS cs b/\
 ∀(l:Addr) (ns:List Nat) (H':Hp),(∀m,m∈ns↔Cb b m)->ns.Pairwise (·<=·)->ns.length<=7000->H l=none->H' l=some (.lst (bG ns))->aS H H'->Q (.ref l) H'
abbrev HX:Nat:=2
abbrev tQ:Nat:=3
def fM(K:Fg):Sp:=λvs H Q E=>∃(p:Addr) (bs:List dj),vs=[.ref p]/\fk H p bs/\jr bs/\(yH bs->∀(H':Hp),aS H H'->Q .non H')/\
 ∀k n:Nat,rS bs k n->∀(dx:Addr) (H':Hp),aS H H'->H' dx=some (XD dx (v8 k n "unset"))->E (.ref (cS K "NoProgram")) (some dx) H'
abbrev DB:Nat:=4
abbrev kC:Nat:=5
def fN(_:Fg):Sp:=λvs H Q _=>∃(p:Addr) (k:Nat) (bs:List dj),vs=[.ref p,.int (k:Nat)]/\fk H p bs/\jr bs/\k<bs.length/\∀(H':Hp),aS H H'->Q .non H'
abbrev x8:Nat:=0
abbrev j9:Nat:=1
def gu(_:Fg):Sp:=λvs H Q _=>∃(p:Addr) (k:Nat) (bs:List dj),vs=[.ref p,.int (k:Nat)]/\fk H p bs/\jr bs/\k<bs.length/\∀(H':Hp),aS H H'->Q .non H'
abbrev yZ:Nat:=2
abbrev lx:Nat:=3
def ef(_:Fg):Sp:=λvs H Q _=>∃(rt:Addr) (v:V) (rvs:List V) (r:bz),vs=[.ref rt,v]/\H rt=some (.tup rvs)/\cx H v r/\(∀t:Nat,jt r=.int (t:Nat)->t<rvs.length)/\∀(H':Hp),aS H H'->Q (.bl false) H'
abbrev tw:Nat:=1
abbrev iz:Nat:=2
def d9(_:Fg):Sp:=λvs H Q _=>∃(p:Addr) (v:V) (bs:List dj) (r:bz),vs=[.ref p,v]/\fk H p bs/\cx H v r/\(∀x k as,r=.call x k as->(bs.map (·.params.length))[k]?=some as.length)/\∀(H':Hp),aS H H'->Q (.bl false) H'
abbrev tm:Nat:=0
abbrev iw:Nat:=1
def fP(_:Fg):Sp:=λvs H Q _=>∃(rt:Addr) (rvs:List V) (rs:List bz),vs=[.ref rt]/\H rt=some (.tup rvs)/\cF (cx H) rvs rs/\eS rs/\∀(H':Hp),aS H H'->Q .non H'
abbrev x9:Nat:=2
abbrev kc:Nat:=3
def ee(_:Fg):Sp:=λvs H Q _=>∃(rt:Addr) (n:Nat) (rvs:List V) (rs:List bz),vs=[.ref rt,.int (n:Nat)]/\H rt=some (.tup rvs)/\cF (cx H) rvs rs/\eS rs/\n<rs.length/\∀(H':Hp),aS H H'->Q (.bl false) H'
abbrev tu:Nat:=1
abbrev iy:Nat:=2
def iN(_:Fg):Sp:=λvs H Q _=>∃(p rt:Addr) (n:Nat) (rvs:List V) (bs:List dj) (b:dj),vs=[.ref p,.ref rt,.int (n:Nat)]/\fk H p bs/\H rt=some (.tup rvs)/\cF (cx H) rvs b.rows/\mS (bs.map (·.params.length)) b/\n<b.rows.length/\
 ∀(H':Hp),aS H H'->Q (.bl false) H'
def kU(_:Fg):Sp:=λvs H Q _=>∃(rt:Addr) (n:Nat) (rvs:List V) (rs:List bz),vs=[.ref rt,.int (n:Nat)]/\H rt=some (.tup rvs)/\cF (cx H) rvs rs/\eS rs/\n<rs.length/\∀(H':Hp),aS H H'->Q (.bl false) H'
def yJ(H:Hp)(v:V)(n:Nat):Prop:=∃q,v=.ref q/\H q=some (.tup [.int (n:Nat),.str "unset"])
def gY(_:Fg):Sp:=λvs H Q _=>∃(p:Addr) (k:Nat) (bs:List dj) (b:dj),vs=[.ref p,.int (k:Nat)]/\fk H p bs/\jr bs/\bs[k]?=some b/\
 ∀(l:Addr) (refs:List V) (ns:List Nat) (H':Hp),(∀m,m∈ns↔Cb b m)->ns.Pairwise (·<=·)->H l=none->H' l=some (.lst refs)->cF (yJ H') refs ns->refs.length<=7000->aS H H'->Q (.ref l) H'
def EM(H:Hp)(q:Addr)(bs:List dj):Prop:=∃i j w,Hq bs i j w/\H q=some (.tup [.int i,.int j,.str w])
def lU(_:Fg):Sp:=λvs H Q _=>∃(p:Addr) (bs:List dj),vs=[.ref p]/\fk H p bs/\jr bs/\∀(q:Addr) (H':Hp),EM H' q bs->aS H H'->Q (.ref q) H'
def nh(_:Fg):Sp:=λvs H Q _=>∃(p:Addr) (bs:List dj),vs=[.ref p]/\fk H p bs/\jr bs/\∀(q:Addr) (H':Hp),EM H' q bs->aS H H'->Q (.ref q) H'
def iO(_:Fg):Sp:=λvs H Q _=>∃(p:Addr) (bs:List dj),vs=[.ref p]/\fk H p bs/\jr bs/\¬yH bs/\∀(l:Addr) (H':Hp),H' l=some (.lst [.bl true,.bl true,.bl false])->aS H H'->Q (.ref l) H'
def je(_:Fg):Sp:=λvs H Q _=>∃(p:Addr) (bs:List dj),vs=[.ref p]/\fk H p bs/\jr bs/\∀(H':Hp),aS H H'->Q (.bl true) H'
def iM(K:Fg):Sp:=λvs H Q _=>∃(st p:Addr) (k:Nat) (ys:List Str) (cs:List Nat) (bs:List dj),vs=[.ref st,.ref p]/\iJ K H st k/\k<=100000/\fk H p bs/\pF ys cs bs/\
 ∀(p':Addr) (bs':List dj) (k':Nat) (H':Hp),fk H' p' bs'->jr bs'->iJ K H' st k'->k'<=k+5000->fu st H H'->Q (.ref p') H'
def kW(K:Fg):Sp:=λvs H Q _=>∃(st:Addr) (k:Nat),vs=[.ref st]/\iJ K H st k/\k<=200000/\
 ∀(p':Addr) (bs':List dj) (k':Nat) (H':Hp),fk H' p' bs'->jr bs'->iJ K H' st k'->k'<=k+100->fu st H H'->Q (.ref p') H'
abbrev Dz:Nat:=0
abbrev oF:Nat:=1
abbrev HV:Nat:=0
abbrev tO:Nat:=1
abbrev A8:Nat:=3
abbrev mK:Nat:=4
abbrev L6:Nat:=4
abbrev v9:Nat:=5
abbrev Dy:Nat:=1
abbrev oE:Nat:=2
abbrev HW:Nat:=1
abbrev tP:Nat:=2
abbrev Kp:Nat:=5
abbrev xx:Nat:=6
abbrev DA:Nat:=5
abbrev oG:Nat:=6
abbrev HS:Nat:=6
abbrev tM:Nat:=7
abbrev L7:Nat:=7
abbrev B0:Nat:=8
end Bg
end
section
namespace Bg
open PySem PySem.Spec PyProof.Rows L2
abbrev gk:List Str:=["row"]
abbrev rf:List Str:=["row","word"]
def Ag(K:Fg):TS:=(cM (dC aE))
def Ah(K:Fg):TS:=(bA (cZ (bH (bb ((vz K false)) (aq 1) (dC (af (tC (.str "say")) (af (tC (.str "test")) (af (tC (.str "give")) aE)))))) (cM (dC (af (bb (cE K) (aq 0) (tC (.int 1))) aE))) bW) (Ag K))
def Ai(K:Fg):TS:=(bA (cZ (bH (bb (eX K) (aq 1) (tC (.str "call")))) (cM (fR (i9 K) (af (bb (cE K) (aq 0) (tC (.int 3))) aE))) bW) (Ah K))
def Aj(K:Fg):TS:=(bA (cZ (bH (bb (eX K) (aq 1) (tC (.str "op")))) (cM (dC (af (bb (cE K) (aq 0) (tC (.int 3))) (af (bb (cE K) (aq 0) (tC (.int 4))) aE)))) bW) (Ai K))
def w6(K:Fg):TS:=(bA (bV (bb (cE K) (aq 0) (tC (.int 0))) (aP 1)) (Aj K))
abbrev jq:List Str:=["row"]
abbrev uh:List Str:=["row"]
def BQ(K:Fg):TS:=(cM (tC .non))
def Ak(K:Fg):TS:=(bA (cZ (bH (bb ((vz K false)) (bb (cE K) (aq 0) (tC (.int 0))) (dC (af (tC (.str "num")) (af (tC (.str "op")) (af (tC (.str "call")) aE)))))) (cM (bb (cE K) (aq 0) (tC (.int 1)))) bW) (BQ K))
abbrev fW:List Str:=["row"]
abbrev ug:List Str:=["row"]
def BO(K:Fg):TS:=(cM (tC .non))
def BP(K:Fg):TS:=(bA (cZ (bH (bb (eX K) (bb (cE K) (aq 0) (tC (.int 0))) (tC (.str "test")))) (cM (bb (cE K) (aq 0) (tC (.int 2)))) bW) (BO K))
def Ab(K:Fg):TS:=(bA (cZ (bH (bb (eX K) (bb (cE K) (aq 0) (tC (.int 0))) (tC (.str "jump")))) (cM (bb (cE K) (aq 0) (tC (.int 1)))) bW) (BP K))
abbrev iG:List Str:=["rows","n"]
abbrev q9:List Str:=["rows","n","word"]
def Ac(K:Fg):TS:=(cM (dC (af (bb (dr K) (aq 1) (tC (.int 1))) aE)))
def Ad(K:Fg):TS:=(bA (cZ (bH (bb (eX K) (aq 2) (tC (.str "test")))) (cM (dC (af (bb (dr K) (aq 1) (tC (.int 1))) (af (bE (eJ K) [] E0 (af (bb (cE K) (aq 0) (aq 1)) aE)) aE)))) bW) (Ac K))
def Ae(K:Fg):TS:=(bA (cZ (bH (bb (eX K) (aq 2) (tC (.str "jump")))) (cM (dC (af (bE (eJ K) [] E0 (af (bb (cE K) (aq 0) (aq 1)) aE)) aE))) bW) (Ad K))
def Af(K:Fg):TS:=(bA (cZ (bH (bb (eX K) (aq 2) (tC (.str "give")))) (cM (dC aE)) bW) (Ae K))
def w5(K:Fg):TS:=(bA (bV (bb (cE K) (bb (cE K) (aq 0) (aq 1)) (tC (.int 0))) (aP 2)) (Af K))
abbrev gP:List Str:=["rows","unset"]
abbrev pE:List Str:=["rows","unset","found","waiting","n","to"]
def yA(K:Fg):TS:=(cM (fR Gr (af (aq 2) aE)))
def yB(K:Fg):TS:=(jf (BD K "list" iB (aq 3) (af (aq 5) aE)))
def ni(K:Fg):TS:=(cZ (bH (bb ((Gm true)) (aq 5) (aq 2))) (bA (bV (tC (.bl true)) (pI (aq 2) (aq 5) CB)) (yB K)) bW)
def qN(K:Fg):TS:=(cZ (EG (bH (bb (Mp) (aq 1) (tC .non))) (bH (bb (uP K) (bE (jA K) [] E0 (af (bb (cE K) (aq 0) (aq 4)) aE)) (aq 1)))) (iR (ju K (bE (gW K) [] E0 (af (aq 0) (af (aq 4) aE)))) (aP 5) (ni K)) bW)
def yC(K:Fg):TS:=(bA (bV (Jx K "list" Ln (aq 3)) (aP 4)) (qN K))
def qO(K:Fg):TS:=(bA (rP (bH (bb (Lm) (fR (eP K) (af (aq 3) aE)) (tC (.int 0)))) (yC K)) (yA K))
def qP(K:Fg):TS:=(bA (bV (fZ (af (tC (.int 0)) aE)) (aP 3)) (qO K))
def vn(K:Fg):TS:=(bA (bV (GG [((tC (.int 0)),(tC (.bl true)))]) (aP 2)) (qP K))
abbrev dN:List Str:=["self","part","row","word"]
abbrev jj:List Str:=["self","part","row","word"]
def pO(K:Fg):TS:=(zH K (aq 0) (aq 3) "word")
def pP(K:Fg):TS:=(bA (zH K (aq 0) (aq 2) "row") (pO K))
def mz(K:Fg):TS:=(bA (zH K (aq 0) (aq 1) "part") (pP K))
abbrev gO:List Str:=["part","row","word"]
abbrev pD:List Str:=["part","row","word"]
def vk(K:Fg)(E:XK):TS:=(cZ (bH (bb (JX) (aq 1) (tC .non))) (BG K E (BE (cS K "NoProgram") (dR K) (af (aq 0) (af (aq 1) (af (aq 2) aE))))) bW)
abbrev fg:List Str:=["part"]
abbrev jE:List Str:=["part","rows","due","name"]
def tK(K:Fg):TS:=(cM (GH K (af (aq 2) aE)))
def nG(K:Fg):TS:=(cZ (bH (bb ((vz K true)) (aq 3) (bb (cE K) (aq 0) (tC (.int 1))))) (jf (BD K "list" yq (aq 2) (af (jO [] 1 (ju K (bE (gX K) [] E0 (af (aq 1) (af (aq 3) aE)))) (aP 4) (bH (bb ((vz K false)) (aq 3) (bE (fO K) [] E0 (af (bb (cE K) (aq 1) (aq 4)) aE)))) (aq 4)) aE))) bW)
def nH(K:Fg):TS:=(bA (iR (ju K (bE (eR K) [] E0 (af (aq 1) aE))) (aP 3) (nG K)) (tK K))
def nI(K:Fg):TS:=(bA (bV (fZ aE) (aP 2)) (nH K))
def pj(K:Fg):TS:=(bA (bV (bb (cE K) (aq 0) (tC (.int 2))) (aP 1)) (nI K))
abbrev eO:List Str:=["rows"]
abbrev kH:List Str:=["rows","names","row","name"]
def rQ(K:Fg):TS:=(cM (fR Gq (af (aq 1) aE)))
def mB(K:Fg):TS:=(bV (tC (.bl true)) (pI (aq 1) (aq 3) CB))
def mC(K:Fg):TS:=(iR (ju K (bE (fO K) [] E0 (af (aq 2) aE))) (aP 3) (mB K))
def mD(K:Fg):TS:=(bA (iR (ju K (aq 0)) (aP 2) (mC K)) (rQ K))
def oo(K:Fg):TS:=(bA (bV yz (aP 1)) (mD K))
abbrev mO:List Str:=["_law_rows","_law_n"]
abbrev AG:List Str:=["_law_rows","_law_n"]
def GQ(K:Fg):TS:=(cM (fZ (af (bb (dr K) (aq 1) (tC (.int 1))) aE)))
def GR(K:Fg):TS:=(bA (cZ (bH (bb (eX K) (bb (cE K) (bb (cE K) (aq 0) (aq 1)) (tC (.int 0))) (tC (.str "give")))) (cM (fZ aE)) bW) (GQ K))
def GS(K:Fg):TS:=(bA (cZ (bH (bb (eX K) (bb (cE K) (bb (cE K) (aq 0) (aq 1)) (tC (.int 0))) (tC (.str "test")))) (cM (fZ (af (bb (dr K) (aq 1) (tC (.int 1))) (af (bb (cE K) (bb (cE K) (aq 0) (aq 1)) (tC (.int 2))) aE)))) bW) (GR K))
def GP(K:Fg):TS:=(bA (cZ (bH (bb (eX K) (bb (cE K) (bb (cE K) (aq 0) (aq 1)) (tC (.int 0))) (tC (.str "jump")))) (cM (fZ (af (bb (cE K) (bb (cE K) (aq 0) (aq 1)) (tC (.int 1))) aE))) bW) (GS K))
abbrev iI:List Str:=["_law_params","_law_rows","_law_x"]
abbrev lZ:List Str:=["_law_params","_law_rows","_law_x","_law_there","_law_left","_law_n","_law_m"]
def oA(K:Fg):TS:=(cM (aq 3))
def Ar(K:Fg):TS:=(jf (BD K "list" iB (aq 4) (af (aq 6) aE)))
def lK(K:Fg):TS:=(cZ (LA (tB (bb (cE K) (aq 3) (aq 6)))) (bA (bV (tC (.bl true)) (pI (aq 3) (aq 6) nA)) (Ar K)) bW)
def sT(K:Fg):TS:=(cZ (EG (bH (bb ((vz K true)) (bb (cE K) (bb (cE K) (aq 1) (aq 5)) (tC (.int 0))) (dC (af (tC (.str "num")) (af (tC (.str "op")) (af (tC (.str "call")) aE)))))) (bH (bb (uP K) (bb (cE K) (bb (cE K) (aq 1) (aq 5)) (tC (.int 1))) (aq 2)))) (iR (ju K (bE (kB K) [] E0 (af (aq 1) (af (aq 5) aE)))) (aP 6) (lK K)) bW)
def As(K:Fg):TS:=(bA (bV (Jx K "list" Ln (aq 4)) (aP 5)) (sT K))
def sU(K:Fg):TS:=(bA (rP (bH (bb (uP K) (aq 4) (fZ aE))) (As K)) (oA K))
def sV(K:Fg):TS:=(bA (bV (jO [5] 0 (lB (af (fR (eP K) (af (aq 1) aE)) aE)) (aP 5) (tB (bb (cE K) (aq 3) (aq 5))) (aq 5)) (aP 4)) (sU K))
def xo(K:Fg):TS:=(bA (bV (jO [5] 0 (lB (af (fR (eP K) (af (aq 1) aE)) aE)) (aP 5) qA (qz (bb (eX K) (aq 5) (tC (.int 0))) (bb ((vz K true)) (aq 2) (aq 0)))) (aP 3)) (sV K))
abbrev mQ:List Str:=["_law_row"]
abbrev AH:List Str:=["_law_row"]
def GV(K:Fg):TS:=(cM (fZ aE))
def GW(K:Fg):TS:=(bA (cZ (bH (bb ((vz K false)) (bb (cE K) (aq 0) (tC (.int 0))) (dC (af (tC (.str "say")) (af (tC (.str "test")) (af (tC (.str "give")) aE)))))) (cM (fZ (af (bb (cE K) (aq 0) (tC (.int 1))) aE))) bW) (GV K))
def GX(K:Fg):TS:=(bA (cZ (bH (bb (eX K) (bb (cE K) (aq 0) (tC (.int 0))) (tC (.str "call")))) (cM (fR (t8 K) (af (bb (cE K) (aq 0) (tC (.int 3))) aE))) bW) (GW K))
def GU(K:Fg):TS:=(bA (cZ (bH (bb (eX K) (bb (cE K) (aq 0) (tC (.int 0))) (tC (.str "op")))) (cM (fZ (af (bb (cE K) (aq 0) (tC (.int 3))) (af (bb (cE K) (aq 0) (tC (.int 4))) aE)))) bW) (GX K))
abbrev kO:List Str:=["_law_params","_law_rows"]
abbrev xF:List Str:=["_law_params","_law_rows","_law_found","_law_n","_law_x"]
def Ew(K:Fg):TS:=(cM (aq 2))
def xj(K:Fg):TS:=(cZ (tB (bb (cE K) (bE (iQ K) [] E0 (af (aq 0) (af (aq 1) (af (aq 4) aE)))) (aq 3))) (jf (BD K "list" iB (aq 2) (af (aq 3) aE))) bW)
def xk(K:Fg):TS:=(iR (ju K (bE (ng K) [] E0 (af (bb (cE K) (aq 1) (aq 3)) aE))) (aP 4) (xj K))
def xm(K:Fg):TS:=(bA (iR (lB (af (fR (eP K) (af (aq 1) aE)) aE)) (aP 3) (xk K)) (Ew K))
def C1(K:Fg):TS:=(bA (bV (fZ aE) (aP 2)) (xm K))
end Bg
end
section
namespace PySem
open Sem (wp)
open AutoSeq1 (wpAny_loadPart')
section
variable{prog:Program}{w:World}{A:Around}{E:Value->Shared->Prop}{s:Shared}
theorem Bj{ib tb:Addr}{i:Nat}{its:Array Value}{x:Value}{Q:Value->Shared->Prop}(hib:s.heap.IsTupleIter ib tb i)(htb:s.heap.IsTuple tb its)(hx:its[i]?=some x)
  (hQ:∀h',h'.IsTupleIter ib tb (i+1)->Heap.SameBut ib s.heap h'->Q x {s with heap:=h'}):wpAny (model prog w) A (Builtin.SmallTypes.nextOf (.ref ib)) Q E s:=by
 obtain⟨ob,hob,hcb,hdb⟩:=id hib
 obtain⟨ot,hot,_,nt,hdt⟩:=htb
 unfold Builtin.SmallTypes.nextOf
 refine wpAny_bind (wpAny_callSpecial?_slot (name:=Str.ofString "__next__") hib.typeIs F.slot_tuple_iterator_next (wpAny_call_entry F.slot_tuple_iterator_next hib.typeIs F.entry_tuple_iterator_next ?_ (F.args_tuple_iterator_next_1 _)))
 show wpAny _ _ (field (.ref ib) 0 >>= _) _ _ s
 refine wpAny_bind (wpAny_field hob hdb (x:=.ref tb) rfl ?_)
 show wpAny _ _ (if(Value.ref tb==Value.none)=true then _ else _) _ _ s
 rw[if_neg (show ¬((Value.ref tb==Value.none)=true) from Bool.false_ne_true)]
 show wpAny _ _ (field (.ref ib) 1 >>= _) _ _ s
 refine wpAny_bind (wpAny_field hob hdb (x:=.int i 0) rfl ?_)
 show wpAny _ _ (seqItems? (.ref tb) >>= _) _ _ s
 refine wpAny_bind (wpAny_seqItems hot hdt ?_)
 simp only[gG,hx]
 refine wpAny_bind (wpAny_setField hob hdb (by simp) (wpAny_pure ⟨x,rfl,wpAny_pure (hQ _ ?_ (Heap.SameBut.update ..))⟩))
 exact⟨_,cX _ hob (Obj.isFreed_of_fields (Obj.data_mapFields hdb _)),(Obj.cls_mapFields ..).trans hcb,by rw[Obj.data_mapFields hdb];simp[rawInt]⟩
theorem wB{ib tb:Addr}{i:Nat}{its:Array Value}{Q:Value->Shared->Prop}(hh:A.handled=none)(hib:s.heap.IsTupleIter ib tb i)(htb:s.heap.IsTuple tb its)(hx:its[i]?=none)
  (hE:∀h' e,Heap.ExtBut ib s.heap h'->(∃o,h'.get? e=some o/\o.cls=.type "StopIteration")->E (.ref e) {s with heap:=h'}):wpAny (model prog w) A (Builtin.SmallTypes.nextOf (.ref ib)) Q E s:=by
 obtain⟨ob,hob,hcb,hdb⟩:=id hib
 obtain⟨ot,hot,_,nt,hdt⟩:=htb
 unfold Builtin.SmallTypes.nextOf
 refine wpAny_bind (wpAny_callSpecial?_slot (name:=Str.ofString "__next__") hib.typeIs F.slot_tuple_iterator_next (wpAny_call_entry F.slot_tuple_iterator_next hib.typeIs F.entry_tuple_iterator_next ?_ (F.args_tuple_iterator_next_1 _)))
 show wpAny _ _ (field (.ref ib) 0 >>= _) _ _ s
 refine wpAny_bind (wpAny_field hob hdb (x:=.ref tb) rfl ?_)
 show wpAny _ _ (if(Value.ref tb==Value.none)=true then _ else _) _ _ s
 rw[if_neg (show ¬((Value.ref tb==Value.none)=true) from Bool.false_ne_true)]
 show wpAny _ _ (field (.ref ib) 1 >>= _) _ _ s
 refine wpAny_bind (wpAny_field hob hdb (x:=.int i 0) rfl ?_)
 show wpAny _ _ (seqItems? (.ref tb) >>= _) _ _ s
 refine wpAny_bind (wpAny_seqItems hot hdt ?_)
 simp only[gG,hx]
 refine wpAny_bind (wpAny_rule (wpAny_bind (wpAny_setField hob hdb (by simp) ?_)))
 show wpAny _ _ (newExc (.type "StopIteration") [] >>= _) _ _ _
 refine wpAny_bind ?_
 simp only[newExc,newTuple]
 refine wpAny_bind (wpAny_newObj_type ?_ (by size_fits))
 refine wpAny_bind (m:=firstArgMember _ _) (wpAny_of_eq (a:=Value.none) (by first|rfl|(simp only[firstArgMember];rfl)) ?_)
 refine wpAny_newObj_type ?_ (by size_fits)
 simp only[raiseNew]
 refine wpAny_bind (wpAny_handled ?_)
 first|rw[show A.in1.handled=none from hh]|rw[hh]
 refine wpAny_bind (wpAny_pure (wpAny_throw ?_))
 exact hE _ _ (((Heap.SameBut.update ..).extBut.push _).push _) ⟨_,aW _ rfl,rfl⟩
end
theorem Kd{prog:Program}{w:World}{A:Around}(hh:A.handled=none)(ib tb:Addr)(hne:tb≠ib)(its:Array Value) :
  Draws prog w A ib [ib,tb] its.size (λi v=>its[i]?=some v) (λi h=>h.IsTupleIter ib tb i/\h.IsTuple tb its) where
 live:=λ_ _ st=>let⟨o,ho,_⟩:=st.1;⟨o,ho⟩
 frame:=λ_ _ _ st hk=>⟨st.1.at λo e=>hk ib (by simp) o e,let⟨o,ho,r⟩:=st.2;⟨o,hk tb (by simp) o ho,r⟩⟩
 item:=λi s Q E hi st hQ=>Bj st.1 st.2 (x:=its[i]) (by simp[hi]) λh' hit' hs'=>hQ _ h' s.toks (by simp[hi]) ⟨hit',st.2.extBut hs'.extBut hne⟩ hs'
 done:=λs Q E st hE=>wB hh st.1 st.2 (by simp) hE
theorem zh(tb:Addr)(its:Array Value)(n:Nat)(dct:Option Addr)(sl:Array (Option Value)) :
  Meets (Builtin.«enumerate.__new__» ⟨[.type "enumerate",.ref tb],[]⟩) (λ_ R s=>s.heap.get? tb=some {cls:=.type "tuple",dict:=dct,data:=.seq its n,slots:=sl}/\
   R (.ok (.ret (.ref (s.heap.push {cls:=.type "tuple_iterator",data:=.fields #[.ref tb,.int 0 0]}).objs.size)))
    {s with heap:=(s.heap.push {cls:=.type "tuple_iterator",data:=.fields #[.ref tb,.int 0 0]}).push {cls:=.type "enumerate",data:=.fields #[.none,.bool false,.ref s.heap.objs.size,rawInt 0,.none,.none]}}):=
 .of_wp λprog w A R s h=>by
  obtain⟨hp,g,d,tk,os⟩:=s;obtain⟨hl,h⟩:=h
  have hsub:=sub_enumerate
  have hL:Heap.IsTuple (Shared.heap ⟨hp,g,d,tk,os⟩) tb its:=⟨_,hl,rfl,n,rfl⟩
  wp_walk using wpAny_loadPart' hl
  refine wpAny_stack_any λst=>wpAny_pure ?_
  split
  ·rename_i c _ _ _ _ _
   cases(c==Value.type "enumerate")
   ·wp_walk using wpAny_loadPart' hl,wpAny_pyIter_tuple hL
    exact⟨_,rfl,h⟩
   ·wp_walk using wpAny_loadPart' hl,wpAny_pyIter_tuple hL
    exact⟨_,rfl,h⟩
  ·wp_walk using wpAny_loadPart' hl,wpAny_pyIter_tuple hL
   exact⟨_,rfl,h⟩
theorem AN{prog:Program}{w:World}{A:Around}{E:Value->Shared->Prop}{s:Shared}{tb:Addr}{its:Array Value}{Q:Value->Shared->Prop}(hL:s.heap.IsTuple tb its)
  (h:∀h',IsEnum h' (s.heap.objs.size+1) s.heap.objs.size 0 .none->h'.IsTupleIter s.heap.objs.size tb 0->h'.objs.size=s.heap.objs.size+2->(∀b o,s.heap.get? b=some o->h'.get? b=some o)->Q (.ref (s.heap.objs.size+1)) {s with heap:=h'}) :
  wpAny (model prog w) A (call (.type "enumerate") [.ref tb]) Q E s:=by
 obtain⟨⟨c,dct,dt,sl⟩,hl,hc,n,hd⟩:=hL
 replace hc:c=.type "tuple":=hc
 replace hd:dt=.seq its n:=hd
 subst hc hd
 refine callType_new F.called_enumerate (by decide) (F.typeCall_enumerate_1 _) (F.newCall_enumerate_1 _) (λobj=>F.args_object_init_2 obj _) F.entry_enumerate_new (zh tb its n dct sl) ⟨hl,?_⟩
 have hz:(s.heap.push {cls:=.type "tuple_iterator",data:=.fields #[.ref tb,.int 0 0]}).objs.size=s.heap.objs.size+1:=dz ..
 show _/\_
 rw[hz]
 have he:IsEnum ((s.heap.push {cls:=.type "tuple_iterator",data:=.fields #[.ref tb,.int 0 0]}).push {cls:=.type "enumerate",data:=.fields #[.none,.bool false,.ref s.heap.objs.size,rawInt 0,.none,.none]}) (s.heap.objs.size+1) s.heap.objs.size 0 .none:=by
  have:=aW (s.heap.push {cls:=.type "tuple_iterator",data:=.fields #[.ref tb,.int 0 0]}) (o:={cls:=.type "enumerate",data:=.fields #[.none,.bool false,.ref s.heap.objs.size,rawInt 0,.none,.none]}) rfl
  rw[hz] at this;exact this
 refine⟨⟨_,he,rfl⟩,h _ he ⟨_,az _ (aW _ rfl),rfl,rfl⟩ (by rw[dz,hz]) λb o x=>az _ (az _ x)⟩
end PySem
namespace L2
open PySem PySem.Spec PyProof.Rows
def EI(K:Fg)(a:Addr):It:=
 ⟨λi H=>∃xs x,cY K H a xs/\xs[i]?=some x,λi H x H'=>∃p v,H p=none/\x=.ref p/\H'=upd H p (.tup [.int (i:Nat),v])/\∀xs,cY K H a xs->xs[i]?=some v,λi H=>∃xs,cY K H a xs/\xs.length<=i⟩
theorem BR{P:Program}{w:World}{K:Fg}{elts:List Expr}{k:Nat}{pos:Pos}(a e it:Addr)(hne:e≠it) :
  yL P w K (.Tuple elts k pos) (EI K a) [e,it] e (λi h=>(∃old,IsEnum h e it (i:Nat) old)/\h.IsTupleIter it a i) where
 mem:=by simp
 obj:=λi h st b hb=>by
  obtain⟨⟨old,he⟩,⟨o,ho,c,d⟩⟩:=st
  rcases aU.mp hb with rfl|hb
  ·exact⟨_,he,λv z=>by have z':Data.fields _=Data.cell v:=z;cases z'⟩
  ·rw[ak.mp hb]
   exact⟨o,ho,λv z=>by rw[d] at z;cases z⟩
 keep:=λi h h' st k=>⟨let⟨old,he⟩:=st.1;⟨old,k e (by simp) _ he⟩,st.2.at λo q=>k it (by simp) o q⟩
 item:=by
  intro X hP hw hK hc i pins s σ H E I hf st hg
  subst hP hw hK
  obtain⟨⟨old,he⟩,hit⟩:=st
  obtain⟨xs,x,hq,hx⟩:=hg
  obtain⟨its,rv,p,hz⟩:=I.tuple hq
  obtain⟨u,hu,ru⟩:=rv.get hx
  have p':s.heap.IsTuple a its.toArray:=p
  have hlt:i<its.toArray.size:=by have:=(aj.mp hu).1;simpa using this
  have na:a≠it:=by
   intro z;subst z
   obtain⟨o,e1,c1,_⟩:=p'
   obtain⟨o',e2,c2,_⟩:=hit
   rw[e1] at e2;cases e2;rw[c1] at c2
   injection c2 with c3
   exact absurd c3 (by decide)
  have nb:e≠a:=by
   intro z;subst z
   obtain⟨o,e1,c1,_⟩:=p'
   rw[he] at e1;cases e1
   injection c1 with c3
   exact absurd c3 (by decide)
  have Dw:=Kd (prog:=X.prog) (w:=X.w) (A:=X.A.in1) (show X.A.in1.handled=none from I.ok.hd hc) it a na its.toArray
  refine wpAny_pyNext_enum_itemD Dw he ⟨hit,p'⟩ hlt hne (by simp[hne,nb]) λy h1 tk hP ho st1 hT hsz hk=>?_
  have ey:y=u:=by
   have h1:its.toArray[i]?=some y:=hP
   have h2:its[i]?=some y:=by simpa using h1
   rw[hu] at h2;exact(Option.some.inj h2).symm
  subst ey
  refine⟨_,rfl,?_⟩
  have fT:pT X pins H s.heap.objs.size:=I.fpOk (aC _) (I.hok.fresh (aC _))
  refine wpAny_letOwnedTupleGo_enum ho λh2 he2 hs2=>?_
  have helt:e<s.heap.objs.size:=aJ he
  have I1:bP X pins σ H {s with heap:=h2,toks:=tk+1}:=I.turnedL (t':=tk+1) (ch:=[e,it]) (λb o hb q=>by
   have b1:b≠e:=λz=>hb (by simp[z])
   have b2:b≠it:=λz=>hb (by simp[z])
   exact(hs2.2 b b1).trans (hk b o b1 b2 q)) hf
  have gT:h2.get? s.heap.objs.size=some {cls:=.type "tuple",data:=.seq #[.int i tk,y]}:=(hs2.2 _ (iY helt)).trans hT
  have I2:=I1.adopt (T:=s.heap.objs.size) (o:=.tup [.int (i:Nat),x]) fT (yD (X:=X) gT ⟨tk,rfl⟩ ru)
  refine⟨.ref s.heap.objs.size,_,I2,rfl,⟨s.heap.objs.size,x,fT.1,rfl,rfl,λys hy=>by rw[I.tuple_inj hy hq];exact hx⟩,⟨⟨y,?_⟩,?_⟩,λb hb=>?_⟩
  ·have e2:(((i+1:Nat):Nat):Int)=(i:Int)+1:=by lia
   show IsEnum h2 e it (((i+1:Nat):Nat):Int) y
   rw[e2];exact he2
  ·obtain⟨o,q1,q2⟩:=st1.1
   exact⟨o,(hs2.2 it (Ne.symm hne)).trans q1,q2⟩
  ·have nT:b≠s.heap.objs.size:=by
    rcases aU.mp hb with rfl|hb
    ·exact bh helt
    ·rw[ak.mp hb]
     obtain⟨o,ho,_⟩:=hit
     exact bh (aJ ho)
   rw[aA nT];exact(hf b hb).1
 done:=by
  intro X hP hw hK hc i pins s σ H E I hf st hg
  subst hP hw hK
  obtain⟨⟨old,he⟩,hit⟩:=st
  obtain⟨xs,hq,hx⟩:=hg
  obtain⟨its,rv,p,hz⟩:=I.tuple hq
  have hl:=rv.length
  have hT:s.TypeIs (.ref e) "enumerate":=⟨_,he,rfl⟩
  unfold pyNext
  refine wpAny_bind (wpAny_attempt (wpAny_callSpecial?_slot (name:=Str.ofString "__next__") hT F.slot_enumerate_next
   (wpAny_call_entry F.slot_enumerate_next hT F.entry_enumerate_next ?_ (F.args_enumerate_next_1 _))))
  show wpAny _ _ (field (.ref e) 2 >>= _) _ _ _
  refine wpAny_bind (wpAny_field he rfl (x:=.ref it) rfl ?_)
  refine wpAny_bind (wB (show X.A.in1.handled=none from I.ok.hd hc) hit (show s.heap.IsTuple a its.toArray from p) (by simp;lia) λh1 x1 eb hx1=>?_)
  obtain⟨o,ho,hcl⟩:=hx1
  refine wpAny_bind (wpAny_isInstance (T:="StopIteration") (b:=true) ⟨o,ho,hcl⟩ isSubtype_stop ?_)
  exact wpAny_pure ⟨rfl,I.turnedL (t':=s.toks) (ch:=[e,it]) (λb ob hb q=>eb b ob (λz=>hb (by simp[z])) q) hf⟩
 self:=λ_ _ _ _ _ st h=>let⟨_,he⟩:=st.1;wpAny_pyIter_enum he h
section
variable{X:Cx}{elts:List Expr}{k:Nat}{tpos:Pos}
def x6(K:Fg)(tl:TA):TI:=λσ H R=>tl σ H λvs H1=>∃a,vs=[.ref a]/\(∃xs,cY K H1 a xs)/\R (EI K a) H1
theorem FY{a:Expr}{ta:TA}{p pos:Pos}(hg:Gl X "enumerate")(hm:X.mg "enumerate"=none)(ha:PA X [a] ta)(hs:starEach [a] X.env=[(false,eval a X.env)]:=by rfl) :
  PI X (.Tuple elts k tpos) (.Call (.Name "enumerate" p) [a] [] pos) (x6 X.K ta):=by
 intro pins s σ H R I h
 refine Call_ (kS I hg hm boot_enumerate (cK (gg (ha pos pins s σ H _ I h) λus s1 ⟨vs,H1,I1,r1,q1⟩=>?_) hs rfl))
 obtain⟨l,e,⟨xs,hq⟩,q⟩:=q1
 subst e
 cases r1 with
 |cons r rr=>
  cases rr
  cases r
  obtain⟨its,rv,pl,hz⟩:=I1.tuple hq
  refine AN (show s1.heap.IsTuple l its.toArray from pl) λh1 he hit hsz hk=>?_
  refine wpAny_pyIter_enum he ?_
  have I2:bP X pins σ H1 {s1 with heap:=h1}:=I1.kept (t':=s1.toks) hk
  refine⟨s1.heap.objs.size+1,[s1.heap.objs.size+1,s1.heap.objs.size],_,_,H1,rfl,I2,BR l _ _ (Nat.succ_ne_self _),⟨⟨.none,he⟩,hit⟩,λb hb=>?_,q⟩
  have hb':s1.heap.objs.size<=b:=by
   rcases aU.mp hb with rfl|hb
   ·lia
   ·rw[ak.mp hb];exact aC _
  exact I1.fpOk hb' (I1.hok.fresh hb')
theorem zx{a:Expr}{ta:TA}{p pos:Pos}(hg:Gl X "enumerate")(hm:X.mg "enumerate"=none)(ha:QA X [a] ta)(hs:starEach [a] X.env=[(false,eval a X.env)]:=by rfl):QI X (.Tuple elts k tpos) (.Call (.Name "enumerate" p) [a] [] pos) (x6 X.K ta):=
 ⟨FY hg hm ha.1 hs⟩
end
theorem wt{K:Fg}{a:Addr}{xs:List V}{g:TG}{tb:TS}{D:nJ}{σ:St}{H:Hp}(Pv:Nat->St->Hp->Prop)(h0:Pv 0 σ H)(hl:∀i σ H,i<=xs.length->Pv i σ H->cY K H a xs)
  (hs:∀i x σ H p,xs[i]?=some x->H p=none->Pv i σ H->g (.ref p) σ (upd H p (.tup [.int (i:Nat),x])) λσ2 H2=>tb {D with nx:=Pv (i+1),ct:=Pv (i+1),bk:=D.nx} σ2 H2) (hd:∀σ H,Pv xs.length σ H->D.nx σ H) :
  ∃W:Nat->Nat->St->Hp->Prop,(∃m,W 0 m σ H)/\∀i m σ H,W i m σ H->
   ((EI K a).stop i H/\D.nx σ H)\/((EI K a).go i H/\∃N:St->Hp->Prop,(∀σ' H',N σ' H'->∃m',m'<m/\W (i+1) m' σ' H')/\∀x H',(EI K a).yld i H x H'->g x σ H' λσ2 H2=>tb {D with nx:=N,ct:=N,bk:=D.nx} σ2 H2):=by
 refine⟨λi m σ H=>m=xs.length-i/\i<=xs.length/\Pv i σ H,⟨xs.length,by simp,dh _,h0⟩,?_⟩
 rintro i m σ H ⟨rfl,hi,p⟩
 have q:=hl i σ H hi p
 by_cases hlt:i<xs.length
 ·refine .inr ⟨⟨xs,xs[i],q,by simp[hlt]⟩,Pv (i+1),λσ' H' p'=>⟨xs.length-(i+1),by lia,rfl,hlt,p'⟩,λx H' y=>?_⟩
  obtain⟨pp,v,e1,rfl,rfl,y⟩:=y
  exact hs i v σ H pp (y xs q) e1 p
 ·have e:i=xs.length:=by lia
  subst e
  exact .inl ⟨⟨xs,q,aC _⟩,hd σ H p⟩
section
variable{X:Cx}
end
section
variable{X:Cx}
def Gp:List V->Hp->VK->Prop:=λxs H Q=>∃x:V,xs=[x,.ty "bool"]/\(x=.non\/∃z,x=.int z)/\Q (.bl false) H
theorem wj:jh X (.builtin "isinstance") Gp:=by
 intro pins s σ H xs us Q I r h
 obtain⟨x,rfl,hx,q⟩:=h
 obtain⟨u,w',rfl,r1,r2⟩:=sW r
 cases r2
 rcases hx with rfl|⟨z,rfl⟩
 ·cases r1;exact IsiPair.NoneType_bool ⟨.bl false,H,I.tok _,rfl,q⟩
 ·obtain⟨t,rfl⟩:=r1;exact IsiPair.int_bool ⟨.bl false,H,I.tok _,rfl,q⟩
end
section
variable{X:Cx}
def JV:List V->Hp->VK->Prop:=λxs H Q=>∃x:V,xs=[x,.ty "str"]/\((∃t,x=.str t/\Q (.bl true) H)\/∃z,x=.int z/\Q (.bl false) H)
theorem Dc:jh X (.builtin "isinstance") JV:=by
 intro pins s σ H xs us Q I r h
 obtain⟨x,rfl,hx⟩:=h
 obtain⟨u,w',rfl,r1,r2⟩:=sW r
 cases r2
 rcases hx with⟨t,rfl,q⟩|⟨z,rfl,q⟩
 ·obtain⟨t,rfl⟩:=r1;exact IsiPair.str_str ⟨.bl true,H,I,rfl,q⟩
 ·obtain⟨t,rfl⟩:=r1;exact IsiPair.int_str ⟨.bl false,H,I.tok _,rfl,q⟩
end
end L2
end
section
namespace Bg
open PySem PySem.Spec PyProof.Rows L2
def mG(i:Nat):Stmt:=PySem.Challenge.pw_beltgarth_k13_unset_names.main.body.getD i (.Pass ⟨0,0,0,0⟩)
abbrev dm:Stmt:=L5 (mG 2) 0
theorem lF:bU jj dN (au dm):=⟨rfl,rfl,rfl,by decide +kernel,rfl,by decide +kernel,by decide +kernel⟩
abbrev h9:Stmt:=mG 6
theorem uW:bU rf gk (au h9):=⟨rfl,rfl,rfl,by decide +kernel,rfl,by decide +kernel,by decide +kernel⟩
abbrev jc:Stmt:=mG 7
theorem wK:bU uh jq (au jc):=⟨rfl,rfl,rfl,by decide +kernel,rfl,by decide +kernel,by decide +kernel⟩
abbrev jb:Stmt:=mG 8
theorem wJ:bU ug fW (au jb):=⟨rfl,rfl,rfl,by decide +kernel,rfl,by decide +kernel,by decide +kernel⟩
abbrev hZ:Stmt:=mG 9
theorem uV:bU q9 iG (au hZ):=⟨rfl,rfl,rfl,by decide +kernel,rfl,by decide +kernel,by decide +kernel⟩
abbrev eQ:Stmt:=mG 10
theorem si:bU pE gP (au eQ):=⟨rfl,rfl,rfl,by decide +kernel,rfl,by decide +kernel,by decide +kernel⟩
abbrev hW:Stmt:=mG 12
abbrev gj:List Str:=["program"]
abbrev q5:List Str:=["program","k","part"]
def z7(K:Fg)(E:XK):TS:=(jf (bE (eZ K) [] (rY λ_=>E) (af (aq 1) (af (bE (fj K) [] E0 (af (aq 2) aE)) (af (tC (.str "unset")) aE)))))
def z9(K:Fg)(E:XK):TS:=(bA (jf (bE (eZ K) [] (rY λ_=>E) (af (aq 1) (af (bE (fP K) [] E0 (af (bb (cE K) (aq 2) (tC (.int 2))) aE)) (af (tC (.str "ring")) aE))))) (z7 K E))
def Aa(K:Fg)(E:XK):TS:=(bA (jf (bE (eZ K) [] (rY λ_=>E) (af (aq 1) (af (bE (gu K) [] E0 (af (aq 0) (af (aq 1) aE))) (af (tC (.str "row")) aE))))) (z9 K E))
def sG(K:Fg)(E:XK):TS:=(bA (jf (bE (eZ K) [] (rY λ_=>E) (af (aq 1) (af (bE (fN K) [] E0 (af (aq 0) (af (aq 1) aE))) (af (tC (.str "name")) aE))))) (Aa K E))
def w4(K:Fg)(E:XK):TS:=(iR (x6 K (af (aq 0) aE)) (xY K 2 (iT (aP 1) (iT (aP 2) vD))) (sG K E))
theorem uU:bU q5 gj (au hW):=⟨rfl,rfl,rfl,by decide +kernel,rfl,by decide +kernel,by decide +kernel⟩
abbrev gs:Stmt:=mG 13
theorem sf:bU pD gO (au gs):=⟨rfl,rfl,rfl,by decide +kernel,rfl,by decide +kernel,by decide +kernel⟩
abbrev eA:Stmt:=mG 14
abbrev fK:List Str:=["program","k"]
abbrev ke:List Str:=["program","k","name","params"]
def vj(K:Fg):TS:=(cM (tC .non))
def oi(K:Fg):TS:=(bA (cZ (bH (bb (pN) (t9 K (af (aq 3) aE)) (fR (eP K) (af (aq 3) aE)))) (cM (tC (.int 0))) bW) (vj K))
def oj(K:Fg):TS:=(bA (cZ (bH (bb ((vz K false)) (aq 2) (jO [] 1 (ju K (u5 (r8 K) (aq 0) dU (gJ (aq 1)))) (aP 4) qA (bb (cE K) (aq 4) (tC (.int 0)))))) (cM (tC (.int 0))) bW) (oi K))
def om(K:Fg):TS:=(bA (bV (bb (cE K) (bb (cE K) (aq 0) (aq 1)) (tC (.int 1))) (aP 3)) (oj K))
def qL(K:Fg):TS:=(bA (bV (bb (cE K) (bb (cE K) (aq 0) (aq 1)) (tC (.int 0))) (aP 2)) (om K))
theorem oY:bU ke fK (au eA):=⟨rfl,rfl,rfl,by decide +kernel,rfl,by decide +kernel,by decide +kernel⟩
abbrev fF:Stmt:=mG 15
abbrev gm:List Str:=["program","k"]
abbrev nO:List Str:=["program","k","rows","n","row"]
def vN(K:Fg):TS:=(cM (tC .non))
def pd(K:Fg):TS:=(bA (cZ (bH (bb ((vz K true)) (bb (cE K) (bb (cE K) (aq 2) (Hf zy (tC (.int 1)))) (tC (.int 0))) (dC (af (tC (.str "jump")) (af (tC (.str "give")) aE))))) (cM (bb (sd) (fR (eP K) (af (aq 2) aE)) (tC (.int 1)))) bW) (vN K))
def pe(K:Fg):TS:=(cZ (EG (tB (bE (ef K) [] E0 (af (aq 2) (af (aq 4) aE)))) (tB (bE (d9 K) [] E0 (af (aq 0) (af (aq 4) aE))))) (cM (aq 3)) bW)
def pf(K:Fg):TS:=(bA (iR (x6 K (af (aq 2) aE)) (xY K 2 (iT (aP 3) (iT (aP 4) vD))) (pe K)) (pd K))
def ph(K:Fg):TS:=(bA (cZ (bH (bb (eX K) (fR (eP K) (af (aq 2) aE)) (tC (.int 0)))) (cM (tC (.int 0))) bW) (pf K))
def sH(K:Fg):TS:=(bA (bV (bb (cE K) (bb (cE K) (aq 0) (aq 1)) (tC (.int 2))) (aP 2)) (ph K))
theorem qr:bU nO gm (au fF):=⟨rfl,rfl,rfl,by decide +kernel,rfl,by decide +kernel,by decide +kernel⟩
abbrev dF:Stmt:=mG 16
abbrev d8:List Str:=["rows","row"]
abbrev jT:List Str:=["rows","row","to"]
def gK(K:Fg):TS:=(cM (qz (bb (JX) (aq 2) (tC .non)) (GI (bb (pN) (aq 2) (tC (.int 0))) (bb (Jh) (aq 2) (fR (eP K) (af (aq 0) aE))))))
def nF(K:Fg):TS:=(bA (bV (bE (eJ K) [] E0 (af (aq 1) aE)) (aP 2)) (gK K))
theorem my:bU jT d8 (au dF):=⟨rfl,rfl,rfl,by decide +kernel,rfl,by decide +kernel,by decide +kernel⟩
abbrev dD:Stmt:=mG 17
abbrev d6:List Str:=["program","row"]
abbrev iA:List Str:=["program","row","k"]
def qG(K:Fg):TS:=(cM (bb (uP K) (fR (eP K) (af (bb (cE K) (aq 1) (tC (.int 3))) aE)) (fR (eP K) (af (bb (cE K) (bb (cE K) (aq 0) (aq 2)) (tC (.int 1))) aE))))
def lH(K:Fg):TS:=(bA (cZ (EG (bH (bb (pN) (aq 2) (tC (.int 0)))) (bH (bb (Jh) (aq 2) (fR (eP K) (af (aq 0) aE))))) (cM (tC (.bl true))) bW) (qG K))
def qH(K:Fg):TS:=(bA (bV (bb (cE K) (aq 1) (tC (.int 2))) (aP 2)) (lH K))
def jX(K:Fg):TS:=(bA (cZ (bH (bb (uP K) (bb (cE K) (aq 1) (tC (.int 0))) (tC (.str "call")))) (cM (tC (.bl false))) bW) (qH K))
theorem mw:bU iA d6 (au dD):=⟨rfl,rfl,rfl,by decide +kernel,rfl,by decide +kernel,by decide +kernel⟩
abbrev eY:Stmt:=mG 18
abbrev fL:List Str:=["rows"]
abbrev mL:List Str:=["rows","n"]
def vm(K:Fg):TS:=(cM (tC .non))
def oq(K:Fg):TS:=(cZ (tB (bE (ee K) [] E0 (af (aq 0) (af (aq 1) aE)))) (cM (aq 1)) bW)
def qM(K:Fg):TS:=(bA (iR (lB (af (fR (eP K) (af (aq 0) aE)) aE)) (aP 1) (oq K)) (vm K))
theorem oZ:bU mL fL (au eY):=⟨rfl,rfl,rfl,by decide +kernel,rfl,by decide +kernel,by decide +kernel⟩
abbrev dE:Stmt:=mG 19
abbrev d7:List Str:=["rows","n"]
abbrev jS:List Str:=["rows","n","passed","at"]
def lI(K:Fg):TS:=(cM (qz (bb (eX K) (aq 3) (aq 1)) (bb ((Gm false)) (aq 1) (aq 2))))
def qI(K:Fg):TS:=(bV (bE (eJ K) [] E0 (af (bb (cE K) (aq 0) (aq 3)) aE)) (aP 3))
def qJ(K:Fg):TS:=(bA (bV (tC (.bl true)) (pI (aq 2) (aq 3) CB)) (qI K))
def lJ(K:Fg):TS:=(bA (rP (qy (bH (bb (eX K) (bb (cE K) (bb (cE K) (aq 0) (aq 3)) (tC (.int 0))) (tC (.str "jump")))) (bH (bb ((Gm true)) (aq 3) (aq 2)))) (qJ K)) (lI K))
def qK(K:Fg):TS:=(bA (bV (aq 1) (aP 3)) (lJ K))
def nE(K:Fg):TS:=(bA (bV yz (aP 2)) (qK K))
theorem mx:bU jS d7 (au dE):=⟨rfl,rfl,rfl,by decide +kernel,rfl,by decide +kernel,by decide +kernel⟩
abbrev dI:Stmt:=mG 20
theorem oa:bU jE fg (au dI):=⟨rfl,rfl,rfl,by decide +kernel,rfl,by decide +kernel,by decide +kernel⟩
abbrev dQ:Stmt:=mG 21
theorem nC:bU kH eO (au dQ):=⟨rfl,rfl,rfl,by decide +kernel,rfl,by decide +kernel,by decide +kernel⟩
abbrev m5:Stmt:=mG 23
theorem CD:bU AF dO (au m5):=⟨rfl,rfl,rfl,by decide +kernel,rfl,by decide +kernel,by decide +kernel⟩
abbrev jF:Stmt:=mG 24
theorem zK:bU tT kL (au jF):=⟨rfl,rfl,rfl,by decide +kernel,rfl,by decide +kernel,by decide +kernel⟩
abbrev kA:Stmt:=mG 25
theorem zO:bU xG kP (au kA):=⟨rfl,rfl,rfl,by decide +kernel,rfl,by decide +kernel,by decide +kernel⟩
abbrev fG:Stmt:=mG 26
theorem qt:bU nP gp (au fG):=⟨rfl,rfl,rfl,by decide +kernel,rfl,by decide +kernel,by decide +kernel⟩
abbrev kr:Stmt:=mG 27
theorem zI:bU xA kJ (au kr):=⟨rfl,rfl,rfl,by decide +kernel,rfl,by decide +kernel,by decide +kernel⟩
abbrev ja:Stmt:=mG 28
theorem wI:bU uf jo (au ja):=⟨rfl,rfl,rfl,by decide +kernel,rfl,by decide +kernel,by decide +kernel⟩
abbrev eD:Stmt:=mG 29
theorem qu:bU jJ gq (au eD):=⟨rfl,rfl,rfl,by decide +kernel,rfl,by decide +kernel,by decide +kernel⟩
abbrev iu:Stmt:=mG 30
theorem wH:bU pX jm (au iu):=⟨rfl,rfl,rfl,by decide +kernel,rfl,by decide +kernel,by decide +kernel⟩
abbrev lT:Stmt:=mG 31
theorem CG:bU xC mP (au lT):=⟨rfl,rfl,rfl,by decide +kernel,rfl,by decide +kernel,by decide +kernel⟩
abbrev gF:Stmt:=mG 32
theorem uX:bU oN iH (au gF):=⟨rfl,rfl,rfl,by decide +kernel,rfl,by decide +kernel,by decide +kernel⟩
abbrev m6:Stmt:=mG 33
theorem CF:bU AG mO (au m6):=⟨rfl,rfl,rfl,by decide +kernel,rfl,by decide +kernel,by decide +kernel⟩
abbrev hU:Stmt:=mG 34
abbrev iE:List Str:=["_law_program_here","_law_rows","_law_n"]
abbrev qY:List Str:=["_law_program_here","_law_rows","_law_n","_law_row"]
def sD(K:Fg):TS:=(cM (qz (bb (eX K) (aq 2) (bb (sd) (fR (eP K) (af (aq 1) aE)) (tC (.int 1)))) (bb ((vz K true)) (bb (cE K) (aq 3) (tC (.int 0))) (dC (af (tC (.str "jump")) (af (tC (.str "give")) aE))))))
def og(K:Fg):TS:=(bA (cZ (qy (bH (bb ((vz K false)) (bb (cE K) (aq 3) (tC (.int 0))) (dC (af (tC (.str "jump")) (af (tC (.str "test")) aE))))) (EG (bH (bb (pN) (bb (cE K) (aq 3) (Hf zy (tC (.int 1)))) (tC (.int 0)))) (bH (bb (Jh) (bb (cE K) (aq 3) (Hf zy (tC (.int 1)))) (fR (eP K) (af (aq 1) aE)))))) (cM (tC (.bl true))) bW) (sD K))
def sE(K:Fg):TS:=(cM (GI (bb (uP K) (fR (eP K) (af (bb (cE K) (aq 3) (tC (.int 3))) aE)) (fR (eP K) (af (bb (cE K) (bb (cE K) (aq 0) (bb (cE K) (aq 3) (tC (.int 2)))) (tC (.int 1))) aE))) (bb (eX K) (aq 2) (bb (sd) (fR (eP K) (af (aq 1) aE)) (tC (.int 1))))))
def oh(K:Fg):TS:=(bA (cZ (bH (bb (eX K) (bb (cE K) (aq 3) (tC (.int 0))) (tC (.str "call")))) (bA (cZ (EG (bH (bb (pN) (bb (cE K) (aq 3) (tC (.int 2))) (tC (.int 0)))) (bH (bb (Jh) (bb (cE K) (aq 3) (tC (.int 2))) (fR (eP K) (af (aq 0) aE))))) (cM (tC (.bl true))) bW) (sE K)) bW) (og K))
def wO(K:Fg):TS:=(bA (bV (bb (cE K) (aq 1) (aq 2)) (aP 3)) (oh K))
theorem uS:bU qY iE (au hU):=⟨rfl,rfl,rfl,by decide +kernel,rfl,by decide +kernel,by decide +kernel⟩
abbrev kx:Stmt:=mG 35
abbrev kM:List Str:=["_law_rows","_law_n"]
abbrev xD:List Str:=["_law_rows","_law_n","_law_m","_law_turn"]
def Eu(K:Fg):TS:=(cM (bb (eX K) (aq 2) (aq 1)))
def xa(K:Fg):TS:=(cZ (qy (bH (bb (uP K) (aq 2) (aq 1))) (bH (bb (eX K) (bb (cE K) (bb (cE K) (aq 0) (aq 2)) (tC (.int 0))) (tC (.str "jump"))))) (bV (bb (cE K) (bb (cE K) (aq 0) (aq 2)) (tC (.int 1))) (aP 2)) bW)
def xb(K:Fg):TS:=(bA (iR (ju K (aq 0)) (aP 3) (xa K)) (Eu K))
def xc(K:Fg):TS:=(bA (bV (bb (cE K) (bb (cE K) (aq 0) (aq 1)) (tC (.int 1))) (aP 2)) (xb K))
def CY(K:Fg):TS:=(bA (cZ (bH (bb (uP K) (bb (cE K) (bb (cE K) (aq 0) (aq 1)) (tC (.int 0))) (tC (.str "jump")))) (cM (tC (.bl false))) bW) (xc K))
theorem zL:bU xD kM (au kx):=⟨rfl,rfl,rfl,by decide +kernel,rfl,by decide +kernel,by decide +kernel⟩
abbrev fY:Stmt:=mG 36
theorem uY:bU lZ iI (au fY):=⟨rfl,rfl,rfl,by decide +kernel,rfl,by decide +kernel,by decide +kernel⟩
abbrev m7:Stmt:=mG 37
theorem CH:bU AH mQ (au m7):=⟨rfl,rfl,rfl,by decide +kernel,rfl,by decide +kernel,by decide +kernel⟩
abbrev kz:Stmt:=mG 38
theorem zN:bU xF kO (au kz):=⟨rfl,rfl,rfl,by decide +kernel,rfl,by decide +kernel,by decide +kernel⟩
abbrev fi:Stmt:=mG 39
abbrev gQ:List Str:=["_law_program_here","_law_k"]
abbrev kI:List Str:=["_law_program_here","_law_k","_law_name","_law_params","_law_rows","_law_n"]
def qQ(K:Fg):TS:=(cM (jO [5] 0 (ju K (bE (kX K) [] E0 (af (aq 3) (af (aq 4) aE)))) (aP 5) qA (dC (af (aq 5) (af (tC (.str "unset")) aE)))))
def qR(K:Fg):TS:=(cZ (tB (bE (kU K) [] E0 (af (aq 4) (af (aq 5) aE)))) (cM (fZ (af (dC (af (aq 5) (af (tC (.str "ring")) aE))) aE))) bW)
def qS(K:Fg):TS:=(bA (iR (lB (af (fR (eP K) (af (aq 4) aE)) aE)) (aP 5) (qR K)) (qQ K))
def qT(K:Fg):TS:=(cZ (tB (bE (iN K) [] E0 (af (aq 0) (af (aq 4) (af (aq 5) aE))))) (cM (fZ (af (dC (af (aq 5) (af (tC (.str "row")) aE))) aE))) bW)
def qU(K:Fg):TS:=(bA (iR (lB (af (fR (eP K) (af (aq 4) aE)) aE)) (aP 5) (qT K)) (qS K))
def qV(K:Fg):TS:=(bA (cZ (bH (bb (eX K) (fR (eP K) (af (aq 4) aE)) (tC (.int 0)))) (cM (fZ (af (dC (af (tC (.int 0)) (af (tC (.str "row")) aE))) aE))) bW) (qU K))
def qW(K:Fg):TS:=(bA (cZ (EG (bH (bb ((vz K false)) (aq 2) (jO [] 1 (ju K (u5 (r8 K) (aq 0) dU (gJ (aq 1)))) (aP 6) qA (bb (cE K) (aq 6) (tC (.int 0)))))) (bH (bb (pN) (t9 K (af (aq 3) aE)) (fR (eP K) (af (aq 3) aE))))) (cM (fZ (af (dC (af (tC (.int 0)) (af (tC (.str "name")) aE))) aE))) bW) (qV K))
def vo(K:Fg):TS:=(bA (bV (bb (cE K) (aq 0) (aq 1)) (xY K 3 (iT (aP 2) (iT (aP 3) (iT (aP 4) vD))))) (qW K))
theorem sj:bU kI gQ (au fi):=⟨rfl,rfl,rfl,by decide +kernel,rfl,by decide +kernel,by decide +kernel⟩
abbrev qp:Stmt:=mG 40
abbrev mN:List Str:=["_law_program_here"]
abbrev EJ:List Str:=["_law_program_here","_law_k","_law_found"]
def Jz(K:Fg):TS:=(cM (dC (af (Hf zy (tC (.int 1))) (af (tC (.int 0)) (af (tC (.str "")) aE)))))
def CL(K:Fg):TS:=(cZ (bH (bb (Ji K) (aq 2) (fZ aE))) (cM (dC (af (aq 1) (af (bb (cE K) (bb (cE K) (aq 2) (tC (.int 0))) (tC (.int 0))) (af (bb (cE K) (bb (cE K) (aq 2) (tC (.int 0))) (tC (.int 1))) aE))))) bW)
def CM(K:Fg):TS:=(bA (bV (bE (gY K) [] E0 (af (aq 0) (af (aq 1) aE))) (aP 2)) (CL K))
def J0(K:Fg):TS:=(bA (iR (lB (af (fR (eP K) (af (aq 0) aE)) aE)) (aP 1) (CM K)) (Jz K))
theorem GC:bU EJ mN (au qp):=⟨rfl,rfl,rfl,by decide +kernel,rfl,by decide +kernel,by decide +kernel⟩
abbrev gE:Stmt:=mG 41
abbrev iD:List Str:=["_law_state","_law_program_here"]
abbrev oM:List Str:=["_law_state","_law_program_here","_law_found","_law_name","_law_params","_law_rows","_law_some","_law_row","_law_new"]
def zT(K:Fg):TS:=(cM (fR (i9 K) (af (aq 2) aE)))
def sk(K:Fg):TS:=(jf (BD K "list" iB (aq 2) (af (dC (af (aq 3) (af (aq 4) (af (fR (i9 K) (af (aq 8) aE)) aE)))) aE)))
def so(K:Fg):TS:=(jf (BD K "list" iB (aq 8) (af (aq 7) aE)))
def sr(K:Fg):TS:=(bA (cZ (qy (bH (bb (eX K) (bE (bu K) [] E0 (af (aq 0) (af (tC (.int 4)) aE))) (tC (.int 0)))) (bH (bb ((vz K false)) (bb (cE K) (aq 7) (tC (.int 0))) (dC (af (tC (.str "num")) (af (tC (.str "op")) (af (tC (.str "call")) aE))))))) (bV (bb (dr K) (dC (af (bb (cE K) (aq 7) (tC (.int 0))) (af (bb (cE K) (aq 6) (bE (bu K) [] E0 (af (aq 0) (af (fR (eP K) (af (aq 6) aE)) aE)))) aE))) (u5 (r8 K) (aq 7) (gJ (tC (.int 2))) dU)) (aP 7)) bW) (so K))
def su(K:Fg):TS:=(bA (cZ (qy (bH (bb (eX K) (bE (bu K) [] E0 (af (aq 0) (af (tC (.int 3)) aE))) (tC (.int 0)))) (bH (bb (eX K) (bb (cE K) (aq 7) (tC (.int 0))) (tC (.str "op"))))) (bV (bb (dr K) (u5 (r8 K) (aq 7) dU (gJ (tC (.int 3)))) (dC (af (bb (cE K) (aq 6) (bE (bu K) [] E0 (af (aq 0) (af (fR (eP K) (af (aq 6) aE)) aE)))) (af (bb (cE K) (aq 7) (tC (.int 4))) aE)))) (aP 7)) bW) (sr K))
def sv(K:Fg):TS:=(bA (cZ (qy (bH (bb (eX K) (bE (bu K) [] E0 (af (aq 0) (af (tC (.int 3)) aE))) (tC (.int 0)))) (bH (bb ((vz K false)) (bb (cE K) (aq 7) (tC (.int 0))) (dC (af (tC (.str "say")) (af (tC (.str "test")) (af (tC (.str "give")) aE))))))) (bV (bb (dr K) (dC (af (bb (cE K) (aq 7) (tC (.int 0))) (af (bb (cE K) (aq 6) (bE (bu K) [] E0 (af (aq 0) (af (fR (eP K) (af (aq 6) aE)) aE)))) aE))) (u5 (r8 K) (aq 7) (gJ (tC (.int 2))) dU)) (aP 7)) bW) (su K))
def sy(K:Fg):TS:=(bA (iR (ju K (aq 5)) (aP 7) (sv K)) (sk K))
def sA(K:Fg):TS:=(bA (bV (fZ aE) (aP 8)) (sy K))
def sC(K:Fg):TS:=(bA (bV (bb (dr K) (aq 6) (fZ (af (tC (.str "zz")) aE))) (aP 6)) (sA K))
def qB(K:Fg):TS:=(jf (BD K "list" yq (aq 6) (af (jO [] 1 (ju K (u5 (r8 K) (aq 7) (gJ (tC (.int 1))) (gJ (tC (.int 2))))) (aP 9) (tB (fR JV (af (aq 9) (af (tC (.ty "str")) aE)))) (aq 9)) aE)))
def qC(K:Fg):TS:=(bA (iR (ju K (aq 5)) (aP 7) (qB K)) (sC K))
def qD(K:Fg):TS:=(bA (bV (fR (t8 K) (af (aq 4) aE)) (aP 6)) (qC K))
def qE(K:Fg):TS:=(bA (iR (ju K (aq 1)) (xY K 3 (iT (aP 3) (iT (aP 4) (iT (aP 5) vD)))) (qD K)) (zT K))
def wN(K:Fg):TS:=(bA (bV (fZ aE) (aP 2)) (qE K))
theorem uR:bU oM iD (au gE):=⟨rfl,rfl,rfl,by decide +kernel,rfl,by decide +kernel,by decide +kernel⟩
abbrev ky:Stmt:=mG 42
abbrev kN:List Str:=["_law_state"]
abbrev xE:List Str:=["_law_state","_law_rows","_law_n","_law_last"]
def xf(K:Fg):TS:=(cM (dC (af (dC (af (tC (.str "f")) (af (dC aE) (af (bb (dr K) (fR (i9 K) (af (aq 1) aE)) (dC (af (dC (af (tC (.str "say")) (af (aq 3) aE))) (af (dC (af (tC (.str "give")) (af (tC (.str "x")) aE))) aE)))) aE)))) aE)))
def xg(K:Fg):TS:=(bA (bV (bb (cE K) (fZ (af (tC (.str "x")) (af (tC (.str "zz")) aE))) (bE (bu K) [] E0 (af (aq 0) (af (tC (.int 2)) aE)))) (aP 3)) (xf K))
def xh(K:Fg):TS:=(jf (BD K "list" iB (aq 1) (af (dC (af (tC (.str "test")) (af (tC (.str "x")) (af (bb (dr K) (bb (dr K) (aq 2) (tC (.int 1))) (bE (bu K) [] E0 (af (aq 0) (af (bb (sd) (tC (.int 23)) (aq 2)) aE)))) aE)))) aE)))
def xi(K:Fg):TS:=(bA (iR (Fk (af (tC (.int 1)) (af (tC (.int 22)) aE))) (aP 2) (xh K)) (xg K))
def CZ(K:Fg):TS:=(bA (bV (fZ (af (dC (af (tC (.str "num")) (af (tC (.str "x")) (af (bE (bu K) [] E0 (af (aq 0) (af (tC (.int 2)) aE))) aE)))) aE)) (aP 1)) (xi K))
theorem zM:bU xE kN (au ky):=⟨rfl,rfl,rfl,by decide +kernel,rfl,by decide +kernel,by decide +kernel⟩
abbrev m8:Stmt:=mG 43
abbrev mR:List Str:=["_law_program_here"]
abbrev AI:List Str:=["_law_program_here","_law_said","e"]
def GZ(K:Fg):TS:=(cM (aq 1))
def Aq(K:Fg):TS:=(bA (Jy K (cS K "NoProgram") 3 2 (λEin=>(cZ (bH (bb (Mp) (bE (fM K) [] Ein (af (aq 0) aE)) (tC .non))) (bV (dC (af (Hf zy (tC (.int 1))) (af (tC (.int 0)) (af (tC (.str "")) aE)))) (aP 1)) bW)) (bV (dC (af (zS K (aq 2) "part") (af (zS K (aq 2) "row") (af (zS K (aq 2) "word") aE)))) (aP 1))) (GZ K))
def GY(K:Fg):TS:=(bA (bV (dC (af (tC (.str "none")) (af (tC (.int 0)) (af (tC (.str "")) aE)))) (aP 1)) (Aq K))
theorem CI:bU AI mR (au m8):=⟨rfl,rfl,rfl,by decide +kernel,rfl,by decide +kernel,by decide +kernel⟩
abbrev hV:Stmt:=mG 44
abbrev iF:List Str:=["_law_program_here"]
abbrev qZ:List Str:=["_law_program_here","_law_said","e"]
def zU(K:Fg):TS:=(cM (aq 1))
def sF(K:Fg):TS:=(bA (Jy K (cS K "BeltError") 3 2 (λEin=>(jf (bE (fM K) [] Ein (af (aq 0) aE)))) (bV (fZ (af (fR (Cz K) (af (aq 2) (af (tC (.ty "ValueError")) aE))) (af (fR (Cz K) (af (aq 2) (af (tC (.ref (cS K "NoProgram"))) aE))) (af (fR (Cz K) (af (aq 2) (af (dC (af (tC (.ref (cS K "NoLine"))) (af (tC (.ref (cS K "Short"))) aE))) aE))) aE)))) (aP 1))) (zU K))
def wQ(K:Fg):TS:=(bA (bV (fZ aE) (aP 1)) (sF K))
theorem uT:bU qZ iF (au hV):=⟨rfl,rfl,rfl,by decide +kernel,rfl,by decide +kernel,by decide +kernel⟩
abbrev ku:Stmt:=mG 45
abbrev kK:List Str:=["_law_program_here"]
abbrev xB:List Str:=["_law_program_here","_law_due_here","_law_found"]
def wR(K:Fg):TS:=(cM (GI (bb (Ll K) (bb (cE K) (aq 1) (tC (.int 0))) (Hf zy (tC (.int 1)))) (bb (Ll K) (bE (iO K) [] E0 (af (aq 0) aE)) (fZ (af (tC (.bl true)) (af (tC (.bl true)) (af (tC (.bl false)) aE)))))))
def wU(K:Fg):TS:=(bA (cZ (EG (bH (bb (Ji K) (aq 2) (aq 1))) (EG (tB (fR Gp (af (bb (cE K) (aq 2) (tC (.int 0))) (af (tC (.ty "bool")) aE)))) (tB (fR Gp (af (bb (cE K) (aq 2) (tC (.int 1))) (af (tC (.ty "bool")) aE)))))) (cM (tC (.bl false))) bW) (wR K))
def wV(K:Fg):TS:=(bA (bV (bE (nh K) [] E0 (af (aq 0) aE)) (aP 2)) (wU K))
def CV(K:Fg):TS:=(bA (bV (bE (lU K) [] E0 (af (aq 0) aE)) (aP 1)) (wV K))
theorem zJ:bU xB kK (au ku):=⟨rfl,rfl,rfl,by decide +kernel,rfl,by decide +kernel,by decide +kernel⟩
abbrev nB:Stmt:=mG 46
abbrev uj:List Str:=["_law_script"]
abbrev EK:List Str:=["_law_script","_law_state","_law_rough","_law_good","_law_program_here"]
def CN(K:Fg):TS:=(cM (qz (bE (je K) [] E0 (af (aq 4) aE)) (qz (bE (je K) [] E0 (af (aq 3) aE)) (qz (bb (eX K) (bb (cE K) (bE (lU K) [] E0 (af (aq 3) aE)) (tC (.int 0))) (Hf zy (tC (.int 1)))) (bE (je K) [] E0 (af (aq 4) aE))))))
def CO(K:Fg):TS:=(bA (cZ (bH (bb (eX K) (bE (bu K) [] E0 (af (aq 1) (af (tC (.int 16)) aE))) (tC (.int 5)))) (bV (bE (kW K) [] E0 (af (aq 1) aE)) (aP 4)) bW) (CN K))
def CP(K:Fg):TS:=(bA (cZ (bH (bb (eX K) (aq 2) (tC (.int 1)))) (bV (bE (iM K) [] E0 (af (aq 1) (af (aq 3) aE))) (aP 4)) bW) (CO K))
def CQ(K:Fg):TS:=(bA (bV (aq 3) (aP 4)) (CP K))
def CS(K:Fg):TS:=(bA (bV (bE (iP K) [] E0 (af (aq 1) (af (tC (.int 10)) aE))) (aP 3)) (CQ K))
def CT(K:Fg):TS:=(bA (bV (bE (bu K) [] E0 (af (aq 1) (af (tC (.int 2)) aE))) (aP 2)) (CS K))
def J1(K:Fg):TS:=(bA (bV (fZ (af (aq 0) (af (tC (.int 0)) (af (tC (.int 0)) aE)))) (aP 1)) (CT K))
theorem GD:bU EK uj (au nB):=⟨rfl,rfl,rfl,by decide +kernel,rfl,by decide +kernel,by decide +kernel⟩
section
variable{P:Program}{w:World}{K:Fg}{mg:Str->Option Value}{base:Heap}{f:Addr}{cdv:Value}{A:Around}{outer:List Env}{s:Shared}{H:Hp}{E:XK}
theorem Dk(B:gf mg)
  (hr:df DD (A.deeper (envOfC "reads" (au h9) s.heap.objs.size f cdv))):jg (eE fH P w K mg base rf "reads" (au h9) f cdv A outer s H E).nox (aO h9) (w6 K):=by
 have nd:=uW.nd
 have hu:=hr.units0
 have hu1:=dH hr
 refine j6.up ?_
 exact(aw (bx (i:=1) nd rfl (Or.inl rfl) (aQ aF (qv 0) ay (λ_ _=>rfl))) (aw (cf (aT (cy hu) (qv 1) aR rfl) (aB (bw (bR (ae (aQ aF (qv 0) ay (λ_ _=>rfl)) (ae (aQ aF (qv 0) ay (λ_ _=>rfl)) av))))) bo) (aw (cf (aT (cy hu) (qv 1) aR rfl) (aB (bw (dG eh rfl B.tuple_ boot_tuple (ae (aQ aF (qv 0) ay (λ_ _=>rfl)) av)))) bo) (aw (cf (aT fv (qv 1) (bR (ae aR (ae aR (ae aR av)))) rfl) (aB (bw (bR (ae (aQ aF (qv 0) ay (λ_ _=>rfl)) av)))) bo) (aB (bw (bR av)))))))
theorem uy(B:gf mg)(c_p_reads:aL P w K mg base "reads" gk kD (fO K))
  (hr:df uI (A.deeper (envOfC "names_read" (au dQ) s.heap.objs.size f cdv))):jg (eE fH P w K mg base kH "names_read" (au dQ) f cdv A outer s H E).nox (aO dQ) (oo K):=by
 have nd:=nC.nd
 have hu:=hr.units0
 have hu1:=dH hr
 refine j6.up ?_
 exact(aw (bx (i:=1) nd rfl (Or.inl rfl) zw) (aw (eC PassesOwn.never rfl (fo (qv 0)) (bL (i:=2) nd rfl (Or.inl rfl)) (aB (eC PassesOwn.never rfl (fo (bQ c_p_reads (hr.mono (by decide)) rfl (ae (qv 2) av))) (bL (i:=3) nd rfl (Or.inl rfl)) (aB (i6 jM (jV (qv 1) (qv 3) (uZ hu1))))))) (aB (bw (dG (AO rfl) rfl B.list_ boot_list (ae (qv 1) av))))))
theorem E2(B:gf mg)
  (hr:df Fo (A.deeper (envOfC "sets" (au jc) s.heap.objs.size f cdv))):jg (eE fH P w K mg base uh "sets" (au jc) f cdv A outer s H E).nox (aO jc) (Ak K):=by
 have nd:=wK.nd
 have hu:=hr.units0
 have hu1:=dH hr
 refine j6.up ?_
 exact(aw (cf (aT fv (aQ aF (qv 0) ay (λ_ _=>rfl)) (bR (ae aR (ae aR (ae aR av)))) rfl) (aB (bw (aQ aF (qv 0) ay (λ_ _=>rfl)))) bo) (aB (bw mY)))
theorem EZ(B:gf mg)
  (hr:df Fn (A.deeper (envOfC "goal" (au jb) s.heap.objs.size f cdv))):jg (eE fH P w K mg base ug "goal" (au jb) f cdv A outer s H E).nox (aO jb) (Ab K):=by
 have nd:=wJ.nd
 have hu:=hr.units0
 have hu1:=dH hr
 refine j6.up ?_
 exact(aw (cf (aT (cy hu) (aQ aF (qv 0) ay (λ_ _=>rfl)) aR rfl) (aB (bw (aQ aF (qv 0) ay (λ_ _=>rfl)))) bo) (aw (cf (aT (cy hu) (aQ aF (qv 0) ay (λ_ _=>rfl)) aR rfl) (aB (bw (aQ aF (qv 0) ay (λ_ _=>rfl)))) bo) (aB (bw mY))))
theorem Dj(B:gf mg)(c_p_goal:aL P w K mg base "goal" fW jI (eJ K))
  (hr:df DC (A.deeper (envOfC "leads" (au hZ) s.heap.objs.size f cdv))):jg (eE fH P w K mg base q9 "leads" (au hZ) f cdv A outer s H E).nox (aO hZ) (w5 K):=by
 have nd:=uV.nd
 have hu:=hr.units0
 have hu1:=dH hr
 refine j6.up ?_
 exact(aw (bx (i:=2) nd rfl (Or.inl rfl) (aQ aF (aQ aF (qv 0) (qv 1) (λ_ _=>rfl)) ay (λ_ _=>rfl))) (aw (cf (aT (cy hu) (qv 2) aR rfl) (aB (bw (bR av))) bo) (aw (cf (aT (cy hu) (qv 2) aR rfl) (aB (bw (bR (ae (bQ c_p_goal (hr.mono (by decide)) rfl (ae (aQ aF (qv 0) (qv 1) (λ_ _=>rfl)) av)) av)))) bo) (aw (cf (aT (cy hu) (qv 2) aR rfl) (aB (bw (bR (ae (bS cw (qv 1) ay) (ae (bQ c_p_goal (hr.mono (by decide)) rfl (ae (aQ aF (qv 0) (qv 1) (λ_ _=>rfl)) av)) av))))) bo) (aB (bw (bR (ae (bS cw (qv 1) ay) av))))))))
theorem AS(B:gf mg)(c_p_sets:aL P w K mg base "sets" jq pW (jA K))(c_p_leads:aL P w K mg base "leads" iG oH (gW K))
  (hr:df A6 (A.deeper (envOfC "walked" (au eQ) s.heap.objs.size f cdv))):jg (eE fH P w K mg base pE "walked" (au eQ) f cdv A outer s H E).nox (aO eQ) (vn K):=by
 have nd:=si.nd
 have hu:=hr.units0
 have hu1:=dH hr
 refine j6.up ?_
 exact(aw (bx (i:=2) nd rfl (Or.inl rfl) (I0 (Gh ay jM Jd) rfl rfl (by simp) (by decide))) (aw (bx (i:=3) nd rfl (Or.inl rfl) (cR (ae ay av))) (aw (qo PassesOwn.never (aT FP (bq bK rfl B.len_ boot_len (ae (qv 3) av)) ay rfl) (aw (bx (i:=4) nd rfl (Or.inl rfl) (Ge bF PySem.F.slot_list_pop PySem.F.type_list_pop FF (qv 3))) (aB (cf (QW.pt (oX (aT FQ (qv 1) mY rfl) (mZ (aT (lP hu) (bQ c_p_sets (hr.mono (by decide)) rfl (ae (aQ aF (qv 0) (qv 4) (λ_ _=>rfl)) av)) (qv 1) rfl)))) (aB (eC PassesOwn.never rfl (fo (bQ c_p_leads (hr.mono (by decide)) rfl (ae (qv 0) (ae (qv 4) av)))) (bL (i:=5) nd rfl (Or.inl rfl)) (aB (cf (aT (wF hu1) (qv 5) (qv 2) rfl) (aw (i6 jM (jV (qv 2) (qv 5) (uZ hu1))) (aB (fE (mq bF b5 cb fX (qv 3) (ae (qv 5) av))))) bo)))) bo)))) (aB (bw (bq (AQ rfl) rfl B.sorted_ boot_sorted (ae (qv 2) av)))))))
theorem vC(B:gf mg)(c_p_names_read:aL P w K mg base "names_read" eO i4 (eR K))(c_p_walked:aL P w K mg base "walked" gP mJ (gX K))(c_p_reads:aL P w K mg base "reads" gk kD (fO K))
  (hr:df vE (A.deeper (envOfC "unset_due" (au dI) s.heap.objs.size f cdv))):jg (eE fH P w K mg base jE "unset_due" (au dI) f cdv A outer s H E).nox (aO dI) (pj K):=by
 have nd:=oa.nd
 have hu:=hr.units0
 have hu1:=dH hr
 refine j6.up ?_
 exact(aw (bx (i:=1) nd rfl (Or.inr rfl) (aQ aF (qv 0) ay (λ_ _=>rfl))) (aw (bx (i:=2) nd rfl (Or.inl rfl) (cR av)) (aw (eC PassesOwn.never rfl (fo (bQ c_p_names_read (hr.mono (by decide)) rfl (ae (qv 1) av))) (bL (i:=3) nd rfl (Or.inr rfl)) (aB (cf (aT gr (qv 3) (aQ aF (qv 0) ay (λ_ _=>rfl)) rfl) (aB (fE (mq bF PySem.F.slot_list_extend PySem.F.type_list_extend wA (qv 2) (ae (mX (sc:=au dI) (N:=jE) (NY:=["part","rows","due","name","n"]) (js:=[]) (k:=1) ⟨rfl,by decide +kernel,by decide +kernel,by decide +kernel,rfl,by decide +kernel⟩ rfl rfl rfl rfl (fo (bQ c_p_walked (hr.mono (by decide)) rfl (ae (qv 1) (ae (qv 3) av)))) (λ_ _ _ _ _=>(bL (i:=4) (show List.Nodup (["part","rows","due","name","n"]:List Str) by decide +kernel) rfl (Or.inl rfl))) (λ_ _ _ _ _=>(tZ (aT fv (qv 3) (bQ c_p_reads (hr.mono (by decide)) rfl (ae (aQ aF (qv 1) (qv 4) (λ_ _=>rfl)) av)) rfl))) (λ_ _ _ _ _=>(qv 4))) av)))) bo))) (aB (bw (Ja rfl rfl B.min_ (ae (qv 2) av)))))))
theorem rq(B:gf mg)
  (hr:df rA (A.deeper (envOfC "NoProgram.__init__" (au dm) s.heap.objs.size f cdv))):jg (eE fH P w K mg base jj "NoProgram.__init__" (au dm) f cdv A outer s H E).nox (aO dm) (mz K):=by
 have nd:=lF.nd
 have hu:=hr.units0
 have hu1:=dH hr
 refine j6.up ?_
 exact(aw (yo (qv 0) (qv 1) rfl) (aw (yo (qv 0) (qv 2) rfl) (aB (yo (qv 0) (qv 3) rfl))))
theorem AR(B:gf mg)(mx_NoProgram:B9 P w K mg base "NoProgram" (cS K "NoProgram") dN g8 (dR K))
  (hr:df A5 (A.deeper (envOfC "refuse" (au gs) s.heap.objs.size f cdv))):jg (eE (Az P w) P w K mg base pD "refuse" (au gs) f cdv A outer s H E) (aO gs) (vk K E):=by
 have nd:=sf.nd
 have hu:=hr.units0
 have hu1:=dH hr
 refine j6.up ?_
 exact(aB (cf (aT Cv (qv 1) mY rfl) (aB (Gi yb hr.hd (Gf mx_NoProgram (hr.mono (by decide)) rfl (by decide) (ae (qv 0) (ae (qv 1) (ae (qv 2) av)))))) bo))
theorem sZ(B:gf mg)(c_p_goal:aL P w K mg base "goal" fW jI (eJ K))
  (hr:df tu (A.deeper (envOfC "comes_round" (au dE) s.heap.objs.size f cdv))):jg (eE fH P w K mg base jS "comes_round" (au dE) f cdv A outer s H E).nox (aO dE) (nE K):=by
 have nd:=mx.nd
 have hu:=hr.units0
 have hu1:=dH hr
 refine j6.up ?_
 exact(aw (bx (i:=2) nd rfl (Or.inl rfl) zw) (aw (bx (i:=3) nd rfl (Or.inl rfl) (qv 1)) (aw (qo PassesOwn.never (QW.pt (lS (aT (cy hu) (aQ aF (aQ aF (qv 0) (qv 3) (λ_ _=>rfl)) ay (λ_ _=>rfl)) aR rfl) (kq (aT (wF hu1) (qv 3) (qv 2) rfl)))) (aw (i6 jM (jV (qv 2) (qv 3) (uZ hu1))) (aB (bx (i:=3) nd rfl (Or.inl rfl) (bQ c_p_goal (hr.mono (by decide)) rfl (ae (aQ aF (qv 0) (qv 3) (λ_ _=>rfl)) av)))))) (aB (bw (pL (eI (cy hu) (qv 3) (qv 1) rfl) (n5 (eI (KD hu1) (qv 1) (qv 2) rfl))))))))
theorem xT(B:gf mg)(c_p_comes_round:aL P w K mg base "comes_round" d7 iy (ee K))
  (hr:df x9 (A.deeper (envOfC "ring_due" (au eY) s.heap.objs.size f cdv))):jg (eE fH P w K mg base mL "ring_due" (au eY) f cdv A outer s H E).nox (aO eY) (qM K):=by
 have nd:=oZ.nd
 have hu:=hr.units0
 have hu1:=dH hr
 refine j6.up ?_
 exact(aw (eC PassesOwn.never rfl (fz rfl B.range_ (ae (bq bK rfl B.len_ boot_len (ae (qv 0) av)) av)) (bL (i:=1) nd rfl (Or.inl rfl)) (aB (cf (i8 (bQ c_p_comes_round (hr.mono (by decide)) rfl (ae (qv 0) (ae (qv 1) av)))) (aB (bw (qv 1))) bo))) (aB (bw mY)))
theorem sY(B:gf mg)
  (hr:df tm (A.deeper (envOfC "calls_amiss" (au dD) s.heap.objs.size f cdv))):jg (eE fH P w K mg base iA "calls_amiss" (au dD) f cdv A outer s H E).nox (aO dD) (jX K):=by
 have nd:=mw.nd
 have hu:=hr.units0
 have hu1:=dH hr
 refine j6.up ?_
 exact(aw (cf (aT (lP hu) (aQ aF (qv 1) ay (λ_ _=>rfl)) aR rfl) (aB (bw jM)) bo) (aw (bx (i:=2) nd rfl (Or.inl rfl) (aQ aF (qv 1) ay (λ_ _=>rfl))) (aw (cf (QW.pt (oX (aT lC (qv 2) ay rfl) (mZ (aT Cu (qv 2) (bq bK rfl B.len_ boot_len (ae (qv 0) av)) rfl)))) (aB (bw jM)) bo) (aB (bw (eI (lP hu) (bq bK rfl B.len_ boot_len (ae (aQ aF (qv 1) ay (λ_ _=>rfl)) av)) (bq bK rfl B.len_ boot_len (ae (aQ aF (aQ aF (qv 0) (qv 2) (λ_ _=>rfl)) ay (λ_ _=>rfl)) av)) rfl))))))
theorem tf(B:gf mg)(c_p_goal:aL P w K mg base "goal" fW jI (eJ K))
  (hr:df tw (A.deeper (envOfC "goes_astray" (au dF) s.heap.objs.size f cdv))):jg (eE fH P w K mg base jT "goes_astray" (au dF) f cdv A outer s H E).nox (aO dF) (nF K):=by
 have nd:=my.nd
 have hu:=hr.units0
 have hu1:=dH hr
 refine j6.up ?_
 exact(aw (bx (i:=2) nd rfl (Or.inl rfl) (bQ c_p_goal (hr.mono (by decide)) rfl (ae (qv 1) av))) (aB (bw (pL (eI Cv (qv 2) mY rfl) (n5 (Gg (eI lC (qv 2) ay rfl) (n5 (eI Cu (qv 2) (bq bK rfl B.len_ boot_len (ae (qv 0) av)) rfl))))))))
theorem yR(B:gf mg)(c_p_calls_amiss:aL P w K mg base "calls_amiss" d6 iw (d9 K))(c_p_goes_astray:aL P w K mg base "goes_astray" d8 iz (ef K))
  (hr:df yZ (A.deeper (envOfC "row_due" (au fF) s.heap.objs.size f cdv))):jg (eE fH P w K mg base nO "row_due" (au fF) f cdv A outer s H E).nox (aO fF) (sH K):=by
 have nd:=qr.nd
 have hu:=hr.units0
 have hu1:=dH hr
 refine j6.up ?_
 exact(aw (bx (i:=2) nd rfl (Or.inl rfl) (aQ aF (aQ aF (qv 0) (qv 1) (λ_ _=>rfl)) ay (λ_ _=>rfl))) (aw (cf (aT (cy hu) (bq bK rfl B.len_ boot_len (ae (qv 2) av)) ay rfl) (aB (bw ay)) bo) (aw (eC PassesOwn.never rfl (zx rfl B.enumerate_ (ae (qv 2) av)) (pM rfl (dY (bL (i:=3) nd rfl (Or.inl rfl)) (dY (bL (i:=4) nd rfl (Or.inl rfl)) lD))) (aB (cf (QW.pt (oX (i8 (bQ c_p_goes_astray (hr.mono (by decide)) rfl (ae (qv 2) (ae (qv 4) av)))) (mZ (i8 (bQ c_p_calls_amiss (hr.mono (by decide)) rfl (ae (qv 0) (ae (qv 4) av))))))) (aB (bw (qv 3))) bo))) (aw (cf (aT gr (aQ aF (aQ aF (qv 2) (rZ oB ay) (λ_ _=>rfl)) ay (λ_ _=>rfl)) (bR (ae aR (ae aR av))) rfl) (aB (bw (bS nZ (bq bK rfl B.len_ boot_len (ae (qv 2) av)) ay))) bo) (aB (bw mY))))))
theorem xS(B:gf mg)
  (hr:df x8 (A.deeper (envOfC "name_due" (au eA) s.heap.objs.size f cdv))):jg (eE fH P w K mg base ke "name_due" (au eA) f cdv A outer s H E).nox (aO eA) (qL K):=by
 have nd:=oY.nd
 have hu:=hr.units0
 have hu1:=dH hr
 refine j6.up ?_
 exact(aw (bx (i:=2) nd rfl (Or.inl rfl) (aQ aF (aQ aF (qv 0) (qv 1) (λ_ _=>rfl)) ay (λ_ _=>rfl))) (aw (bx (i:=3) nd rfl (Or.inl rfl) (aQ aF (aQ aF (qv 0) (qv 1) (λ_ _=>rfl)) ay (λ_ _=>rfl))) (aw (cf (aT fv (qv 2) (mX (sc:=au eA) (N:=ke) (NY:=["program","k","name","params","part"]) (js:=[]) (k:=1) ⟨rfl,by decide +kernel,by decide +kernel,by decide +kernel,rfl,by decide +kernel⟩ rfl rfl rfl rfl (fo (fh iL (qv 0) gI (fQ (qv 1)))) (λ_ _ _ _ _=>(bL (i:=4) (show List.Nodup (["program","k","name","params","part"]:List Str) by decide +kernel) rfl (Or.inl rfl))) (λ_ _ _ _ _=>ko) (λ_ _ _ _ _=>(aQ aF (qv 4) ay (λ_ _=>rfl)))) rfl) (aB (bw ay)) bo) (aw (cf (aT lC (wG rfl rfl B.len_ B.set_ rfl (ae (qv 3) av)) (bq bK rfl B.len_ boot_len (ae (qv 3) av)) rfl) (aB (bw ay)) bo) (aB (bw mY))))))
theorem Di(B:gf mg)(c_p_unset_due:aL P w K mg base "unset_due" fg jD (fj K))(c_p_refuse:j8 P w K mg base "refuse" gO mI (eZ K))(c_p_ring_due:aL P w K mg base "ring_due" fL kc (fP K))(c_p_row_due:aL P w K mg base "row_due" gm lx (gu K))(c_p_name_due:aL P w K mg base "name_due" fK j9 (fN K))
  (hr:df DB (A.deeper (envOfC "check" (au hW) s.heap.objs.size f cdv))):jg (eE (Az P w) P w K mg base q5 "check" (au hW) f cdv A outer s H E) (aO hW) (w4 K E):=by
 have nd:=uU.nd
 have hu:=hr.units0
 have hu1:=dH hr
 refine j6.up ?_
 exact(aB (eC PassesOwn.leaving rfl (zx rfl B.enumerate_ (ae (qv 0) av)) (pM rfl (dY (bL (i:=1) nd rfl (Or.inl rfl)) (dY (bL (i:=2) nd rfl (Or.inl rfl)) lD))) (aw (fE (rK c_p_refuse (hr.mono (by decide)) rfl mW (ae (qv 1) (ae (bQ c_p_name_due (hr.mono (by decide)) rfl (ae (qv 0) (ae (qv 1) av))) (ae aR av))))) (aw (fE (rK c_p_refuse (hr.mono (by decide)) rfl mW (ae (qv 1) (ae (bQ c_p_row_due (hr.mono (by decide)) rfl (ae (qv 0) (ae (qv 1) av))) (ae aR av))))) (aw (fE (rK c_p_refuse (hr.mono (by decide)) rfl mW (ae (qv 1) (ae (bQ c_p_ring_due (hr.mono (by decide)) rfl (ae (aQ aF (qv 2) ay (λ_ _=>rfl)) av)) (ae aR av))))) (aB (fE (rK c_p_refuse (hr.mono (by decide)) rfl mW (ae (qv 1) (ae (bQ c_p_unset_due (hr.mono (by decide)) rfl (ae (qv 2) av)) (ae aR av)))))))))))
theorem Dh(B:gf mg)(g_BeltError:mg "BeltError"=some (.ref (cS K "BeltError")))(z_ValueError:mg "ValueError"=none)(g_NoProgram:mg "NoProgram"=some (.ref (cS K "NoProgram")))(g_NoLine:mg "NoLine"=some (.ref (cS K "NoLine")))(g_Short:mg "Short"=some (.ref (cS K "Short")))(c_p_check:j8 P w K mg base "check" gj kC (fM K))
  (hr:df DA (A.deeper (envOfC "_law_classes" (au hV) s.heap.objs.size f cdv))):jg (eE fH P w K mg base qZ "_law_classes" (au hV) f cdv A outer s H E).nox (aO hV) (wQ K):=by
 have nd:=uT.nd
 have hu:=hr.units0
 have hu1:=dH hr
 refine j6.up ?_
 exact(aw (bx (i:=1) nd rfl (Or.inl rfl) (cR av)) (aw (Gj (i:=2) rfl rfl rfl rfl g_BeltError nd rfl rfl (λpl E1 Ein hp=>(aB (fE (rK c_p_check (hr.mono (by decide)) rfl hp (ae (qv 0) av))))) (λx=>(aB (bx (i:=1) nd rfl (Or.inl rfl) (cR (ae (bq rj rfl B.isinstance_ boot_isinstance (ae (qv 2) (ae (qm rfl z_ValueError sX (v:=.ty "ValueError") rfl) av))) (ae (bq rj rfl B.isinstance_ boot_isinstance (ae (qv 2) (ae (Bw rfl g_NoProgram) av))) (ae (bq rj rfl B.isinstance_ boot_isinstance (ae (qv 2) (ae (bR (ae (Bw rfl g_NoLine) (ae (Bw rfl g_Short) av))) av))) av)))))))) (aB (bw (qv 1)))))
theorem Kc(B:gf mg)(g_NoProgram:mg "NoProgram"=some (.ref (cS K "NoProgram")))(c_p_check:j8 P w K mg base "check" gj kC (fM K))
  (hr:df Kp (A.deeper (envOfC "_law_told" (au m8) s.heap.objs.size f cdv))):jg (eE fH P w K mg base AI "_law_told" (au m8) f cdv A outer s H E).nox (aO m8) (GY K):=by
 have nd:=CI.nd
 have hu:=hr.units0
 have hu1:=dH hr
 refine j6.up ?_
 exact(aw (bx (i:=1) nd rfl (Or.inl rfl) (bR (ae aR (ae ay (ae aR av))))) (aw (Gj (i:=2) rfl rfl rfl rfl g_NoProgram nd rfl rfl (λpl E1 Ein hp=>(aB (cf (aT FQ (rK c_p_check (hr.mono (by decide)) rfl hp (ae (qv 0) av)) mY rfl) (aB (bx (i:=1) nd rfl (Or.inl rfl) (bR (ae (rZ oB ay) (ae ay (ae aR av)))))) bo))) (λx=>(aB (bx (i:=1) nd rfl (Or.inl rfl) (bR (ae (yn (qv 2) rfl) (ae (yn (qv 2) rfl) (ae (yn (qv 2) rfl) av)))))))) (aB (bw (qv 1)))))
theorem Kb(B:gf mg)
  (hr:df Ko (A.deeper (envOfC "_law_read" (au m7) s.heap.objs.size f cdv))):jg (eE fH P w K mg base AH "_law_read" (au m7) f cdv A outer s H E).nox (aO m7) (GU K):=by
 have nd:=CH.nd
 have hu:=hr.units0
 have hu1:=dH hr
 refine j6.up ?_
 exact(aw (cf (aT (cy hu) (aQ aF (qv 0) ay (λ_ _=>rfl)) aR rfl) (aB (bw (cR (ae (aQ aF (qv 0) ay (λ_ _=>rfl)) (ae (aQ aF (qv 0) ay (λ_ _=>rfl)) av))))) bo) (aw (cf (aT (cy hu) (aQ aF (qv 0) ay (λ_ _=>rfl)) aR rfl) (aB (bw (dG kh rfl B.list_ boot_list (ae (aQ aF (qv 0) ay (λ_ _=>rfl)) av)))) bo) (aw (cf (aT fv (aQ aF (qv 0) ay (λ_ _=>rfl)) (bR (ae aR (ae aR (ae aR av)))) rfl) (aB (bw (cR (ae (aQ aF (qv 0) ay (λ_ _=>rfl)) av)))) bo) (aB (bw (cR av))))))
theorem J9(B:gf mg)
  (hr:df Km (A.deeper (envOfC "_law_next" (au m6) s.heap.objs.size f cdv))):jg (eE fH P w K mg base AG "_law_next" (au m6) f cdv A outer s H E).nox (aO m6) (GP K):=by
 have nd:=CF.nd
 have hu:=hr.units0
 have hu1:=dH hr
 refine j6.up ?_
 exact(aw (cf (aT (cy hu) (aQ aF (aQ aF (qv 0) (qv 1) (λ_ _=>rfl)) ay (λ_ _=>rfl)) aR rfl) (aB (bw (cR (ae (aQ aF (aQ aF (qv 0) (qv 1) (λ_ _=>rfl)) ay (λ_ _=>rfl)) av)))) bo) (aw (cf (aT (cy hu) (aQ aF (aQ aF (qv 0) (qv 1) (λ_ _=>rfl)) ay (λ_ _=>rfl)) aR rfl) (aB (bw (cR (ae (bS cw (qv 1) ay) (ae (aQ aF (aQ aF (qv 0) (qv 1) (λ_ _=>rfl)) ay (λ_ _=>rfl)) av))))) bo) (aw (cf (aT (cy hu) (aQ aF (aQ aF (qv 0) (qv 1) (λ_ _=>rfl)) ay (λ_ _=>rfl)) aR rfl) (aB (bw (cR av))) bo) (aB (bw (cR (ae (bS cw (qv 1) ay) av)))))))
theorem Do(B:gf mg)(c_next:aL P w K mg base "_law_next" mO xt (kB K))
  (hr:df DF (A.deeper (envOfC "_law_without" (au fY) s.heap.objs.size f cdv))):jg (eE fH P w K mg base lZ "_law_without" (au fY) f cdv A outer s H E).nox (aO fY) (xo K):=by
 have nd:=uY.nd
 have hu:=hr.units0
 have hu1:=dH hr
 refine j6.up ?_
 exact(aw (bx (i:=3) nd rfl (Or.inr rfl) (mX (sc:=au fY) (N:=lZ) (NY:=["_law_params","_law_rows","_law_x","_law_there","_law_left","_law_n","_law_m"]) (js:=[5]) (k:=0) ⟨rfl,by decide +kernel,by decide +kernel,by decide +kernel,rfl,by decide +kernel⟩ rfl rfl rfl rfl (fz rfl B.range_ (ae (bq bK rfl B.len_ boot_len (ae (qv 1) av)) av)) (λ_ _ _ _ _=>(bL (i:=5) (show List.Nodup (["_law_params","_law_rows","_law_x","_law_there","_law_left","_law_n","_law_m"]:List Str) by decide +kernel) rfl (Or.inl rfl))) (λ_ _ _ _ _=>ko) (λ_ _ _ _ _=>(pL (eI (cy hu) (qv 5) ay rfl) (n5 (eI gr (qv 2) (qv 0) rfl)))))) (aw (oQ (i:=4) (sc:=au fY) (N:=lZ) (NY:=["_law_params","_law_rows","_law_x","_law_there","_law_left","_law_n","_law_m"]) (js:=[5]) (k:=0) ⟨rfl,by decide +kernel,by decide +kernel,by decide +kernel,rfl,by decide +kernel⟩ rfl rfl rfl rfl (fz rfl B.range_ (ae (bq bK rfl B.len_ boot_len (ae (qv 1) av)) av)) (λ_ _ _ _ _=>(bL (i:=5) (show List.Nodup (["_law_params","_law_rows","_law_x","_law_there","_law_left","_law_n","_law_m"]:List Str) by decide +kernel) rfl (Or.inl rfl))) (λ_ _ _ _ _=>(tZ (i8 (aQ aF (qv 3) (qv 5) (λ_ _=>rfl))))) (λ_ _ _ _ _=>(qv 5)) nd rfl (Or.inl rfl) rfl) (aw (qo PassesOwn.never (aT (lP hu) (qv 4) (cR av) rfl) (aw (bx (i:=5) nd rfl (Or.inl rfl) (Ge bF PySem.F.slot_list_pop PySem.F.type_list_pop FF (qv 4))) (aB (cf (QW.pt (oX (aT gr (aQ aF (aQ aF (qv 1) (qv 5) (λ_ _=>rfl)) ay (λ_ _=>rfl)) (bR (ae aR (ae aR (ae aR av)))) rfl) (mZ (aT (lP hu) (aQ aF (aQ aF (qv 1) (qv 5) (λ_ _=>rfl)) ay (λ_ _=>rfl)) (qv 2) rfl)))) (aB (eC PassesOwn.never rfl (fo (bQ c_next (hr.mono (by decide)) rfl (ae (qv 1) (ae (qv 5) av)))) (bL (i:=6) nd rfl (Or.inl rfl)) (aB (cf (Lk (i8 (aQ aF (qv 3) (qv 6) (λ_ _=>rfl)))) (aw (i6 jM (jV (qv 3) (qv 6) jd)) (aB (fE (mq bF b5 cb fX (qv 4) (ae (qv 6) av))))) bo)))) bo)))) (aB (bw (qv 3))))))
theorem HE(B:gf mg)(c_read:aL P w K mg base "_law_read" mQ xw (ng K))(c_without:aL P w K mg base "_law_without" iI oK (iQ K))
  (hr:df HX (A.deeper (envOfC "_law_unset" (au kz) s.heap.objs.size f cdv))):jg (eE fH P w K mg base xF "_law_unset" (au kz) f cdv A outer s H E).nox (aO kz) (C1 K):=by
 have nd:=zN.nd
 have hu:=hr.units0
 have hu1:=dH hr
 refine j6.up ?_
 exact(aw (bx (i:=2) nd rfl (Or.inl rfl) (cR av)) (aw (eC PassesOwn.never rfl (fz rfl B.range_ (ae (bq bK rfl B.len_ boot_len (ae (qv 1) av)) av)) (bL (i:=3) nd rfl (Or.inl rfl)) (aB (eC PassesOwn.never rfl (fo (bQ c_read (hr.mono (by decide)) rfl (ae (aQ aF (qv 1) (qv 3) (λ_ _=>rfl)) av))) (bL (i:=4) nd rfl (Or.inl rfl)) (aB (cf (i8 (aQ aF (bQ c_without (hr.mono (by decide)) rfl (ae (qv 0) (ae (qv 1) (ae (qv 4) av)))) (qv 3) (λ_ _=>rfl))) (aB (fE (mq bF b5 cb fX (qv 2) (ae (qv 3) av)))) bo))))) (aB (bw (qv 2)))))
theorem HC(B:gf mg)
  (hr:df HV (A.deeper (envOfC "_law_round" (au kx) s.heap.objs.size f cdv))):jg (eE fH P w K mg base xD "_law_round" (au kx) f cdv A outer s H E).nox (aO kx) (CY K):=by
 have nd:=zL.nd
 have hu:=hr.units0
 have hu1:=dH hr
 refine j6.up ?_
 exact(aw (cf (aT (lP hu) (aQ aF (aQ aF (qv 0) (qv 1) (λ_ _=>rfl)) ay (λ_ _=>rfl)) aR rfl) (aB (bw jM)) bo) (aw (bx (i:=2) nd rfl (Or.inl rfl) (aQ aF (aQ aF (qv 0) (qv 1) (λ_ _=>rfl)) ay (λ_ _=>rfl))) (aw (eC PassesOwn.never rfl (fo (qv 0)) (bL (i:=3) nd rfl (Or.inl rfl)) (aB (cf (QW.pt (lS (aT (lP hu) (qv 2) (qv 1) rfl) (kq (aT (cy hu) (aQ aF (aQ aF (qv 0) (qv 2) (λ_ _=>rfl)) ay (λ_ _=>rfl)) aR rfl)))) (aB (bx (i:=2) nd rfl (Or.inl rfl) (aQ aF (aQ aF (qv 0) (qv 2) (λ_ _=>rfl)) ay (λ_ _=>rfl)))) bo))) (aB (bw (eI (cy hu) (qv 2) (qv 1) rfl))))))
theorem Dg(B:gf mg)
  (hr:df Dz (A.deeper (envOfC "_law_bad_row" (au hU) s.heap.objs.size f cdv))):jg (eE fH P w K mg base qY "_law_bad_row" (au hU) f cdv A outer s H E).nox (aO hU) (wO K):=by
 have nd:=uS.nd
 have hu:=hr.units0
 have hu1:=dH hr
 refine j6.up ?_
 exact(aw (bx (i:=3) nd rfl (Or.inl rfl) (aQ aF (qv 1) (qv 2) (λ_ _=>rfl))) (aw (cf (aT (cy hu) (aQ aF (qv 3) ay (λ_ _=>rfl)) aR rfl) (aw (cf (QW.pt (oX (aT lC (aQ aF (qv 3) ay (λ_ _=>rfl)) ay rfl) (mZ (aT Cu (aQ aF (qv 3) ay (λ_ _=>rfl)) (bq bK rfl B.len_ boot_len (ae (qv 0) av)) rfl)))) (aB (bw jM)) bo) (aB (bw (Gg (eI (lP hu) (bq bK rfl B.len_ boot_len (ae (aQ aF (qv 3) ay (λ_ _=>rfl)) av)) (bq bK rfl B.len_ boot_len (ae (aQ aF (aQ aF (qv 0) (aQ aF (qv 3) ay (λ_ _=>rfl)) (λ_ _=>rfl)) ay (λ_ _=>rfl)) av)) rfl) (n5 (eI (cy hu) (qv 2) (bS nZ (bq bK rfl B.len_ boot_len (ae (qv 1) av)) ay) rfl)))))) bo) (aw (cf (QW.pt (lS (aT fv (aQ aF (qv 3) ay (λ_ _=>rfl)) (bR (ae aR (ae aR av))) rfl) (kq (QW.pt (oX (aT lC (aQ aF (qv 3) (rZ oB ay) (λ_ _=>rfl)) ay rfl) (mZ (aT Cu (aQ aF (qv 3) (rZ oB ay) (λ_ _=>rfl)) (bq bK rfl B.len_ boot_len (ae (qv 1) av)) rfl))))))) (aB (bw jM)) bo) (aB (bw (pL (eI (cy hu) (qv 2) (bS nZ (bq bK rfl B.len_ boot_len (ae (qv 1) av)) ay) rfl) (n5 (eI gr (aQ aF (qv 3) ay (λ_ _=>rfl)) (bR (ae aR (ae aR av))) rfl))))))))
theorem AU(B:gf mg)(c_unset:aL P w K mg base "_law_unset" kO tQ (kX K))(c_round:aL P w K mg base "_law_round" kM tO (kU K))(c_bad_row:aL P w K mg base "_law_bad_row" iE oF (iN K))
  (hr:df A8 (A.deeper (envOfC "_law_part_due" (au fi) s.heap.objs.size f cdv))):jg (eE fH P w K mg base kI "_law_part_due" (au fi) f cdv A outer s H E).nox (aO fi) (vo K):=by
 have nd:=sj.nd
 have hu:=hr.units0
 have hu1:=dH hr
 refine j6.up ?_
 exact(aw (i6 (aQ aF (qv 0) (qv 1) (λ_ _=>rfl)) (pM rfl (dY (bL (i:=2) nd rfl (Or.inl rfl)) (dY (bL (i:=3) nd rfl (Or.inl rfl)) (dY (bL (i:=4) nd rfl (Or.inl rfl)) lD))))) (aw (cf (QW.pt (oX (aT fv (qv 2) (mX (sc:=au fi) (N:=kI) (NY:=["_law_program_here","_law_k","_law_name","_law_params","_law_rows","_law_n","_law_one"]) (js:=[]) (k:=1) ⟨rfl,by decide +kernel,by decide +kernel,by decide +kernel,rfl,by decide +kernel⟩ rfl rfl rfl rfl (fo (fh iL (qv 0) gI (fQ (qv 1)))) (λ_ _ _ _ _=>(bL (i:=6) (show List.Nodup (["_law_program_here","_law_k","_law_name","_law_params","_law_rows","_law_n","_law_one"]:List Str) by decide +kernel) rfl (Or.inl rfl))) (λ_ _ _ _ _=>ko) (λ_ _ _ _ _=>(aQ aF (qv 6) ay (λ_ _=>rfl)))) rfl) (mZ (aT lC (wG rfl rfl B.len_ B.set_ rfl (ae (qv 3) av)) (bq bK rfl B.len_ boot_len (ae (qv 3) av)) rfl)))) (aB (bw (cR (ae (bR (ae ay (ae aR av))) av)))) bo) (aw (cf (aT (cy hu) (bq bK rfl B.len_ boot_len (ae (qv 4) av)) ay rfl) (aB (bw (cR (ae (bR (ae ay (ae aR av))) av)))) bo) (aw (eC PassesOwn.never rfl (fz rfl B.range_ (ae (bq bK rfl B.len_ boot_len (ae (qv 4) av)) av)) (bL (i:=5) nd rfl (Or.inl rfl)) (aB (cf (i8 (bQ c_bad_row (hr.mono (by decide)) rfl (ae (qv 0) (ae (qv 4) (ae (qv 5) av))))) (aB (bw (cR (ae (bR (ae (qv 5) (ae aR av))) av)))) bo))) (aw (eC PassesOwn.never rfl (fz rfl B.range_ (ae (bq bK rfl B.len_ boot_len (ae (qv 4) av)) av)) (bL (i:=5) nd rfl (Or.inl rfl)) (aB (cf (i8 (bQ c_round (hr.mono (by decide)) rfl (ae (qv 4) (ae (qv 5) av)))) (aB (bw (cR (ae (bR (ae (qv 5) (ae aR av))) av)))) bo))) (aB (bw (mX (sc:=au fi) (N:=kI) (NY:=["_law_program_here","_law_k","_law_name","_law_params","_law_rows","_law_n"]) (js:=[5]) (k:=0) ⟨rfl,by decide +kernel,by decide +kernel,by decide +kernel,rfl,by decide +kernel⟩ rfl rfl rfl rfl (fo (bQ c_unset (hr.mono (by decide)) rfl (ae (qv 3) (ae (qv 4) av)))) (λ_ _ _ _ _=>(bL (i:=5) (show List.Nodup (["_law_program_here","_law_k","_law_name","_law_params","_law_rows","_law_n"]:List Str) by decide +kernel) rfl (Or.inl rfl))) (λ_ _ _ _ _=>ko) (λ_ _ _ _ _=>(bR (ae (qv 5) (ae aR av))))))))))))
theorem LX(B:gf mg)(c_part_due:aL P w K mg base "_law_part_due" gQ mK (gY K))
  (hr:df L6 (A.deeper (envOfC "_law_due" (au qp) s.heap.objs.size f cdv))):jg (eE fH P w K mg base EJ "_law_due" (au qp) f cdv A outer s H E).nox (aO qp) (J0 K):=by
 have nd:=GC.nd
 have hu:=hr.units0
 have hu1:=dH hr
 have hu5:=Fi hr
 refine j6.up ?_
 exact(aw (eC PassesOwn.never rfl (fz rfl B.range_ (ae (bq bK rfl B.len_ boot_len (ae (qv 0) av)) av)) (bL (i:=1) nd rfl (Or.inl rfl)) (aw (bx (i:=2) nd rfl (Or.inl rfl) (bQ c_part_due (hr.mono (by decide)) rfl (ae (qv 0) (ae (qv 1) av)))) (aB (cf (aT (FR hu5) (qv 2) (cR av) rfl) (aB (bw (bR (ae (qv 1) (ae (aQ aF (aQ aF (qv 2) ay (λ_ _=>rfl)) ay (λ_ _=>rfl)) (ae (aQ aF (aQ aF (qv 2) ay (λ_ _=>rfl)) ay (λ_ _=>rfl)) av)))))) bo)))) (aB (bw (bR (ae (rZ oB ay) (ae ay (ae aR av)))))))
theorem Hz(B:gf mg)(c_classes:aL P w K mg base "_law_classes" iF oG (iO K))(c_told:aL P w K mg base "_law_told" mR xx (nh K))(c_due:aL P w K mg base "_law_due" mN v9 (lU K))
  (hr:df HS (A.deeper (envOfC "_law_meets" (au ku) s.heap.objs.size f cdv))):jg (eE fH P w K mg base xB "_law_meets" (au ku) f cdv A outer s H E).nox (aO ku) (CV K):=by
 have nd:=zJ.nd
 have hu:=hr.units0
 have hu1:=dH hr
 have hu5:=Fi hr
 refine j6.up ?_
 exact(aw (bx (i:=1) nd rfl (Or.inl rfl) (bQ c_due (hr.mono (by decide)) rfl (ae (qv 0) av))) (aw (bx (i:=2) nd rfl (Or.inl rfl) (bQ c_told (hr.mono (by decide)) rfl (ae (qv 0) av))) (aw (cf (QW.pt (oX (aT (FR hu5) (qv 2) (qv 1) rfl) (oX (i8 (bq wj rfl B.isinstance_ boot_isinstance (ae (aQ aF (qv 2) ay (λ_ _=>rfl)) (ae (qm rfl B.bool_ boot_bool (v:=.ty "bool") rfl) av)))) (mZ (i8 (bq wj rfl B.isinstance_ boot_isinstance (ae (aQ aF (qv 2) ay (λ_ _=>rfl)) (ae (qm rfl B.bool_ boot_bool (v:=.ty "bool") rfl) av)))))))) (aB (bw jM)) bo) (aB (bw (Gg (eI (FO hu5) (aQ aF (qv 1) ay (λ_ _=>rfl)) (rZ oB ay) rfl) (n5 (eI (FO hu5) (bQ c_classes (hr.mono (by decide)) rfl (ae (qv 0) av)) (cR (ae jM (ae jM (ae jM av)))) rfl))))))))
theorem J8(B:gf mg)
  (hr:df Kl (A.deeper (envOfC "_law_draw" (au m5) s.heap.objs.size f cdv))):jg (eE fH P w K mg base AF "_law_draw" (au m5) f cdv A outer s H E).nox (aO m5) (GJ K):=by
 have nd:=CD.nd
 have hu:=hr.units0
 have hu1:=dH hr
 refine j6.up ?_
 exact(aw (i6 (fh iL (qv 0) gI (fQ ay)) (Jb rfl (dY (bL (i:=2) nd rfl (Or.inl rfl)) (dY (bL (i:=3) nd rfl (Or.inl rfl)) lD)))) (aw (i6 (bS cw (qv 3) ay) (jV (qv 0) ay jd)) (aw (cf (QW.pt (lS (aT lC (bS cw (bS yk (qv 3) ay) ay) (bq bK rfl B.len_ boot_len (ae (qv 2) av)) rfl) (kq (aT (cy hu) (bS jw (aQ aF (qv 2) ay (λ_ _=>rfl)) ay) ay rfl)))) (aw (cf (aT (cy hu) (bS jw (qv 3) ay) ay rfl) (aB (i6 (aQ aF (qv 2) (bS cw (bS yk (qv 3) ay) ay) (λ_ _=>rfl)) (jV (qv 0) ay jd))) bo) (aB (cf (aT gr (aQ aF (qv 0) ay (λ_ _=>rfl)) (bR (ae ay (ae (rZ oB ay) av))) rfl) (aw (i6 (bq xO rfl B.divmod_ boot_divmod (ae (aQ aF (qv 0) ay (λ_ _=>rfl)) (ae (qv 1) av))) (pM rfl (dY (jV (qv 0) ay jd) (dY (bL (i:=4) nd rfl (Or.inl rfl)) lD)))) (aB (bw (qv 4)))) bo))) (aB (cf (aT lC (qv 3) (bq bK rfl B.len_ boot_len (ae (qv 2) av)) rfl) (aB (bw (bS jw (aQ aF (qv 2) (qv 3) (λ_ _=>rfl)) (qv 1)))) bo))) (aw (bx (i:=5) nd rfl (Or.inl rfl) (bS cw (bS gU (qv 3) ay) ay)) (aw (cf (aT FP (bq bK rfl B.len_ boot_len (ae (qv 2) av)) ay rfl) (aB (bx (i:=5) nd rfl (Or.inl rfl) (bS cw (qv 5) (bS gU (aQ aF (qv 2) (bS jw (bS gU (qv 3) ay) (bq bK rfl B.len_ boot_len (ae (qv 2) av))) (λ_ _=>rfl)) (bS cw ay (qv 3)))))) bo) (aw (bx (i:=5) nd rfl (Or.inl rfl) (bS jw (bS gU (bS jw (qv 5) ay) (bS cw (qv 3) ay)) ay)) (aw (bx (i:=5) nd rfl (Or.inl rfl) (bS jw (bS gU (qv 5) (qv 5)) ay)) (aB (bw (bS jw (bS jw (bS gU (qv 5) (qv 5)) ay) (qv 1)))))))))))
theorem HD(B:gf mg)(c_draw:aL P w K mg base "_law_draw" dO fV (bu K))
  (hr:df HW (A.deeper (envOfC "_law_tests" (au ky) s.heap.objs.size f cdv))):jg (eE fH P w K mg base xE "_law_tests" (au ky) f cdv A outer s H E).nox (aO ky) (CZ K):=by
 have nd:=zM.nd
 have hu:=hr.units0
 have hu1:=dH hr
 refine j6.up ?_
 exact(aw (bx (i:=1) nd rfl (Or.inl rfl) (cR (ae (bR (ae aR (ae aR (ae (bQ c_draw (hr.mono (by decide)) rfl (ae (qv 0) (ae ay av))) av)))) av))) (aw (eC PassesOwn.never rfl (D8 rfl B.range_ (ae ay (ae ay av))) (bL (i:=2) nd rfl (Or.inl rfl)) (aB (fE (mq bF b5 cb fX (qv 1) (ae (bR (ae aR (ae aR (ae (bS cw (bS cw (qv 2) ay) (bQ c_draw (hr.mono (by decide)) rfl (ae (qv 0) (ae (bS nZ ay (qv 2)) av)))) av)))) av))))) (aw (bx (i:=3) nd rfl (Or.inl rfl) (aQ aF (cR (ae aR (ae aR av))) (bQ c_draw (hr.mono (by decide)) rfl (ae (qv 0) (ae ay av))) (λ_ _=>rfl))) (aB (bw (bR (ae (bR (ae aR (ae (bR av) (ae (bS cw (dG eh rfl B.tuple_ boot_tuple (ae (qv 1) av)) (bR (ae (bR (ae aR (ae (qv 3) av))) (ae (bR (ae aR (ae aR av))) av)))) av)))) av)))))))
theorem Df(B:gf mg)(c_draw:aL P w K mg base "_law_draw" dO fV (bu K))
  (hr:df Dy (A.deeper (envOfC "_law_at_will" (au gE) s.heap.objs.size f cdv))):jg (eE fH P w K mg base oM "_law_at_will" (au gE) f cdv A outer s H E).nox (aO gE) (wN K):=by
 have nd:=uR.nd
 have hu:=hr.units0
 have hu1:=dH hr
 refine j6.up ?_
 exact(aw (bx (i:=2) nd rfl (Or.inl rfl) (cR av)) (aw (eC PassesOwn.never rfl (fo (qv 1)) (pM rfl (dY (bL (i:=3) nd rfl (Or.inl rfl)) (dY (bL (i:=4) nd rfl (Or.inl rfl)) (dY (bL (i:=5) nd rfl (Or.inl rfl)) lD)))) (aw (bx (i:=6) nd rfl (Or.inl rfl) (dG kh rfl B.list_ boot_list (ae (qv 4) av))) (aw (eC PassesOwn.never rfl (fo (qv 5)) (bL (i:=7) nd rfl (Or.inl rfl)) (aB (fE (mq bF PySem.F.slot_list_extend PySem.F.type_list_extend wA (qv 6) (ae (mX (sc:=au gE) (N:=oM) (NY:=["_law_state","_law_program_here","_law_found","_law_name","_law_params","_law_rows","_law_some","_law_row","_law_new","_law_thing"]) (js:=[]) (k:=1) ⟨rfl,by decide +kernel,by decide +kernel,by decide +kernel,rfl,by decide +kernel⟩ rfl rfl rfl rfl (fo (fh iL (qv 7) (fQ ay) (fQ ay))) (λ_ _ _ _ _=>(bL (i:=9) (show List.Nodup (["_law_state","_law_program_here","_law_found","_law_name","_law_params","_law_rows","_law_some","_law_row","_law_new","_law_thing"]:List Str) by decide +kernel) rfl (Or.inl rfl))) (λ_ _ _ _ _=>(tZ (i8 (bq Dc rfl B.isinstance_ boot_isinstance (ae (qv 9) (ae (qm rfl B.str_ boot_str (v:=.ty "str") rfl) av)))))) (λ_ _ _ _ _=>(qv 9))) av))))) (aw (bx (i:=6) nd rfl (Or.inl rfl) (bS cw (qv 6) (cR (ae aR av)))) (aw (bx (i:=8) nd rfl (Or.inl rfl) (cR av)) (aw (eC PassesOwn.never rfl (fo (qv 5)) (bL (i:=7) nd rfl (Or.inl rfl)) (aw (cf (QW.pt (lS (aT (cy hu) (bQ c_draw (hr.mono (by decide)) rfl (ae (qv 0) (ae ay av))) ay rfl) (kq (aT fv (aQ aF (qv 7) ay (λ_ _=>rfl)) (bR (ae aR (ae aR (ae aR av)))) rfl)))) (aB (bx (i:=7) nd rfl (Or.inl rfl) (bS cw (bR (ae (aQ aF (qv 7) ay (λ_ _=>rfl)) (ae (aQ aF (qv 6) (bQ c_draw (hr.mono (by decide)) rfl (ae (qv 0) (ae (bq bK rfl B.len_ boot_len (ae (qv 6) av)) av))) (λ_ _=>rfl)) av))) (fh iL (qv 7) (fQ ay) gI)))) bo) (aw (cf (QW.pt (lS (aT (cy hu) (bQ c_draw (hr.mono (by decide)) rfl (ae (qv 0) (ae ay av))) ay rfl) (kq (aT (cy hu) (aQ aF (qv 7) ay (λ_ _=>rfl)) aR rfl)))) (aB (bx (i:=7) nd rfl (Or.inl rfl) (bS cw (fh iL (qv 7) gI (fQ ay)) (bR (ae (aQ aF (qv 6) (bQ c_draw (hr.mono (by decide)) rfl (ae (qv 0) (ae (bq bK rfl B.len_ boot_len (ae (qv 6) av)) av))) (λ_ _=>rfl)) (ae (aQ aF (qv 7) ay (λ_ _=>rfl)) av)))))) bo) (aw (cf (QW.pt (lS (aT (cy hu) (bQ c_draw (hr.mono (by decide)) rfl (ae (qv 0) (ae ay av))) ay rfl) (kq (aT fv (aQ aF (qv 7) ay (λ_ _=>rfl)) (bR (ae aR (ae aR (ae aR av)))) rfl)))) (aB (bx (i:=7) nd rfl (Or.inl rfl) (bS cw (bR (ae (aQ aF (qv 7) ay (λ_ _=>rfl)) (ae (aQ aF (qv 6) (bQ c_draw (hr.mono (by decide)) rfl (ae (qv 0) (ae (bq bK rfl B.len_ boot_len (ae (qv 6) av)) av))) (λ_ _=>rfl)) av))) (fh iL (qv 7) (fQ ay) gI)))) bo) (aB (fE (mq bF b5 cb fX (qv 8) (ae (qv 7) av)))))))) (aB (fE (mq bF b5 cb fX (qv 2) (ae (bR (ae (qv 3) (ae (qv 4) (ae (dG eh rfl B.tuple_ boot_tuple (ae (qv 8) av)) av)))) av)))))))))) (aB (bw (dG eh rfl B.tuple_ boot_tuple (ae (qv 2) av))))))
theorem EX(B:gf mg)(c_draw:aL P w K mg base "_law_draw" dO fV (bu K))
  (hr:df Fl (A.deeper (envOfC "_law_filled" (au iu) s.heap.objs.size f cdv))):jg (eE fH P w K mg base pX "_law_filled" (au iu) f cdv A outer s H E).nox (aO iu) (zY K):=by
 have nd:=wH.nd
 have hu:=hr.units0
 have hu1:=dH hr
 refine j6.up ?_
 exact(aw (bx (i:=3) nd rfl (Or.inl rfl) (cR av)) (aw (eC PassesOwn.never rfl (Jc rfl B.enumerate_ (ae (qv 1) av)) (pM rfl (dY (bL (i:=4) nd rfl (Or.inr rfl)) (dY (bL (i:=5) nd rfl (Or.inl rfl)) lD))) (aw (bx (i:=6) nd rfl (Or.inl rfl) (cR av)) (aw (eC PassesOwn.never rfl (fo (fh iL (qv 5) (fQ ay) gI)) (bL (i:=7) nd rfl (Or.inl rfl)) (aw (cf (aT (cy hu) (qv 7) aR rfl) (aB (bx (i:=7) nd rfl (Or.inl rfl) (aQ aF (aQ aF (qv 2) (qv 4) (λ_ _=>rfl)) (bQ c_draw (hr.mono (by decide)) rfl (ae (qv 0) (ae (bq bK rfl B.len_ boot_len (ae (aQ aF (qv 2) (qv 4) (λ_ _=>rfl)) av)) av))) (λ_ _=>rfl)))) (aB (cf (i8 (bq EU rfl B.isinstance_ boot_isinstance (ae (qv 7) (ae (qm rfl B.tuple_ boot_tuple (v:=.ty "tuple") rfl) av)))) (aB (bx (i:=7) nd rfl (Or.inl rfl) (dG eh rfl B.tuple_ boot_tuple (ae (mX (sc:=au iu) (N:=pX) (NY:=["_law_state","_law_rows","_law_known","_law_found","_law_n","_law_row","_law_some","_law_thing","_law_one"]) (js:=[]) (k:=1) ⟨rfl,by decide +kernel,by decide +kernel,by decide +kernel,rfl,by decide +kernel⟩ rfl rfl rfl rfl (fo (qv 7)) (λ_ _ _ _ _=>(bL (i:=8) (show List.Nodup (["_law_state","_law_rows","_law_known","_law_found","_law_n","_law_row","_law_some","_law_thing","_law_one"]:List Str) by decide +kernel) rfl (Or.inl rfl))) (λ_ _ _ _ _=>ko) (λ_ _ _ _ _=>(aQ aF (aQ aF (qv 2) (qv 4) (λ_ _=>rfl)) (bQ c_draw (hr.mono (by decide)) rfl (ae (qv 0) (ae (bq bK rfl B.len_ boot_len (ae (aQ aF (qv 2) (qv 4) (λ_ _=>rfl)) av)) av))) (λ_ _=>rfl)))) av)))) bo))) (aB (fE (mq bF b5 cb fX (qv 6) (ae (qv 7) av)))))) (aB (fE (mq bF b5 cb fX (qv 3) (ae (bS cw (bR (ae (aQ aF (qv 5) ay (λ_ _=>rfl)) av)) (dG eh rfl B.tuple_ boot_tuple (ae (qv 6) av))) av))))))) (aB (bw (dG eh rfl B.tuple_ boot_tuple (ae (qv 3) av))))))
theorem Hy(B:gf mg)
  (hr:df HR (A.deeper (envOfC "_law_leads" (au kr) s.heap.objs.size f cdv))):jg (eE fH P w K mg base xA "_law_leads" (au kr) f cdv A outer s H E).nox (aO kr) (CU K):=by
 have nd:=zI.nd
 have hu:=hr.units0
 have hu1:=dH hr
 refine j6.up ?_
 exact(aw (cf (aT (cy hu) (aQ aF (aQ aF (qv 0) (qv 1) (λ_ _=>rfl)) ay (λ_ _=>rfl)) aR rfl) (aB (bw (cR (ae (aQ aF (aQ aF (qv 0) (qv 1) (λ_ _=>rfl)) ay (λ_ _=>rfl)) av)))) bo) (aw (cf (aT (cy hu) (aQ aF (aQ aF (qv 0) (qv 1) (λ_ _=>rfl)) ay (λ_ _=>rfl)) aR rfl) (aB (bw (cR (ae (bS cw (qv 1) ay) (ae (aQ aF (aQ aF (qv 0) (qv 1) (λ_ _=>rfl)) ay (λ_ _=>rfl)) av))))) bo) (aw (cf (aT (cy hu) (aQ aF (aQ aF (qv 0) (qv 1) (λ_ _=>rfl)) ay (λ_ _=>rfl)) aR rfl) (aB (bw (cR av))) bo) (aB (bw (cR (ae (bS cw (qv 1) ay) av)))))))
theorem yT(B:gf mg)(c_leads:aL P w K mg base "_law_leads" kJ tL (kT K))
  (hr:df y3 (A.deeper (envOfC "_law_set_names" (au eD) s.heap.objs.size f cdv))):jg (eE fH P w K mg base jJ "_law_set_names" (au eD) f cdv A outer s H E).nox (aO eD) (sS K):=by
 have nd:=qu.nd
 have hu:=hr.units0
 have hu1:=dH hr
 refine j6.up ?_
 exact(aw (oQ (i:=3) (sc:=au eD) (N:=jJ) (NY:=["_law_rows","_law_names_here","_law_params","_law_known","_law_more","_law_n","_law_left","_law_m","_law_kept","_law_row"]) (js:=[]) (k:=1) ⟨rfl,by decide +kernel,by decide +kernel,by decide +kernel,rfl,by decide +kernel⟩ rfl rfl rfl rfl (fo (qv 0)) (λ_ _ _ _ _=>(bL (i:=9) (show List.Nodup (["_law_rows","_law_names_here","_law_params","_law_known","_law_more","_law_n","_law_left","_law_m","_law_kept","_law_row"]:List Str) by decide +kernel) rfl (Or.inl rfl))) (λ_ _ _ _ _=>ko) (λ_ _ _ _ _=>(dG kh rfl B.list_ boot_list (ae (qv 1) av))) nd rfl (Or.inl rfl) rfl) (aw (i6 (dG kh rfl B.list_ boot_list (ae (qv 2) av)) (jV (qv 3) ay jd)) (aw (bx (i:=4) nd rfl (Or.inl rfl) jM) (aw (qo PassesOwn.never (i8 (qv 4)) (aw (bx (i:=4) nd rfl (Or.inl rfl) jM) (aB (eC PassesOwn.never rfl (fz rfl B.range_ (ae (bq bK rfl B.len_ boot_len (ae (qv 0) av)) av)) (bL (i:=5) nd rfl (Or.inl rfl)) (aw (bx (i:=6) nd rfl (Or.inr rfl) (aQ aF (qv 3) (qv 5) (λ_ _=>rfl))) (aw (cf (aT fv (aQ aF (aQ aF (qv 0) (qv 5) (λ_ _=>rfl)) ay (λ_ _=>rfl)) (bR (ae aR (ae aR (ae aR av)))) rfl) (aB (bx (i:=6) nd rfl (Or.inr rfl) (bS cw (qv 6) (cR (ae (aQ aF (aQ aF (qv 0) (qv 5) (λ_ _=>rfl)) ay (λ_ _=>rfl)) av))))) bo) (aB (eC PassesOwn.never rfl (fo (bQ c_leads (hr.mono (by decide)) rfl (ae (qv 0) (ae (qv 5) av)))) (bL (i:=7) nd rfl (Or.inl rfl)) (aw (oQ (i:=8) (sc:=au eD) (N:=jJ) (NY:=["_law_rows","_law_names_here","_law_params","_law_known","_law_more","_law_n","_law_left","_law_m","_law_kept","_law_name"]) (js:=[]) (k:=1) ⟨rfl,by decide +kernel,by decide +kernel,by decide +kernel,rfl,by decide +kernel⟩ rfl rfl rfl rfl (fo (aQ aF (qv 3) (qv 7) (λ_ _=>rfl))) (λ_ _ _ _ _=>(bL (i:=9) (show List.Nodup (["_law_rows","_law_names_here","_law_params","_law_known","_law_more","_law_n","_law_left","_law_m","_law_kept","_law_name"]:List Str) by decide +kernel) rfl (Or.inl rfl))) (λ_ _ _ _ _=>(tZ (aT fv (qv 9) (qv 6) rfl))) (λ_ _ _ _ _=>(qv 9)) nd rfl (Or.inl rfl) rfl) (aB (cf (aT lC (bq bK rfl B.len_ boot_len (ae (qv 8) av)) (bq bK rfl B.len_ boot_len (ae (aQ aF (qv 3) (qv 7) (λ_ _=>rfl)) av)) rfl) (aw (i6 (qv 8) (jV (qv 3) (qv 7) jd)) (aB (bx (i:=4) nd rfl (Or.inl rfl) jM))) bo))))))))))) (aB (bw (qv 3)))))))
theorem EY(B:gf mg)
  (hr:df Fm (A.deeper (envOfC "_law_mended" (au ja) s.heap.objs.size f cdv))):jg (eE fH P w K mg base uf "_law_mended" (au ja) f cdv A outer s H E).nox (aO ja) (zZ K):=by
 have nd:=wI.nd
 have hu:=hr.units0
 have hu1:=dH hr
 refine j6.up ?_
 exact(aw (bx (i:=3) nd rfl (Or.inl rfl) (bS nZ (bq bK rfl B.len_ boot_len (ae (qv 0) av)) ay)) (aw (cf (aT gr (aQ aF (aQ aF (qv 0) (qv 3) (λ_ _=>rfl)) ay (λ_ _=>rfl)) (bR (ae aR (ae aR av))) rfl) (aB (i6 (bR (ae aR (ae aR av))) (jV (qv 0) (qv 3) jd))) bo) (aw (cf (QW.pt (lS (i8 (qv 2)) (lS (aT (lP hu) (aQ aF (aQ aF (qv 0) ay (λ_ _=>rfl)) ay (λ_ _=>rfl)) aR rfl) (kq (aT FP (qv 3) ay rfl))))) (aB (i6 (bR (ae aR (ae (aQ aF (qv 1) ay (λ_ _=>rfl)) (ae ay av)))) (jV (qv 0) ay jd))) bo) (aw (eC PassesOwn.never rfl (fz rfl B.range_ (ae (bq bK rfl B.len_ boot_len (ae (qv 0) av)) av)) (bL (i:=4) nd rfl (Or.inl rfl)) (aw (bx (i:=5) nd rfl (Or.inl rfl) (qv 4)) (aw (eC PassesOwn.never rfl (fo (qv 0)) (bL (i:=6) nd rfl (Or.inl rfl)) (aB (cf (aT (cy hu) (aQ aF (aQ aF (qv 0) (qv 5) (λ_ _=>rfl)) ay (λ_ _=>rfl)) aR rfl) (aB (bx (i:=5) nd rfl (Or.inl rfl) (aQ aF (aQ aF (qv 0) (qv 5) (λ_ _=>rfl)) ay (λ_ _=>rfl)))) bo))) (aB (cf (aT (cy hu) (aQ aF (aQ aF (qv 0) (qv 5) (λ_ _=>rfl)) ay (λ_ _=>rfl)) aR rfl) (aB (i6 (aQ aF (cR (ae (bR (ae aR (ae aR av))) (ae (bR (ae aR (ae aR av))) av))) (dG rh rfl B.int_ boot_int (ae (eI (cy hu) (qv 4) (qv 3) rfl) av)) (λ_ _=>rfl)) (jV (qv 0) (qv 4) jd))) bo))))) (aB (bw (qv 0)))))))
theorem HG(B:gf mg)(c_draw:aL P w K mg base "_law_draw" dO fV (bu K))
  (hr:df HY (A.deeper (envOfC "_law_worth" (au kA) s.heap.objs.size f cdv))):jg (eE fH P w K mg base xG "_law_worth" (au kA) f cdv A outer s H E).nox (aO kA) (C2 K):=by
 have nd:=zO.nd
 have hu:=hr.units0
 have hu1:=dH hr
 refine j6.up ?_
 exact(aw (cf (aT (cy hu) (bQ c_draw (hr.mono (by decide)) rfl (ae (qv 0) (ae ay av))) ay rfl) (aB (bw (bS cw (bS gU (bQ c_draw (hr.mono (by decide)) rfl (ae (qv 0) (ae (bS ym ay ay) av))) (bS ym ay ay)) (bQ c_draw (hr.mono (by decide)) rfl (ae (qv 0) (ae (bS ym ay ay) av)))))) bo) (aB (bw (aQ aF (cR (ae ay (ae ay (ae (bS nZ (bS nZ (bS ym ay ay) ay) (bQ c_draw (hr.mono (by decide)) rfl (ae (qv 0) (ae ay av)))) (ae (bQ c_draw (hr.mono (by decide)) rfl (ae (qv 0) (ae ay av))) av))))) (bQ c_draw (hr.mono (by decide)) rfl (ae (qv 0) (ae ay av))) (λ_ _=>rfl)))))
theorem yS(B:gf mg)(c_draw:aL P w K mg base "_law_draw" dO fV (bu K))(c_worth:aL P w K mg base "_law_worth" kP tR (kY K))
  (hr:df y0 (A.deeper (envOfC "_law_rough_row" (au fG) s.heap.objs.size f cdv))):jg (eE fH P w K mg base nP "_law_rough_row" (au fG) f cdv A outer s H E).nox (aO fG) (sR K):=by
 have nd:=qt.nd
 have hu:=hr.units0
 have hu1:=dH hr
 refine j6.up ?_
 exact(aw (bx (i:=4) nd rfl (Or.inl rfl) (aQ aF (qv 1) (bQ c_draw (hr.mono (by decide)) rfl (ae (qv 0) (ae (bq bK rfl B.len_ boot_len (ae (qv 1) av)) av))) (λ_ _=>rfl))) (aw (bx (i:=5) nd rfl (Or.inl rfl) (bQ c_draw (hr.mono (by decide)) rfl (ae (qv 0) (ae ay av)))) (aw (cf (aT lC (qv 5) ay rfl) (aB (bw (bR (ae aR (ae (qv 4) (ae (bQ c_worth (hr.mono (by decide)) rfl (ae (qv 0) av)) av)))))) bo) (aw (cf (aT lC (qv 5) ay rfl) (aB (bw (bR (ae aR (ae (qv 4) (ae (aQ aF aR (bQ c_draw (hr.mono (by decide)) rfl (ae (qv 0) (ae ay av))) (λ_ _=>rfl)) (ae aR (ae aR av)))))))) bo) (aw (cf (aT (cy hu) (qv 5) ay rfl) (aw (bx (i:=6) nd rfl (Or.inl rfl) (bQ c_draw (hr.mono (by decide)) rfl (ae (qv 0) (ae (bq bK rfl B.len_ boot_len (ae (qv 3) av)) av)))) (aB (bw (bR (ae aR (ae (qv 4) (ae (qv 6) (ae (bS gU (bR (ae aR av)) (aQ aF (qv 3) (qv 6) (λ_ _=>rfl))) av)))))))) bo) (aw (cf (aT lC (qv 5) ay rfl) (aB (bw (bR (ae aR (ae aR av))))) bo) (aw (cf (aT lC (qv 5) ay rfl) (aB (bw (bR (ae aR (ae aR (ae (bQ c_draw (hr.mono (by decide)) rfl (ae (qv 0) (ae (qv 2) av))) av)))))) bo) (aB (bw (aQ aF (cR (ae (bR (ae aR (ae (bQ c_draw (hr.mono (by decide)) rfl (ae (qv 0) (ae (qv 2) av))) av))) (ae (bR (ae aR (ae aR av))) av))) (bS nZ (qv 5) ay) (λ_ _=>rfl)))))))))))
theorem Ka(B:gf mg)(c_filled:aL P w K mg base "_law_filled" jm pU (jy K))(c_set_names:aL P w K mg base "_law_set_names" gq lz (gz K))(c_mended:aL P w K mg base "_law_mended" jo pV (jz K))(c_rough_row:aL P w K mg base "_law_rough_row" gp ly (gy K))(c_draw:aL P w K mg base "_law_draw" dO fV (bu K))
  (hr:df Kn (A.deeper (envOfC "_law_part" (au lT) s.heap.objs.size f cdv))):jg (eE fH P w K mg base xC "_law_part" (au lT) f cdv A outer s H E).nox (aO lT) (GT K):=by
 have nd:=CG.nd
 have hu:=hr.units0
 have hu1:=dH hr
 refine j6.up ?_
 exact(aw (bx (i:=6) nd rfl (Or.inr rfl) (bq (Dd rfl) rfl B.max_ boot_max (ae (bS cw ay (dG rh rfl B.int_ boot_int (ae (eI (cy hu) (bq bK rfl B.len_ boot_len (ae (qv 3) av)) ay rfl) av))) (ae (bS cw ay (bQ c_draw (hr.mono (by decide)) rfl (ae (qv 0) (ae (qv 5) av)))) av)))) (aw (oQ (i:=7) (sc:=au lT) (N:=xC) (NY:=["_law_state","_law_word","_law_names_here","_law_params","_law_counts","_law_most","_law_many","_law_rows","_law_known","_law_n"]) (js:=[]) (k:=1) ⟨rfl,by decide +kernel,by decide +kernel,by decide +kernel,rfl,by decide +kernel⟩ rfl rfl rfl rfl (fz rfl B.range_ (ae (qv 6) av)) (λ_ _ _ _ _=>(bL (i:=9) (show List.Nodup (["_law_state","_law_word","_law_names_here","_law_params","_law_counts","_law_most","_law_many","_law_rows","_law_known","_law_n"]:List Str) by decide +kernel) rfl (Or.inl rfl))) (λ_ _ _ _ _=>ko) (λ_ _ _ _ _=>(bQ c_rough_row (hr.mono (by decide)) rfl (ae (qv 0) (ae (qv 2) (ae (qv 6) (ae (qv 4) av)))))) nd rfl (Or.inl rfl) rfl) (aw (bx (i:=7) nd rfl (Or.inl rfl) (bQ c_mended (hr.mono (by decide)) rfl (ae (qv 7) (ae (qv 2) (ae (eI (cy hu) (bq bK rfl B.len_ boot_len (ae (qv 3) av)) ay rfl) av))))) (aw (bx (i:=8) nd rfl (Or.inl rfl) (bQ c_set_names (hr.mono (by decide)) rfl (ae (qv 7) (ae (qv 2) (ae (qv 3) av))))) (aB (bw (bR (ae (qv 1) (ae (dG eh rfl B.tuple_ boot_tuple (ae (qv 3) av)) (ae (bQ c_filled (hr.mono (by decide)) rfl (ae (qv 0) (ae (qv 7) (ae (qv 8) av)))) av))))))))))
theorem HA(B:gf mg)(c_draw:aL P w K mg base "_law_draw" dO fV (bu K))
  (hr:df HU (A.deeper (envOfC "_law_names" (au jF) s.heap.objs.size f cdv))):jg (eE fH P w K mg base tT "_law_names" (au jF) f cdv A outer s H E).nox (aO jF) (CW K):=by
 have nd:=zK.nd
 have hu:=hr.units0
 have hu1:=dH hr
 refine j6.up ?_
 exact(aw (bx (i:=2) nd rfl (Or.inr rfl) aR) (aw (bx (i:=3) nd rfl (Or.inl rfl) (bS cw ay (bQ c_draw (hr.mono (by decide)) rfl (ae (qv 0) (ae ay av))))) (aw (bx (i:=4) nd rfl (Or.inl rfl) (bQ c_draw (hr.mono (by decide)) rfl (ae (qv 0) (ae (qv 3) av)))) (aw (bx (i:=5) nd rfl (Or.inr rfl) (bQ c_draw (hr.mono (by decide)) rfl (ae (qv 0) (ae ay av)))) (aw (oQ (i:=6) (sc:=au jF) (N:=tT) (NY:=["_law_state","_law_many","_law_letters","_law_size","_law_at","_law_first","_law_base","_law_found","_law_k","_law_some","_law_name","_law_j"]) (js:=[]) (k:=1) ⟨rfl,by decide +kernel,by decide +kernel,by decide +kernel,rfl,by decide +kernel⟩ rfl rfl rfl rfl (fz rfl B.range_ (ae (qv 3) av)) (λ_ _ _ _ _=>(bL (i:=11) (show List.Nodup (["_law_state","_law_many","_law_letters","_law_size","_law_at","_law_first","_law_base","_law_found","_law_k","_law_some","_law_name","_law_j"]:List Str) by decide +kernel) rfl (Or.inl rfl))) (λ_ _ _ _ _=>ko) (λ_ _ _ _ _=>(aQ aF (qv 2) (bS jw (bS cw (qv 5) (bS gU (bS gU ay (qv 11)) (bQ c_draw (hr.mono (by decide)) rfl (ae (qv 0) (ae ay av))))) ay) (λ_ _=>rfl))) nd rfl (Or.inl rfl) rfl) (aw (bx (i:=7) nd rfl (Or.inl rfl) (cR av)) (aw (eC PassesOwn.never rfl (fz rfl B.range_ (ae (qv 1) av)) (bL (i:=8) nd rfl (Or.inl rfl)) (aw (bx (i:=9) nd rfl (Or.inl rfl) (bS cw (bS cw (fh iL (qv 6) gI (fQ (qv 4))) (cR (ae (aQ aF (qv 2) (bS jw (bS cw (qv 5) (bS gU ay (qv 8))) ay) (λ_ _=>rfl)) av))) (fh iL (qv 6) (fQ (bS cw (qv 4) ay)) gI))) (aw (bx (i:=10) nd rfl (Or.inl rfl) (mq PySem.F.plainAttrs_str PySem.F.slot_str_join PySem.F.type_str_join Ig aR (ae (qv 9) av))) (aw (cf (QW.pt (oX (aT fv (qv 10) (bR (ae aR (ae aR (ae aR (ae aR (ae aR (ae aR av))))))) rfl) (mZ (QW.pt (lS (aT lC (qv 3) ay rfl) (kq (aT (cy hu) (bS jw (bS cw (qv 3) (qv 8)) ay) ay rfl))))))) (aB (bx (i:=10) nd rfl (Or.inl rfl) (bS cw (qv 10) aR))) bo) (aB (fE (mq bF b5 cb fX (qv 7) (ae (qv 10) av)))))))) (aB (bw (qv 7))))))))))
theorem Dm(B:gf mg)(c_part:aL P w K mg base "_law_part" mP xu (m9 K))(c_draw:aL P w K mg base "_law_draw" dO fV (bu K))(c_names:aL P w K mg base "_law_names" kL tN (jN K))
  (hr:df DE (A.deeper (envOfC "_law_program" (au gF) s.heap.objs.size f cdv))):jg (eE fH P w K mg base oN "_law_program" (au gF) f cdv A outer s H E).nox (aO gF) (w9 K):=by
 have nd:=uX.nd
 have hu:=hr.units0
 have hu1:=dH hr
 refine j6.up ?_
 exact(aw (bx (i:=2) nd rfl (Or.inl rfl) (dG rh rfl B.int_ boot_int (ae (eI (cy hu) (bS jw (bS yk (bq (xP rfl) rfl B.sum_ boot_sum (ae (fh iL (aQ aF (qv 0) ay (λ_ _=>rfl)) gI (fQ ay)) av)) ay) ay) ay rfl) av))) (aw (bx (i:=3) nd rfl (Or.inl rfl) (fh iL (bQ c_names (hr.mono (by decide)) rfl (ae (qv 0) (ae ay av))) gI (fQ (aQ aF (cR (ae (bS cw ay (bQ c_draw (hr.mono (by decide)) rfl (ae (qv 0) (ae ay av)))) (ae ay av))) (qv 2) (λ_ _=>rfl))))) (aw (bx (i:=4) nd rfl (Or.inr rfl) (bQ c_names (hr.mono (by decide)) rfl (ae (qv 0) (ae (bS cw ay (bQ c_draw (hr.mono (by decide)) rfl (ae (qv 0) (ae ay av)))) av)))) (aw (oQ (i:=5) (sc:=au gF) (N:=oN) (NY:=["_law_state","_law_most","_law_five","_law_words","_law_names_here","_law_counts","_law_found","_law_word","_law_many","_law_turn","_law_params"]) (js:=[7]) (k:=0) ⟨rfl,by decide +kernel,by decide +kernel,by decide +kernel,rfl,by decide +kernel⟩ rfl rfl rfl rfl (fo (qv 3)) (λ_ _ _ _ _=>(bL (i:=7) (show List.Nodup (["_law_state","_law_most","_law_five","_law_words","_law_names_here","_law_counts","_law_found","_law_word","_law_many","_law_turn","_law_params"]:List Str) by decide +kernel) rfl (Or.inl rfl))) (λ_ _ _ _ _=>ko) (λ_ _ _ _ _=>(bQ c_draw (hr.mono (by decide)) rfl (ae (qv 0) (ae (bS cw (bq (De rfl) rfl B.min_ boot_min (ae ay (ae (bq bK rfl B.len_ boot_len (ae (qv 4) av)) av))) ay) av)))) nd rfl (Or.inl rfl) rfl) (aw (bx (i:=6) nd rfl (Or.inl rfl) (cR av)) (aw (eC PassesOwn.never rfl (Lj rfl B.zip_ (ae (qv 3) (ae (qv 5) av))) (pM rfl (dY (bL (i:=7) nd rfl (Or.inl rfl)) (dY (bL (i:=8) nd rfl (Or.inl rfl)) lD))) (aw (bx (i:=9) nd rfl (Or.inl rfl) (bQ c_draw (hr.mono (by decide)) rfl (ae (qv 0) (ae (bq bK rfl B.len_ boot_len (ae (qv 4) av)) av)))) (aw (bx (i:=10) nd rfl (Or.inl rfl) (fh iL (bS cw (fh iL (qv 4) (fQ (qv 9)) gI) (fh iL (qv 4) gI (fQ (qv 9)))) gI (fQ (qv 8)))) (aB (fE (mq bF b5 cb fX (qv 6) (ae (bQ c_part (hr.mono (by decide)) rfl (ae (qv 0) (ae (qv 7) (ae (qv 4) (ae (qv 10) (ae (qv 5) (ae (qv 1) av))))))) av))))))) (aB (bw (dG eh rfl B.tuple_ boot_tuple (ae (qv 6) av))))))))))
theorem LY(B:gf mg)(c_meets:aL P w K mg base "_law_meets" kK tM (je K))(c_due:aL P w K mg base "_law_due" mN v9 (lU K))(c_draw:aL P w K mg base "_law_draw" dO fV (bu K))(c_tests:aL P w K mg base "_law_tests" kN tP (kW K))(c_at_will:aL P w K mg base "_law_at_will" iD oE (iM K))(c_program:aL P w K mg base "_law_program" iH oJ (iP K))
  (hr:df L7 (A.deeper (envOfC "law" (au nB) s.heap.objs.size f cdv))):jg (eE fH P w K mg base EK "law" (au nB) f cdv A outer s H E).nox (aO nB) (J1 K):=by
 have nd:=GD.nd
 have hu:=hr.units0
 have hu1:=dH hr
 refine j6.up ?_
 exact(aw (bx (i:=1) nd rfl (Or.inl rfl) (cR (ae (qv 0) (ae ay (ae ay av))))) (aw (bx (i:=2) nd rfl (Or.inl rfl) (bQ c_draw (hr.mono (by decide)) rfl (ae (qv 1) (ae ay av)))) (aw (bx (i:=3) nd rfl (Or.inl rfl) (bQ c_program (hr.mono (by decide)) rfl (ae (qv 1) (ae ay av)))) (aw (bx (i:=4) nd rfl (Or.inl rfl) (qv 3)) (aw (cf (aT (cy hu) (qv 2) ay rfl) (aB (bx (i:=4) nd rfl (Or.inl rfl) (bQ c_at_will (hr.mono (by decide)) rfl (ae (qv 1) (ae (qv 3) av))))) bo) (aw (cf (aT (cy hu) (bQ c_draw (hr.mono (by decide)) rfl (ae (qv 1) (ae ay av))) ay rfl) (aB (bx (i:=4) nd rfl (Or.inl rfl) (bQ c_tests (hr.mono (by decide)) rfl (ae (qv 1) av)))) bo) (aB (bw (pL (bQ c_meets (hr.mono (by decide)) rfl (ae (qv 4) av)) (pL (bQ c_meets (hr.mono (by decide)) rfl (ae (qv 3) av)) (pL (eI (cy hu) (aQ aF (bQ c_due (hr.mono (by decide)) rfl (ae (qv 3) av)) ay (λ_ _=>rfl)) (rZ oB ay) rfl) (n5 (bQ c_meets (hr.mono (by decide)) rfl (ae (qv 4) av))))))))))))))
end
end Bg
end
section
namespace Bg
open PySem L2
theorem se{K:Fg}{st scr:Addr}{m:Int}{k:Nat}{ns:List Int}{c:Int}{H H2:Hp}{Q:VK}{o4 o5:Option V}{nx:St->Hp->Prop}(hk:k<=1000000)(m0:0<m)
  (q:∀(d:Int) (H':Hp),0<=d->d<m->iJ K H' st (k+1)->fu st H H'->Q (.int d) H') (hS:H2 st=some (.lst [.ref scr,.int ((k:Int)+1),.int c])) (hscr:lA K H2 scr ns) (hns:ns.length<=63) (hB:fu st H H2) :
  qF K {nx:=nx,rt:=Q} [some (.ref st),some (.int m),some (.ref scr),some (.int (k:Nat)),o4,o5] H2:=by
 have e1:(((k+1:Nat):Nat):Int)=(k:Int)+1:=by lia
 have S2:iJ K H2 st (k+1):=⟨scr,ns,c,by rw[e1];exact hS,hscr,hns⟩
 refine⟨_,rfl,.inl ⟨_,_,rfl,rfl,.inr ⟨by decide,by decide⟩,.inl ⟨_,_,rfl,rfl,?_⟩⟩⟩
 have rest:∀z:Int,zV K {nx:=nx,rt:=Q} [some (.ref st),some (.int m),some (.ref scr),some (.int (k:Nat)),o4,some (.int z)] H2:=λz=>by
  have b1:0<=z % 2147483629:=di _ (by decide)
  have b2:z % 2147483629<2147483629:=dg _ (by decide)
  refine⟨_,rfl,_,_,rfl,rfl,(by show(0:Int)<2147483629;decide),_,rfl,.inl ⟨_,_,rfl,rfl,.inl ⟨_,_,rfl,rfl,.inl ⟨by lia,by lia⟩,_,_,rfl,rfl,(by show(0:Int)<2147483629;decide),?_⟩⟩⟩
  generalize hy:z % 2147483629*((k:Int)+3) % 2147483629=y
  have c1:0<=y:=by rw[<-hy];exact di _ (by decide)
  have c2:y<2147483629:=by rw[<-hy];exact dg _ (by decide)
  refine⟨_,rfl,_,rfl,.inl ⟨_,_,rfl,rfl,.inl ⟨by lia,by lia⟩,_,_,rfl,rfl,(by show(0:Int)<2147483587;decide),?_⟩⟩
  generalize hx:y*y % 2147483587=x
  have d1:0<=x:=by rw[<-hx];exact di _ (by decide)
  have d2:x<2147483587:=by rw[<-hx];exact dg _ (by decide)
  refine⟨_,rfl,_,rfl,.inl ⟨_,_,rfl,rfl,.inl ⟨by lia,by lia⟩,_,_,rfl,rfl,(by show(0:Int)<1999999973;decide),_,rfl,_,_,rfl,rfl,m0,?_⟩⟩
  exact q _ H2 (di _ (by lia)) (dg _ m0) S2 hB
 refine⟨_,rfl,_,_,rfl,.inl ⟨_,hscr.sq,rfl⟩,_,_,rfl,rfl,_,rfl,cJ (λhl=>?_) (λ_=>rest _)⟩
 rw[ao] at hl
 have hlp:0<ns.length:=by lia
 refine⟨_,rfl,_,rfl,_,rfl,.inl ⟨_,_,rfl,rfl,.inr ⟨by decide,by decide⟩,_,rfl,_,_,rfl,.inl ⟨_,hscr.sq,rfl⟩,_,_,rfl,rfl,(by rw[ao];lia),?_⟩⟩
 have i1:0<=(k:Int)*7 % ((ns.map V.int).length:Nat):=di _ (by rw[ao];lia)
 have i2:(k:Int)*7 % ((ns.map V.int).length:Nat)<((ns.map V.int).length:Nat):=dg _ (by rw[ao];lia)
 rw[ao] at i1 i2
 have i3:((k:Int)*7 % (ns.length:Nat)).toNat<ns.length:=by lia
 refine mF hscr.sq (by rw[ao];exact i1) (v:=.int ns[((k:Int)*7 % (ns.length:Nat)).toNat]) (by simp only[ao];rw[aX,ai i3];rfl) ?_
 exact⟨_,rfl,.inl ⟨_,_,rfl,rfl,.inl ⟨_,_,rfl,rfl,.inr ⟨by lia,by lia⟩,.inl ⟨_,_,rfl,rfl,rest _⟩⟩⟩⟩
theorem Lo{K:Fg}{vs:List V}{H:Hp}{Q:VK}{E:XK}(h:bu K vs H Q E):GJ K {nx:=λ_ H'=>Q .non H',rt:=Q} (cU AF vs) H:=by
 obtain⟨st,m,k,rfl,S,hk,m0,m1,q⟩:=h
 obtain⟨scr,ns,c,hst,hscr,hns⟩:=S
 refine⟨_,rfl,_,rfl,.inl ⟨st,_,rfl,cz.of hst,λp hp=>?_⟩⟩
 refine⟨p,_,rfl,cz.of ag,rfl,_,_,rfl,_,_,rfl,rfl,?_⟩
 have np:st≠p:=ar hst hp
 have B1:fu st H (upd H p (.lst (nU [V.ref scr,V.int (k:Nat),V.int c] none (some 2)))):=(fu.refl st H).new hp
 have h1:(upd H p (.lst (nU [V.ref scr,V.int (k:Nat),V.int c] none (some 2)))) st=some (.lst [.ref scr,.int (k:Nat),.int c]):=by rw[aA np];exact hst
 have s1:lA K (upd H p (.lst (nU [V.ref scr,V.int (k:Nat),V.int c] none (some 2)))) scr ns:=hscr.mono (.of_but B1 hst)
 generalize upd H p (.lst (nU [V.ref scr,V.int (k:Nat),V.int c] none (some 2)))=H1 at B1 h1 s1 ⊢
 refine⟨_,rfl,.inl ⟨_,_,rfl,rfl,_,rfl,yw h1 (by decide) (by show 1<3;decide) ?_⟩⟩
 have B2:fu st H (upd H1 st (.lst [.ref scr,.int ((k:Int)+1),.int c])):=B1.trans .upd_at
 have h2:(upd H1 st (.lst [.ref scr,.int ((k:Int)+1),.int c])) st=some (.lst [.ref scr,.int ((k:Int)+1),.int c]):=ag
 have s2:lA K (upd H1 st (.lst [.ref scr,.int ((k:Int)+1),.int c])) scr ns:=s1.mono (.of_but .upd_at h1)
 show zX K _ [some (.ref st),some (.int m),some (.ref scr),some (.int (k:Nat)),none,none] (upd H1 st (.lst [.ref scr,.int ((k:Int)+1),.int c]))
 generalize upd H1 st (.lst [.ref scr,.int ((k:Int)+1),.int c])=H2 at B2 h2 s2 ⊢
 have tail:=@se K st scr m k ns c H H2 Q none none (λ_ H'=>Q .non H') hk m0 q h2 s2 hns B2
 have dig:∀(c':Int) (H3:Hp),H3 st=some (.lst [.ref scr,.int ((k:Int)+1),.int c'])->lA K H3 scr ns->fu st H H3->
   zW K {nx:=qF K {nx:=λ_ H'=>Q .non H',rt:=Q},rt:=Q} [some (.ref st),some (.int m),some (.ref scr),some (.int (k:Nat)),none,none] H3:=λc' H3 h3 s3 B3=>by
  refine⟨_,rfl,mF (cz.of h3) (by decide) rfl ?_⟩
  refine⟨_,rfl,(by show 2<=sizeLine;decide),λt ht=>⟨t,_,rfl,.inr (cY.of ag),rfl,rfl,_,rfl,?_⟩⟩
  have n3:st≠t:=ar h3 ht
  have B4:fu st H (upd H3 t (.tup [.int 0,.int (-1)])):=B3.new ht
  have h4:(upd H3 t (.tup [.int 0,.int (-1)])) st=some (.lst [.ref scr,.int ((k:Int)+1),.int c']):=by rw[aA n3];exact h3
  have s4:lA K (upd H3 t (.tup [.int 0,.int (-1)])) scr ns:=s3.mono (.of_same ((aS.refl H3).new ht))
  refine qf (λ_=>?_) (λ_=>?_)
  ·-- _law_state[2],_law_digit=divmod(_law_state[2],_law_many)
   refine⟨_,rfl,.inl ⟨st,_,_,_,rfl,rfl,cz.of h4,xN (by decide) rfl,_,rfl,_,_,rfl,⟨m0,m1⟩,λp2 hp2=>?_⟩⟩
   have n4:st≠p2:=ar h4 hp2
   refine⟨p2,_,rfl,cY.of ag,rfl,_,_,rfl,_,rfl,yw (by rw[aA n4];exact h4) (by decide) (by show 2<3;decide) ?_⟩
   refine⟨_,_,rfl,rfl,_,rfl,?_⟩
   have B5:=(B4.new (o:=.tup [.int (c' / m),.int (c' % m)]) hp2)
   have s5:lA K (upd (upd H3 t (.tup [.int 0,.int (-1)])) p2 (.tup [.int (c' / m),.int (c' % m)])) scr ns:=s4.mono (.of_same ((aS.refl _).new hp2))
   have h5:(upd (upd H3 t (.tup [.int 0,.int (-1)])) p2 (.tup [.int (c' / m),.int (c' % m)])) st=some (.lst [.ref scr,.int ((k:Int)+1),.int c']):=by rw[aA n4];exact h4
   refine q _ _ (di _ (by lia)) (dg _ m0) ⟨scr,ns,c' / m,?_,s5.mono (.of_but .upd_at h5),hns⟩ (B5.trans .upd_at)
   have e1:(((k+1:Nat):Nat):Int)=(k:Int)+1:=by lia
   rw[ag,e1]
   rfl
  ·exact se hk m0 q h4 s4 hns B4
 have e1:(((k+1:Nat):Nat):Int)=(k:Int)+1:=by lia
 have elif:cZ (bH (bb pN (aq 3) (fR (eP K) (af (aq 2) aE)))) (cM (bb lE (bb (cE K) (aq 2) (aq 3)) (aq 1))) bW
   {nx:=qF K {nx:=λ_ H'=>Q V.non H',rt:=Q},rt:=Q} [some (V.ref st),some (V.int m),some (V.ref scr),some (V.int (k:Nat)),none,none] H2:=by
  refine⟨_,rfl,_,rfl,_,_,rfl,.inl ⟨_,s2.sq,rfl⟩,_,_,rfl,rfl,_,rfl,cJ (λhlt=>?_) (λ_=>tail)⟩
  rw[ao] at hlt
  have j2:((k:Nat):Int).toNat<ns.length:=by lia
  refine⟨_,rfl,_,rfl,mF s2.sq (by lia) (v:=.int ns[((k:Nat):Int).toNat]) (by rw[aX,ai j2];rfl) ?_⟩
  refine⟨_,rfl,_,_,rfl,rfl,m0,?_⟩
  exact q _ H2 (di _ (by lia)) (dg _ m0) ⟨scr,ns,c,by rw[e1];exact h2,s2,hns⟩ B2
 refine⟨_,rfl,_,_,rfl,rfl,⟨by decide,by decide⟩,.inl ⟨_,_,rfl,rfl,_,rfl,_,_,rfl,.inl ⟨_,s2.sq,rfl⟩,_,_,rfl,rfl,_,rfl,cJ (λhlt=>?_) (λ_=>?_)⟩⟩
 ·rw[ao] at hlt
  have hlp:0<ns.length:=by lia
  have i0:(ns.map V.int)[(0:Int).toNat]?=some (.int ns[0]):=by
   show(ns.map V.int)[0]?=_
   rw[aX,ai hlp];rfl
  refine⟨_,rfl,mF s2.sq (by decide) i0 ⟨_,_,rfl,rfl,(by show(0:Int)<2;decide),.inl ⟨rfl,_,rfl,cJ (λ_=>?_) (λ_=>?_)⟩⟩⟩
  ·-- if _law_k % 12==0
   refine⟨_,rfl,_,_,rfl,rfl,(by show(0:Int)<12;decide),.inl ⟨rfl,_,rfl,cJ (λ_=>?_) (λ_=>dig c H2 h2 s2 B2)⟩⟩
   have j2:((k:Int) / 12+1).toNat<ns.length:=by lia
   refine⟨_,rfl,_,rfl,_,_,rfl,rfl,⟨by decide,by decide⟩,.inl ⟨_,_,rfl,rfl,mF s2.sq (by lia) (v:=.int ns[((k:Int) / 12+1).toNat]) (by rw[aX,ai j2];rfl) ?_⟩⟩
   refine⟨_,rfl,yw h2 (by decide) (by show 2<3;decide) ?_⟩
   exact dig _ _ ag (s2.mono (.of_but .upd_at h2)) (B2.trans .upd_at)
  ·exact elif
 ·exact iU elif
theorem Jp{K:Fg}{vs:List V}{H:Hp}{Q:VK}{E:XK}(h:kY K vs H Q E):C2 K {nx:=λ_ H'=>Q .non H',rt:=Q} (cU xG vs) H:=by
 obtain⟨st,k,rfl,S,hk,q⟩:=h
 have e31:(2:Int) ^ fS 31=2147483648:=by decide
 have e33:(2:Int) ^ fS 33=8589934592:=by decide
 have e64:(2:Int) ^ fS 64=18446744073709551616:=by decide
 have f64:(2:Int) ^ 64=18446744073709551616:=by decide
 refine⟨_,rfl,st,2,k,rfl,S,by lia,by decide,by decide,λd H1 d0 d1 S1 B1=>?_⟩
 refine .inl ⟨rfl,_,rfl,cJ (λ_=>?_) (λ_=>?_)⟩
 ·refine⟨_,rfl,_,_,rfl,rfl,⟨by decide,by decide,by decide⟩,st,_,k+1,rfl,S1,by lia,by rw[e31];decide,by rw[e31];decide,λd2 H2 a0 a1 S2 B2=>?_⟩
  rw[e31] at a1
  refine⟨_,_,rfl,rfl,⟨by decide,by decide,by decide⟩,.inl ⟨_,_,rfl,rfl,.inl ⟨by lia,by lia⟩,?_⟩⟩
  refine⟨_,rfl,_,_,rfl,rfl,⟨by decide,by decide,by decide⟩,st,_,k+2,rfl,S2,by lia,by rw[e31];decide,by rw[e31];decide,λd3 H3 b0 b1 S3 B3=>?_⟩
  rw[e31] at b1
  refine .inl ⟨_,_,rfl,rfl,q _ _ H3 ?_ ?_ S3 (by lia) ((B1.trans B2).trans B3)⟩
  ·show 0<=d2*(2:Int) ^ fS 33+d3
   rw[e33];lia
  ·show d2*(2:Int) ^ fS 33+d3<2 ^ 64
   rw[e33,f64];lia
 ·refine⟨_,_,rfl,rfl,⟨by decide,by decide,by decide⟩,_,_,rfl,rfl,_,rfl,st,3,k+1,rfl,S1,by lia,by decide,by decide,λd2 H2 a0 a1 S2 B2=>?_⟩
  refine⟨_,_,rfl,rfl,_,rfl,st,12,k+2,rfl,S2,by lia,by decide,by decide,λd3 H3 b0 b1 S3 B3=>?_⟩
  refine⟨(by show 4<=sizeLine;decide),λl hl=>?_⟩
  refine⟨_,rfl,st,4,k+3,rfl,S3.new hl,by lia,by decide,by decide,λd4 H4 c0 c1 S4 B4=>?_⟩
  obtain⟨ys,hys⟩:=S3.lst
  have nl:l≠st:=λz=>by rw[z,hys] at hl;cases hl
  have h4:=B4 l _ nl ag
  have B5:fu st H H4:=(((B1.trans B2).trans B3).new hl).trans B4
  have fin:∀z:Int,0<=z->z<2 ^ 64->Q (.int z) H4:=λz z0 z1=>q z _ H4 z0 z1 S4 (by lia) B5
  rcases(by lia:d4=0\/d4=1\/d4=2\/d4=3) with rfl|rfl|rfl|rfl
  ·exact mF (cz.of h4) (by decide) rfl (fin _ (by decide) (by decide))
  ·exact mF (cz.of h4) (by decide) rfl (fin _ (by decide) (by decide))
  ·refine mF (cz.of h4) (by decide) rfl (fin _ ?_ ?_)
   ·show 0<=(2:Int) ^ fS 64-1-d2
    rw[e64];lia
   ·show(2:Int) ^ fS 64-1-d2<2 ^ 64
    rw[e64,f64];lia
  ·exact mF (cz.of h4) (by decide) rfl (fin _ (by lia) (by lia))
theorem mi{K:Fg}{p:Addr}{xs:List V}{i:Int}{v:V}{H:Hp}{Q:VK}(h:H p=some (.lst xs)\/H p=some (.tup xs))(h0:0<=i)(e:xs[i.toNat]?=some v)(q:Q v H):cE K (.ref p) (.int i) H Q:=by
 rcases h with h|h
 ·exact mF (cz.of h) h0 e q
 ·exact cg h h0 e q
theorem Jj{K:Fg}{vs:List V}{H:Hp}{Q:VK}{E:XK}(h:kT K vs H Q E):CU K {nx:=λ_ H'=>Q .non H',rt:=Q} (cU xA vs) H:=by
 obtain⟨rt,n,rvs,v,r,rfl,hrt,hv,hr,q⟩:=h
 have hn:rvs[((n:Nat):Int).toNat]?=some v:=by simpa using hv
 have n0:(0:Int)<=((n:Nat):Int):=by lia
 have e1:(((n+1:Nat):Nat):Int)=(n:Int)+1:=by lia
 cases r with
 |num x z=>
  obtain⟨p,rfl,h⟩:=hr
  refine⟨_,rfl,_,rfl,mi hrt n0 hn (cg h (by decide) rfl (.inl ⟨rfl,_,rfl,no (by decide +kernel) ?_⟩))⟩
  refine⟨_,rfl,_,rfl,mi hrt n0 hn (cg h (by decide) rfl (.inl ⟨rfl,_,rfl,no (by decide +kernel) ?_⟩))⟩
  refine⟨_,rfl,_,rfl,mi hrt n0 hn (cg h (by decide) rfl (.inl ⟨rfl,_,rfl,no (by decide +kernel) ?_⟩))⟩
  exact⟨_,rfl,.inl ⟨_,_,rfl,rfl,⟨(by show 1<=sizeLine;decide),λt ht=>(by have z:=q t ht;unfold bG cL at z;simp only[ba,bO,e1] at z;exact z)⟩⟩⟩
 |op x s a b=>
  obtain⟨p,rfl,h⟩:=hr
  refine⟨_,rfl,_,rfl,mi hrt n0 hn (cg h (by decide) rfl (.inl ⟨rfl,_,rfl,no (by decide +kernel) ?_⟩))⟩
  refine⟨_,rfl,_,rfl,mi hrt n0 hn (cg h (by decide) rfl (.inl ⟨rfl,_,rfl,no (by decide +kernel) ?_⟩))⟩
  refine⟨_,rfl,_,rfl,mi hrt n0 hn (cg h (by decide) rfl (.inl ⟨rfl,_,rfl,no (by decide +kernel) ?_⟩))⟩
  exact⟨_,rfl,.inl ⟨_,_,rfl,rfl,⟨(by show 1<=sizeLine;decide),λt ht=>(by have z:=q t ht;unfold bG cL at z;simp only[ba,bO,e1] at z;exact z)⟩⟩⟩
 |call x k as=>
  obtain⟨p,q1,rfl,h,h1⟩:=hr
  refine⟨_,rfl,_,rfl,mi hrt n0 hn (cg h (by decide) rfl (.inl ⟨rfl,_,rfl,no (by decide +kernel) ?_⟩))⟩
  refine⟨_,rfl,_,rfl,mi hrt n0 hn (cg h (by decide) rfl (.inl ⟨rfl,_,rfl,no (by decide +kernel) ?_⟩))⟩
  refine⟨_,rfl,_,rfl,mi hrt n0 hn (cg h (by decide) rfl (.inl ⟨rfl,_,rfl,no (by decide +kernel) ?_⟩))⟩
  exact⟨_,rfl,.inl ⟨_,_,rfl,rfl,⟨(by show 1<=sizeLine;decide),λt ht=>(by have z:=q t ht;unfold bG cL at z;simp only[ba,bO,e1] at z;exact z)⟩⟩⟩
 |say a=>
  obtain⟨p,rfl,h⟩:=hr
  refine⟨_,rfl,_,rfl,mi hrt n0 hn (cg h (by decide) rfl (.inl ⟨rfl,_,rfl,no (by decide +kernel) ?_⟩))⟩
  refine⟨_,rfl,_,rfl,mi hrt n0 hn (cg h (by decide) rfl (.inl ⟨rfl,_,rfl,no (by decide +kernel) ?_⟩))⟩
  refine⟨_,rfl,_,rfl,mi hrt n0 hn (cg h (by decide) rfl (.inl ⟨rfl,_,rfl,no (by decide +kernel) ?_⟩))⟩
  exact⟨_,rfl,.inl ⟨_,_,rfl,rfl,⟨(by show 1<=sizeLine;decide),λt ht=>(by have z:=q t ht;unfold bG cL at z;simp only[ba,bO,e1] at z;exact z)⟩⟩⟩
 |jump to=>
  obtain⟨p,rfl,h⟩:=hr
  refine⟨_,rfl,_,rfl,mi hrt n0 hn (cg h (by decide) rfl (.inl ⟨rfl,_,rfl,Ay ?_⟩))⟩
  exact⟨_,rfl,_,rfl,mi hrt n0 hn (cg h (by decide) rfl ⟨(by show 1<=sizeLine;decide),λt ht=>(by have z:=q t ht;unfold bG cL at z;simp only[ba,bO,e1] at z;exact z)⟩)⟩
 |test a to=>
  obtain⟨p,rfl,h⟩:=hr
  refine⟨_,rfl,_,rfl,mi hrt n0 hn (cg h (by decide) rfl (.inl ⟨rfl,_,rfl,no (by decide +kernel) ?_⟩))⟩
  refine⟨_,rfl,_,rfl,mi hrt n0 hn (cg h (by decide) rfl (.inl ⟨rfl,_,rfl,Ay ?_⟩))⟩
  exact⟨_,rfl,.inl ⟨_,_,rfl,rfl,⟨_,rfl,_,rfl,mi hrt n0 hn (cg h (by decide) rfl ⟨(by show 2<=sizeLine;decide),λt ht=>(by have z:=q t ht;unfold bG cL at z;simp only[ba,bO,e1] at z;exact z)⟩)⟩⟩⟩
 |give a=>
  obtain⟨p,rfl,h⟩:=hr
  refine⟨_,rfl,_,rfl,mi hrt n0 hn (cg h (by decide) rfl (.inl ⟨rfl,_,rfl,no (by decide +kernel) ?_⟩))⟩
  refine⟨_,rfl,_,rfl,mi hrt n0 hn (cg h (by decide) rfl (.inl ⟨rfl,_,rfl,no (by decide +kernel) ?_⟩))⟩
  refine⟨_,rfl,_,rfl,mi hrt n0 hn (cg h (by decide) rfl (.inl ⟨rfl,_,rfl,Ay ?_⟩))⟩
  exact⟨(by show 0<=sizeLine;decide),λt ht=>(by have z:=q t ht;unfold bG cL at z;simp only[ba,bO,e1] at z;exact z)⟩
theorem Ee{K:Fg}{vs:List V}{H:Hp}{Q:VK}{E:XK}(h:fO K vs H Q E):w6 K {nx:=λ_ H'=>Q .non H',rt:=Q} (cU rf vs) H:=by
 obtain⟨v,r,rfl,hr,q⟩:=h
 cases r with
 |num x z=>
  obtain⟨p,rfl,h⟩:=hr
  refine⟨_,rfl,cg h (by decide) rfl ?_⟩
  refine⟨_,rfl,.inl ⟨rfl,_,rfl,no (by decide +kernel) ?_⟩⟩
  refine⟨_,rfl,.inl ⟨rfl,_,rfl,no (by decide +kernel) ?_⟩⟩
  refine⟨_,rfl,(by show 3<=sizeLine;decide),λt ht=>⟨t,_,rfl,.inr (cY.of ag),rfl,rfl,_,rfl,uD (by decide +kernel) ?_⟩⟩
  have nt:p≠t:=ar h ht
  exact⟨(by show 0<=sizeLine;decide),λt2 ht2=>q t2 _ ag (((aS.refl H).new ht).new ht2)⟩
 |op x s a b=>
  obtain⟨p,rfl,h⟩:=hr
  refine⟨_,rfl,cg h (by decide) rfl ?_⟩
  refine⟨_,rfl,.inl ⟨rfl,_,rfl,Ay ?_⟩⟩
  exact⟨_,rfl,cg h (by decide) rfl ⟨_,rfl,cg h (by decide) rfl ⟨(by show 2<=sizeLine;decide),λt ht=>q t _ ag ((aS.refl H).new ht)⟩⟩⟩
 |call x k as=>
  obtain⟨p,q1,rfl,h,h1⟩:=hr
  refine⟨_,rfl,cg h (by decide) rfl ?_⟩
  refine⟨_,rfl,.inl ⟨rfl,_,rfl,no (by decide +kernel) ?_⟩⟩
  refine⟨_,rfl,.inl ⟨rfl,_,rfl,Ay ?_⟩⟩
  exact⟨_,rfl,cg h (by decide) rfl ⟨_,_,rfl,.inr ⟨cY.of h1,q _ _ h1 (aS.refl H)⟩⟩⟩
 |say a=>
  obtain⟨p,rfl,h⟩:=hr
  refine⟨_,rfl,cg h (by decide) rfl ?_⟩
  refine⟨_,rfl,.inl ⟨rfl,_,rfl,no (by decide +kernel) ?_⟩⟩
  refine⟨_,rfl,.inl ⟨rfl,_,rfl,no (by decide +kernel) ?_⟩⟩
  refine⟨_,rfl,(by show 3<=sizeLine;decide),λt ht=>⟨t,_,rfl,.inr (cY.of ag),rfl,rfl,_,rfl,uE (by decide +kernel) ?_⟩⟩
  have nt:p≠t:=ar h ht
  exact⟨_,rfl,cg (by rw[aA nt];exact h) (by decide) rfl ⟨(by show 1<=sizeLine;decide),λt2 ht2=>q t2 _ ag (((aS.refl H).new ht).new ht2)⟩⟩
 |jump to=>
  obtain⟨p,rfl,h⟩:=hr
  refine⟨_,rfl,cg h (by decide) rfl ?_⟩
  refine⟨_,rfl,.inl ⟨rfl,_,rfl,no (by decide +kernel) ?_⟩⟩
  refine⟨_,rfl,.inl ⟨rfl,_,rfl,no (by decide +kernel) ?_⟩⟩
  refine⟨_,rfl,(by show 3<=sizeLine;decide),λt ht=>⟨t,_,rfl,.inr (cY.of ag),rfl,rfl,_,rfl,uD (by decide +kernel) ?_⟩⟩
  have nt:p≠t:=ar h ht
  exact⟨(by show 0<=sizeLine;decide),λt2 ht2=>q t2 _ ag (((aS.refl H).new ht).new ht2)⟩
 |test a to=>
  obtain⟨p,rfl,h⟩:=hr
  refine⟨_,rfl,cg h (by decide) rfl ?_⟩
  refine⟨_,rfl,.inl ⟨rfl,_,rfl,no (by decide +kernel) ?_⟩⟩
  refine⟨_,rfl,.inl ⟨rfl,_,rfl,no (by decide +kernel) ?_⟩⟩
  refine⟨_,rfl,(by show 3<=sizeLine;decide),λt ht=>⟨t,_,rfl,.inr (cY.of ag),rfl,rfl,_,rfl,uE (by decide +kernel) ?_⟩⟩
  have nt:p≠t:=ar h ht
  exact⟨_,rfl,cg (by rw[aA nt];exact h) (by decide) rfl ⟨(by show 1<=sizeLine;decide),λt2 ht2=>q t2 _ ag (((aS.refl H).new ht).new ht2)⟩⟩
 |give a=>
  obtain⟨p,rfl,h⟩:=hr
  refine⟨_,rfl,cg h (by decide) rfl ?_⟩
  refine⟨_,rfl,.inl ⟨rfl,_,rfl,no (by decide +kernel) ?_⟩⟩
  refine⟨_,rfl,.inl ⟨rfl,_,rfl,no (by decide +kernel) ?_⟩⟩
  refine⟨_,rfl,(by show 3<=sizeLine;decide),λt ht=>⟨t,_,rfl,.inr (cY.of ag),rfl,rfl,_,rfl,uE (by decide +kernel) ?_⟩⟩
  have nt:p≠t:=ar h ht
  exact⟨_,rfl,cg (by rw[aA nt];exact h) (by decide) rfl ⟨(by show 1<=sizeLine;decide),λt2 ht2=>q t2 _ ag (((aS.refl H).new ht).new ht2)⟩⟩
theorem Gw{K:Fg}{vs:List V}{H:Hp}{Q:VK}{E:XK}(h:jA K vs H Q E):Ak K {nx:=λ_ H'=>Q .non H',rt:=Q} (cU uh vs) H:=by
 obtain⟨v,r,rfl,hr,q⟩:=h
 cases r with
 |num x z=>
  obtain⟨p,rfl,h⟩:=hr
  refine⟨_,rfl,cg h (by decide) rfl ?_⟩
  refine⟨(by show 3<=sizeLine;decide),λt ht=>⟨t,_,rfl,.inr (cY.of ag),rfl,rfl,_,rfl,uE (by decide +kernel) ?_⟩⟩
  have nt:p≠t:=ar h ht
  exact⟨_,rfl,cg (by rw[aA nt];exact h) (by decide) rfl (q _ ((aS.refl H).new ht))⟩
 |op x s a b=>
  obtain⟨p,rfl,h⟩:=hr
  refine⟨_,rfl,cg h (by decide) rfl ?_⟩
  refine⟨(by show 3<=sizeLine;decide),λt ht=>⟨t,_,rfl,.inr (cY.of ag),rfl,rfl,_,rfl,uE (by decide +kernel) ?_⟩⟩
  have nt:p≠t:=ar h ht
  exact⟨_,rfl,cg (by rw[aA nt];exact h) (by decide) rfl (q _ ((aS.refl H).new ht))⟩
 |call x k as=>
  obtain⟨p,q1,rfl,h,h1⟩:=hr
  refine⟨_,rfl,cg h (by decide) rfl ?_⟩
  refine⟨(by show 3<=sizeLine;decide),λt ht=>⟨t,_,rfl,.inr (cY.of ag),rfl,rfl,_,rfl,uE (by decide +kernel) ?_⟩⟩
  have nt:p≠t:=ar h ht
  exact⟨_,rfl,cg (by rw[aA nt];exact h) (by decide) rfl (q _ ((aS.refl H).new ht))⟩
 |say a=>
  obtain⟨p,rfl,h⟩:=hr
  refine⟨_,rfl,cg h (by decide) rfl ?_⟩
  refine⟨(by show 3<=sizeLine;decide),λt ht=>⟨t,_,rfl,.inr (cY.of ag),rfl,rfl,_,rfl,uD (by decide +kernel) ?_⟩⟩
  have nt:p≠t:=ar h ht
  exact q _ ((aS.refl H).new ht)
 |jump to=>
  obtain⟨p,rfl,h⟩:=hr
  refine⟨_,rfl,cg h (by decide) rfl ?_⟩
  refine⟨(by show 3<=sizeLine;decide),λt ht=>⟨t,_,rfl,.inr (cY.of ag),rfl,rfl,_,rfl,uD (by decide +kernel) ?_⟩⟩
  have nt:p≠t:=ar h ht
  exact q _ ((aS.refl H).new ht)
 |test a to=>
  obtain⟨p,rfl,h⟩:=hr
  refine⟨_,rfl,cg h (by decide) rfl ?_⟩
  refine⟨(by show 3<=sizeLine;decide),λt ht=>⟨t,_,rfl,.inr (cY.of ag),rfl,rfl,_,rfl,uD (by decide +kernel) ?_⟩⟩
  have nt:p≠t:=ar h ht
  exact q _ ((aS.refl H).new ht)
 |give a=>
  obtain⟨p,rfl,h⟩:=hr
  refine⟨_,rfl,cg h (by decide) rfl ?_⟩
  refine⟨(by show 3<=sizeLine;decide),λt ht=>⟨t,_,rfl,.inr (cY.of ag),rfl,rfl,_,rfl,uD (by decide +kernel) ?_⟩⟩
  have nt:p≠t:=ar h ht
  exact q _ ((aS.refl H).new ht)
theorem Gv{K:Fg}{vs:List V}{H:Hp}{Q:VK}{E:XK}(h:eJ K vs H Q E):Ab K {nx:=λ_ H'=>Q .non H',rt:=Q} (cU ug vs) H:=by
 obtain⟨v,r,rfl,hr,q⟩:=h
 cases r with
 |num x z=>
  obtain⟨p,rfl,h⟩:=hr
  refine⟨_,rfl,cg h (by decide) rfl (.inl ⟨rfl,_,rfl,no (by decide +kernel) ?_⟩)⟩
  exact⟨_,rfl,cg h (by decide) rfl (.inl ⟨rfl,_,rfl,no (by decide +kernel) q⟩)⟩
 |op x s a b=>
  obtain⟨p,rfl,h⟩:=hr
  refine⟨_,rfl,cg h (by decide) rfl (.inl ⟨rfl,_,rfl,no (by decide +kernel) ?_⟩)⟩
  exact⟨_,rfl,cg h (by decide) rfl (.inl ⟨rfl,_,rfl,no (by decide +kernel) q⟩)⟩
 |call x k as=>
  obtain⟨p,q1,rfl,h,h1⟩:=hr
  refine⟨_,rfl,cg h (by decide) rfl (.inl ⟨rfl,_,rfl,no (by decide +kernel) ?_⟩)⟩
  exact⟨_,rfl,cg h (by decide) rfl (.inl ⟨rfl,_,rfl,no (by decide +kernel) q⟩)⟩
 |say a=>
  obtain⟨p,rfl,h⟩:=hr
  refine⟨_,rfl,cg h (by decide) rfl (.inl ⟨rfl,_,rfl,no (by decide +kernel) ?_⟩)⟩
  exact⟨_,rfl,cg h (by decide) rfl (.inl ⟨rfl,_,rfl,no (by decide +kernel) q⟩)⟩
 |jump to=>
  obtain⟨p,rfl,h⟩:=hr
  exact⟨_,rfl,cg h (by decide) rfl (.inl ⟨rfl,_,rfl,Ay ⟨_,rfl,cg h (by decide) rfl q⟩⟩)⟩
 |test a to=>
  obtain⟨p,rfl,h⟩:=hr
  refine⟨_,rfl,cg h (by decide) rfl (.inl ⟨rfl,_,rfl,no (by decide +kernel) ?_⟩)⟩
  exact⟨_,rfl,cg h (by decide) rfl (.inl ⟨rfl,_,rfl,Ay ⟨_,rfl,cg h (by decide) rfl q⟩⟩)⟩
 |give a=>
  obtain⟨p,rfl,h⟩:=hr
  refine⟨_,rfl,cg h (by decide) rfl (.inl ⟨rfl,_,rfl,no (by decide +kernel) ?_⟩)⟩
  exact⟨_,rfl,cg h (by decide) rfl (.inl ⟨rfl,_,rfl,no (by decide +kernel) q⟩)⟩
theorem Ed{K:Fg}{vs:List V}{H:Hp}{Q:VK}{E:XK}(h:gW K vs H Q E):w5 K {nx:=λ_ H'=>Q .non H',rt:=Q} (cU q9 vs) H:=by
 obtain⟨rt,n,rvs,v,r,rfl,hrt,hv,hr,q⟩:=h
 have hn:rvs[((n:Nat):Int).toNat]?=some v:=by simpa using hv
 have n0:(0:Int)<=((n:Nat):Int):=by lia
 have e1:(((n+1:Nat):Nat):Int)=(n:Int)+1:=by lia
 cases r with
 |num x z=>
  have hr0:=hr
  obtain⟨p,rfl,h⟩:=hr
  refine⟨_,rfl,_,rfl,cg hrt n0 hn (cg h (by decide) rfl ?_)⟩
  refine⟨_,rfl,.inl ⟨rfl,_,rfl,no (by decide +kernel) ?_⟩⟩
  refine⟨_,rfl,.inl ⟨rfl,_,rfl,no (by decide +kernel) ?_⟩⟩
  refine⟨_,rfl,.inl ⟨rfl,_,rfl,no (by decide +kernel) ?_⟩⟩
  exact⟨_,rfl,.inl ⟨_,_,rfl,rfl,⟨(by show 1<=sizeLine;decide),λt ht=>q t _ (by rw[ag];first|rfl|(unfold bG cL;simp only[ba,bO,e1])) ((aS.refl H).new ht)⟩⟩⟩
 |op x s a b=>
  have hr0:=hr
  obtain⟨p,rfl,h⟩:=hr
  refine⟨_,rfl,_,rfl,cg hrt n0 hn (cg h (by decide) rfl ?_)⟩
  refine⟨_,rfl,.inl ⟨rfl,_,rfl,no (by decide +kernel) ?_⟩⟩
  refine⟨_,rfl,.inl ⟨rfl,_,rfl,no (by decide +kernel) ?_⟩⟩
  refine⟨_,rfl,.inl ⟨rfl,_,rfl,no (by decide +kernel) ?_⟩⟩
  exact⟨_,rfl,.inl ⟨_,_,rfl,rfl,⟨(by show 1<=sizeLine;decide),λt ht=>q t _ (by rw[ag];first|rfl|(unfold bG cL;simp only[ba,bO,e1])) ((aS.refl H).new ht)⟩⟩⟩
 |call x k as=>
  have hr0:=hr
  obtain⟨p,q1,rfl,h,h1⟩:=hr
  refine⟨_,rfl,_,rfl,cg hrt n0 hn (cg h (by decide) rfl ?_)⟩
  refine⟨_,rfl,.inl ⟨rfl,_,rfl,no (by decide +kernel) ?_⟩⟩
  refine⟨_,rfl,.inl ⟨rfl,_,rfl,no (by decide +kernel) ?_⟩⟩
  refine⟨_,rfl,.inl ⟨rfl,_,rfl,no (by decide +kernel) ?_⟩⟩
  exact⟨_,rfl,.inl ⟨_,_,rfl,rfl,⟨(by show 1<=sizeLine;decide),λt ht=>q t _ (by rw[ag];first|rfl|(unfold bG cL;simp only[ba,bO,e1])) ((aS.refl H).new ht)⟩⟩⟩
 |say a=>
  have hr0:=hr
  obtain⟨p,rfl,h⟩:=hr
  refine⟨_,rfl,_,rfl,cg hrt n0 hn (cg h (by decide) rfl ?_)⟩
  refine⟨_,rfl,.inl ⟨rfl,_,rfl,no (by decide +kernel) ?_⟩⟩
  refine⟨_,rfl,.inl ⟨rfl,_,rfl,no (by decide +kernel) ?_⟩⟩
  refine⟨_,rfl,.inl ⟨rfl,_,rfl,no (by decide +kernel) ?_⟩⟩
  exact⟨_,rfl,.inl ⟨_,_,rfl,rfl,⟨(by show 1<=sizeLine;decide),λt ht=>q t _ (by rw[ag];first|rfl|(unfold bG cL;simp only[ba,bO,e1])) ((aS.refl H).new ht)⟩⟩⟩
 |jump to=>
  have hr0:=hr
  obtain⟨p,rfl,h⟩:=hr
  refine⟨_,rfl,_,rfl,cg hrt n0 hn (cg h (by decide) rfl ?_)⟩
  refine⟨_,rfl,.inl ⟨rfl,_,rfl,no (by decide +kernel) ?_⟩⟩
  refine⟨_,rfl,.inl ⟨rfl,_,rfl,Ay ?_⟩⟩
  exact⟨_,rfl,_,rfl,cg hrt n0 hn ⟨_,_,rfl,hr0,⟨(by show 1<=sizeLine;decide),λt ht=>q t _ (by rw[ag];first|rfl|(unfold bG cL;simp only[ba,bO,e1])) ((aS.refl H).new ht)⟩⟩⟩
 |test a to=>
  have hr0:=hr
  obtain⟨p,rfl,h⟩:=hr
  refine⟨_,rfl,_,rfl,cg hrt n0 hn (cg h (by decide) rfl ?_)⟩
  refine⟨_,rfl,.inl ⟨rfl,_,rfl,no (by decide +kernel) ?_⟩⟩
  refine⟨_,rfl,.inl ⟨rfl,_,rfl,no (by decide +kernel) ?_⟩⟩
  refine⟨_,rfl,.inl ⟨rfl,_,rfl,Ay ?_⟩⟩
  exact⟨_,rfl,.inl ⟨_,_,rfl,rfl,⟨_,rfl,_,rfl,cg hrt n0 hn ⟨_,_,rfl,hr0,⟨(by show 2<=sizeLine;decide),λt ht=>q t _ (by rw[ag];first|rfl|(unfold bG cL;simp only[ba,bO,e1])) ((aS.refl H).new ht)⟩⟩⟩⟩⟩
 |give a=>
  have hr0:=hr
  obtain⟨p,rfl,h⟩:=hr
  refine⟨_,rfl,_,rfl,cg hrt n0 hn (cg h (by decide) rfl ?_)⟩
  refine⟨_,rfl,.inl ⟨rfl,_,rfl,Ay ?_⟩⟩
  exact⟨(by show 0<=sizeLine;decide),λt ht=>q t _ (by rw[ag];first|rfl|(unfold bG cL;simp only[ba,bO,e1])) ((aS.refl H).new ht)⟩
theorem Fb(c:Nat):(bD c [V.str ""]).flatten=(bD c ("":Str)).map V.str:=by
 induction c with
 |zero=>rfl
 |succ c ih=>rw[dS,gH,ih,dS,ba];rfl
theorem Ju:∀i:Nat,i<5->∃c,("+-*<=":Str).cps.toList[i]?=some c/\(⟨#[c]⟩:Str)∈CK
 |0,_=>⟨43,by decide +kernel,by decide +kernel⟩
 |1,_=>⟨45,by decide +kernel,by decide +kernel⟩
 |2,_=>⟨42,by decide +kernel,by decide +kernel⟩
 |3,_=>⟨60,by decide +kernel,by decide +kernel⟩
 |4,_=>⟨61,by decide +kernel,by decide +kernel⟩
 |n+5,h=>by lia
theorem zB{K:Fg}{vs:List V}{H:Hp}{Q:VK}{E:XK}(h:gy K vs H Q E):sR K {nx:=λ_ H'=>Q .non H',rt:=Q} (cU nP vs) H:=by
 obtain⟨st,nm,cn,n,k,ys,cs,rfl,S,hk,hnm,ysne,ysl,n1,n2,hcn,csne,csl,cs4,nnm,ncn,q⟩:=h
 have yl:0<ys.length:=dn.mpr ysne
 have cl:0<cs.length:=dn.mpr csne
 refine⟨_,rfl,_,rfl,_,rfl,_,_,rfl,.inl ⟨_,cz.of hnm,rfl⟩,st,_,k,rfl,S,by lia,by rw[ao];lia,by rw[ao];lia,λd H1 d0 d1 S1 B1=>?_⟩
 rw[ao] at d1
 have dl:d.toNat<ys.length:=by lia
 refine mF (cz.of (B1 nm _ nnm hnm)) d0 (qx (ai dl)) ?_
 have hx:ys[d.toNat]∈ys:=e8 dl
 generalize ys[d.toNat]=x at hx ⊢
 refine⟨_,rfl,st,12,k+1,rfl,S1,by lia,by decide,by decide,λs H2 s0 s1 S2 B2'=>?_⟩
 have B2:fu st H H2:=B1.trans B2'
 have hcn2:=B2 cn _ ncn hcn
 refine⟨_,rfl,_,_,rfl,rfl,_,rfl,cJ (λ_=>?_) (λhs2=>?_)⟩
 ·refine⟨_,rfl,_,rfl,st,k+2,rfl,S2,by lia,λz k3 H3 z0 z1 S3 l3 B3=>⟨(by show 3<=sizeLine;decide),λp hp=>?_⟩⟩
  exact q _ (.num x z) _ _ ⟨p,rfl,ag⟩ ⟨hx,z0,z1⟩ (S3.new hp) (by lia) ((B2.trans B3).new hp)
 refine⟨_,rfl,_,_,rfl,rfl,_,rfl,cJ (λ_=>?_) (λhs6=>?_)⟩
 ·refine⟨_,rfl,_,rfl,st,5,k+2,rfl,S2,by lia,by decide,by decide,λe H3 e0 e1 S3 B3=>?_⟩
  obtain⟨c,c1,c2⟩:=Ju e.toNat (by lia)
  refine MX (by decide +kernel) e0 c1 ⟨(by show 5<=sizeLine;decide),λp hp=>?_⟩
  exact q _ (.op x ⟨#[c]⟩ "" "") _ _ ⟨p,rfl,ag⟩ ⟨hx,c2,rfl,rfl⟩ (S3.new hp) (by lia) ((B2.trans B3).new hp)
 refine⟨_,rfl,.inl ⟨rfl,_,rfl,cJ (λ_=>?_) (λ_=>?_)⟩⟩
 ·refine⟨_,rfl,_,rfl,_,_,rfl,.inl ⟨_,cz.of hcn2,rfl⟩,st,_,k+2,rfl,S2,by lia,by rw[dk];lia,by rw[dk];lia,λe H3 e0 e1 S3 B3=>?_⟩
  rw[dk] at e1
  obtain⟨j,rfl⟩:∃j:Nat,e=(j:Int):=⟨e.toNat,by lia⟩
  have jl:j<cs.length:=by lia
  have hcn3:=B3 cn _ ncn hcn2
  have cj:cs[j]?=some cs[j]:=ai jl
  have c4:cs[j]<=4:=cs4 _ (e8 jl)
  generalize cs[j]=c at cj c4
  refine⟨_,rfl,_,rfl,(by show 1<=sizeLine;decide),λp1 hp1=>?_⟩
  have nc1:cn≠p1:=ar hcn3 hp1
  refine⟨_,rfl,_,rfl,mF (cz.of (by rw[aA nc1];exact hcn3)) (by lia) (v:=.int (c:Nat)) (by simpa using Dv cj) ?_⟩
  have S4:=S3.new (o:=.tup [V.str ""]) hp1
  have B4:=(B2.trans B3).new (o:=.tup [V.str ""]) hp1
  have c5:1*c<=sizeLine:=ck (by lia) (show 100<=sizeLine by decide)
  refine .inr ⟨p1,c,[V.str ""],rfl,rfl,cY.of ag,by simp,c5,λh1=>⟨(by show 4<=sizeLine;decide),λp hp=>?_⟩,λhne p2 hp2=>⟨(by show 4<=sizeLine;decide),λp hp=>?_⟩⟩
  ·have n1p:p1≠p:=ar ag hp
   subst h1
   refine q _ (.call x j [""]) _ _ ⟨p,p1,rfl,ag,by rw[aA n1p,ag];rfl⟩ ⟨hx,1,cj,rfl⟩ (S4.new hp) (by lia) (B4.new hp)
  ·have n2p:p2≠p:=ar ag hp
   refine q _ (.call x j (bD c "")) _ _ ⟨p,p2,rfl,ag,by rw[aA n2p,ag,Fb]⟩ ⟨hx,c,cj,rfl⟩ ((S4.new hp2).new hp) (by lia) ((B4.new hp2).new hp)
 refine⟨_,rfl,_,_,rfl,rfl,_,rfl,cJ (λ_=>?_) (λhs8=>?_)⟩
 ·exact⟨(by show 2<=sizeLine;decide),λp hp=>q _ (.say "") _ _ ⟨p,rfl,ag⟩ rfl (S2.new hp) (by lia) (B2.new hp)⟩
 refine⟨_,rfl,_,_,rfl,rfl,_,rfl,cJ (λ_=>?_) (λhs10=>?_)⟩
 ·refine⟨_,rfl,_,rfl,st,_,k+2,rfl,S2,by lia,by lia,by lia,λe H3 e0 e1 S3 B3=>⟨(by show 3<=sizeLine;decide),λp hp=>?_⟩⟩
  obtain⟨j,rfl⟩:∃j:Nat,e=(j:Int):=⟨e.toNat,by lia⟩
  exact q _ (.test "" j) _ _ ⟨p,rfl,ag⟩ ⟨rfl,by lia⟩ (S3.new hp) (by lia) ((B2.trans B3).new hp)
 refine⟨_,rfl,_,rfl,st,_,k+2,rfl,S2,by lia,by lia,by lia,λe H3 e0 e1 S3 B3=>⟨(by show 2<=sizeLine;decide),λp hp=>?_⟩⟩
 obtain⟨j,rfl⟩:∃j:Nat,e=(j:Int):=⟨e.toNat,by lia⟩
 refine⟨(by show 2<=sizeLine;decide),λp2 hp2=>⟨(by show 2<=sizeLine;decide),λl hl=>?_⟩⟩
 have n12:p≠p2:=ar ag hp2
 have n2l:p2≠l:=ar ag hl
 have n1l:p≠l:=ar (by rw[aA n12];exact ag) hl
 have S4:=((S3.new (o:=.tup [V.str "jump",V.int (j:Nat)]) hp).new (o:=.tup [V.str "give",V.str ""]) hp2).new (o:=.lst [V.ref p,V.ref p2]) hl
 have B4:=(((B2.trans B3).new (o:=.tup [V.str "jump",V.int (j:Nat)]) hp).new (o:=.tup [V.str "give",V.str ""]) hp2).new (o:=.lst [V.ref p,V.ref p2]) hl
 refine⟨_,rfl,_,_,rfl,rfl,?_⟩
 rcases(by lia:s=10\/s=11) with rfl|rfl
 ·exact mF (cz.of ag) (by decide) rfl (q _ (.jump j) _ _ ⟨p,rfl,by rw[aA n1l,aA n12,ag]⟩ (by show j<n;lia) S4 (by lia) B4)
 ·exact mF (cz.of ag) (by decide) rfl (q _ (.give "") _ _ ⟨p2,rfl,by rw[aA n2l,ag]⟩ rfl S4 (by lia) B4)
theorem M7{K:Fg}{rl nm pr kl la l:Addr}{H H':Hp}{ys ps ls:List Str}{w:Str}{rs:List bz}{kss0:List (List Str)}{B i mm j0:Nat}{ms:List Nat}{refs:List V}{kss:List (List Str)}{more:Bool}{o8:Option V}{rt:VK}{bk:St->Hp->Prop}
  (hkl:H kl=none) (nla:la≠kl) (nl:l≠kl) (hw:w∈ls) (hm:mm<rs.length) (hmj:ms[j0]?=some mm) (hz:xK ps kss) (hc:more=false->kss=kss0/\uk rs i kss0/\∀j',j'<j0->∀m km,ms[j']?=some m->kss0[m]?=some km->∀y∈km,y∈ls) (k:KJ kl H ys ps w rs.length H' refs kss) (hB:2*rO kss+more.toNat<=B) (hla:H' la=some (.lst (ls.map V.str))) (hl:H' l=some (.lst (bG ms))) :
  px K {nx:=MT rl nm pr kl H ys ps w rs B i la l ls ms kss0 (j0+1),rt:=rt,ct:=MT rl nm pr kl H ys ps w rs B i la l ls ms kss0 (j0+1),bk:=bk} [some (.ref rl),some (.ref nm),some (.ref pr),some (.ref kl),some (.bl more),some (.int (i:Nat)),some (.ref la),some (.int (mm:Nat)),o8] H':=by
 obtain⟨am,km,e1,e2,nam,ham⟩:=k.get hm
 obtain⟨k1,k2,k3⟩:=k.wit mm km e2
 have e1':refs[((mm:Nat):Int).toNat]?=some (.ref am):=by simpa using e1
 refine .inl ⟨_,rfl,_,rfl,mF (cz.of k.at_) (by lia) e1' ⟨am,rfl,⟨_,cz.of ham⟩,λD hD=>?_⟩⟩
 have nD:kl≠D:=ar k.at_ hD
 have naD:am≠D:=ar ham hD
 have nlaD:la≠D:=ar hla hD
 have nlD:l≠D:=ar hl hD
 refine ma (xs:=km.map V.str) (λj σ' H2=>∃o,σ'=[some (.ref rl),some (.ref nm),some (.ref pr),some (.ref kl),some (.bl more),some (.int (i:Nat)),some (.ref la),some (.int (mm:Nat)),o8,o]/\H2=upd H' D (.lst (((km.take j).filter λy=>decide (y∈ls)).map V.str))) ?_ ?_ ?_ ?_
 ·exact⟨none,rfl,rfl⟩
 ·rintro j σ' H2 _ ⟨o,_,rfl⟩
  exact cz.of (by rw[aA naD];exact ham)
 ·rintro j x σ' H2 hx ⟨o,rfl,rfl⟩
  rw[aX] at hx
  obtain⟨y,hy,rfl⟩:∃y,km[j]?=some y/\V.str y=x:=by
   cases e:km[j]? with
   |none=>rw[e] at hx;cases hx
   |some y=>rw[e] at hx;exact⟨y,rfl,Option.some.inj hx⟩
  have jl:j<km.length:=(aj.mp hy).1
  have fl:((km.take j).filter λy=>decide (y∈ls)).length<=100:=ck (dX _ _) (by rw[bg];lia)
  have ft:=rV (λy=>decide (y∈ls)) km j y hy
  refine⟨_,rfl,_,rfl,la,_,rfl,.inl (cz.of (by rw[aA nlaD];exact hla)),rfl,kE _,_,rfl,?_⟩
  show if kj (.str y) (ls.map V.str)=true then _ else _
  rw[kQ]
  refine cJ (λhin=>?_) (λhin=>?_)
  ·refine⟨_,rfl,_,ag,dq (by rw[ao];lia),_,rfl,?_⟩
   rw[nu,ft,if_pos (by simpa using hin),aZ]
   rfl
  ·refine⟨_,rfl,?_⟩
   rw[ft,if_neg (by simpa using hin),eK]
 ·rintro σ' H2 ⟨o,_,rfl⟩
  have et:km.take (km.map V.str).length=km:=bZ (by rw[ao];exact aC _)
  rw[et]
  have fl:(km.filter λy=>decide (y∈ls)).length<=km.length:=dX _ _
  have fm:∀y∈km.filter (λy=>decide (y∈ls)),y∈ys:=λy hy=>k2 y (gA.mp hy).1
  have fw:w∈km.filter (λy=>decide (y∈ls))\/(mm=0/\ps=[]):=k3.imp (λz=>gA.mpr ⟨z,by simpa using hw⟩) id
  have fs:∀y∈km.filter (λy=>decide (y∈ls)),y∈km:=λy hy=>(gA.mp hy).1
  have fe:¬(km.filter (λy=>decide (y∈ls))).length<km.length->∀y∈km,y∈ls:=λhn y hy=>by
   have:=List.length_filter_eq_length_iff.mp (Nat.le_antisymm (dX (λy=>decide (y∈ls)) km) (ub.mp hn)) y hy
   simpa using this
  generalize km.filter (λy=>decide (y∈ls))=kp at fl fm fw fs fe
  have k':=k.grown ((aS.refl H').new (o:=.lst (kp.map V.str)) hD)
  have hla':(upd H' D (.lst (kp.map V.str))) la=some (.lst (ls.map V.str)):=by rw[aA nlaD];exact hla
  have hl':(upd H' D (.lst (kp.map V.str))) l=some (.lst (bG ms)):=by rw[aA nlD];exact hl
  have ham':(upd H' D (.lst (kp.map V.str))) am=some (.lst (km.map V.str)):=by rw[aA naD];exact ham
  have hD':(upd H' D (.lst (kp.map V.str))) D=some (.lst (kp.map V.str)):=ag
  generalize upd H' D (.lst (kp.map V.str))=H3 at k' hla' hl' ham' hD'
  show pq K _ [some (.ref rl),some (.ref nm),some (.ref pr),some (.ref kl),some (.bl more),some (.int (i:Nat)),some (.ref la),some (.int (mm:Nat)),some (.ref D)] H3
  refine⟨_,rfl,_,_,rfl,.inl ⟨_,cz.of hD',rfl⟩,_,rfl,_,rfl,mF (cz.of k'.at_) (by lia) e1' ⟨_,_,rfl,.inl ⟨_,cz.of ham',rfl⟩,_,_,rfl,rfl,_,rfl,cJ (λhlt=>?_) (λhlt=>?_)⟩⟩
  ·rw[ao,ao] at hlt
   refine⟨_,rfl,_,rfl,_,rfl,yw k'.at_ (by lia) (by rw[k'.vlen];simpa using hm) ?_⟩
   have ei:((mm:Nat):Int).toNat=mm:=by simp
   rw[ei]
   have ss:=zR (kp:=kp) e2
   refine⟨_,kss.set mm kp,true,_,_,rfl,k'.set hkl (Ne.symm nD) hD' ⟨by lia,fm,fw⟩,?_,by rw[aA nla];exact hla',by rw[aA nl];exact hl',hz.set e2 fs,λz=>by cases z⟩
   have:(true:Bool).toNat=1:=rfl
   lia
  ·rw[ao,ao] at hlt
   refine⟨refs,kss,more,_,_,rfl,k',hB,hla',hl',hz,λhmo=>?_⟩
   obtain⟨c1,c2,c3⟩:=hc hmo
   refine⟨c1,c2,λj' hj' m km' hm' hk'=>?_⟩
   by_cases cj:j'<j0
   ·exact c3 j' cj m km' hm' hk'
   ·have:j'=j0:=by lia
    subst this
    rw[hmj] at hm';cases hm'
    rw[<-c1,e2] at hk';cases hk'
    exact fe (by lia)
theorem mh{ms:List Nat}{j:Nat}{x:V}(h:(bG ms)[j]?=some x):∃m,ms[j]?=some m/\x=.int (m:Nat):=by
 unfold bG at h
 rw[aX] at h
 cases e:ms[j]? with
 |none=>rw[e] at h;cases h
 |some m=>rw[e] at h;exact⟨m,rfl,(Option.some.inj h).symm⟩
theorem M6{K:Fg}{rl nm pr kl:Addr}{H H':Hp}{ys ps:List Str}{cs:List Nat}{w:Str}{B i:Nat}{rvs:List V}{rs:List bz}{refs:List V}{kss:List (List Str)}{more:Bool}{o6 o7 o8:Option V}{rt:VK}{bk:St->Hp->Prop}
  (hkl:H kl=none) (hrl:H rl=some (.lst rvs)) (hA:cF (cx H) rvs rs) (hOk:uq ys cs rs) (hE:rs.getLast?.map gR=some true) (hw0:ps=[]->∃z,rs[0]?=some (.num w z)) (hi:i<rs.length) (k:KJ kl H ys ps w rs.length H' refs kss) (hB:2*rO kss+more.toNat<=B) (hz:xK ps kss) (hP:more=false->uk rs i kss) :
  lV K {nx:=LG rl nm pr kl H ys ps w rs B (i+1),rt:=rt,ct:=LG rl nm pr kl H ys ps w rs B (i+1),bk:=bk} [some (.ref rl),some (.ref nm),some (.ref pr),some (.ref kl),some (.bl more),some (.int (i:Nat)),o6,o7,o8] H':=by
 obtain⟨a,ks,e1,e2,na,ha⟩:=k.get hi
 obtain⟨k1,k2,k3⟩:=k.wit i ks e2
 obtain⟨v,r,f1,f2,hra⟩:=hA.get (i:=i) hi
 obtain⟨p,xs,rfl,hp⟩:=hra.ref
 have e1':refs[((i:Nat):Int).toNat]?=some (.ref a):=by simpa using e1
 have f1':rvs[((i:Nat):Int).toNat]?=some (.ref p):=by simpa using f1
 have nkl:rl≠kl:=ar hrl hkl
 have ways:∀(la:Addr) (ls:List Str) (H2:Hp),la≠kl->w∈ls->(∀y∈ls,y∈ks\/ij r=.str y)->KJ kl H ys ps w rs.length H2 refs kss->H2 la=some (.lst (ls.map V.str))->
   pA K {nx:=LG rl nm pr kl H ys ps w rs B (i+1),rt:=rt,ct:=LG rl nm pr kl H ys ps w rs B (i+1),bk:=bk} [some (.ref rl),some (.ref nm),some (.ref pr),some (.ref kl),some (.bl more),some (.int (i:Nat)),some (.ref la),o7,o8] H2:=λla ls H2 nla hwl hls k2 hla=>by
  refine .inl ⟨_,rfl,_,rfl,rl,i,rvs,.ref p,r,rfl,.inl (k2.same _ _ hrl),f1,hra.mono (.of_same k2.same),λl hl=>?_⟩
  have nl:l≠kl:=λz=>by rw[z,k2.at_] at hl;cases hl
  have nlal:la≠l:=ar hla hl
  refine⟨l,rfl,⟨_,cz.of ag⟩,md (xs:=bG (cL i r)) (λj=>MT rl nm pr kl H ys ps w rs B i la l ls (cL i r) kss j) ?_ ?_ ?_ ?_⟩
  ·exact⟨refs,kss,more,_,_,rfl,k2.grown ((aS.refl H2).new hl),hB,by rw[aA nlal];exact hla,ag,hz,λhmo=>⟨rfl,hP hmo,λj' hj'=>absurd hj' (cB _)⟩⟩
  ·rintro j σ' H3 _ ⟨_,_,_,_,_,_,_,_,_,h3,_,_⟩
   exact cz.of h3
  ·rintro j x σ' H3 hx ⟨refs3,kss3,more3,o73,o83,rfl,k3',hB3,hla3,hl3,hz3,hc3⟩
   obtain⟨mm,hmm,rfl⟩:=mh hx
   exact M7 hkl nla nl hwl (Ft f2 (hOk.rough r (aH f2)) hE hmm) hmm hz3 hc3 k3' hB3 hla3 hl3
  ·rintro σ' H3 ⟨refs3,kss3,more3,o73,o83,rfl,k3',hB3,hla3,hl3,hz3,hc3⟩
   refine⟨refs3,kss3,more3,_,_,_,_,rfl,k3',hB3,hz3,λhmo=>?_⟩
   obtain⟨c1,c2,c3⟩:=hc3 hmo
   subst c1
   intro n m r' ks' km hn hr' hm' hks' hkm y hy
   by_cases cn:n<i
   ·exact c2 n m r' ks' km cn hr' hm' hks' hkm y hy
   ·have:n=i:=by lia
    subst this
    rw[f2] at hr';cases hr'
    rw[e2] at hks';cases hks'
    obtain⟨j',hj',hmj⟩:=cD.mp hm'
    have hmj':(cL n r)[j']?=some m:=by rw[ai hj',hmj]
    exact hls y (c3 j' (by rw[dk];exact hj') m km hmj' hkm y hy)
 refine⟨_,rfl,_,rfl,mF (cz.of k.at_) (by lia) e1' ?_⟩
 show pB K _ [some (.ref rl),some (.ref nm),some (.ref pr),some (.ref kl),some (.bl more),some (.int (i:Nat)),some (.ref a),o7,o8] H'
 refine⟨_,rfl,_,rfl,mF (cz.of (k.same _ _ hrl)) (by lia) f1' (cg (k.same _ _ hp) (by decide) rfl ⟨(by show 3<=sizeLine;decide),λt ht=>⟨t,_,rfl,.inr (cY.of ag),rfl,rfl,_,rfl,?_⟩⟩)⟩
 have sm:=(aS.refl H').new (o:=.tup [V.str "num",V.str "op",V.str "call"]) ht
 have kt:=k.grown sm
 have hat:=sm _ _ ha
 generalize upd H' t (.tup [V.str "num",V.str "op",V.str "call"])=H1 at sm kt hat ⊢
 refine qf (λhb=>?_) (λhb=>?_)
 ·have hb':kj (.str (gc r)) [V.str "num",V.str "op",V.str "call"]=true:=hb
  obtain⟨x,hx⟩:=HP hb'
  obtain⟨xs',hp'⟩:=Js hra hx
  refine⟨_,rfl,_,rfl,_,rfl,mF (cz.of (kt.same _ _ hrl)) (by lia) f1' (cg (kt.same _ _ hp') (by decide) rfl ⟨(by show 1<=sizeLine;decide),λp1 hp1=>?_⟩)⟩
  have na1:a≠p1:=ar hat hp1
  refine .inr (.inr (.inl ⟨a,p1,_,_,rfl,rfl,by rw[aA na1];exact hat,ag,?_,λp2 hp2=>?_⟩))
  ·have:=dq (n:=101) (by decide)
   rw[ao]
   show ks.length+1<=sizeLine
   lia
  have k5:=(kt.grown ((aS.refl H1).new (o:=.lst [V.str x]) hp1)).grown ((aS.refl _).new (o:=.lst (ks.map V.str++[V.str x])) hp2)
  have np2:p2≠kl:=λz=>by
   have:=(kt.grown ((aS.refl H1).new (o:=.lst [V.str x]) hp1)).at_
   rw[z,this] at hp2;cases hp2
  refine ways p2 (ks++[x]) _ np2 ?_ (λy hy=>(aY.mp hy).imp id λz=>by rw[ak.mp z];exact hx) k5 (by rw[ag,aZ];rfl)
  rcases k3 with z|⟨z1,z2⟩
  ·exact cc _ z
  ·obtain⟨zz,hz⟩:=hw0 z2
   subst z1
   rw[f2] at hz;cases hz;cases hx
   exact bB _ (ak.mpr rfl)
 ·refine ways a ks _ na ?_ (λy hy=>.inl hy) kt hat
  rcases k3 with z|⟨z1,z2⟩
  ·exact z
  ·obtain⟨zz,hz⟩:=hw0 z2
   subst z1
   rw[f2] at hz;cases hz
   exact absurd (show kj (.str "num") [V.str "num",V.str "op",V.str "call"]=false from hb) (by decide +kernel)
theorem Eh{α:Type}(n:Nat)(a:α):bD (n+1) a=bD n a++[a]:=by
 exact List.replicate_succ'
theorem zC{K:Fg}{vs:List V}{H:Hp}{Q:VK}{E:XK}(h:gz K vs H Q E):sS K {nx:=λ_ H'=>Q .non H',rt:=Q} (cU jJ vs) H:=by
 obtain⟨rl,nm,pr,rvs,rs,ys,ps,cs,rfl,hrl,hA,hOk,hE,hnm,ysl,hpr,psl,pin,hnum,q⟩:=h
 have n1:1<=rs.length:=dn.mpr hOk.pos
 obtain⟨w,wy,wp,w0⟩:∃w:Str,w∈ys/\(ps≠[]->w∈ps)/\(ps=[]->∃z,rs[0]?=some (.num w z)):=by
  cases ps with
  |cons p r=>exact⟨p,pin p cG,λ_=>cG,λz=>by cases z⟩
  |nil=>
   have h0:=hnum rfl
   rw[iV] at h0
   cases e:rs[0]? with
   |none=>rw[e] at h0;cases h0
   |some r=>
    rw[e,cT] at h0
    cases r with
    |num x z=>exact⟨x,(hOk.rough _ (aH e)).1,λz=>absurd rfl z,λ_=>⟨z,rfl⟩⟩
    |_=>cases h0
 refine .inl ⟨_,rfl,rl,rfl,⟨_,cz.of hrl⟩,λkl hkl=>?_⟩
 have nrl:rl≠kl:=ar hrl hkl
 have nnm:nm≠kl:=ar hnm hkl
 have npr:pr≠kl:=ar hpr hkl
 refine ma (xs:=rvs) (λj σ' H'=>∃(refs:List V) (o:Option V),σ'=[some (.ref rl),some (.ref nm),some (.ref pr),none,none,none,none,none,none,o]/\H' kl=some (.lst refs)/\cF (JL kl H') refs (bD j ys)/\aS H H') ?_ ?_ ?_ ?_
 ·exact⟨[],none,rfl,ag,.nil,(aS.refl H).new hkl⟩
 ·rintro j σ' H' _ ⟨_,_,_,_,_,s⟩
  exact cz.of (s _ _ hrl)
 ·rintro j x σ' H' hx ⟨refs,o,rfl,hk,ha,s⟩
  refine kg ?_
  have jl:j<rvs.length:=(aj.mp hx).1
  have rl100:rvs.length<=100:=by rw[hA.len];exact hOk.few
  have rlen:refs.length=j:=by rw[ha.len,cv]
  refine⟨_,rfl,nm,_,rfl,.inl (cz.of (s _ _ hnm)),λa ha0=>?_⟩
  have nak:kl≠a:=ar hk ha0
  refine⟨refs,by rw[aA nak];exact hk,dq (by lia),refs++[.ref a],_,rfl,ag,?_,λb o h=>?_⟩
  ·rw[Eh]
   refine cF.snoc (ha.imp λ_ _ z=>(z.same ((aS.refl H').new ha0)).upd) ⟨a,rfl,Ne.symm nak,?_⟩
   rw[aA (Ne.symm nak),ag]
  ·have h1:=s b o h
   rw[aA (ar h hkl),aA (ar h1 ha0)];exact h1
 ·rintro σ' H1 ⟨refs,o,_,hk,ha,s⟩
  rw[hA.len] at ha
  have rlen:refs.length=rs.length:=by rw[ha.len,cv]
  show oz K _ [some (.ref rl),some (.ref nm),some (.ref pr),some (.ref kl),none,none,none,none,none] H1
  refine⟨_,rfl,pr,_,rfl,.inl (cz.of (s _ _ hpr)),λa ha0=>?_⟩
  have nak:kl≠a:=ar hk ha0
  have K0:KJ kl H ys [] w rs.length H1 refs (bD rs.length ys):=⟨hk,ha,by rw[cv],λi ks e=>by
   have hm:=aH e
   rw[List.mem_replicate] at hm
   rw[hm.2];exact⟨ysl,λy hy=>hy,.inl wy⟩,s⟩
  have K1:=K0.grown ((aS.refl H1).new (o:=.lst (ps.map V.str)) ha0)
  refine⟨_,rfl,yw K1.at_ (by decide) (by rw[rlen];exact n1) ?_⟩
  have K2:KJ kl H ys ps w rs.length (upd (upd H1 a (.lst (ps.map V.str))) kl (.lst (refs.set 0 (.ref a)))) (refs.set 0 (.ref a)) ((bD rs.length ys).set 0 ps):=by
   have z:=K1.set (m:=0) (kp:=ps) (a:=a) hkl (Ne.symm nak) ag ⟨psl,pin,.inr ⟨rfl,rfl⟩⟩
   refine⟨z.at_,z.all,z.len,λi ks e=>?_,z.same⟩
   by_cases c:0=i
   ·subst c
    rw[bp (by rw[cv];exact n1)] at e;cases e
    refine⟨psl,pin,?_⟩
    by_cases e:ps=[]
    ·exact .inr ⟨rfl,e⟩
    ·exact .inl (wp e)
   ·obtain⟨z1,z2,z3⟩:=z.wit i ks e
    refine⟨z1,z2,?_⟩
    rcases z3 with z3|z3
    ·exact .inl z3
    ·exact absurd z3.1.symm c
  show oy K _ [some (.ref rl),some (.ref nm),some (.ref pr),some (.ref kl),none,none,none,none,none] (upd (upd H1 a (.lst (ps.map V.str))) kl (.lst (refs.set 0 (.ref a))))
  generalize upd (upd H1 a (.lst (ps.map V.str))) kl (.lst (refs.set 0 (.ref a)))=H2 at K2 ⊢
  generalize refs.set 0 (.ref a)=refs2 at K2
  have Z2:xK ps ((bD rs.length ys).set 0 ps):=λks e y hy=>by
   rw[bp (by rw[cv];exact n1)] at e;cases e;exact hy
  generalize (bD rs.length ys).set 0 ps=kss2 at K2 Z2
  show ou K _ [some (.ref rl),some (.ref nm),some (.ref pr),some (.ref kl),some (.bl true),none,none,none,none] H2
  refine⟨λm σ' H'=>∃(refs:List V) (kss:List (List Str)) (more:Bool) (o5 o6 o7 o8:Option V),σ'=[some (.ref rl),some (.ref nm),some (.ref pr),some (.ref kl),some (.bl more),o5,o6,o7,o8]/\KJ kl H ys ps w rs.length H' refs kss/\xK ps kss/\(more=false->uk rs rs.length kss)/\2*rO kss+more.toNat=m,⟨_,refs2,kss2,true,_,_,_,_,rfl,K2,Z2,(λz=>by cases z),rfl⟩,?_⟩
  rintro m σ' H' ⟨refs3,kss3,more,o5,o6,o7,o8,rfl,K3,Z3,P3,hm⟩
  refine⟨_,rfl,more,rfl,qf (λhmore=>?_) (λhmore=>?_)⟩
  ·subst hmore
   refine⟨LG rl nm pr kl H ys ps w rs (2*rO kss3) rs.length,?_,?_⟩
   ·rintro σ4 H4 ⟨refs4,kss4,more4,p5,p6,p7,p8,rfl,K4,hB,Z4,P4⟩
    refine⟨_,?_,refs4,kss4,more4,_,_,_,_,rfl,K4,Z4,P4,rfl⟩
    have:(true:Bool).toNat=1:=rfl
    lia
   ·-- more=False;for n in range(len(rows))
    show pC K _ [some (.ref rl),some (.ref nm),some (.ref pr),some (.ref kl),some (.bl false),o5,o6,o7,o8] H'
    have hlr:=K3.same _ _ hrl
    refine⟨_,rfl,_,_,rfl,.inl ⟨_,cz.of hlr,rfl⟩,_,rfl,by lia,by rw[hA.len];have:=hOk.few;lia,gD (λi=>LG rl nm pr kl H ys ps w rs (2*rO kss3) i) ⟨refs3,kss3,false,_,_,_,_,rfl,K3,by simp,Z3,λ_ n _ _ _ _ hn=>absurd hn (cB _)⟩ ?_ ?_⟩
    ·rintro i σ5 H5 hi ⟨refs5,kss5,more5,p5,p6,p7,p8,rfl,K5,hB,Z5,P5⟩
     have hi:i<rs.length:=by rw[hA.len] at hi;simpa using hi
     have e0:(0:Int)+(i:Int)=((i:Nat):Int):=by lia
     show lV K _ [some (.ref rl),some (.ref nm),some (.ref pr),some (.ref kl),some (.bl more5),some (.int ((0:Int)+(i:Int))),p6,p7,p8] H5
     rw[e0]
     exact M6 hkl hrl hA hOk hE w0 hi K5 hB Z5 P5
    ·rintro σ5 H5 h5
     rw[hA.len,gG] at h5
     exact h5
  ·refine⟨_,rfl,q kl refs3 kss3 H' hkl K3.at_ (K3.all.imp λ_ _ ⟨a,e,_,h⟩=>⟨a,e,h⟩) K3.len (λi ks e=>?_) ⟨Z3,λn m r ks km hr hm hks hkm=>P3 hmore n m r ks km (aj.mp hr).1 hr hm hks hkm⟩ K3.same⟩
   obtain⟨z1,z2,z3⟩:=K3.wit i ks e
   refine⟨z1,z2,z3.imp (λz e=>?_) id⟩
   rw[e] at z;cases z
def Nq(st nm cn fd wl:Addr)(m:Nat)(f:Int)(ws ys:List Str)(cs:List Nat)(H:Hp)(K:Fg)(k i:Nat):St->Hp->Prop:=λσ' H'=>∃(pvs:List V) (bs:List dj) (k':Nat) (o7 o8 o9 o10:Option V),σ'=[some (.ref st),some (.int (m:Nat)),some (.int f),some (.ref wl),some (.ref nm),some (.ref cn),some (.ref fd),o7,o8,o9,o10]/\
 H' fd=some (.lst pvs)/\cF (lN H') pvs bs/\bs.length=i/\(∀b∈bs,nQ ys cs b/\b.rows.length<=m+1)/\bs.map (·.name)=ws.take i/\bs.map (·.params.length)=cs.take i/\iJ K H' st k'/\k'<=k+1001*i/\vy st fd H H'
theorem Ef{K:Fg}{vs:List V}{H:Hp}{Q:VK}{E:XK}(h:iP K vs H Q E):w9 K {nx:=λ_ H'=>Q .non H',rt:=Q} (cU oN vs) H:=by
 obtain⟨st,m,k,rfl,S,hk,m1,m50,q⟩:=h
 obtain⟨scr,ns,c,hst,hscr,hns⟩:=id S
 refine⟨_,rfl,mF (cz.of hst) (by decide) rfl ⟨_,rfl,.inl ⟨scr,_,rfl,hscr.sq,λp hp=>?_⟩⟩⟩
 rw[show((1:Int))=((1:Nat):Int) from rfl,jK,<-ik]
 refine⟨p,ns.take 1,rfl,cz.of ag,λz=>⟨_,_,rfl,rfl,⟨by decide,by decide⟩,_,_,rfl,rfl,(by show(0:Int)<16;decide),.inl ⟨rfl,.inr ⟨_,rfl,?_⟩⟩⟩⟩
 have S1:=S.new (o:=.lst ((ns.take 1).map V.int)) hp
 have B1:=(fu.refl st H).new (o:=.lst ((ns.take 1).map V.int)) hp
 generalize upd H p (.lst ((ns.take 1).map V.int))=H1 at S1 B1 ⊢
 obtain⟨f,hf,f01⟩:∃f:Int,(if decide (V.int (z / 4 % 16)=V.int 5)=true then(1:Int) else 0)=f/\(f=0\/f=1):=by
  cases decide (V.int (z / 4 % 16)=V.int 5) with
  |true=>exact⟨1,rfl,.inr rfl⟩
  |false=>exact⟨0,rfl,.inl rfl⟩
 rw[hf]
 show sQ K _ [some (.ref st),some (.int (m:Nat)),some (.int f),none,none,none,none,none,none,none,none] H1
 refine⟨_,rfl,st,5,k,rfl,S1,by lia,by decide,λl ws k1 H2 hl wl wnd wok h2 S2 l2 B2=>?_⟩
 have nl:l≠st:=λz=>by obtain⟨_,e⟩:=S1.lst;rw[z,e] at hl;cases hl
 refine⟨_,rfl,st,3,k1,rfl,S2,by lia,by decide,by decide,λd H3 d0 d1 S3 B3=>.inl ⟨_,_,rfl,rfl,(by show 2<=sizeLine;decide),λl4 hl4=>?_⟩⟩
 have h3:=B3 l _ nl h2
 have S4:=S3.new (o:=.lst [V.int (1+d),V.int 5]) hl4
 have B4:=(((B1.trans B2).trans B3).new (o:=.lst [V.int (1+d),V.int 5]) hl4)
 have h4:(upd H3 l4 (.lst [V.int (1+d),V.int 5])) l=some (.lst (ws.map V.str)):=by rw[aA (ar h3 hl4)];exact h3
 have g4:(upd H3 l4 (.lst [V.int (1+d),V.int 5])) l4=some (.lst [V.int (1+d),V.int 5]):=ag
 have words:∀c5:Nat,1<=c5->c5<=5->r8 K (V.ref l) none (some (c5:Int)) (upd H3 l4 (.lst [V.int (1+d),V.int 5])) λx H1=>sP K {nx:=λ_ H'=>Q .non H',rt:=Q} [some (.ref st),some (.int (m:Nat)),some (.int f),some x,none,none,none,none,none,none,none] H1:=λc5 c1 c2=>by
  generalize upd H3 l4 (.lst [V.int (1+d),V.int 5])=H4 at S4 B4 h4
  refine .inl ⟨l,_,rfl,cz.of h4,λwp hwp=>?_⟩
  rw[jK,<-ik]
  have wlen:(ws.take c5).length=c5:=by rw[bg];lia
  have S5:=S4.new (o:=.lst ((ws.take c5).map V.str)) hwp
  have B5:=B4.new (o:=.lst ((ws.take c5).map V.str)) hwp
  have h5:(upd H4 wp (.lst ((ws.take c5).map V.str))) wp=some (.lst ((ws.take c5).map V.str)):=ag
  have nwp:wp≠st:=λz=>by obtain⟨_,e⟩:=S4.lst;rw[z,e] at hwp;cases hwp
  have wwnd:(ws.take c5).Nodup:=(iW c5 ws).nodup wnd
  have wwnm:∀y∈ws.take c5,Nm y:=λy hy=>wok y (gM hy)
  generalize ws.take c5=ww at wlen S5 B5 h5 wwnd wwnm ⊢
  generalize upd H4 wp (.lst (ww.map V.str))=H5 at S5 B5 h5 ⊢
  refine⟨_,rfl,_,rfl,st,5,k1+1,rfl,S5,by lia,by decide,by decide,λe H6 e0 e1 S6 B6=>.inl ⟨_,_,rfl,rfl,?_⟩⟩
  obtain⟨n,hn,n2,n6⟩:∃n:Nat,(2:Int)+e=(n:Int)/\2<=n/\n<=6:=⟨(2+e).toNat,by lia,by lia,by lia⟩
  refine⟨st,n,k1+2,by show[V.ref st,V.int (2+e)]=_;rw[hn],S6,by lia,by lia,λnm ys k7 H7 hnm yl ynd yok h7 S7 l7 B7=>?_⟩
  have nnm:nm≠st:=λz=>by obtain⟨_,e⟩:=S6.lst;rw[z,e] at hnm;cases hnm
  have nwn:wp≠nm:=ar (B6 wp _ nwp h5) hnm
  have w7:=B7 wp _ nwp (B6 wp _ nwp h5)
  have BH7:=(B5.trans B6).trans B7
  have yne:∀y∈ys,y≠"":=λy hy=>(yok y hy).ne
  have ysne:ys≠[]:=λz=>by rw[z] at yl;simp at yl;lia
  show sO K _ [some (.ref st),some (.int (m:Nat)),some (.int f),some (.ref wp),some (.ref nm),none,none,none,none,none,none] H7
  refine .inl ⟨_,rfl,wp,rfl,⟨_,cz.of w7⟩,λcn hcn=>?_⟩
  have ncn:cn≠st:=λz=>by obtain⟨_,e⟩:=S7.lst;rw[z,e] at hcn;cases hcn
  have nwc:wp≠cn:=ar w7 hcn
  have nnc:nm≠cn:=ar h7 hcn
  refine ma (xs:=ww.map V.str) (λi σ' H'=>∃(cs:List Nat) (k':Nat) (o:Option V),σ'=[some (.ref st),some (.int (m:Nat)),some (.int f),some (.ref wp),some (.ref nm),none,none,o,none,none,none]/\H' cn=some (.lst (bG cs))/\cs.length=i/\(∀x∈cs,x<=4/\x<=ys.length)/\iJ K H' st k'/\k'<=k7+i/\fu st H7 H') ?_ ?_ ?_ ?_
  ·exact⟨[],k7,none,rfl,ag,rfl,by simp,S7.new hcn,by lia,(fu.refl st H7).new hcn⟩
  ·rintro i σ' H' _ ⟨_,_,_,_,_,_,_,_,_,B⟩
   exact cz.of (B wp _ nwp w7)
  ·rintro i x σ' H' hx ⟨cs,k',o,rfl,hc,cl,c4,S',hk',B'⟩
   have il:i<ww.length:=by have:=(aj.mp hx).1;rw[ao] at this;exact this
   refine kg ⟨_,rfl,_,rfl,_,_,rfl,.inl ⟨_,cz.of (B' nm _ nnm h7),rfl⟩,_,_,rfl,.inl ⟨_,_,rfl,rfl,?_⟩⟩
   rw[ao]
   refine⟨st,_,k',rfl,S',by lia,?_,?_,λg H8 g0 g1 S8 B8=>?_⟩
   ·by_cases z:((ys.length:Nat):Int)<4
    ·rw[if_pos z];lia
    ·rw[if_neg z];lia
   ·by_cases z:((ys.length:Nat):Int)<4
    ·rw[if_pos z];lia
    ·rw[if_neg z];lia
   obtain⟨gn,rfl⟩:∃j:Nat,g=(j:Int):=⟨g.toNat,by lia⟩
   have g4:gn<=4/\gn<=ys.length:=by
    by_cases z:((ys.length:Nat):Int)<4
    ·rw[if_pos z] at g1;lia
    ·rw[if_neg z] at g1;lia
   have h8:=B8 cn _ ncn hc
   refine⟨_,h8,dq (by rw[dk];lia),cs++[gn],k'+1,_,rfl,?_,by simp[cl],λx hx=>?_,S8.mono .upd_at h8 (Ne.symm ncn),by lia,?_⟩
   ·rw[ag];unfold bG;rw[aZ];rfl
   ·rcases aY.mp hx with z|z
    ·exact c4 x z
    ·rw[ak.mp z];exact g4
   ·exact fu.past (B'.trans B8) hcn .upd_at
  ·rintro σ' H8 ⟨cs,k8,o,_,hc,cl,c4,S8,hk8,B8⟩
   rw[ao] at cl hk8
   have csne:cs≠[]:=λz=>by rw[z] at cl;simp at cl;lia
   have w8:=B8 wp _ nwp w7
   have n8:=B8 nm _ nnm h7
   have BH8:=BH7.trans B8
   show sN K _ [some (.ref st),some (.int (m:Nat)),some (.int f),some (.ref wp),some (.ref nm),some (.ref cn),none,none,none,none,none] H8
   refine⟨(by show 0<=sizeLine;decide),λfd hfd=>?_⟩
   have nfd:fd≠st:=λz=>by obtain⟨_,e⟩:=S8.lst;rw[z,e] at hfd;cases hfd
   have s9:aS H8 (upd H8 fd (.lst [])):=(aS.refl H8).new hfd
   have g9:(upd H8 fd (.lst [])) fd=some (.lst []):=ag
   have HF:H fd=none:=BH8.free nfd hfd
   have nwf:wp≠fd:=ar w8 hfd
   have nnf:nm≠fd:=ar n8 hfd
   have ncf:cn≠fd:=ar hc hfd
   show sM K _ [some (.ref st),some (.int (m:Nat)),some (.int f),some (.ref wp),some (.ref nm),some (.ref cn),some (.ref fd),none,none,none,none] (upd H8 fd (.lst []))
   generalize upd H8 fd (.lst [])=H9 at s9 g9 ⊢
   refine⟨_,rfl,_,rfl,wp,cn,rfl,⟨_,cz.of (s9 _ _ w8)⟩,⟨_,cz.of (s9 _ _ hc)⟩,HM (xs:=ww.map V.str) (ys:=bG cs) (by rw[ao,dk,cl]) (Nq st nm cn fd wp m f ww ys cs H9 K k8) ?_ ?_ ?_ ?_⟩
   ·exact⟨[],[],k8,none,none,none,none,rfl,g9,.nil,rfl,by simp,rfl,rfl,S8.same s9,by lia,.refl _ _ _⟩
   ·rintro i σ' H' _ ⟨_,_,_,_,_,_,_,_,_,_,_,_,_,_,_,_,B⟩
    exact⟨cz.of (B wp _ nwp nwf (s9 _ _ w8)),cz.of (B cn _ ncn ncf (s9 _ _ hc))⟩
   ·rintro i x y σ' H' tp hx hy htp ⟨pvs,bs,k',o7,o8,o9,o10,rfl,hpv,hA,bl,b100,bnm,bct,S',hk',B'⟩
    have il:i<ww.length:=by have:=(aj.mp hx).1;rw[ao] at this;exact this
    obtain⟨c,hcc,rfl⟩:=mh hy
    rw[aX,ai il] at hx
    obtain⟨w,hw,rfl⟩:∃w:Str,ww[i]?=some w/\x=.str w:=⟨ww[i],ai il,(Option.some.inj hx).symm⟩
    have s2:aS H' (upd H' tp (.tup [.str w,.int (c:Nat)])):=(aS.refl H').new htp
    have g2:(upd H' tp (.tup [.str w,.int (c:Nat)])) tp=some (.tup [.str w,.int (c:Nat)]):=ag
    generalize upd H' tp (.tup [.str w,.int (c:Nat)])=H10 at s2 g2 ⊢
    refine⟨tp,_,rfl,cY.of g2,rfl,_,_,rfl,_,_,rfl,rfl,?_⟩
    show sL K _ [some (.ref st),some (.int (m:Nat)),some (.int f),some (.ref wp),some (.ref nm),some (.ref cn),some (.ref fd),some (.str w),some (.int (c:Nat)),o9,o10] H10
    have nm10:=s2 _ _ (B' nm _ nnm nnf (s9 _ _ n8))
    have cn10:=s2 _ _ (B' cn _ ncn ncf (s9 _ _ hc))
    have fd10:=s2 _ _ hpv
    refine⟨_,rfl,_,rfl,_,_,rfl,.inl ⟨_,cz.of nm10,rfl⟩,st,_,k',rfl,S'.same s2,by lia,by rw[ao];lia,by rw[ao];lia,λt H11 t0 t1 S11 B11=>?_⟩
    obtain⟨tn,rfl⟩:∃j:Nat,t=(j:Int):=⟨t.toNat,by lia⟩
    show sJ K _ [some (.ref st),some (.int (m:Nat)),some (.int f),some (.ref wp),some (.ref nm),some (.ref cn),some (.ref fd),some (.str w),some (.int (c:Nat)),some (.int (tn:Nat)),o10] H11
    have nm11:=B11 nm _ nnm nm10
    have cn11:=B11 cn _ ncn cn10
    have fd11:=B11 fd _ nfd fd10
    refine⟨_,rfl,_,rfl,_,rfl,.inl ⟨nm,_,rfl,cz.of nm11,λa1 ha1=>?_⟩⟩
    rw[ux,<-oS]
    have nm12:(upd H11 a1 (.lst ((ys.drop tn).map V.str))) nm=some (.lst (ys.map V.str)):=by rw[aA (ar nm11 ha1)];exact nm11
    refine⟨_,rfl,_,rfl,_,rfl,.inl ⟨nm,_,rfl,cz.of nm12,λa2 ha2=>?_⟩⟩
    rw[jK,<-ik]
    have n12:a1≠a2:=ar ag ha2
    refine .inr (.inr (.inl ⟨a1,a2,_,_,rfl,rfl,by rw[aA n12,ag],ag,?_,λa3 ha3=>?_⟩))
    ·have:=dq (n:=100) (by decide)
     rw[ao,ao,dZ,bg];lia
    rw[<-aZ]
    refine⟨_,rfl,_,rfl,.inl ⟨a3,_,rfl,cz.of ag,λpr hpr=>?_⟩⟩
    rw[jK,<-ik]
    have pin:∀y∈(ys.drop tn++ys.take tn).take c,y∈ys:=λy hy=>by
     rcases aY.mp (gM hy) with z|z
     ·exact List.mem_of_mem_drop z
     ·exact gM z
    have pnd:((ys.drop tn++ys.take tn).take c).Nodup:=by
     refine(iW c _).nodup ?_
     have z:(ys.take tn++ys.drop tn).Nodup:=by rw[List.take_append_drop];exact ynd
     exact(List.perm_append_comm.nodup_iff).mp z
    have plc:((ys.drop tn++ys.take tn).take c).length=c:=by
     have:=(c4 c (aH hcc)).2
     rw[bg,aG,dZ,bg];lia
    have pl:((ys.drop tn++ys.take tn).take c).length<=100:=by
     rw[bg,aG,dZ,bg];lia
    have s13:aS H11 (upd (upd (upd (upd H11 a1 (.lst ((ys.drop tn).map V.str))) a2 (.lst ((ys.take tn).map V.str))) a3 (.lst ((ys.drop tn++ys.take tn).map V.str))) pr (.lst (((ys.drop tn++ys.take tn).take c).map V.str))):=((((aS.refl H11).new ha1).new ha2).new ha3).new hpr
    have g13:(upd (upd (upd (upd H11 a1 (.lst ((ys.drop tn).map V.str))) a2 (.lst ((ys.take tn).map V.str))) a3 (.lst ((ys.drop tn++ys.take tn).map V.str))) pr (.lst (((ys.drop tn++ys.take tn).take c).map V.str))) pr=some (.lst (((ys.drop tn++ys.take tn).take c).map V.str)):=ag
    show sI K _ [some (.ref st),some (.int (m:Nat)),some (.int f),some (.ref wp),some (.ref nm),some (.ref cn),some (.ref fd),some (.str w),some (.int (c:Nat)),some (.int (tn:Nat)),some (.ref pr)] (upd (upd (upd (upd H11 a1 (.lst ((ys.drop tn).map V.str))) a2 (.lst ((ys.take tn).map V.str))) a3 (.lst ((ys.drop tn++ys.take tn).map V.str))) pr (.lst (((ys.drop tn++ys.take tn).take c).map V.str)))
    generalize upd (upd (upd (upd H11 a1 (.lst ((ys.drop tn).map V.str))) a2 (.lst ((ys.take tn).map V.str))) a3 (.lst ((ys.drop tn++ys.take tn).map V.str))) pr (.lst (((ys.drop tn++ys.take tn).take c).map V.str))=H13 at s13 g13 ⊢
    generalize (ys.drop tn++ys.take tn).take c=ps at pin pl pnd plc g13
    have S13:=S11.same s13
    have npr:pr≠st:=λz=>by
     have:=C3 S13 (v:=.ref pr) ⟨pr,rfl,g13⟩
     exact this (by rw[z])
    have fd13:=s13 _ _ fd11
    refine⟨_,rfl,.inl ⟨rfl,_,cz.of fd13⟩,_,rfl,_,rfl,_,rfl,_,rfl,_,rfl,_,rfl,st,nm,pr,cn,w,m,k'+1,ys,ps,cs,rfl,S13,by lia,s13 _ _ nm11,ysne,by lia,yne,g13,pl,pnd,pin,s13 _ _ cn11,csne,by lia,λx hx=>(c4 x hx).1,m1,m50,nnm,npr,ncn,λv b k14 H14 hv hbn hbp bok br S14 l14 B14=>?_⟩
    have fd14:=B14 fd _ nfd fd13
    obtain⟨_,e11⟩:=(S'.same s2).lst
    obtain⟨_,e13⟩:=S13.lst
    have t14:Tp H' H14:=(((Tp.of_same s2).trans (.of_but B11 e11)).trans (.of_same s13)).trans (.of_but B14 e13)
    have t15:Tp H14 (upd H14 fd (.lst (pvs++[v]))):=(Tp.refl H14).lst fd14
    refine⟨fd,_,_,rfl,rfl,fd14,dq (by rw[hA.len];lia),?_⟩
    refine⟨pvs++[v],bs++[b],k14,_,_,_,_,rfl,ag,(hA.imp λ_ _ z=>(z.mono t14).mono t15).snoc (hv.mono t15),by simp[bl],λb' hb'=>(aY.mp hb').elim (b100 b') (λz=>by rw[ak.mp z];exact⟨bok,br⟩),by rw[aZ,bnm,cu,hw,List.map_singleton,hbn];rfl,by rw[aZ,bct,cu,hcc,List.map_singleton,hbp,plc];rfl,S14.mono .upd_at fd14 (Ne.symm nfd),by lia,?_⟩
    exact λe u n1 n2 h=>by rw[aA n2];exact B14 e u n1 (s13 _ _ (B11 e u n1 (s2 _ _ (B' e u n1 n2 h))))
   ·rintro σ' H' ⟨pvs,bs,k',o7,o8,o9,o10,rfl,hpv,hA,bl,b100,bnm,bct,S',hk',B'⟩
    rw[ao] at bl hk'
    refine⟨_,rfl,fd,_,rfl,.inl ⟨cz.of hpv,λl hl=>?_⟩⟩
    rw[ao,<-cl] at bct
    rw[ao] at bnm
    rw[List.take_length] at bnm bct
    have ok:pF ys cs bs:=⟨ynd,yok,by lia,by lia,by lia,by lia,by rw[bnm];exact wwnd,λb hb=>wwnm _ (by rw[<-bnm];exact List.mem_map_of_mem hb),bct,λx hx=>(c4 x hx).1,λb hb=>(b100 b hb).1⟩
    refine q l pvs bs ys cs k' _ ag (hA.imp λ_ _ z=>z.mono ((Tp.refl H').new hl)) ok (λb hb=>(b100 b hb).2) (S'.new hl) (by lia) (fu.new ?_ hl)
    exact λe u n1 h=>B' e u n1 (ar h HF) (s9 _ _ (BH8 e u n1 h))
 rcases f01 with rfl|rfl
 ·refine⟨_,rfl,mF (cz.of g4) (by decide) rfl ⟨_,rfl,?_⟩⟩
  obtain⟨c5,h5,c1,c2⟩:∃c5:Nat,(1:Int)+d=(c5:Int)/\1<=c5/\c5<=5:=⟨(1+d).toNat,by lia,by lia,by lia⟩
  have z:=words c5 c1 c2
  rw[<-h5] at z
  exact z
 ·refine⟨_,rfl,mF (cz.of g4) (by decide) rfl ⟨_,rfl,?_⟩⟩
  exact words 5 (by decide) (by decide)
theorem iK{H H1:Hp}{a:Addr}{o:HO}(s:aS H H1)(h:H a=none):aS H (upd H1 a o):=λb u e=>by
 rw[aA (ar e h)];exact s b u e
def jU(F:List Nat):List (gC×V):=F.map λ(n:Nat)=>(Sum.inl ((n:Nat):Int),V.bl true)
theorem G4:∀(F:List Nat) (m:Nat),(kZ (jU F) (Sum.inl (m:Int))).isSome=decide (m∈F)
 |[],m=>rfl
 |a::r,m=>by
  unfold kZ jU
  rw[ba,fq]
  by_cases c:m=a
  ·subst c
   rw[decide_eq_true (by rfl:((Sum.inl (m:Int),V.bl true):gC×V).1=Sum.inl (m:Int))]
   rw[decide_eq_true cG]
   rfl
  ·have e:decide (((Sum.inl (a:Int),V.bl true):gC×V).1=Sum.inl (m:Int))=false:=decide_eq_false λz=>c (by injection z with z;lia)
   rw[e]
   have ih:=G4 r m
   unfold kZ jU at ih
   refine Eq.trans ih ?_
   rw[Bool.eq_iff_iff,decide_eq_true_eq,decide_eq_true_eq,aU]
   exact⟨.inr,λz=>z.resolve_left c⟩
theorem lQ{F:List Nat}{m:Nat}(h:m∉F):lR (jU F) (Sum.inl (m:Int)) (V.bl true)=jU (F++[m]):=by
 have e:kZ (jU F) (Sum.inl (m:Int))=none:=by
  have:=G4 F m
  rw[decide_eq_false h] at this
  cases q:kZ (jU F) (Sum.inl (m:Int)) with
  |none=>rfl
  |some v=>rw[q] at this;cases this
 rw[zv _ e]
 unfold jU
 rw[aZ]
 rfl
theorem y4(F:List Nat):(jU F).length=F.length:=by unfold jU;rw[ao]
def Hh(rs:List bz)(un:Option Str)(F:List Nat)(n:Nat):Prop:=∀r,rs[n]?=some r->(∀y,un=some y->ij r≠.str y)->∀m∈cL n r,m∈F
theorem Hh.mono{rs:List bz}{un:Option Str}{F F':List Nat}{n:Nat}(h:Hh rs un F n)(s:∀x∈F,x∈F'):Hh rs un F' n:=λr e hy m hm=>s m (h r e hy m hm)
structure WI(rs:List bz)(un:Option Str)(F W:List Nat)(now:Nat->Prop):Prop where
 nd:F.Nodup
 way:∀x∈F,xJ rs un x
 zero:0∈F
 sub:∀x∈W,x∈F
 cl:∀x∈F,x∈W\/now x\/Hh rs un F x
theorem WI.add{rs:List bz}{un:Option Str}{F W:List Nat}{now:Nat->Prop}{m:Nat}(i:WI rs un F W now)(h:m∉F)(w:xJ rs un m):WI rs un (F++[m]) (W++[m]) now:=by
 refine⟨qk i.nd h,λx hx=>?_,cc _ i.zero,λx hx=>?_,λx hx=>?_⟩
 ·rcases aY.mp hx with z|z
  ·exact i.way x z
  ·rw[ak.mp z];exact w
 ·rcases aY.mp hx with z|z
  ·exact cc _ (i.sub x z)
  ·exact bB _ z
 ·rcases aY.mp hx with z|z
  ·rcases i.cl x z with a|a|a
   ·exact .inl (cc _ a)
   ·exact .inr (.inl a)
   ·exact .inr (.inr (a.mono λy hy=>cc _ hy))
  ·exact .inl (bB _ z)
def MU(rt fd wl:Addr)(H:Hp)(rs:List bz)(un:Option Str)(m:Nat):St->Hp->Prop:=λσ' H'=>∃(F W:List Nat) (o4 o5:Option V),σ'=[some (.ref rt),some (J2 un),some (.ref fd),some (.ref wl),o4,o5]/\H' fd=some (.dK (jU F))/\H' wl=some (.lst (bG W))/\WI rs un F W (λ_=>False)/\aS H H'/\2*(rs.length-F.length)+W.length<=m
def Nt(rt fd wl tp:Addr)(H:Hp)(rs:List bz)(un:Option Str)(ms:List Nat)(n m j:Nat):St->Hp->Prop:=λσ' H'=>∃(F W:List Nat) (o5:Option V),σ'=[some (.ref rt),some (J2 un),some (.ref fd),some (.ref wl),some (.int (n:Nat)),o5]/\H' fd=some (.dK (jU F))/\H' wl=some (.lst (bG W))/\H' tp=some (.tup (bG ms))/\WI rs un F W (λx=>x=n)/\aS H H'/\2*(rs.length-F.length)+W.length<=m/\∀i,i<j->∀x,ms[i]?=some x->x∈F
theorem kR(ns:List Nat)(n:Nat):bG (ns++[n])=bG ns++[V.int (n:Nat)]:=by unfold bG;rw[aZ];rfl
theorem WI.done{rs:List bz}{un:Option Str}{F:List Nat}(i:WI rs un F [] (λ_=>False))(m:Nat):m∈F↔xJ rs un m:=by
 refine⟨i.way m,λh=>?_⟩
 induction h with
 |zero=>exact i.zero
 |step _ e hy hm ih=>
  rcases i.cl _ ih with z|z|z
  ·cases z
  ·exact z.elim
  ·exact z _ e hy _ hm
theorem WI.len{rs:List bz}{un:Option Str}{F W:List Nat}{now:Nat->Prop}(g:eS rs)(i:WI rs un F W now):F.length<=rs.length:=jL i.nd λx hx=>(i.way x hx).lt g
theorem J3{K:Fg}{rt fd wl:Addr}{H H1:Hp}{rvs:List V}{rs:List bz}{un:Option Str}{F W:List Nat}{n m:Nat}{r:bz}{v:V}{o5:Option V}{D:nJ}(hrt:H rt=some (.tup rvs))(hfd:H fd=none)(hwl:H wl=none)(nfw:fd≠wl)(g:eS rs)
  (e1:rvs[n]?=some v) (e2:rs[n]?=some r) (hra:cx H v r) (hy:∀y,un=some y->ij r≠.str y) (hn:xJ rs un n) (h1:H1 fd=some (.dK (jU F))) (h2:H1 wl=some (.lst (bG W))) (i:WI rs un F W (λx=>x=n)) (s:aS H H1) (hm:2*(rs.length-F.length)+W.length<=m) (hmb:m<=1000)
  (q:∀(σ':St) (H':Hp),MU rt fd wl H rs un m σ' H'->D.nx σ' H') :
  iR (ju K (bE (gW K) [] E0 (af (aq 0) (af (aq 4) aE)))) (aP 5) (ni K) D [some (.ref rt),some (J2 un),some (.ref fd),some (.ref wl),some (.int (n:Nat)),o5] H1:=by
 refine .inr ⟨_,rfl,_,rfl,rt,n,rvs,v,r,rfl,s _ _ hrt,e1,hra.mono (.of_same s),λtp H2 htp s2=>⟨tp,rfl,⟨_,cY.of htp⟩,ki (xs:=bG (cL n r)) (Nt rt fd wl tp H rs un (cL n r) n m) ?_ ?_ ?_ ?_⟩⟩
 ·exact⟨F,W,_,rfl,s2 _ _ h1,s2 _ _ h2,htp,i,s.trans s2,hm,λi hi=>absurd hi (cB _)⟩
 ·rintro j σ' H' _ ⟨_,_,_,_,_,_,h3,_⟩
  exact cY.of h3
 ·rintro j x σ' H' hx ⟨F',W',p5,rfl,h3,h4,h5,i',s',hm',hj⟩
  obtain⟨to,hto,rfl⟩:=mh hx
  have hw:xJ rs un to:=.step hn e2 hy (aH hto)
  have fl:=i'.len g
  have few:=g.few
  show ni K _ [some (.ref rt),some (J2 un),some (.ref fd),some (.ref wl),some (.int (n:Nat)),some (.int (to:Nat))] H'
  refine⟨_,rfl,_,rfl,fd,_,rfl,yI.k (k:=Sum.inl (to:Int)) h3,_,rfl,?_⟩
  show if(!(kZ (jU F') (Sum.inl (to:Int))).isSome)=true then _ else _
  rw[G4]
  refine jv (λhin=>?_) (λhin=>?_)
  ·have nd':=jL (qk i'.nd hin) (n:=rs.length) λy hy'=>by
    rcases aY.mp hy' with z|z
    ·exact(i'.way y z).lt g
    ·rw[ak.mp z];exact hw.lt g
   rw[aG,bC] at nd'
   refine⟨_,rfl,_,rfl,fd,_,rfl,AB.k (k:=Sum.inl (to:Int)) h3 (dq (by rw[y4];lia)),?_⟩
   rw[lQ hin]
   have h4':(upd H' fd (.dK (jU (F'++[to])))) wl=some (.lst (bG W')):=by rw[aA (Ne.symm nfw)];exact h4
   have nwl:W'.length<=100000:=by lia
   refine⟨_,rfl,.inl ⟨rfl,_,cz.of h4'⟩,_,rfl,wl,_,_,rfl,rfl,h4',dq (by rw[dk];exact nwl),?_⟩
   have ntf:tp≠fd:=λz=>by rw[z,h3] at h5;cases h5
   have ntw:tp≠wl:=λz=>by rw[z,h4] at h5;cases h5
   refine⟨F'++[to],W'++[to],_,rfl,by rw[aA nfw,ag],by rw[ag,kR],by rw[aA ntw,aA ntf];exact h5,i'.add hin hw,iK (iK s' hfd) hwl,?_,λk hk x hxk=>?_⟩
   ·simp only[aG,bC];lia
   ·by_cases c:k<j
    ·exact cc _ (hj k c x hxk)
    ·have:k=j:=by lia
     subst this
     rw[hto] at hxk;cases hxk
     exact bB _ (ak.mpr rfl)
  ·refine⟨F',W',_,rfl,h3,h4,h5,i',s',hm',λk hk x hxk=>?_⟩
   by_cases c:k<j
   ·exact hj k c x hxk
   ·have:k=j:=by lia
    subst this
    rw[hto] at hxk;cases hxk
    exact hin
 ·rintro σ' H' ⟨F',W',p5,rfl,h3,h4,h5,i',s',hm',hj⟩
  rw[dk] at hj
  refine q _ _ ⟨F',W',_,_,rfl,h3,h4,⟨i'.nd,i'.way,i'.zero,i'.sub,λx hx=>?_⟩,s',hm'⟩
  rcases i'.cl x hx with z|z|z
  ·exact .inl z
  ·subst z
   refine .inr (.inr λr' e _ m' hm'=>?_)
   rw[e2] at e;cases e
   obtain⟨k,hk,ek⟩:=cD.mp hm'
   exact hj k hk m' (by rw[ai hk,ek])
  ·exact .inr (.inr z)
theorem Bz{K:Fg}{vs:List V}{H:Hp}{Q:VK}{E:XK}(h:gX K vs H Q E):vn K {nx:=λ_ H'=>Q .non H',rt:=Q} (cU pE vs) H:=by
 obtain⟨rt,un,rvs,rs,rfl,hrt,hA,g,q⟩:=h
 refine λfd hfd=>⟨ag,[(Sum.inl 0,V.bl true)],rfl,by decide,?_⟩
 have e0:upd (upd H fd (.dK [])) fd (.dK (nY [] [(Sum.inl 0,V.bl true)]))=upd H fd (.dK (jU [0])):=by
  rw[nu]
  have:nY [] [((Sum.inl 0:gC),V.bl true)]=jU [0]:=by
   show lR [] (Sum.inl 0) (V.bl true)=_
   rw[zv _ G5];rfl
  rw[this]
 show qP K _ [some (.ref rt),some (J2 un),some (.ref fd),none,none,none] (upd (upd H fd (.dK [])) fd (.dK (nY [] [(Sum.inl 0,V.bl true)])))
 rw[e0]
 refine⟨(by show 1<=sizeLine;decide),λwl hwl0=>?_⟩
 have nfw:fd≠wl:=ar ag hwl0
 have hwl:H wl=none:=by
  have:(upd H fd (.dK (jU [0]))) wl=H wl:=aA (Ne.symm nfw)
  rw[<-this];exact hwl0
 show qO K _ [some (.ref rt),some (J2 un),some (.ref fd),some (.ref wl),none,none] (upd (upd H fd (.dK (jU [0]))) wl (.lst [V.int 0]))
 have few0:=g.few
 refine⟨λm σ' H'=>m<=1000/\MU rt fd wl H rs un m σ' H',⟨2*(rs.length-1)+1,by lia,[0],[0],none,none,rfl,by rw[aA nfw,ag],ag,⟨by simp,λx hx=>by rw[ak.mp hx];exact .zero,by simp,λx hx=>hx,λx hx=>.inl hx⟩,iK (iK (aS.refl H) hfd) hwl,by simp⟩,?_⟩
 rintro m σ' H1 ⟨hmb,F,W,o4,o5,rfl,h1,h2,i,s,hm⟩
 refine⟨_,rfl,_,_,rfl,.inl ⟨_,cz.of h2,rfl⟩,_,_,rfl,rfl,_,rfl,cJ (λhl=>?_) (λhl=>?_)⟩
 ·rw[dk] at hl
  obtain⟨L,n,rfl⟩:∃L n,W=L++[n]:=by
   rcases List.eq_nil_or_concat W with z|⟨L,n,z⟩
   ·subst z;simp at hl
   ·exact⟨L,n,by rw[z,List.concat_eq_append]⟩
  have hnF:=i.sub n (bB _ (ak.mpr rfl))
  have hn:=i.way n hnF
  have nl:=hn.lt g
  obtain⟨v,r,e1,e2,hra⟩:=hA.get nl
  have hm1:2*(rs.length-F.length)+L.length<=m-1:=by rw[aG,bC] at hm;lia
  have m0:0<m:=by rw[aG,bC] at hm;lia
  refine⟨MU rt fd wl H rs un (m-1),λσ4 H4 h4=>⟨m-1,by lia,by lia,h4⟩,?_⟩
  rw[kR] at h2
  refine⟨_,rfl,.inl ⟨rfl,_,cz.of h2⟩,wl,_,V.int (n:Nat),rfl,rfl,h2,?_,?_⟩
  ·rw[aG,bC,Nat.add_sub_cancel,bJ (aC _),j7];rfl
  rw[List.dropLast_concat]
  show qN K _ [some (.ref rt),some (J2 un),some (.ref fd),some (.ref wl),some (.int (n:Nat)),o5] (upd H1 wl (.lst (bG L)))
  have h1':(upd H1 wl (.lst (bG L))) fd=some (.dK (jU F)):=by rw[aA nfw];exact h1
  have h2':(upd H1 wl (.lst (bG L))) wl=some (.lst (bG L)):=ag
  have s':aS H (upd H1 wl (.lst (bG L))):=iK s hwl
  generalize upd H1 wl (.lst (bG L))=H2 at h1' h2' s'
  have i':WI rs un F L (λx=>x=n):=⟨i.nd,i.way,i.zero,λx hx=>i.sub x (cc _ hx),λx hx=>by
   rcases i.cl x hx with z|z|z
   ·rcases aY.mp z with z|z
    ·exact .inl z
    ·exact .inr (.inl (ak.mp z))
   ·exact z.elim
   ·exact .inr (.inr z)⟩
  have e1':rvs[((n:Nat):Int).toNat]?=some v:=by simpa using e1
  cases un with
  |none=>
   refine⟨_,rfl,rfl,_,rfl,pJ (pJ ?_)⟩
   exact J3 hrt hfd hwl nfw g e1 e2 hra (λy z=>by cases z) hn h1' h2' i' s' hm1 (by lia) λ_ _ z=>z
  |some y=>
   refine⟨_,rfl,rfl,_,rfl,iU ?_⟩
   refine⟨_,rfl,_,rfl,cg (s' _ _ hrt) (by lia) e1' ⟨v,r,rfl,hra.mono (.of_same s'),λH3 s3=>⟨_,rfl,.inl ⟨?_,_,rfl,?_⟩⟩⟩⟩
   ·cases r<;>rfl
   ·refine jv (λhne=>?_) (λhe=>?_)
    ·exact J3 hrt hfd hwl nfw g e1 e2 hra (λy' z=>by cases z;exact hne) hn (s3 _ _ h1') (s3 _ _ h2') i' (s'.trans s3) hm1 (by lia) λ_ _ z=>z
    ·refine⟨F,L,_,_,rfl,s3 _ _ h1',s3 _ _ h2',⟨i'.nd,i'.way,i'.zero,i'.sub,λx hx=>?_⟩,s'.trans s3,hm1⟩
     rcases i'.cl x hx with z|z|z
     ·exact .inl z
     ·subst z
      refine .inr (.inr λr' e hy=>?_)
      rw[e2] at e;cases e
      exact absurd he (hy y rfl)
     ·exact .inr (.inr z)
 ·rw[dk] at hl
  have:W=[]:=dc.mp (by lia)
  subst this
  have fl:=i.len g
  have few:=g.few
  refine⟨_,rfl,fd,_,F.map (λn=>((n:Nat):Int)),rfl,h1,?_,by rw[ao];lia,λl ns' hl' hp hs=>?_⟩
  ·unfold jU;rw[eT,eT];rfl
  ·obtain⟨ks,rfl,hk,hr⟩:=D4 hp hs i.nd
   have e:(ks.map λn=>((n:Nat):Int)).map V.int=bG ks:=by unfold bG;rw[eT];rfl
   rw[e]
   refine q l ks _ (λm=>(hk m).trans (i.done m)) hr ag (s.free hl') (s.new hl')
theorem Lp{K:Fg}{vs:List V}{H:Hp}{Q:VK}{E:XK}(h:kB K vs H Q E):GP K {nx:=λ_ H'=>Q .non H',rt:=Q} (cU AG vs) H:=by
 obtain⟨rt,n,rvs,v,r,rfl,hrt,hv,hr,q⟩:=h
 have hn:rvs[((n:Nat):Int).toNat]?=some v:=by simpa using hv
 have n0:(0:Int)<=((n:Nat):Int):=by omega
 have e1:(((n+1:Nat):Nat):Int)=(n:Int)+1:=by omega
 cases r with
 |num x z=>
  obtain⟨p,rfl,h⟩:=hr
  refine⟨_,rfl,_,rfl,cg hrt n0 hn (cg h (by decide) rfl (.inl ⟨rfl,_,rfl,no (by decide +kernel) ?_⟩))⟩
  refine⟨_,rfl,_,rfl,cg hrt n0 hn (cg h (by decide) rfl (.inl ⟨rfl,_,rfl,no (by decide +kernel) ?_⟩))⟩
  refine⟨_,rfl,_,rfl,cg hrt n0 hn (cg h (by decide) rfl (.inl ⟨rfl,_,rfl,no (by decide +kernel) ?_⟩))⟩
  exact⟨_,rfl,.inl ⟨_,_,rfl,rfl,⟨(by show 1<=sizeLine;decide),λt ht=>(by have z:=q t ht;unfold bG cL at z;simp only[ba,bO,e1] at z;exact z)⟩⟩⟩
 |op x s a b=>
  obtain⟨p,rfl,h⟩:=hr
  refine⟨_,rfl,_,rfl,cg hrt n0 hn (cg h (by decide) rfl (.inl ⟨rfl,_,rfl,no (by decide +kernel) ?_⟩))⟩
  refine⟨_,rfl,_,rfl,cg hrt n0 hn (cg h (by decide) rfl (.inl ⟨rfl,_,rfl,no (by decide +kernel) ?_⟩))⟩
  refine⟨_,rfl,_,rfl,cg hrt n0 hn (cg h (by decide) rfl (.inl ⟨rfl,_,rfl,no (by decide +kernel) ?_⟩))⟩
  exact⟨_,rfl,.inl ⟨_,_,rfl,rfl,⟨(by show 1<=sizeLine;decide),λt ht=>(by have z:=q t ht;unfold bG cL at z;simp only[ba,bO,e1] at z;exact z)⟩⟩⟩
 |call x k as=>
  obtain⟨p,q1,rfl,h,h1⟩:=hr
  refine⟨_,rfl,_,rfl,cg hrt n0 hn (cg h (by decide) rfl (.inl ⟨rfl,_,rfl,no (by decide +kernel) ?_⟩))⟩
  refine⟨_,rfl,_,rfl,cg hrt n0 hn (cg h (by decide) rfl (.inl ⟨rfl,_,rfl,no (by decide +kernel) ?_⟩))⟩
  refine⟨_,rfl,_,rfl,cg hrt n0 hn (cg h (by decide) rfl (.inl ⟨rfl,_,rfl,no (by decide +kernel) ?_⟩))⟩
  exact⟨_,rfl,.inl ⟨_,_,rfl,rfl,⟨(by show 1<=sizeLine;decide),λt ht=>(by have z:=q t ht;unfold bG cL at z;simp only[ba,bO,e1] at z;exact z)⟩⟩⟩
 |say a=>
  obtain⟨p,rfl,h⟩:=hr
  refine⟨_,rfl,_,rfl,cg hrt n0 hn (cg h (by decide) rfl (.inl ⟨rfl,_,rfl,no (by decide +kernel) ?_⟩))⟩
  refine⟨_,rfl,_,rfl,cg hrt n0 hn (cg h (by decide) rfl (.inl ⟨rfl,_,rfl,no (by decide +kernel) ?_⟩))⟩
  refine⟨_,rfl,_,rfl,cg hrt n0 hn (cg h (by decide) rfl (.inl ⟨rfl,_,rfl,no (by decide +kernel) ?_⟩))⟩
  exact⟨_,rfl,.inl ⟨_,_,rfl,rfl,⟨(by show 1<=sizeLine;decide),λt ht=>(by have z:=q t ht;unfold bG cL at z;simp only[ba,bO,e1] at z;exact z)⟩⟩⟩
 |jump to=>
  obtain⟨p,rfl,h⟩:=hr
  refine⟨_,rfl,_,rfl,cg hrt n0 hn (cg h (by decide) rfl (.inl ⟨rfl,_,rfl,Ay ?_⟩))⟩
  exact⟨_,rfl,_,rfl,cg hrt n0 hn (cg h (by decide) rfl ⟨(by show 1<=sizeLine;decide),λt ht=>(by have z:=q t ht;unfold bG cL at z;simp only[ba,bO,e1] at z;exact z)⟩)⟩
 |test a to=>
  obtain⟨p,rfl,h⟩:=hr
  refine⟨_,rfl,_,rfl,cg hrt n0 hn (cg h (by decide) rfl (.inl ⟨rfl,_,rfl,no (by decide +kernel) ?_⟩))⟩
  refine⟨_,rfl,_,rfl,cg hrt n0 hn (cg h (by decide) rfl (.inl ⟨rfl,_,rfl,Ay ?_⟩))⟩
  exact⟨_,rfl,.inl ⟨_,_,rfl,rfl,⟨_,rfl,_,rfl,cg hrt n0 hn (cg h (by decide) rfl ⟨(by show 2<=sizeLine;decide),λt ht=>(by have z:=q t ht;unfold bG cL at z;simp only[ba,bO,e1] at z;exact z)⟩)⟩⟩⟩
 |give a=>
  obtain⟨p,rfl,h⟩:=hr
  refine⟨_,rfl,_,rfl,cg hrt n0 hn (cg h (by decide) rfl (.inl ⟨rfl,_,rfl,no (by decide +kernel) ?_⟩))⟩
  refine⟨_,rfl,_,rfl,cg hrt n0 hn (cg h (by decide) rfl (.inl ⟨rfl,_,rfl,no (by decide +kernel) ?_⟩))⟩
  refine⟨_,rfl,_,rfl,cg hrt n0 hn (cg h (by decide) rfl (.inl ⟨rfl,_,rfl,Ay ?_⟩))⟩
  exact⟨(by show 0<=sizeLine;decide),λt ht=>(by have z:=q t ht;unfold bG cL at z;simp only[ba,bO,e1] at z;exact z)⟩
theorem Lr{K:Fg}{vs:List V}{H:Hp}{Q:VK}{E:XK}(h:ng K vs H Q E):GU K {nx:=λ_ H'=>Q .non H',rt:=Q} (cU AH vs) H:=by
 obtain⟨v,r,rfl,hr,q⟩:=h
 cases r with
 |num x z=>
  obtain⟨p,rfl,h⟩:=hr
  refine⟨_,rfl,cg h (by decide) rfl (.inl ⟨rfl,_,rfl,no (by decide +kernel) ?_⟩)⟩
  refine⟨_,rfl,cg h (by decide) rfl (.inl ⟨rfl,_,rfl,no (by decide +kernel) ?_⟩)⟩
  refine⟨_,rfl,cg h (by decide) rfl ?_⟩
  refine⟨(by show 3<=sizeLine;decide),λt ht=>⟨t,_,rfl,.inr (cY.of ag),rfl,rfl,_,rfl,uD (by decide +kernel) ?_⟩⟩
  have nt:p≠t:=ar h ht
  exact⟨(by show 0<=sizeLine;decide),λt2 ht2=>q t2 _ ag (((aS.refl H).new ht).free ht2) (((aS.refl H).new ht).new ht2)⟩
 |op x s a b=>
  obtain⟨p,rfl,h⟩:=hr
  refine⟨_,rfl,cg h (by decide) rfl (.inl ⟨rfl,_,rfl,Ay ?_⟩)⟩
  exact⟨_,rfl,cg h (by decide) rfl ⟨_,rfl,cg h (by decide) rfl ⟨(by show 2<=sizeLine;decide),λt ht=>q t _ ag ht ((aS.refl H).new ht)⟩⟩⟩
 |call x k as=>
  obtain⟨p,q1,rfl,h,h1⟩:=hr
  refine⟨_,rfl,cg h (by decide) rfl (.inl ⟨rfl,_,rfl,no (by decide +kernel) ?_⟩)⟩
  refine⟨_,rfl,cg h (by decide) rfl (.inl ⟨rfl,_,rfl,Ay ?_⟩)⟩
  exact⟨_,rfl,cg h (by decide) rfl ⟨q1,_,rfl,.inr (cY.of h1),λl nl=>q l _ ag nl ((aS.refl H).new nl)⟩⟩
 |say a=>
  obtain⟨p,rfl,h⟩:=hr
  refine⟨_,rfl,cg h (by decide) rfl (.inl ⟨rfl,_,rfl,no (by decide +kernel) ?_⟩)⟩
  refine⟨_,rfl,cg h (by decide) rfl (.inl ⟨rfl,_,rfl,no (by decide +kernel) ?_⟩)⟩
  refine⟨_,rfl,cg h (by decide) rfl ?_⟩
  refine⟨(by show 3<=sizeLine;decide),λt ht=>⟨t,_,rfl,.inr (cY.of ag),rfl,rfl,_,rfl,uE (by decide +kernel) ?_⟩⟩
  have nt:p≠t:=ar h ht
  exact⟨_,rfl,cg (by rw[aA nt];exact h) (by decide) rfl ⟨(by show 1<=sizeLine;decide),λt2 ht2=>q t2 _ ag (((aS.refl H).new ht).free ht2) (((aS.refl H).new ht).new ht2)⟩⟩
 |jump to=>
  obtain⟨p,rfl,h⟩:=hr
  refine⟨_,rfl,cg h (by decide) rfl (.inl ⟨rfl,_,rfl,no (by decide +kernel) ?_⟩)⟩
  refine⟨_,rfl,cg h (by decide) rfl (.inl ⟨rfl,_,rfl,no (by decide +kernel) ?_⟩)⟩
  refine⟨_,rfl,cg h (by decide) rfl ?_⟩
  refine⟨(by show 3<=sizeLine;decide),λt ht=>⟨t,_,rfl,.inr (cY.of ag),rfl,rfl,_,rfl,uD (by decide +kernel) ?_⟩⟩
  have nt:p≠t:=ar h ht
  exact⟨(by show 0<=sizeLine;decide),λt2 ht2=>q t2 _ ag (((aS.refl H).new ht).free ht2) (((aS.refl H).new ht).new ht2)⟩
 |test a to=>
  obtain⟨p,rfl,h⟩:=hr
  refine⟨_,rfl,cg h (by decide) rfl (.inl ⟨rfl,_,rfl,no (by decide +kernel) ?_⟩)⟩
  refine⟨_,rfl,cg h (by decide) rfl (.inl ⟨rfl,_,rfl,no (by decide +kernel) ?_⟩)⟩
  refine⟨_,rfl,cg h (by decide) rfl ?_⟩
  refine⟨(by show 3<=sizeLine;decide),λt ht=>⟨t,_,rfl,.inr (cY.of ag),rfl,rfl,_,rfl,uE (by decide +kernel) ?_⟩⟩
  have nt:p≠t:=ar h ht
  exact⟨_,rfl,cg (by rw[aA nt];exact h) (by decide) rfl ⟨(by show 1<=sizeLine;decide),λt2 ht2=>q t2 _ ag (((aS.refl H).new ht).free ht2) (((aS.refl H).new ht).new ht2)⟩⟩
 |give a=>
  obtain⟨p,rfl,h⟩:=hr
  refine⟨_,rfl,cg h (by decide) rfl (.inl ⟨rfl,_,rfl,no (by decide +kernel) ?_⟩)⟩
  refine⟨_,rfl,cg h (by decide) rfl (.inl ⟨rfl,_,rfl,no (by decide +kernel) ?_⟩)⟩
  refine⟨_,rfl,cg h (by decide) rfl ?_⟩
  refine⟨(by show 3<=sizeLine;decide),λt ht=>⟨t,_,rfl,.inr (cY.of ag),rfl,rfl,_,rfl,uE (by decide +kernel) ?_⟩⟩
  have nt:p≠t:=ar h ht
  exact⟨_,rfl,cg (by rw[aA nt];exact h) (by decide) rfl ⟨(by show 1<=sizeLine;decide),λt2 ht2=>q t2 _ ag (((aS.refl H).new ht).free ht2) (((aS.refl H).new ht).new ht2)⟩⟩
theorem rL{K:Fg}(T:xH K){vs:List V}{H:Hp}{Q:VK}{E:XK}(h:dR K vs H Q E):mz K {nx:=λ_ H'=>Q .non H',rt:=Q} (cU jj vs) H:=by
 obtain⟨x,a,b,c,rfl,hx,q⟩:=h
 refine⟨_,rfl,_,rfl,x,_,rfl,T.clN,T.nNp,.inl ⟨hx,λdx hd ne=>?_⟩⟩
 have gx:∀{fs},(upd (upd (upd H dx (XD dx [("part",a)])) x (XF x (cS K "NoProgram") (some dx))) dx (XD dx fs)) x=some (XF x (cS K "NoProgram") (some dx)):=λ{fs}=>by rw[aA (Ne.symm ne),ag]
 refine⟨_,rfl,_,rfl,x,_,rfl,T.clN,T.nNr,.inr ⟨dx,[("part",a)],ag,ne,by rw[aA ne,ag],by show 1<1000;decide,?_⟩⟩
 refine⟨_,rfl,_,rfl,x,_,rfl,T.clN,T.nNw,.inr ⟨dx,_,gx,ne,ag,by show 2<1000;decide,?_⟩⟩
 refine q dx _ hd ne (by rw[aA (Ne.symm ne),aA (Ne.symm ne),ag]) ?_ λp o n e=>?_
 ·rw[ag]
  rfl
 ·have np:p≠dx:=ar e hd
  rw[aA np,aA np,aA n,aA np];exact e
theorem By{K:Fg}(T:xH K){vs:List V}{H:Hp}{Q:VK}{E:XK}(h:eZ K vs H Q E):vk K E {nx:=λ_ H'=>Q .non H',rt:=Q} (cU pD vs) H:=by
 obtain⟨k,r,wd,rfl,h⟩:=h
 rcases h with⟨rfl,q⟩|⟨n,rfl,q⟩
 ·exact⟨_,rfl,rfl,_,rfl,JO rfl q⟩
 ·refine⟨_,rfl,rfl,_,rfl,?_⟩
  rw[show(!decide (V.int n=V.non))=true from by simp]
  refine pJ ?_
  refine⟨_,rfl,_,rfl,_,rfl,λx hx=>⟨x,_,_,_,rfl,ag,λdx H' hd ne gx gd bt=>⟨rfl,x,_,_,rfl,T.clN,gx,(λz=>ne (Option.some.inj z)),λT' hT nT=>?_⟩⟩⟩
  refine q dx _ (λp o e=>?_) ?_
  ·have n1:p≠x:=ar e hx
   have e1:H' p=some o:=bt p o n1 (by rw[aA n1];exact e)
   rw[aA n1,aA (ar e1 hT)];exact e1
  ·rw[aA ne,aA (ar gd hT)];exact gd
theorem fk.mono{H H':Hp}{p:Addr}{bs:List dj}(h:fk H p bs)(t:Tp H H'):fk H' p bs:=by
 obtain⟨pvs,e,a⟩:=h
 exact⟨pvs,t _ _ e,a.imp λ_ _ z=>z.mono t⟩
theorem Ls{K:Fg}(T:xH K){vs:List V}{H:Hp}{Q:VK}{E:XK}(h:nh K vs H Q E):GY K {nx:=λ_ H'=>Q .non H',rt:=Q} (cU AI vs) H:=by
 obtain⟨p,bs,rfl,hp,sh,q⟩:=h
 refine⟨(by show 3<=sizeLine;decide),λa ha=>?_⟩
 show Aq K _ [some (.ref p),some (.ref a),none] _
 have s1:aS H (upd H a (.tup [.str "none",.int 0,.str ""])):=(aS.refl H).new ha
 refine⟨_,rfl,p,bs,rfl,hp.mono (Tp.of_same s1),sh,λc H' s2=>⟨rfl,_,rfl,Ay ?_⟩,λk n f dx H' s2 gd=>?_⟩
 ·refine⟨1,rfl,(by show 3<=sizeLine;decide),λb hb=>?_⟩
  exact⟨_,rfl,q b _ ⟨_,_,_,.inl ⟨c,rfl,rfl,rfl⟩,ag⟩ ((s1.trans s2).new hb)⟩
 ·intro x C T' ec hx ndx hT' nx
  cases ec
  refine⟨_,rfl,T.mNN,?_⟩
  have gx:(upd H' T' (TB T')) x=some (XL x (cS K "NoProgram") (some dx)):=by rw[aA (Ne.symm nx)];exact hx
  have gd2:(upd H' T' (TB T')) dx=some (XD dx (v8 k n "unset")):=by rw[aA (ar gd hT')];exact gd
  refine⟨_,rfl,x,_,dx,_,_,rfl,.inr gx,gd2,T.clN,T.nNp,rfl,?_⟩
  refine⟨_,rfl,x,_,dx,_,_,rfl,.inr gx,gd2,T.clN,T.nNr,rfl,?_⟩
  refine⟨_,rfl,x,_,dx,_,_,rfl,.inr gx,gd2,T.clN,T.nNw,rfl,(by show 3<=sizeLine;decide),λb hb=>?_⟩
  exact⟨_,rfl,q b _ ⟨_,_,_,.inr ⟨k,n,f,rfl,rfl,rfl⟩,ag⟩ (((s1.trans s2).new hT').new hb)⟩
theorem Eb{K:Fg}(T:xH K){vs:List V}{H:Hp}{Q:VK}{E:XK}(h:iO K vs H Q E):wQ K {nx:=λ_ H'=>Q .non H',rt:=Q} (cU qZ vs) H:=by
 obtain⟨p,bs,rfl,hp,sh,nc,q⟩:=h
 refine⟨(by show 0<=sizeLine;decide),λa ha=>?_⟩
 show sF K _ [some (.ref p),some (.ref a),none] _
 have s1:aS H (upd H a (.lst [])):=(aS.refl H).new ha
 refine⟨_,rfl,p,bs,rfl,hp.mono (Tp.of_same s1),sh,λc=>absurd c nc,λk n f dx H' s2 gd=>?_⟩
 intro x C T' ec hx ndx hT' nx
 cases ec
 refine⟨_,rfl,T.mNB,?_⟩
 have gx:(upd H' T' (TB T')) x=some (XL x (cS K "NoProgram") (some dx)):=by rw[aA (Ne.symm nx)];exact hx
 have gd2:(upd H' T' (TB T')) dx=some (XD dx (v8 k n "unset")):=by rw[aA (ar gd hT')];exact gd
 have s3:aS H (upd H' T' (TB T')):=(s1.trans s2).new hT'
 refine⟨_,rfl,x,_,dx,_,rfl,.inr gx,⟨_,gd2⟩,T.clN,T.wyN,.inl ⟨rfl,?_⟩⟩
 refine⟨_,rfl,x,_,dx,_,rfl,.inr gx,⟨_,gd2⟩,T.clN,T.wyN,.inr (.inl ⟨_,_,rfl,T.iNN,?_⟩)⟩
 refine⟨_,rfl,(by show 2<=sizeLine;decide),λt ht=>?_⟩
 have n1:x≠t:=ar gx ht
 have n2:dx≠t:=ar gd2 ht
 refine⟨x,_,dx,_,rfl,.inr (by rw[aA n1];exact gx),⟨_,by rw[aA n2];exact gd2⟩,T.clN,T.wyN,.inr (.inr ⟨t,_,_,_,_,rfl,ag,T.iNL,T.iNS,(by show 3<=sizeLine;decide),λb hb=>?_⟩)⟩
 exact⟨_,rfl,q b _ ag ((s3.new ht).new hb)⟩
theorem Md{E:XK}{k n:Int}{wd:Str}{C:Addr}{H:Hp}(h:∀(dx:Addr) (H':Hp),aS H H'->H' dx=some (XD dx (v8 k n wd))->E (.ref C) (some dx) H') :
  ∀(dx:Addr) (H':Hp),aS H H'->H' dx=some (XD dx (v8 k n wd))->(rY λ_=>E) (.ref C) (some dx) H':=λdx H' s g x C' T' ec hx nd hT nx=>
 h dx _ (s.new hT) (by rw[aA (ar g hT)];exact g)
theorem Ec{K:Fg}{vs:List V}{H:Hp}{Q:VK}{E:XK}(h:fM K vs H Q E):w4 K E {nx:=λ_ H'=>Q .non H',rt:=Q} (cU q5 vs) H:=by
 obtain⟨p,bs,rfl,hp,sh,q1,q2⟩:=h
 obtain⟨pvs,hpt,hA⟩:=id hp
 refine⟨_,rfl,p,rfl,⟨_,cY.of hpt⟩,wt (xs:=pvs) (λi σ' H'=>∃o1 o2,σ'=[some (.ref p),o1,o2]/\aS H H'/\∀(j:Nat) b,j<i->bs[j]?=some b->∀m,¬Cb b m) ⟨_,_,rfl,aS.refl H,λj b z=>absurd z (cB _)⟩ ?_ ?_ ?_⟩
 ·rintro i σ' H' _ ⟨_,_,_,s,_⟩
  exact cY.of (s _ _ hpt)
 ·rintro i x σ' H1 a hx na ⟨o1,o2,rfl,s1,ah⟩
  obtain⟨b,hb,hP⟩:=hA.of_v hx
  have bm:=aH hb
  have ps:=sh.part b bm
  have ib:i<bs.length:=(aj.mp hb).1
  refine⟨a,_,rfl,cY.of ag,rfl,_,_,rfl,_,_,rfl,rfl,?_⟩
  have s2:aS H (upd H1 a (.tup [.int (i:Nat),x])):=s1.new na
  show sG K E _ [some (.ref p),some (.int (i:Nat)),some x] _
  generalize upd H1 a (.tup [.int (i:Nat),x])=H2 at s2 ⊢
  refine⟨_,rfl,_,rfl,_,rfl,p,i,bs,rfl,hp.mono (.of_same s2),sh,ib,λH3 s3=>⟨i,.non,"name",rfl,.inl ⟨rfl,?_⟩⟩⟩
  have s3':=s2.trans s3
  refine⟨_,rfl,_,rfl,_,rfl,p,i,bs,rfl,hp.mono (.of_same s3'),sh,ib,λH4 s4=>⟨i,.non,"row",rfl,.inl ⟨rfl,?_⟩⟩⟩
  have s4':=s3'.trans s4
  obtain⟨pt,pa,rt,rvs,rfl,hpt4,hpa4,hrt4,hR4⟩:=hP.mono (.of_same s4')
  refine⟨_,rfl,_,rfl,cg hpt4 (by decide) rfl ⟨rt,rvs,b.rows,rfl,hrt4,hR4,ps.good,λH5 s5=>⟨i,.non,"ring",rfl,.inl ⟨rfl,?_⟩⟩⟩⟩
  have s5':=s4'.trans s5
  refine⟨_,rfl,_,rfl,_,b,_,rfl,hP.mono (.of_same s5'),ps,λcl H6 s6=>⟨i,.non,"unset",rfl,.inl ⟨rfl,?_⟩⟩,λn un mn H6 s6=>⟨i,_,"unset",rfl,.inr ⟨(n:Nat),rfl,?_⟩⟩⟩
  ·refine⟨_,_,rfl,s5'.trans s6,λj b' lt e m=>?_⟩
   rcases dA.mp lt with z|z
   ·exact ah j b' z e m
   ·subst z;rw[hb] at e;cases e;exact cl m
  ·exact Md λdx H' s g=>q2 i n ⟨⟨b,hb,un,mn⟩,ah⟩ dx H' ((s5'.trans s6).trans s) g
 ·rintro σ' H' ⟨_,_,_,s,ah⟩
  refine q1 (λk b e m=>ah k b ?_ e m) H' s
  have:=(aj.mp e).1
  rw[hA.len];exact this
theorem tI{K:Fg}{vs:List V}{H:Hp}{Q:VK}{E:XK}(h:ef K vs H Q E):nF K {nx:=λ_ H'=>Q .non H',rt:=Q} (cU jT vs) H:=by
 obtain⟨rt,v,rvs,r,rfl,hrt,ra,gl,q⟩:=h
 refine⟨_,rfl,v,r,rfl,ra,?_⟩
 show gK K _ [some (.ref rt),some v,some (jt r)] H
 have non:jt r=.non->gK K {nx:=λ_ H'=>Q .non H',rt:=Q} [some (.ref rt),some v,some (jt r)] H:=λe=>by
  rw[e]
  exact⟨_,rfl,rfl,_,rfl,JO rfl (q H (aS.refl H))⟩
 have int:∀t:Nat,jt r=.int (t:Nat)->gK K {nx:=λ_ H'=>Q .non H',rt:=Q} [some (.ref rt),some v,some (jt r)] H:=λt e=>by
  have lt:=gl t e
  rw[e]
  refine⟨_,rfl,rfl,_,rfl,?_⟩
  rw[show(!decide (V.int (t:Nat)=V.non))=true from by simp]
  refine pJ ⟨_,rfl,_,_,rfl,rfl,_,rfl,cJ (λz=>absurd z (by lia)) λ_=>⟨_,rfl,_,rfl,_,_,rfl,.inr ⟨_,cY.of hrt,rfl⟩,_,_,rfl,rfl,?_⟩⟩
  show Q (.bl (decide ((rvs.length:Int)<=(t:Int)))) H
  rw[decide_eq_false (by lia)]
  exact q H (aS.refl H)
 cases r with
 |jump t=>exact int t rfl
 |test a t=>exact int t rfl
 |_=>exact non rfl
theorem tG{K:Fg}{vs:List V}{H:Hp}{Q:VK}{E:XK}(h:d9 K vs H Q E):jX K {nx:=λ_ H'=>Q .non H',rt:=Q} (cU iA vs) H:=by
 obtain⟨p,v,bs,r,rfl,⟨pvs,hpt,hA⟩,ra,cl,q⟩:=h
 have other:(∀p' xs,v=.ref p'->H p'=some (.tup (.str (gc r)::xs))->gc r≠"call"->jX K {nx:=λ_ H'=>Q .non H',rt:=Q} (cU iA [.ref p,v]) H):=λp' xs ev hp' ne=>by
  subst ev
  refine⟨_,rfl,cg hp' (by decide) rfl (.inl ⟨rfl,_,rfl,?_⟩)⟩
  exact jv (λ_=>q H (aS.refl H)) λz=>absurd (lG z) ne
 cases r with
 |call x k as=>
  obtain⟨p',q1,rfl,hp',hq1⟩:=ra
  have e0:=cl x k as rfl
  rw[aX] at e0
  obtain⟨b,hb,eb⟩:=dM.mp e0
  have kb:k<bs.length:=(aj.mp hb).1
  obtain⟨w,b',e1,e2,hP⟩:=hA.get kb
  rw[hb] at e2;cases e2
  obtain⟨pt,pa,rt,rvs,rfl,hpt4,hpa4,hrt4,hR4⟩:=hP
  have e1':pvs[((k:Nat):Int).toNat]?=some (.ref pt):=by simpa using e1
  refine⟨_,rfl,cg hp' (by decide) rfl (.inl ⟨rfl,_,rfl,jv (λz=>absurd rfl z) λ_=>?_⟩)⟩
  refine⟨_,rfl,cg hp' (by decide) rfl ?_⟩
  show lH K _ [some (.ref p),some (.ref p'),some (.int (k:Nat))] H
  refine⟨_,rfl,_,_,rfl,rfl,_,rfl,cJ (λz=>absurd z (by lia)) λ_=>⟨_,rfl,_,rfl,_,_,rfl,.inr ⟨_,cY.of hpt,rfl⟩,_,_,rfl,rfl,_,rfl,cJ (λz=>absurd z (by rw[hA.len];lia)) λ_=>?_⟩⟩
  refine⟨_,rfl,cg hp' (by decide) rfl ⟨_,_,rfl,.inr ⟨_,cY.of hq1,rfl⟩,_,rfl,_,rfl,cg hpt (by lia) e1' (cg hpt4 (by decide) rfl ⟨_,_,rfl,.inr ⟨_,cY.of hpa4,rfl⟩,.inl ⟨rfl,?_⟩⟩)⟩⟩
  rw[ao,ao,eb]
  rw[show(!decide (V.int (as.length:Nat)=V.int (as.length:Nat)))=false from by simp]
  exact q H (aS.refl H)
 |num x z=>obtain⟨p',e,h⟩:=ra;exact other p' _ e h (show("num":Str)≠"call" by decide +kernel)
 |op x s a b=>obtain⟨p',e,h⟩:=ra;exact other p' _ e h (show("op":Str)≠"call" by decide +kernel)
 |say a=>obtain⟨p',e,h⟩:=ra;exact other p' _ e h (show("say":Str)≠"call" by decide +kernel)
 |jump t=>obtain⟨p',e,h⟩:=ra;exact other p' _ e h (show("jump":Str)≠"call" by decide +kernel)
 |test a t=>obtain⟨p',e,h⟩:=ra;exact other p' _ e h (show("test":Str)≠"call" by decide +kernel)
 |give a=>obtain⟨p',e,h⟩:=ra;exact other p' _ e h (show("give":Str)≠"call" by decide +kernel)
theorem yu{K:Fg}{vs:List V}{H:Hp}{Q:VK}{E:XK}(h:fP K vs H Q E):qM K {nx:=λ_ H'=>Q .non H',rt:=Q} (cU mL vs) H:=by
 obtain⟨rt,rvs,rs,rfl,hrt,hA,g,q⟩:=h
 have r64:=g.few
 have rl:=hA.len
 refine⟨_,rfl,_,_,rfl,.inr ⟨_,cY.of hrt,rfl⟩,_,rfl,by lia,by lia,gD (λi σ' H'=>∃o1,σ'=[some (.ref rt),o1]/\aS H H') ⟨_,rfl,aS.refl H⟩ ?_ ?_⟩
 ·rintro i σ' H1 hi ⟨o1,rfl,s1⟩
  have hi':i<rs.length:=by lia
  show oq K _ [some (.ref rt),some (.int (0+(i:Int)))] H1
  rw[gZ]
  exact⟨_,rfl,_,rfl,rt,i,rvs,rs,rfl,s1 _ _ hrt,hA.imp λ_ _ z=>z.mono (.of_same s1),g,hi',λH2 s2=>⟨_,rfl,iU ⟨_,rfl,s1.trans s2⟩⟩⟩
 ·rintro σ' H1 ⟨o1,rfl,s1⟩
  exact q H1 s1
theorem GA{rs:List bz}{n k:Nat}(hk:1<=k)(e:runJ rs k n=n)(i:Nat):∃j,j<k/\runJ rs i n=runJ rs j n:=by
 induction i using Nat.strongRecOn with
 |ind i ih=>
  by_cases c:i<k
  ·exact⟨i,c,rfl⟩
  ·obtain⟨j,hj,ej⟩:=ih (i-k) (by lia)
   refine⟨j,hj,?_⟩
   have:i=(i-k)+k:=by lia
   rw[this,zG,e];exact ej
theorem CC{rs:List bz}(g:eS rs){n k:Nat}(hn:n<rs.length)(hk:1<=k)(e:runJ rs k n=n)(jp:∀i,i<k->∀r,rs[runJ rs i n]?=some r->eV r=true):False:=by
 obtain⟨j,hj,ej⟩:=GA hk e rs.length
 have lt:=oR g rs.length hn
 have:=g.ring n hn _ (ai lt)
 have q:=jp j hj rs[runJ rs rs.length n] (by rw[<-ej];exact ai lt)
 rw[this] at q;cases q
theorem tH{K:Fg}{vs:List V}{H:Hp}{Q:VK}{E:XK}(h:ee K vs H Q E):nE K {nx:=λ_ H'=>Q .non H',rt:=Q} (cU jS vs) H:=by
 obtain⟨rt,n,rvs,rs,rfl,hrt,hA,g,hn,q⟩:=h
 have few:=g.few
 refine λfd hfd=>⟨_,rfl,?_⟩
 show lJ K _ [some (.ref rt),some (.int (n:Nat)),some (.ref fd),some (.int (n:Nat))] (upd H fd (.dK []))
 refine⟨λm σ' H'=>∃k,m=rs.length-k/\σ'=[some (.ref rt),some (.int (n:Nat)),some (.ref fd),some (.int (runJ rs k n:Nat))]/\H' fd=some (.dK (jU ((cH k).map λj=>runJ rs j n)))/\((cH k).map λj=>runJ rs j n).Nodup/\
  (∀i,i<k->∀r,rs[runJ rs i n]?=some r->eV r=true)/\aS H H',⟨_,0,rfl,rfl,ag,List.nodup_nil,(λi z=>absurd z (cB _)),(aS.refl H).new hfd⟩,?_⟩
 rintro m σ' H1 ⟨k,rfl,rfl,hd,nd,jp,s1⟩
 have kl:k<=rs.length:=by
  have:=jL nd (n:=rs.length) λx hx=>by
   obtain⟨j,_,rfl⟩:=dJ.mp hx
   exact oR g j hn
  rw[ao,eF] at this;exact this
 have lt:=oR g k hn
 obtain⟨v,r,e1,e2,hra⟩:=hA.get lt
 have hra1:=hra.mono (.of_same s1)
 obtain⟨p,xs,rfl,hp⟩:=hra1.ref
 have hrt1:=s1 _ _ hrt
 have e1':rvs[((runJ rs k n:Nat):Int).toNat]?=some (.ref p):=by simpa using e1
 have fin:lI K {nx:=λ_ H'=>Q .non H',rt:=Q} [some (.ref rt),some (.int (n:Nat)),some (.ref fd),some (.int (runJ rs k n:Nat))] H1:=by
  refine⟨_,rfl,_,rfl,.inl ⟨rfl,_,rfl,cJ (λz=>?_) λ_=>q H1 s1⟩⟩
  have ez:runJ rs k n=n:=by injection z with z;lia
  refine⟨_,rfl,_,rfl,fd,_,rfl,yI.k (k:=Sum.inl (n:Int)) hd,?_⟩
  show Q (.bl (kZ (jU ((cH k).map λj=>runJ rs j n)) (Sum.inl (n:Int))).isSome) H1
  rw[G4]
  by_cases c:n∈(cH k).map λj=>runJ rs j n
  ·obtain⟨j,hj,ej⟩:=dJ.mp c
   have:1<=k:=by have:=kG.mp hj;lia
   exact(CC g hn this ez jp).elim
  ·rw[decide_eq_false c];exact q H1 s1
 refine⟨_,rfl,_,rfl,cg hrt1 (by lia) e1' (cg hp (by decide) rfl (.inl ⟨rfl,_,rfl,cJ (λhw=>?_) (λhw=>?_)⟩))⟩
 ·refine⟨_,rfl,_,rfl,fd,_,rfl,yI.k (k:=Sum.inl (runJ rs k n:Int)) hd,_,rfl,?_⟩
  show if(!(kZ (jU ((cH k).map λj=>runJ rs j n)) (Sum.inl (runJ rs k n:Int))).isSome)=true then _ else _
  rw[G4]
  obtain⟨t',rfl⟩:=mE (lG hw)
  refine jv (λhin=>?_) (λhin=>?_)
  ·have nd2:((cH (k+1)).map λj=>runJ rs j n).Nodup:=by
    rw[gB,aZ];exact qk nd hin
   have kl2:k+1<=rs.length:=by
    have:=jL nd2 (n:=rs.length) λx hx=>by
     obtain⟨j,_,rfl⟩:=dJ.mp hx
     exact oR g j hn
    rw[ao,eF] at this;exact this
   refine⟨λσ' H''=>∃m',m'<rs.length-k/\_,λσ4 H4 z=>z,?_⟩
   refine⟨_,rfl,_,rfl,fd,_,rfl,AB.k (k:=Sum.inl (runJ rs k n:Int)) hd (dq (by rw[y4,ao,eF];lia)),?_⟩
   rw[lQ hin]
   have nrt:rt≠fd:=λz=>by rw[z,hd] at hrt1;cases hrt1
   have npf:p≠fd:=λz=>by rw[z,hd] at hp;cases hp
   have s2:aS H (upd H1 fd (.dK (jU (((cH k).map λj=>runJ rs j n)++[runJ rs k n])))):=iK s1 hfd
   refine⟨_,rfl,_,rfl,cg (by rw[aA nrt];exact hrt1) (by lia) e1' ⟨_,.jump t',rfl,hra.mono (.of_same s2),?_⟩⟩
   have e:runJ rs (k+1) n=t':=by rw[mr];unfold stp;rw[e2]
   refine⟨rs.length-(k+1),by lia,k+1,rfl,by rw[e];rfl,?_,nd2,λi hi r hr=>?_,s2⟩
   ·rw[ag,gB,aZ];rfl
   ·rcases dA.mp hi with z|z
    ·exact jp i z r hr
    ·subst z;rw[e2] at hr;cases hr;rfl
  ·exact fin
 ·exact fin
def tD(ss:List Str):List (gC×V):=ss.map λy=>(Sum.inr y,V.bl true)
def AJ(ss:List Str)(y:Str):List Str:=if y∈ss then ss else ss++[y]
theorem Fp(ss:List Str)(y:Str):((tD ss).any λkv=>decide (kv.1=(Sum.inr y:gC)))=decide (y∈ss):=by
 unfold tD
 rw[List.any_map,Bool.eq_iff_iff,List.any_eq_true,decide_eq_true_eq]
 constructor
 ·rintro⟨z,hz,e⟩
  have e':(Sum.inr z:gC)=Sum.inr y:=of_decide_eq_true e
  injection e' with e'
  rw[<-e'];exact hz
 ·intro h
  exact⟨y,h,by show decide ((Sum.inr y:gC)=Sum.inr y)=true;simp⟩
theorem MZ(ss:List Str)(y:Str):lR (tD ss) (Sum.inr y) (V.bl true)=tD (AJ ss y):=by
 unfold lR AJ
 rw[Fp]
 by_cases c:y∈ss
 ·rw[if_pos (decide_eq_true c),if_pos c]
  unfold tD
  rw[eT]
  refine jZ λz _=>?_
  show(if(Sum.inr z:gC)=Sum.inr y then((Sum.inr z:gC),V.bl true) else(Sum.inr z,V.bl true))=_
  split<;>rfl
 ·rw[if_neg (by rw[decide_eq_false c];decide),if_neg c]
  unfold tD;rw[aZ];rfl
theorem FD{ss:List Str}{y z:Str}:z∈AJ ss y↔z∈ss\/z=y:=by
 unfold AJ
 split
 ·rename_i h
  exact⟨.inl,λq=>q.elim id λe=>by rw[e];exact h⟩
 ·rw[aY,ak]
theorem Fu(ss:List Str)(y:Str):(AJ ss y).length<=ss.length+1:=by
 unfold AJ
 split
 ·lia
 ·rw[aG,bC];lia
theorem Fq(ss:List Str):(tD ss).length=ss.length:=by unfold tD;rw[ao]
theorem DI(ss:List Str):(tD ss).map (λkv=>kV kv.1)=ss.map V.str:=by unfold tD;rw[eT];rfl
theorem yy{ys:List Str}{i:Nat}{x:V}(h:(ys.map V.str)[i]?=some x):∃y,ys[i]?=some y/\x=.str y:=by
 rw[aX] at h
 obtain⟨y,e,rfl⟩:=dM.mp h
 exact⟨y,e,rfl⟩
theorem uQ{K:Fg}{vs:List V}{H:Hp}{Q:VK}{E:XK}(h:eR K vs H Q E):oo K {nx:=λ_ H'=>Q .non H',rt:=Q} (cU kH vs) H:=by
 obtain⟨rt,rvs,rs,rfl,hrt,hA,few,rd,q⟩:=h
 refine λfd hfd=>?_
 show mD K _ [some (.ref rt),some (.ref fd),none,none] (upd H fd (.dK []))
 have s0:aS H (upd H fd (.dK [])):=(aS.refl H).new hfd
 refine .inr ⟨_,rfl,rt,rfl,⟨_,cY.of (s0 _ _ hrt)⟩,ki (xs:=rvs) (λi σ' H'=>∃(ss:List Str) (o2 o3:Option V),σ'=[some (.ref rt),some (.ref fd),o2,o3]/\H' fd=some (.dK (tD ss))/\(∀y,y∈ss↔∃j r,j<i/\rs[j]?=some r/\y∈dw r)/\ss.length<=100*i/\aS H H')
  ⟨[],_,_,rfl,ag,λy=>⟨λz=>(by cases z),λ⟨j,_,z,_⟩=>absurd z (cB _)⟩,dh _,s0⟩ ?_ ?_ ?_⟩
 ·rintro i σ' H' _ ⟨_,_,_,_,_,_,_,s⟩
  exact cY.of (s _ _ hrt)
 ·rintro i x σ' H1 hx ⟨ss,o2,o3,rfl,hd,mm,ln,s1⟩
  obtain⟨r,hr,ra⟩:=hA.of_v hx
  have ir:i<rs.length:=(aj.mp hr).1
  have r100:=rd r (aH hr)
  show mC K _ [some (.ref rt),some (.ref fd),some x,o3] H1
  refine .inr ⟨_,rfl,x,r,rfl,ra.mono (.of_same s1),λtp H2 htp s2=>⟨tp,rfl,⟨_,cY.of htp⟩,ki (xs:=(dw r).map V.str) (λj σ' H'=>∃(ss':List Str) (o3:Option V),σ'=[some (.ref rt),some (.ref fd),some x,o3]/\H' fd=some (.dK (tD ss'))/\H' tp=some (.tup ((dw r).map V.str))/\
   (∀y,y∈ss'↔y∈ss\/y∈(dw r).take j)/\ss'.length<=100*i+j/\aS H H') ⟨ss,_,rfl,s2 _ _ hd,htp,λy=>by simp,by lia,s1.trans s2⟩ ?_ ?_ ?_⟩⟩
  ·rintro j σ' H' _ ⟨_,_,_,_,h3,_⟩
   exact cY.of h3
  ·rintro j z σ' H' hz ⟨ss',p3,rfl,hd',ht',mm',ln',s'⟩
   obtain⟨y,hy,rfl⟩:=yy hz
   have jl:j<(dw r).length:=(aj.mp hy).1
   show mB K _ [some (.ref rt),some (.ref fd),some x,some (.str y)] H'
   refine⟨_,rfl,_,rfl,fd,_,rfl,AB.k (k:=Sum.inr y) hd' (dq (by rw[Fq];lia)),?_⟩
   rw[MZ]
   have ntf:tp≠fd:=λz=>by rw[z,hd'] at ht';cases ht'
   refine⟨AJ ss' y,_,rfl,ag,by rw[aA ntf];exact ht',λw=>?_,by have:=Fu ss' y;lia,iK s' hfd⟩
   rw[FD,mm',cu,hy]
   simp only[Option.toList_some,aY,ak,or_assoc]
  ·rintro σ' H' ⟨ss',p3,rfl,hd',ht',mm',ln',s'⟩
   rw[ao] at mm' ln'
   rw[bZ (aC _)] at mm'
   refine⟨ss',_,_,rfl,hd',λy=>?_,by lia,s'⟩
   rw[mm',mm]
   constructor
   ·rintro(⟨j,r',lt,e,h⟩|h)
    ·exact⟨j,r',by lia,e,h⟩
    ·exact⟨i,r,by lia,hr,h⟩
   ·rintro⟨j,r',lt,e,h⟩
    rcases dA.mp lt with z|z
    ·exact .inl ⟨j,r',z,e,h⟩
    ·subst z;rw[hr] at e;cases e;exact .inr h
 ·rintro σ' H1 ⟨ss,o2,o3,rfl,hd,mm,ln,s1⟩
  rw[hA.len] at mm ln
  refine⟨_,rfl,fd,_,rfl,.inl hd,λl hl=>?_⟩
  rw[DI]
  refine q l ss _ (λy=>?_) (by lia) (s1.free hl) ag (s1.new hl)
  rw[mm]
  constructor
  ·rintro⟨j,r,_,e,h⟩
   exact⟨r,aH e,h⟩
  ·rintro⟨r,hr,h⟩
   obtain⟨j,hj,e⟩:=cD.mp hr
   exact⟨j,r,hj,by rw[ai hj,e],h⟩
theorem qg(a b:List Nat):bG (a++b)=bG a++bG b:=by unfold bG;rw[aZ]
def vL(rs:List bz)(y:Str)(m:Nat):Bool:=match rs[m]? with
 |some r=>decide (y∈dw r)
 |none=>false
theorem zE{rs:List bz}{y:Str}{m:Nat}:vL rs y m=true↔∃r,rs[m]?=some r/\y∈dw r:=by
 unfold vL
 cases e:rs[m]? with
 |none=>exact⟨(λz=>by cases z),(λ⟨r,z,_⟩=>by cases z)⟩
 |some r=>exact⟨λz=>⟨r,rfl,of_decide_eq_true z⟩,(λ⟨r',z,q⟩=>by cases z;exact decide_eq_true q)⟩
theorem A2(ns:List Nat):bG ns=(ns.map λ(n:Nat)=>(n:Int)).map V.int:=by unfold bG;rw[eT];rfl
theorem vK{K:Fg}{vs:List V}{H:Hp}{Q:VK}{E:XK}(h:fj K vs H Q E):pj K {nx:=λ_ H'=>Q .non H',rt:=Q} (cU jE vs) H:=by
 obtain⟨v,b,cs,rfl,⟨pt,pa,rt,rvs,rfl,hpt,hpa,hrt,hR⟩,sh,q1,q2⟩:=h
 have g:=sh.good
 have few:=g.few
 refine⟨_,rfl,cg hpt (by decide) rfl ?_⟩
 show nI K _ [some (.ref pt),some (.ref rt),none,none] H
 refine⟨(by show 0<=sizeLine;decide),λdu hdu=>?_⟩
 show nH K _ [some (.ref pt),some (.ref rt),some (.ref du),none] (upd H du (.lst []))
 have s0:aS H (upd H du (.lst [])):=(aS.refl H).new hdu
 refine .inl ⟨_,rfl,rt,rvs,b.rows,rfl,s0 _ _ hrt,hR.imp λ_ _ z=>z.mono (.of_same s0),few,sh.rd,λl ss H1 mss lss hl0 hl s1=>⟨l,rfl,⟨_,cz.of hl⟩,md (xs:=ss.map V.str) (λi σ' H'=>∃(DU:List Nat) (o:Option V),σ'=[some (.ref pt),some (.ref rt),some (.ref du),o]/\H' du=some (.lst (bG DU))/\H' l=some (.lst (ss.map V.str))/\
  (∀m,m∈DU↔∃y,y∈ss.take i/\y∉b.params/\xJ b.rows (some y) m/\vL b.rows y m=true)/\DU.length<=64*i/\aS H H') ⟨[],_,rfl,s1 _ _ ag,hl,λm=>by simp,dh _,s0.trans s1⟩ ?_ ?_ ?_⟩⟩
 ·rintro i σ' H' _ ⟨_,_,_,_,h3,_⟩
  exact cz.of h3
 ·rintro i x σ' H2 hx ⟨DU,o,rfl,hd,hl2,mm,ln,s2⟩
  obtain⟨y,hy,rfl⟩:=yy hx
  have il:i<ss.length:=(aj.mp hy).1
  have tk:∀z,z∈ss.take (i+1)↔z∈ss.take i\/z=y:=λz=>by rw[cu,hy];simp
  show nG K _ [some (.ref pt),some (.ref rt),some (.ref du),some (.str y)] H2
  refine⟨_,rfl,_,rfl,cg (s2 _ _ hpt) (by decide) rfl ⟨pa,_,rfl,.inr (cY.of (s2 _ _ hpa)),rfl,kE _,_,rfl,?_⟩⟩
  rw[kQ]
  refine jv (λhny=>?_) (λhin=>?_)
  ·refine⟨_,rfl,.inl ⟨rfl,_,cz.of hd⟩,?_⟩
   refine .inl ⟨_,rfl,_,rfl,rt,some y,rvs,b.rows,rfl,s2 _ _ hrt,hR.imp λ_ _ z=>z.mono (.of_same s2),g,λlw ns H3 hns hr hlw hlw0 s3=>⟨lw,rfl,⟨_,cz.of hlw⟩,λD hD=>?_⟩⟩
   have s3':=s2.trans s3
   have nD:lw≠D:=ar hlw hD
   have nlt:∀m∈ns,m<b.rows.length:=λm hm=>((hns m).mp hm).lt g
   have nsl:ns.length<=b.rows.length:=jL (hr.imp λh=>bh h) nlt
   refine ma (xs:=bG ns) (λj σ' H'=>∃o,σ'=[some (.ref pt),some (.ref rt),some (.ref du),some (.str y),o]/\H' D=some (.lst (bG ((ns.take j).filter (vL b.rows y))))/\aS H3 H') ?_ ?_ ?_ ?_
   ·exact⟨none,rfl,ag,(aS.refl H3).new hD⟩
   ·rintro j σ' H' _ ⟨o,_,_,s⟩
    exact cz.of (s _ _ hlw)
   ·rintro j x σ' H4 hx4 ⟨o4,rfl,hD4,s4⟩
    obtain⟨m,hm,rfl⟩:=mh hx4
    have ml:=nlt m (aH hm)
    have s4':=s3'.trans s4
    obtain⟨w,r,e1,e2,hra⟩:=(hR.imp λ_ _ z=>z.mono (Tp.of_same s4')).get ml
    have e1':rvs[((m:Nat):Int).toNat]?=some w:=by simpa using e1
    have ft:=rV (vL b.rows y) ns j m hm
    have jl:j<ns.length:=(aj.mp hm).1
    have fl:((ns.take j).filter (vL b.rows y)).length<=100:=ck (dX _ _) (by rw[bg];lia)
    refine⟨_,rfl,_,rfl,_,rfl,cg (s4' _ _ hrt) (by lia) e1' ⟨w,r,rfl,hra,λtp H5 htp s5=>⟨tp,_,rfl,.inr (cY.of htp),rfl,kE _,_,rfl,?_⟩⟩⟩
    rw[kQ]
    have rv:vL b.rows y m=decide (y∈dw r):=by unfold vL;rw[e2]
    show if decide (y∈dw r)=true then _ else _
    rw[<-rv]
    refine qf (λhb=>?_) (λhb=>?_)
    ·refine⟨_,rfl,_,s5 _ _ hD4,dq (by rw[dk];lia),_,rfl,?_,iK (s4.trans s5) hD⟩
     rw[ag,ft,if_pos hb,qg]
     rfl
    ·refine⟨_,rfl,?_,s4.trans s5⟩
     rw[ft,if_neg (by rw[hb];decide),eK]
     exact s5 _ _ hD4
   ·rintro σ' H4 ⟨o4,_,hD4,s4⟩
    rw[dk,bZ (aC _)] at hD4
    have dl:(ns.filter (vL b.rows y)).length<=64:=ck (dX _ _) (by lia)
    have hd4:=s4 _ _ (s3 _ _ hd)
    refine⟨du,D,_,_,rfl,rfl,hd4,hD4,?_,?_⟩
    ·rw[dk,dk]
     have:(7000:Nat)*64+64<=sizeLine:=by decide
     lia
    ·have n1:l≠du:=λz=>by rw[z,ag] at hl0;cases hl0
     refine⟨DU++ns.filter (vL b.rows y),_,rfl,by rw[ag,qg],by rw[aA n1];exact s4 _ _ (s3 _ _ hl2),λm=>?_,by rw[aG];lia,iK (s3'.trans s4) hdu⟩
     rw[aY,mm,gA,hns]
     constructor
     ·rintro(⟨z,hz,q⟩|⟨wy,rdm⟩)
      ·exact⟨z,(tk z).mpr (.inl hz),q⟩
      ·exact⟨y,(tk y).mpr (.inr rfl),hny,wy,rdm⟩
     ·rintro⟨z,hz,np,q⟩
      rcases(tk z).mp hz with z1|z1
      ·exact .inl ⟨z,z1,np,q⟩
      ·subst z1;exact .inr q
  ·refine⟨DU,_,rfl,hd,hl2,λm=>?_,by lia,s2⟩
   rw[mm]
   constructor
   ·rintro⟨z,hz,q⟩;exact⟨z,(tk z).mpr (.inl hz),q⟩
   ·rintro⟨z,hz,q⟩
    rcases(tk z).mp hz with z1|z1
    ·exact⟨z,z1,q⟩
    ·subst z1;exact absurd hin q.1
 ·rintro σ' H2 ⟨DU,o,rfl,hd,hl2,mm,ln,s2⟩
  rw[ao,bZ (aC _)] at mm
  have mu:∀m,m∈DU↔Cb b m:=λm=>by
   rw[mm]
   constructor
   ·rintro⟨y,hy,np,wy,rdm⟩
    obtain⟨r,er,yr⟩:=zE.mp rdm
    exact⟨r,y,er,yr,np,wy⟩
   ·rintro⟨r,y,er,yr,np,wy⟩
    exact⟨y,(mss y).mpr ⟨r,aH er,yr⟩,np,wy,zE.mpr ⟨r,er,yr⟩⟩
  refine⟨_,rfl,du,DU.map λ(n:Nat)=>(n:Int),rfl,cz.of (by rw[<-A2];exact hd),λe=>?_,λz hz mn=>?_⟩
  ·refine q1 (λn u=>?_) H2 s2
   have:=(mu n).mpr u
   rw[List.map_eq_nil_iff.mp e] at this;cases this
  ·obtain⟨n,hn,rfl⟩:=dJ.mp hz
   refine q2 n ((mu n).mp hn) (λm lt u=>?_) H2 s2
   have:=mn (m:Int) (dJ.mpr ⟨m,(mu m).mpr u,rfl⟩)
   lia
theorem wC{ss ss':List Str}(nd:ss.Nodup)(nd':ss'.Nodup)(h:∀x,x∈ss'↔x∈ss):ss'.length=ss.length:=
 Nat.le_antisymm (Fw nd' λy hy=>(h y).mp hy) (Fw nd λy hy=>(h y).mpr hy)
theorem zk{bs:List dj}{k:Nat}{b:dj}(nd:(bs.map (·.name)).Nodup)(e:bs[k]?=some b):b.name∉(bs.take k).map (·.name):=λz=>by
 obtain⟨b',hb',en⟩:=dJ.mp z
 obtain⟨j,hj,ej⟩:=cD.mp hb'
 rw[bg] at hj
 have lt:j<k:=by lia
 rw[List.getElem_take] at ej
 have e1:(bs.map (·.name))[j]?=some b.name:=by rw[aX,ai (by lia),ej];exact congrArg some en
 have e2:(bs.map (·.name))[k]?=some b.name:=by rw[aX,e];rfl
 have lk:=(aj.mp e2).1
 have:=(List.getElem?_inj lk nd).mp (e2.trans e1.symm)
 lia
theorem wD{xs:List V}{k:Nat}(h:k<xs.length):¬(HT.sIx xs.length 0 none=0/\HT.sIx xs.length xs.length (some (k:Int))=xs.length):=λz=>by
 have:=z.2
 rw[HT.sIx_nat] at this
 lia
theorem yt{K:Fg}{vs:List V}{H:Hp}{Q:VK}{E:XK}(h:fN K vs H Q E):qL K {nx:=λ_ H'=>Q .non H',rt:=Q} (cU ke vs) H:=by
 obtain⟨p,k,bs,rfl,⟨pvs,hpt,hA⟩,sh,kb,q⟩:=h
 obtain⟨w,b,e1,e2,hP⟩:=hA.get kb
 obtain⟨pt,pa,rt,rvs,rfl,hp1,hp2,hp3,hp4⟩:=id hP
 have e1':pvs[((k:Nat):Int).toNat]?=some (.ref pt):=by simpa using e1
 have ps:=sh.part b (aH e2)
 have few:=sh.few
 refine⟨_,rfl,_,rfl,cg hpt (by lia) e1' (cg hp1 (by decide) rfl ?_)⟩
 show om K _ [some (.ref p),some (.int (k:Nat)),some (.str b.name),none] H
 refine⟨_,rfl,_,rfl,cg hpt (by lia) e1' (cg hp1 (by decide) rfl ?_)⟩
 show oj K _ [some (.ref p),some (.int (k:Nat)),some (.str b.name),some (.ref pa)] H
 refine⟨_,rfl,.inr ⟨_,rfl,_,rfl,_,rfl,.inr ⟨p,pvs,rfl,cY.of hpt,wD (by rw[hA.len];exact kb),λtp htp=>?_⟩⟩⟩
 rw[jK]
 have s1:aS H (upd H tp (.tup (pvs.take k))):=(aS.refl H).new htp
 have ht1:upd H tp (.tup (pvs.take k)) tp=some (.tup (pvs.take k)):=ag
 generalize upd H tp (.tup (pvs.take k))=H1 at s1 ht1 ⊢
 refine⟨tp,rfl,⟨_,cY.of ht1⟩,λD hD=>?_⟩
 refine qd (xs:=pvs.take k) (λj σ' H'=>∃o,σ'=[some (.ref p),some (.int (k:Nat)),some (.str b.name),some (.ref pa),o]/\H'=upd H1 D (.lst (((bs.take j).map (·.name)).map V.str))) ⟨none,rfl,rfl⟩ ?_ ?_ ?_
 ·rintro j σ' H' _ ⟨o,_,rfl⟩
  exact cY.of (by rw[aA (ar ht1 hD)];exact ht1)
 ·rintro j x σ' H' hx ⟨o,rfl,rfl⟩
  have jk:j<k:=by have:=(aj.mp hx).1;rw[bg] at this;lia
  rw[fJ jk] at hx
  obtain⟨b',hb',hP'⟩:=hA.of_v hx
  obtain⟨pt',pa',rt',rvs',rfl,hp1',_⟩:=hP'
  refine kg ⟨_,rfl,cg (by rw[aA (ar (s1 _ _ hp1') hD)];exact s1 _ _ hp1') (by decide) rfl ⟨_,ag,dq (by rw[ao,ao,bg];lia),_,rfl,?_⟩⟩
  rw[nu,cu,hb']
  simp
 ·rintro σ' H' ⟨o,_,rfl⟩
  have tl:(pvs.take k).length=k:=by rw[bg,hA.len];lia
  rw[tl]
  refine⟨D,_,rfl,.inl (cz.of ag),rfl,kE _,_,rfl,?_⟩
  rw[kQ,decide_eq_false (zk sh.nnd e2)]
  refine iU ?_
  have s2:aS H (upd H1 D (.lst (((bs.take k).map (·.name)).map V.str))):=s1.new hD
  generalize upd H1 D (.lst (((bs.take k).map (·.name)).map V.str))=H2 at s2 ⊢
  show oi K _ [some (.ref p),some (.int (k:Nat)),some (.str b.name),some (.ref pa)] H2
  refine⟨_,rfl,pa,true,b.params,rfl,cY.of (s2 _ _ hp2),by have:=ps.p9;lia,λss nd' mm=>⟨_,rfl,_,_,rfl,.inr ⟨_,cY.of (s2 _ _ hp2),rfl⟩,_,_,rfl,rfl,_,rfl,?_⟩⟩
  have le:=wC ps.pnd nd' mm
  exact cJ (λz=>absurd z (by rw[ao];lia)) λ_=>q H2 s2
theorem Hu{α:Type}{xs:List α}{v:α}(e:xs.getLast?=some v):Ht xs (-1)=some v:=by
 have ne:xs≠[]:=λz=>by rw[z] at e;cases e
 have l1:0<xs.length:=dn.mpr ne
 rw[bT] at e
 unfold Ht JQ
 rw[if_neg (by decide),if_pos (by lia)]
 have:(-1+(xs.length:Int)).toNat=xs.length-1:=by lia
 rw[this];exact e
theorem JP{K:Fg}{p:Addr}{xs:List V}{v:V}{H:Hp}{Q:VK}(h:H p=some (.tup xs))(e:xs.getLast?=some v)(q:Q v H):cE K (.ref p) (.int (-1)) H Q:=
 .inr (.inl ⟨p,xs,-1,v,rfl,rfl,cY.of h,Hu e,q⟩)
theorem cF.last{α:Type}{R:V->α->Prop}{vs:List V}{rs:List α}{r:α}(h:cF R vs rs)(e:rs.getLast?=some r):∃v,vs.getLast?=some v/\R v r:=by
 rw[bT] at e
 have lt:=(aj.mp e).1
 obtain⟨v,r',e1,e2,q⟩:=h.get lt
 rw[e] at e2;cases e2
 exact⟨v,by rw[bT,h.len];exact e1,q⟩
theorem Av{r:bz}(h:gR r=true):gc r="jump"\/gc r="give":=by
 cases r with
 |jump t=>exact .inl rfl
 |give a=>exact .inr rfl
 |_=>cases h
theorem zA{K:Fg}{vs:List V}{H:Hp}{Q:VK}{E:XK}(h:gu K vs H Q E):sH K {nx:=λ_ H'=>Q .non H',rt:=Q} (cU nO vs) H:=by
 obtain⟨p,k,bs,rfl,hp,sh,kb,q⟩:=h
 obtain⟨pvs,hpt,hA⟩:=id hp
 obtain⟨w,b,e1,e2,hP⟩:=hA.get kb
 obtain⟨pt,pa,rt,rvs,rfl,hp1,hp2,hrt,hR⟩:=id hP
 have e1':pvs[((k:Nat):Int).toNat]?=some (.ref pt):=by simpa using e1
 have ps:=sh.part b (aH e2)
 have few:=ps.good.few
 have pos:=ps.good.pos
 have rl:=hR.len
 refine⟨_,rfl,_,rfl,cg hpt (by lia) e1' (cg hp1 (by decide) rfl ?_)⟩
 show ph K _ [some (.ref p),some (.int (k:Nat)),some (.ref rt),none,none] H
 refine⟨_,rfl,_,_,rfl,.inr ⟨_,cY.of hrt,rfl⟩,.inl ⟨rfl,_,rfl,no (by intro z;injection z with z;lia) ?_⟩⟩
 show pf K _ [some (.ref p),some (.int (k:Nat)),some (.ref rt),none,none] H
 refine⟨_,rfl,rt,rfl,⟨_,cY.of hrt⟩,wt (xs:=rvs) (λi σ' H'=>∃o3 o4,σ'=[some (.ref p),some (.int (k:Nat)),some (.ref rt),o3,o4]/\aS H H') ⟨_,_,rfl,aS.refl H⟩ ?_ ?_ ?_⟩
 ·rintro i σ' H' _ ⟨_,_,_,s⟩
  exact cY.of (s _ _ hrt)
 ·rintro i x σ' H1 a hx na ⟨o3,o4,rfl,s1⟩
  obtain⟨r,hr,ra⟩:=hR.of_v hx
  have rm:=aH hr
  refine⟨a,_,rfl,cY.of ag,rfl,_,_,rfl,_,_,rfl,rfl,?_⟩
  have s2:aS H (upd H1 a (.tup [.int (i:Nat),x])):=s1.new na
  show pe K _ [some (.ref p),some (.int (k:Nat)),some (.ref rt),some (.int (i:Nat)),some x] _
  generalize upd H1 a (.tup [.int (i:Nat),x])=H2 at s2 ⊢
  refine⟨_,rfl,_,rfl,rt,x,rvs,r,rfl,s2 _ _ hrt,ra.mono (.of_same s2),λt e=>by rw[rl];exact ps.gl r rm t e,λH3 s3=>⟨_,rfl,iU ?_⟩⟩
  have s3':=s2.trans s3
  refine⟨_,rfl,_,rfl,p,x,bs,r,rfl,hp.mono (.of_same s3'),ra.mono (.of_same s3'),λx' k' as e=>ps.calls x' k' as (by rw[<-e];exact rm),λH4 s4=>⟨_,rfl,iU ⟨_,_,rfl,s3'.trans s4⟩⟩⟩
 ·rintro σ' H1 ⟨o3,o4,rfl,s1⟩
  have ls:=ps.last
  obtain⟨r,er,ie⟩:=dM.mp ls
  obtain⟨v,ev,ra⟩:=hR.last er
  obtain⟨p',xs,rfl,hp'⟩:=ra.ref
  show pd K _ [some (.ref p),some (.int (k:Nat)),some (.ref rt),o3,o4] H1
  refine⟨_,rfl,1,rfl,JP (s1 _ _ hrt) ev (cg (s1 _ _ hp') (by decide) rfl ⟨(by show 2<=sizeLine;decide),λt ht=>⟨t,_,rfl,.inr (cY.of ag),rfl,rfl,_,rfl,?_⟩⟩)⟩
  have:kj (.str (gc r)) [.str "jump",.str "give"]=true:=by
   rcases Av ie with e|e<;>rw[e]<;>decide +kernel
  refine uD (by show(!kj (.str (gc r)) [.str "jump",.str "give"])=false;rw[this];rfl) ?_
  exact q _ (s1.new ht)
theorem JR{K:Fg}{p:Addr}{xs:List V}{v:V}{H:Hp}{Q:VK}(h:H p=some (.tup xs))(e:xs.getLast?=some v)(q:Q v H):cE K (.ref p) (.int (-1)) H Q:=JP h e q
theorem E6{rs:List bz}{n:Nat}{r:bz}(ls:rs.getLast?.map gR=some true)(e:rs[n]?=some r)(h:n=rs.length-1):gR r=true:=by
 rw[bT,<-h,e] at ls
 exact Option.some.inj ls
theorem Ea{K:Fg}{vs:List V}{H:Hp}{Q:VK}{E:XK}(h:iN K vs H Q E):wO K {nx:=λ_ H'=>Q .non H',rt:=Q} (cU qY vs) H:=by
 obtain⟨p,rt,n,rvs,bs,b,rfl,hp,hrt,hR,sh,hn,q⟩:=h
 obtain⟨pvs,hpt,hA⟩:=id hp
 obtain⟨v,r,e1,e2,ra⟩:=hR.get hn
 have rm:=aH e2
 have e1':rvs[((n:Nat):Int).toNat]?=some v:=by simpa using e1
 have rl:=hR.len
 have pos:=sh.good.pos
 have few:=sh.good.few
 obtain⟨pr,xs,rfl,hpr⟩:=ra.ref
 refine⟨_,rfl,_,rfl,cg hrt (by lia) e1' ?_⟩
 show oh K _ [some (.ref p),some (.ref rt),some (.int (n:Nat)),some (.ref pr)] H
 have f1:∀H',aS H H'->sD K {nx:=λ_ H'=>Q .non H',rt:=Q} [some (.ref p),some (.ref rt),some (.int (n:Nat)),some (.ref pr)] H':=λH1 s1=>by
  refine⟨_,rfl,_,rfl,_,_,rfl,.inr ⟨_,cY.of (s1 _ _ hrt),rfl⟩,_,_,rfl,rfl,.inl ⟨rfl,_,rfl,cJ (λz=>?_) λ_=>q H1 s1⟩⟩
  have en:n=b.rows.length-1:=by injection z with z;lia
  have ie:=E6 sh.last e2 en
  refine⟨_,rfl,cg (s1 _ _ hpr) (by decide) rfl ⟨(by show 2<=sizeLine;decide),λt ht=>⟨t,_,rfl,.inr (cY.of ag),rfl,rfl,?_⟩⟩⟩
  have:kj (.str (gc r)) [.str "jump",.str "give"]=true:=by
   rcases Av ie with e|e<;>rw[e]<;>decide +kernel
  show Q (.bl (!kj (.str (gc r)) [.str "jump",.str "give"])) _
  rw[this]
  exact q _ (s1.new ht)
 have goalc:∀(t:Nat),jt r=.int (t:Nat)->(V.str (gc r)::xs).getLast?=some (.int (t:Nat))->kj (.str (gc r)) [.str "jump",.str "test"]=true->og K {nx:=λ_ H'=>Q .non H',rt:=Q} [some (.ref p),some (.ref rt),some (.int (n:Nat)),some (.ref pr)] H:=λt eg el iv=>by
  have tl:=sh.gl r rm t eg
  refine⟨_,rfl,cg hpr (by decide) rfl ⟨(by show 2<=sizeLine;decide),λa ha=>⟨a,_,rfl,.inr (cY.of ag),rfl,rfl,_,rfl,uE iv ?_⟩⟩⟩
  have s1:aS H (upd H a (.tup [.str "jump",.str "test"])):=(aS.refl H).new ha
  refine⟨_,rfl,1,rfl,JR (s1 _ _ hpr) el ⟨_,_,rfl,rfl,_,rfl,cJ (λz=>absurd z (by lia)) λ_=>?_⟩⟩
  refine⟨_,rfl,1,rfl,JR (s1 _ _ hpr) el ⟨_,rfl,_,_,rfl,.inr ⟨_,cY.of (s1 _ _ hrt),rfl⟩,_,_,rfl,rfl,_,rfl,cJ (λz=>absurd z (by rw[rl];lia)) λ_=>f1 _ s1⟩⟩
 have other:gc r≠"call"->kj (.str (gc r)) [.str "jump",.str "test"]=false->oh K {nx:=λ_ H'=>Q .non H',rt:=Q} [some (.ref p),some (.ref rt),some (.int (n:Nat)),some (.ref pr)] H:=λnc iv=>by
  refine⟨_,rfl,cg hpr (by decide) rfl (.inl ⟨rfl,_,rfl,no (λz=>nc (lG z)) ?_⟩)⟩
  show og K _ _ H
  refine⟨_,rfl,cg hpr (by decide) rfl ⟨(by show 2<=sizeLine;decide),λa ha=>⟨a,_,rfl,.inr (cY.of ag),rfl,rfl,_,rfl,uD iv (iU (f1 _ ((aS.refl H).new ha)))⟩⟩⟩
 cases r with
 |call x k as=>
  obtain⟨pr',qa,er,hpr',hqa⟩:=ra
  cases er
  rw[hpr] at hpr'
  cases hpr'
  have e0:=sh.calls x k as rm
  rw[aX] at e0
  obtain⟨b',hb',eb⟩:=dM.mp e0
  have kb:k<bs.length:=(aj.mp hb').1
  obtain⟨w,b'',k1,k2,hP⟩:=hA.get kb
  rw[hb'] at k2;cases k2
  obtain⟨pt',pa',rt',rvs',rfl,hp1,hp2,_⟩:=hP
  have k1':pvs[((k:Nat):Int).toNat]?=some (.ref pt'):=by simpa using k1
  refine⟨_,rfl,cg hpr (by decide) rfl (.inl ⟨rfl,_,rfl,Ay ?_⟩)⟩
  refine⟨_,rfl,cg hpr (by decide) rfl ⟨_,_,rfl,rfl,_,rfl,cJ (λz=>absurd z (by lia)) λ_=>?_⟩⟩
  refine⟨_,rfl,cg hpr (by decide) rfl ⟨_,rfl,_,_,rfl,.inr ⟨_,cY.of hpt,rfl⟩,_,_,rfl,rfl,_,rfl,cJ (λz=>absurd z (by rw[hA.len];lia)) λ_=>?_⟩⟩
  show sE K _ _ H
  refine⟨_,rfl,cg hpr (by decide) rfl ⟨_,_,rfl,.inr ⟨_,cY.of hqa,rfl⟩,_,rfl,_,rfl,cg hpr (by decide) rfl (cg hpt (by lia) k1' (cg hp1 (by decide) rfl ⟨_,_,rfl,.inr ⟨_,cY.of hp2,rfl⟩,.inl ⟨rfl,_,rfl,jv (λz=>absurd (by rw[ao,ao,eb]) z) λ_=>?_⟩⟩))⟩⟩
  refine⟨_,rfl,_,rfl,_,_,rfl,.inr ⟨_,cY.of hrt,rfl⟩,_,_,rfl,rfl,.inl ⟨rfl,?_⟩⟩
  rw[decide_eq_false]
  ·exact q H (aS.refl H)
  ·intro z
   have en:n=b.rows.length-1:=by injection z with z;lia
   have ie:=E6 sh.last e2 en
   cases ie
 |jump t=>
  obtain⟨pr',er,hpr'⟩:=ra
  cases er
  rw[hpr] at hpr';cases hpr'
  refine⟨_,rfl,cg hpr (by decide) rfl (.inl ⟨rfl,_,rfl,no (show ¬V.str "jump"=V.str "call" by decide +kernel) ?_⟩)⟩
  exact goalc t rfl rfl (by show kj (.str "jump") _=true;decide +kernel)
 |test a t=>
  obtain⟨pr',er,hpr'⟩:=ra
  cases er
  rw[hpr] at hpr';cases hpr'
  refine⟨_,rfl,cg hpr (by decide) rfl (.inl ⟨rfl,_,rfl,no (show ¬V.str "test"=V.str "call" by decide +kernel) ?_⟩)⟩
  exact goalc t rfl rfl (by show kj (.str "test") _=true;decide +kernel)
 |num x z=>exact other (show("num":Str)≠"call" by decide +kernel) (by show kj (.str "num") _=false;decide +kernel)
 |op x s a b=>exact other (show("op":Str)≠"call" by decide +kernel) (by show kj (.str "op") _=false;decide +kernel)
 |say a=>exact other (show("say":Str)≠"call" by decide +kernel) (by show kj (.str "say") _=false;decide +kernel)
 |give a=>exact other (show("give":Str)≠"call" by decide +kernel) (by show kj (.str "give") _=false;decide +kernel)
theorem Jm{K:Fg}{vs:List V}{H:Hp}{Q:VK}{E:XK}(h:kU K vs H Q E):CY K {nx:=λ_ H'=>Q .non H',rt:=Q} (cU xD vs) H:=by
 obtain⟨rt,n,rvs,rs,rfl,hrt,hA,g,hn,q⟩:=h
 obtain⟨v,r,e1,e2,ra⟩:=hA.get hn
 have e1':rvs[((n:Nat):Int).toNat]?=some v:=by simpa using e1
 obtain⟨p,xs,rfl,hp⟩:=ra.ref
 refine⟨_,rfl,_,rfl,cg hrt (by lia) e1' (cg hp (by decide) rfl (.inl ⟨rfl,_,rfl,jv (λhw=>q H (aS.refl H)) λhw=>?_⟩))⟩
 obtain⟨t,rfl⟩:=mE (lG hw)
 obtain⟨p',er,hp'⟩:=ra
 cases er
 have et:runJ rs 1 n=t:=by show stp rs n=t;unfold stp;rw[e2]
 show xc K _ [some (.ref rt),some (.int (n:Nat)),none,none] H
 refine⟨_,rfl,_,rfl,cg hrt (by lia) e1' (cg hp' (by decide) rfl ?_)⟩
 show xb K _ [some (.ref rt),some (.int (n:Nat)),some (.int (t:Nat)),none] H
 refine .inr ⟨_,rfl,rt,rfl,⟨_,cY.of hrt⟩,ki (xs:=rvs) (λ_ σ' H'=>∃k o,1<=k/\σ'=[some (.ref rt),some (.int (n:Nat)),some (.int (runJ rs k n:Nat)),o]/\H'=H/\∀i,i<k->∀r,rs[runJ rs i n]?=some r->eV r=true)
  ⟨1,_,aC _,by rw[et],rfl,λi hi r hr=>by
   have:i=0:=by lia
   subst this
   have hr:rs[n]?=some r:=hr
   rw[e2] at hr;cases hr;rfl⟩ ?_ ?_ ?_⟩
 ·rintro i σ' H' _ ⟨_,_,_,_,rfl,_⟩
  exact cY.of hrt
 ·rintro i x σ' H' hx ⟨k,o,k1,rfl,rfl,jp⟩
  have lt:=oR g k hn
  obtain⟨v2,r2,f1,f2,ra2⟩:=hA.get lt
  have f1':rvs[((runJ rs k n:Nat):Int).toNat]?=some v2:=by simpa using f1
  obtain⟨p2,xs2,rfl,hp2⟩:=ra2.ref
  show xa K _ [some (.ref rt),some (.int (n:Nat)),some (.int (runJ rs k n:Nat)),some x] H'
  refine⟨_,rfl,_,rfl,.inl ⟨rfl,_,rfl,jv (λz=>?_) λz=>iU ⟨k,_,k1,rfl,rfl,jp⟩⟩⟩
  refine⟨_,rfl,_,rfl,cg hrt (by lia) f1' (cg hp2 (by decide) rfl (.inl ⟨rfl,_,rfl,cJ (λhw2=>?_) λ_=>⟨k,_,k1,rfl,rfl,jp⟩⟩))⟩
  obtain⟨t2,rfl⟩:=mE (lG hw2)
  obtain⟨p3,er,hp3⟩:=ra2
  cases er
  refine⟨_,rfl,_,rfl,cg hrt (by lia) f1' (cg hp3 (by decide) rfl ⟨k+1,some x,by lia,?_,rfl,λi hi r hr=>?_⟩)⟩
  ·have e:runJ rs (k+1) n=t2:=by rw[mr];unfold stp;rw[f2]
   rw[e];rfl
  ·rcases dA.mp hi with z|z
   ·exact jp i z r hr
   ·subst z;rw[f2] at hr;cases hr;rfl
 ·rintro σ' H' ⟨k,o,k1,rfl,rfl,jp⟩
  refine⟨_,rfl,_,rfl,.inl ⟨rfl,?_⟩⟩
  rw[decide_eq_false]
  ·exact q H' (aS.refl H')
  ·intro z
   have ez:runJ rs k n=n:=by injection z with z;lia
   exact CC g hn k1 ez jp
def p0(N:Nat)(F:List Nat):List V:=(cH N).map λm=>V.bl (decide (m∈F))
theorem qb(N:Nat)(F:List Nat):(p0 N F).length=N:=by unfold p0;rw[ao,eF]
theorem tU{N m:Nat}(F:List Nat)(h:m<N):(p0 N F)[m]?=some (.bl (decide (m∈F))):=by
 unfold p0
 rw[aX,ig h];rfl
theorem Hw{N m:Nat}{F:List Nat}(h:m<N):(p0 N F).set m (.bl true)=p0 N (F++[m]):=by
 apply lh
 intro j
 by_cases hj:j<N
 ·rw[tU _ hj]
  by_cases c:m=j
  ·subst c
   rw[bp (by rw[qb];exact h)]
   simp
  ·rw[bM c,tU _ hj]
   have:(j∈F++[m])↔j∈F:=by rw[aY,ak];exact⟨λz=>z.resolve_right (Ne.symm c),.inl⟩
   simp only[this]
 ·rw[dy (by rw[eL,qb];lia),dy (by rw[qb];lia)]
def LU(pt rt th wl:Addr)(y:Str)(H:Hp)(rs:List bz)(m:Nat):St->Hp->Prop:=λσ' H'=>∃(F W:List Nat) (o5 o6:Option V),σ'=[some (.ref pt),some (.ref rt),some (.str y),some (.ref th),some (.ref wl),o5,o6]/\H' th=some (.lst (p0 rs.length F))/\H' wl=some (.lst (bG W))/\WI rs (some y) F W (λ_=>False)/\aS H H'/\2*(rs.length-F.length)+W.length<=m
def Nr(pt rt th wl ln:Addr)(y:Str)(H:Hp)(rs:List bz)(ms:List Nat)(n m j:Nat):St->Hp->Prop:=λσ' H'=>∃(F W:List Nat) (o6:Option V),σ'=[some (.ref pt),some (.ref rt),some (.str y),some (.ref th),some (.ref wl),some (.int (n:Nat)),o6]/\H' th=some (.lst (p0 rs.length F))/\H' wl=some (.lst (bG W))/\H' ln=some (.lst (bG ms))/\
 WI rs (some y) F W (λx=>x=n)/\aS H H'/\2*(rs.length-F.length)+W.length<=m/\∀k,k<j->∀x,ms[k]?=some x->x∈F
theorem ME{K:Fg}{pt rt th wl:Addr}{y:Str}{H H1:Hp}{rvs:List V}{rs:List bz}{F W:List Nat}{n m:Nat}{r:bz}{v:V}{o6:Option V}{D:nJ}(hrt:H rt=some (.tup rvs))(hth:H th=none)(hwl:H wl=none)(ntw:th≠wl)(g:eS rs)
  (e1:rvs[n]?=some v) (e2:rs[n]?=some r) (hra:cx H v r) (hy:ij r≠.str y) (hn:xJ rs (some y) n) (h1:H1 th=some (.lst (p0 rs.length F))) (h2:H1 wl=some (.lst (bG W))) (i:WI rs (some y) F W (λx=>x=n)) (s:aS H H1) (hm:2*(rs.length-F.length)+W.length<=m) (hmb:m<=1000)
  (q:∀(σ':St) (H':Hp),LU pt rt th wl y H rs m σ' H'->D.nx σ' H') :
  iR (ju K (bE (kB K) [] E0 (af (aq 1) (af (aq 5) aE)))) (aP 6) (lK K) D [some (.ref pt),some (.ref rt),some (.str y),some (.ref th),some (.ref wl),some (.int (n:Nat)),o6] H1:=by
 refine .inl ⟨_,rfl,_,rfl,rt,n,rvs,v,r,rfl,s _ _ hrt,e1,hra.mono (.of_same s),λln hln=>⟨ln,rfl,⟨_,cz.of ag⟩,md (xs:=bG (cL n r)) (Nr pt rt th wl ln y H rs (cL n r) n m) ?_ ?_ ?_ ?_⟩⟩
 ·exact⟨F,W,_,rfl,by rw[aA (ar h1 hln)];exact h1,by rw[aA (ar h2 hln)];exact h2,ag,i,s.new hln,hm,λi hi=>absurd hi (cB _)⟩
 ·rintro j σ' H' _ ⟨_,_,_,_,_,_,h3,_⟩
  exact cz.of h3
 ·rintro j x σ' H' hx ⟨F',W',p6,rfl,h3,h4,h5,i',s',hm',hj⟩
  obtain⟨to,hto,rfl⟩:=mh hx
  have hw:xJ rs (some y) to:=.step hn e2 (λy' z=>by cases z;exact hy) (aH hto)
  have tl:=hw.lt g
  have fl:=i'.len g
  have few:=g.few
  show lK K _ [some (.ref pt),some (.ref rt),some (.str y),some (.ref th),some (.ref wl),some (.int (n:Nat)),some (.int (to:Nat))] H'
  have gt:(p0 rs.length F')[((to:Nat):Int).toNat]?=some (.bl (decide (to∈F'))):=by simpa using tU F' tl
  refine⟨_,rfl,_,rfl,mF (cz.of h3) (by lia) gt ⟨_,rfl,jv (λhin=>?_) (λhin=>?_)⟩⟩
  ·have nd':=jL (qk i'.nd hin) (n:=rs.length) λy hy'=>by
    rcases aY.mp hy' with z|z
    ·exact(i'.way y z).lt g
    ·rw[ak.mp z];exact tl
   rw[aG,bC] at nd'
   refine⟨_,rfl,_,rfl,yw h3 (by lia) (by rw[qb];simpa using tl) ?_⟩
   have e:(p0 rs.length F').set ((to:Nat):Int).toNat (.bl true)=p0 rs.length (F'++[to]):=by
    rw[show((to:Nat):Int).toNat=to from by simp];exact Hw tl
   rw[e]
   have h4':(upd H' th (.lst (p0 rs.length (F'++[to])))) wl=some (.lst (bG W')):=by rw[aA (Ne.symm ntw)];exact h4
   refine⟨_,rfl,.inl ⟨rfl,_,cz.of h4'⟩,_,rfl,wl,_,_,rfl,rfl,h4',dq (by rw[dk];lia),?_⟩
   have nlt:ln≠th:=Ne.symm (ar h1 hln)
   have nlw:ln≠wl:=Ne.symm (ar h2 hln)
   refine⟨F'++[to],W'++[to],_,rfl,by rw[aA ntw,ag],by rw[ag,kR],by rw[aA nlw,aA nlt];exact h5,i'.add hin hw,iK (iK s' hth) hwl,?_,λk hk x hxk=>?_⟩
   ·simp only[aG,bC];lia
   ·by_cases c:k<j
    ·exact cc _ (hj k c x hxk)
    ·have:k=j:=by lia
     subst this
     rw[hto] at hxk;cases hxk
     exact bB _ (ak.mpr rfl)
  ·refine⟨F',W',_,rfl,h3,h4,h5,i',s',hm',λk hk x hxk=>?_⟩
   by_cases c:k<j
   ·exact hj k c x hxk
   ·have:k=j:=by lia
    subst this
    rw[hto] at hxk;cases hxk
    exact hin
 ·rintro σ' H' ⟨F',W',p6,rfl,h3,h4,h5,i',s',hm',hj⟩
  rw[dk] at hj
  refine q _ _ ⟨F',W',_,_,rfl,h3,h4,⟨i'.nd,i'.way,i'.zero,i'.sub,λx hx=>?_⟩,s',hm'⟩
  rcases i'.cl x hx with z|z|z
  ·exact .inl z
  ·subst z
   refine .inr (.inr λr' e _ m' hm'=>?_)
   rw[e2] at e;cases e
   obtain⟨k,hk,ek⟩:=cD.mp hm'
   exact hj k hk m' (by rw[ai hk,ek])
  ·exact .inr (.inr z)
theorem yW(W:List Nat):lO (bG W) []=decide (W=[]):=by
 cases W with
 |nil=>decide
 |cons a r=>rw[xV (by simp[bG])];simp
theorem wo(W:List Nat):(bG W).all ji=true:=by
 unfold bG
 rw[fU]
 intro v hv
 obtain⟨y,_,rfl⟩:=dJ.mp hv
 rfl
theorem Jt{H:Hp}{v:V}{r:bz}(h:cx H v r):(∃p x xs,v=.ref p/\ij r=.str x/\H p=some (.tup (.str (gc r)::.str x::xs))/\kj (.str (gc r)) [.str "num",.str "op",.str "call"]=true)\/
  (∃p xs,v=.ref p/\ij r=.non/\H p=some (.tup (.str (gc r)::xs))/\kj (.str (gc r)) [.str "num",.str "op",.str "call"]=false):=by
 cases r with
 |num x z=>obtain⟨p,e,h⟩:=h;exact .inl ⟨p,x,_,e,rfl,h,by show kj (.str "num") _=true;decide +kernel⟩
 |op x s a b=>obtain⟨p,e,h⟩:=h;exact .inl ⟨p,x,_,e,rfl,h,by show kj (.str "op") _=true;decide +kernel⟩
 |call x k as=>obtain⟨p,q,e,h,_⟩:=h;exact .inl ⟨p,x,_,e,rfl,h,by show kj (.str "call") _=true;decide +kernel⟩
 |say a=>obtain⟨p,e,h⟩:=h;exact .inr ⟨p,_,e,rfl,h,by show kj (.str "say") _=false;decide +kernel⟩
 |jump t=>obtain⟨p,e,h⟩:=h;exact .inr ⟨p,_,e,rfl,h,by show kj (.str "jump") _=false;decide +kernel⟩
 |test a t=>obtain⟨p,e,h⟩:=h;exact .inr ⟨p,_,e,rfl,h,by show kj (.str "test") _=false;decide +kernel⟩
 |give a=>obtain⟨p,e,h⟩:=h;exact .inr ⟨p,_,e,rfl,h,by show kj (.str "give") _=false;decide +kernel⟩
theorem Eg{K:Fg}{vs:List V}{H:Hp}{Q:VK}{E:XK}(h:iQ K vs H Q E):xo K {nx:=λ_ H'=>Q .non H',rt:=Q} (cU lZ vs) H:=by
 obtain⟨pt,rt,y,ps,rvs,rs,rfl,hpt,p100,hrt,hA,g,q⟩:=h
 have rl:=hA.len
 have few:=g.few
 have pos:=g.pos
 obtain⟨F0,f0a,f0b⟩:∃F0:List Nat,(y∈ps->F0=[])/\(y∉ps->F0=[0]):=by
  by_cases c:y∈ps
  ·exact⟨[],λ_=>rfl,λz=>absurd c z⟩
  ·exact⟨[0],λz=>absurd z c,λ_=>rfl⟩
 have f0m:∀i,i∈F0↔i=0/\y∉ps:=λi=>by
  by_cases c:y∈ps
  ·rw[f0a c];exact⟨λz=>(by cases z),λz=>absurd c z.2⟩
  ·rw[f0b c,ak];exact⟨λz=>⟨z,c⟩,λz=>z.1⟩
 refine⟨_,rfl,_,_,rfl,.inr ⟨_,cY.of hrt,rfl⟩,_,rfl,by lia,by lia,λth hth=>?_⟩
 refine mT (λi σ' H'=>∃o,σ'=[some (.ref pt),some (.ref rt),some (.str y),none,none,o,none]/\H'=upd H th (.lst (p0 i F0))) ⟨none,rfl,rfl⟩ ?_ ?_
 ·rintro i σ' H' hi ⟨o,rfl,rfl⟩
  have npt:pt≠th:=ar hpt hth
  have il:i<rs.length:=by lia
  show tJ th qA _ _ [some (.ref pt),some (.ref rt),some (.str y),none,none,some (.int (0+(i:Int))),none] _
  rw[gZ]
  have nx:∀c,c=decide (i∈F0)->∃ys,upd H th (.lst (p0 i F0)) th=some (.lst ys)/\ys.length<sizeLine/\∃o,[some (V.ref pt),some (.ref rt),some (.str y),none,none,some (.int (i:Int)),none]=[some (.ref pt),some (.ref rt),some (.str y),none,none,o,none]/\upd (upd H th (.lst (p0 i F0))) th (.lst (ys++[.bl c]))=upd H th (.lst (p0 (i+1) F0)):=λc ec=>by
   refine⟨_,ag,dq (by rw[qb];lia),_,rfl,?_⟩
   rw[nu,ec]
   unfold p0
   rw[gB,aZ];rfl
  refine kg ⟨_,rfl,.inl ⟨rfl,_,rfl,cJ (λz=>?_) λz=>nx false ?_⟩⟩
  ·have i0:i=0:=by injection z with z;lia
   refine⟨_,rfl,_,rfl,pt,_,rfl,.inr (cY.of (by rw[aA npt];exact hpt)),rfl,kE _,?_⟩
   have:=nx (!kj (.str y) (ps.map V.str)) (by rw[kQ,Bool.eq_iff_iff,Bool.not_eq_true',decide_eq_false_iff_not,decide_eq_true_eq,f0m];exact⟨λz=>⟨i0,z⟩,λz=>z.2⟩)
   exact this
  ·have i0:i≠0:=λe=>z (by rw[e];rfl)
   exact(decide_eq_false λz=>i0 ((f0m i).mp z).1).symm
 rintro σ' H1 ⟨o,_,rfl⟩
 rw[show((rvs.length:Nat):Int).toNat=rs.length from by simp[rl]]
 have s1:aS H (upd H th (.lst (p0 rs.length F0))):=(aS.refl H).new hth
 have h1:upd H th (.lst (p0 rs.length F0)) th=some (.lst (p0 rs.length F0)):=ag
 generalize upd H th (.lst (p0 rs.length F0))=H1 at s1 h1 ⊢
 show sV K _ [some (.ref pt),some (.ref rt),some (.str y),some (.ref th),none,none,none] H1
 refine⟨_,rfl,_,_,rfl,.inr ⟨_,cY.of (s1 _ _ hrt),rfl⟩,_,rfl,by lia,by lia,λwl hwl=>?_⟩
 have ntw:th≠wl:=ar h1 hwl
 refine mT (λi σ' H'=>∃o,σ'=[some (.ref pt),some (.ref rt),some (.str y),some (.ref th),none,o,none]/\H'=upd H1 wl (.lst (bG ((cH i).filter λm=>decide (m∈F0))))) ⟨none,rfl,rfl⟩ ?_ ?_
 ·rintro i σ' H' hi ⟨o,rfl,rfl⟩
  have il:i<rs.length:=by lia
  show tJ wl _ _ _ [some (.ref pt),some (.ref rt),some (.str y),some (.ref th),none,some (.int (0+(i:Int))),none] _
  rw[gZ]
  have gt:(p0 rs.length F0)[((i:Nat):Int).toNat]?=some (.bl (decide (i∈F0))):=by simpa using tU _ il
  refine⟨_,rfl,_,rfl,mF (cz.of (by rw[aA ntw];exact h1)) (by lia) gt ⟨_,rfl,qf (λhb=>?_) λhb=>?_⟩⟩
  ·refine⟨_,rfl,_,ag,dq (by rw[dk];exact ck (dX _ _) (by rw[eF];lia)),_,rfl,?_⟩
   rw[nu,gB,kF,lW,if_pos hb,List.filter_nil]
   unfold bG;rw[aZ];rfl
  ·refine⟨_,rfl,?_⟩
   rw[gB,kF,lW,if_neg (by rw[hb];decide),List.filter_nil,eK]
 rintro σ' H2 ⟨o,_,rfl⟩
 rw[show((rvs.length:Nat):Int).toNat=rs.length from by simp[rl]]
 have s2:aS H (upd H1 wl (.lst (bG ((cH rs.length).filter λm=>decide (m∈F0))))):=s1.new hwl
 have fl0:((cH rs.length).filter λm=>decide (m∈F0))=F0:=by
  by_cases c:y∈ps
  ·rw[f0a c];simp
  ·rw[f0b c]
   obtain⟨N,eN⟩:∃N,rs.length=N+1:=⟨rs.length-1,by lia⟩
   rw[eN,List.range_succ_eq_map,lW,if_pos (by simp)]
   congr 1
   rw[List.filter_eq_nil_iff]
   intro a ha
   obtain⟨b,_,rfl⟩:=dJ.mp ha
   simp
 rw[fl0] at s2 ⊢
 have h2:upd H1 wl (.lst (bG F0)) wl=some (.lst (bG F0)):=ag
 have h1':upd H1 wl (.lst (bG F0)) th=some (.lst (p0 rs.length F0)):=by rw[aA ntw];exact h1
 generalize upd H1 wl (.lst (bG F0))=H2 at s2 h2 h1' ⊢
 show sU K _ [some (.ref pt),some (.ref rt),some (.str y),some (.ref th),some (.ref wl),none,none] H2
 have hwl0:H wl=none:=s1.free hwl
 have done:∀(F:List Nat) (H':Hp) (o5 o6:Option V),H' th=some (.lst (p0 rs.length F))->(∀m,m∈F↔y∉ps/\xJ rs (some y) m)->aS H H'->oA K {nx:=λ_ H'=>Q .non H',rt:=Q} [some (.ref pt),some (.ref rt),some (.str y),some (.ref th),some (.ref wl),o5,o6] H':=λF H' o5 o6 ht mf s=>by
  refine⟨_,rfl,q th ((cH rs.length).map λm=>decide (m∈F)) H' (by rw[ao,eF]) (λm b e=>?_) hth (by rw[ht];unfold p0;rw[eT];rfl) s⟩
  have lt:m<rs.length:=by have:=(aj.mp e).1;rw[ao,eF] at this;exact this
  rw[aX,ig lt] at e
  cases e
  rw[decide_eq_true_eq,mf]
 refine⟨λm σ' H'=>m<=1000/\((y∉ps/\LU pt rt th wl y H rs m σ' H')\/(y∈ps/\∃o5 o6,σ'=[some (.ref pt),some (.ref rt),some (.str y),some (.ref th),some (.ref wl),o5,o6]/\H' th=some (.lst (p0 rs.length []))/\H' wl=some (.lst (bG []))/\aS H H')),⟨2*rs.length+1,by lia,?_⟩,?_⟩
 ·by_cases c:y∈ps
  ·have:=f0a c
   subst this
   exact .inr ⟨c,_,_,rfl,h1',h2,s2⟩
  ·have:=f0b c
   subst this
   exact .inl ⟨c,[0],[0],_,_,rfl,h1',h2,⟨by simp,λx hx=>by rw[ak.mp hx];exact .zero,by simp,λx hx=>hx,λx hx=>.inl hx⟩,s2,by simp;lia⟩
 rintro m σ' H3 ⟨hmb,⟨c,F,W,o5,o6,rfl,h3,h4,i,s,hm⟩|⟨c,o5,o6,rfl,h3,h4,s⟩⟩
 ·refine⟨_,rfl,(by show 0<=sizeLine;decide),λe he=>?_⟩
  have s':aS H (upd H3 e (.lst [])):=s.new he
  have h3':upd H3 e (.lst []) th=some (.lst (p0 rs.length F)):=by rw[aA (ar h3 he)];exact h3
  have h4':upd H3 e (.lst []) wl=some (.lst (bG W)):=by rw[aA (ar h4 he)];exact h4
  have he':upd H3 e (.lst []) e=some (.lst []):=ag
  generalize upd H3 e (.lst [])=H4 at s' h3' h4' he' ⊢
  refine .inr (.inr ⟨wl,e,_,_,rfl,rfl,cz.of h4',cz.of he',wo _,rfl,_,rfl,?_⟩)
  show if(!lO (bG W) [])=true then _ else _
  rw[yW]
  refine jv (λhne=>?_) (λhnil=>?_)
  ·obtain⟨L,n,rfl⟩:∃L n,W=L++[n]:=by
    rcases List.eq_nil_or_concat W with z|⟨L,n,z⟩
    ·exact absurd z hne
    ·exact⟨L,n,by rw[z,List.concat_eq_append]⟩
   have hnF:=i.sub n (bB _ (ak.mpr rfl))
   have hn:=i.way n hnF
   have nl:=hn.lt g
   obtain⟨v,r,e1,e2,hra⟩:=hA.get nl
   have hm1:2*(rs.length-F.length)+L.length<=m-1:=by rw[aG,bC] at hm;lia
   have m0:0<m:=by rw[aG,bC] at hm;lia
   refine⟨LU pt rt th wl y H rs (m-1),λσ4 H5 h5=>⟨m-1,by lia,by lia,.inl ⟨c,h5⟩⟩,?_⟩
   rw[kR] at h4'
   refine⟨_,rfl,.inl ⟨rfl,_,cz.of h4'⟩,wl,_,V.int (n:Nat),rfl,rfl,h4',?_,?_⟩
   ·rw[aG,bC,Nat.add_sub_cancel,bJ (aC _),j7];rfl
   rw[List.dropLast_concat]
   show sT K _ [some (.ref pt),some (.ref rt),some (.str y),some (.ref th),some (.ref wl),some (.int (n:Nat)),o6] (upd H4 wl (.lst (bG L)))
   have h5:(upd H4 wl (.lst (bG L))) th=some (.lst (p0 rs.length F)):=by rw[aA ntw];exact h3'
   have h6:(upd H4 wl (.lst (bG L))) wl=some (.lst (bG L)):=ag
   have s5:aS H (upd H4 wl (.lst (bG L))):=iK s' hwl0
   generalize upd H4 wl (.lst (bG L))=H5 at h5 h6 s5 ⊢
   have i':WI rs (some y) F L (λx=>x=n):=⟨i.nd,i.way,i.zero,λx hx=>i.sub x (cc _ hx),λx hx=>by
    rcases i.cl x hx with z|z|z
    ·rcases aY.mp z with z|z
     ·exact .inl z
     ·exact .inr (.inl (ak.mp z))
    ·exact z.elim
    ·exact .inr (.inr z)⟩
   have e1':rvs[((n:Nat):Int).toNat]?=some v:=by simpa using e1
   have go:∀H6,aS H5 H6->ij r≠.str y->iR (ju K (bE (kB K) [] E0 (af (aq 1) (af (aq 5) aE)))) (aP 6) (lK K) {nx:=LU pt rt th wl y H rs (m-1),rt:=Q,bk:=oA K {nx:=λ_ H'=>Q .non H',rt:=Q},ct:=LU pt rt th wl y H rs (m-1)} [some (.ref pt),some (.ref rt),some (.str y),some (.ref th),some (.ref wl),some (.int (n:Nat)),o6] H6:=λH6 s6 hy=>
    ME hrt hth hwl0 ntw g e1 e2 hra hy hn (s6 _ _ h5) (s6 _ _ h6) i' (s5.trans s6) hm1 (by lia) λ_ _ z=>z
   rcases Jt (hra.mono (.of_same s5)) with⟨p,x,xs,rfl,es,hp,iv⟩|⟨p,xs,rfl,es,hp,iv⟩
   ·refine⟨_,rfl,_,rfl,cg (s5 _ _ hrt) (by lia) e1' (cg hp (by decide) rfl ⟨(by show 3<=sizeLine;decide),λa ha=>⟨a,_,rfl,.inr (cY.of ag),rfl,rfl,_,rfl,uD (by show(!kj _ _)=false;rw[iv];rfl) ?_⟩⟩)⟩
    have s6:aS H5 (upd H5 a (.tup [.str "num",.str "op",.str "call"])):=(aS.refl H5).new ha
    generalize upd H5 a (.tup [.str "num",.str "op",.str "call"])=H6 at s6 ⊢
    refine⟨_,rfl,_,rfl,cg (s6 _ _ (s5 _ _ hrt)) (by lia) e1' (cg (s6 _ _ hp) (by decide) rfl ⟨_,rfl,.inl ⟨rfl,_,rfl,jv (λz=>?_) λz=>?_⟩⟩)⟩
    ·exact go H6 s6 (by rw[es];exact z)
    ·have ez:ij r=.str y:=by rw[es];exact z
     refine⟨F,L,_,_,rfl,s6 _ _ h5,s6 _ _ h6,⟨i'.nd,i'.way,i'.zero,i'.sub,λx hx=>?_⟩,s5.trans s6,hm1⟩
     rcases i'.cl x hx with w|w|w
     ·exact .inl w
     ·subst w
      refine .inr (.inr λr' e hy=>?_)
      rw[e2] at e;cases e
      exact absurd ez (hy y rfl)
     ·exact .inr (.inr w)
   ·refine⟨_,rfl,_,rfl,cg (s5 _ _ hrt) (by lia) e1' (cg hp (by decide) rfl ⟨(by show 3<=sizeLine;decide),λa ha=>⟨a,_,rfl,.inr (cY.of ag),rfl,rfl,_,rfl,uE (by show(!kj _ _)=true;rw[iv];rfl) (pJ ?_)⟩⟩)⟩
    exact go _ ((aS.refl H5).new ha) (by rw[es];intro z;cases z)
  ·subst hnil
   exact done F H4 o5 o6 h3' (λm'=>(i.done m').trans ⟨λz=>⟨c,z⟩,λz=>z.2⟩) s'
 ·refine⟨_,rfl,(by show 0<=sizeLine;decide),λe he=>?_⟩
  have s':aS H (upd H3 e (.lst [])):=s.new he
  refine .inr (.inr ⟨wl,e,_,_,rfl,rfl,cz.of (by rw[aA (ar h4 he)];exact h4),cz.of ag,wo _,rfl,_,rfl,?_⟩)
  show if(!lO (bG []) [])=true then _ else _
  rw[yW]
  refine iU ?_
  exact done [] _ o5 o6 (by rw[aA (ar h3 he)];exact h3) (λm'=>⟨λz=>(by cases z),λz=>absurd c z.1⟩) s'
theorem Ia{ns:List Nat}{n:Nat}(h:ns.Pairwise (·<=·))(b:∀m∈ns,m<=n):(ns++[n]).Pairwise (·<=·):=by
 rw[jH]
 exact⟨h,List.pairwise_singleton _ _,λa ha c hc=>by rw[ak.mp hc];exact b a ha⟩
theorem Jo{K:Fg}{vs:List V}{H:Hp}{Q:VK}{E:XK}(h:kX K vs H Q E):C1 K {nx:=λ_ H'=>Q .non H',rt:=Q} (cU xF vs) H:=by
 obtain⟨pt,rt,rvs,b,cs,rfl,hpt,hrt,hR,sh,q⟩:=h
 have rl:=hR.len
 have g:=sh.good
 have few:=g.few
 refine⟨(by show 0<=sizeLine;decide),λfl hfl=>?_⟩
 show xm K _ [some (.ref pt),some (.ref rt),some (.ref fl),none,none] (upd H fl (.lst []))
 have s0:aS H (upd H fl (.lst [])):=(aS.refl H).new hfl
 refine⟨_,rfl,_,_,rfl,.inr ⟨_,cY.of (s0 _ _ hrt),rfl⟩,_,rfl,by lia,by lia,gD (λi σ' H'=>∃(ns:List Nat) (o3 o4:Option V),σ'=[some (.ref pt),some (.ref rt),some (.ref fl),o3,o4]/\H' fl=some (.lst (bG ns))/\(∀m,m∈ns↔m<i/\Cb b m)/\ns.Pairwise (·<=·)/\ns.length<=100*i/\aS H H')
  ⟨[],_,_,rfl,ag,λm=>⟨λz=>(by cases z),λz=>absurd z.1 (cB _)⟩,.nil,dh _,s0⟩ ?_ ?_⟩
 ·rintro i σ' H1 hi ⟨ns,o3,o4,rfl,hf,mm,pw,ln,s1⟩
  have il:i<b.rows.length:=by lia
  obtain⟨v,r,e1,e2,ra⟩:=hR.get il
  have e1':rvs[((i:Nat):Int).toNat]?=some v:=by simpa using e1
  have rm:=aH e2
  have r100:=sh.rd r rm
  show xk K _ [some (.ref pt),some (.ref rt),some (.ref fl),some (.int (0+(i:Int))),o4] H1
  rw[gZ]
  refine .inl ⟨_,rfl,_,rfl,cg (s1 _ _ hrt) (by lia) e1' ⟨v,r,rfl,ra.mono (.of_same s1),λlr H2 hlr hlr0 s2=>⟨lr,rfl,⟨_,cz.of hlr⟩,md (xs:=(dw r).map V.str) (λj σ' H'=>∃(ns':List Nat) (o4:Option V),σ'=[some (.ref pt),some (.ref rt),some (.ref fl),some (.int (i:Nat)),o4]/\H' fl=some (.lst (bG ns'))/\H' lr=some (.lst ((dw r).map V.str))/\
   (∀m,m∈ns'↔m∈ns\/(m=i/\∃y,y∈(dw r).take j/\y∉b.params/\xJ b.rows (some y) i))/\ns'.Pairwise (·<=·)/\ns'.length<=100*i+j/\aS H H') ⟨ns,_,rfl,s2 _ _ hf,hlr,λm=>by simp,pw,by lia,s1.trans s2⟩ ?_ ?_ ?_⟩⟩⟩
  ·rintro j σ' H' _ ⟨_,_,_,_,h3,_⟩
   exact cz.of h3
  ·rintro j x σ' H3 hx ⟨ns',p4,rfl,hf3,hl3,mm',pw',ln',s3⟩
   obtain⟨y,hy,rfl⟩:=yy hx
   have jl:j<(dw r).length:=(aj.mp hy).1
   have tk:∀z,z∈(dw r).take (j+1)↔z∈(dw r).take j\/z=y:=λz=>by rw[cu,hy];simp
   show xj K _ [some (.ref pt),some (.ref rt),some (.ref fl),some (.int (i:Nat)),some (.str y)] H3
   refine⟨_,rfl,_,rfl,_,rfl,pt,rt,y,b.params,rvs,b.rows,rfl,s3 _ _ hpt,sh.p9,s3 _ _ hrt,hR.imp λ_ _ z=>z.mono (.of_same s3),g,λlb bl H4 bll blm hlb0 hlb s4=>?_⟩
   have ib:i<bl.length:=by rw[bll];exact il
   have gb:(bl.map V.bl)[((i:Nat):Int).toNat]?=some (.bl bl[i]):=by
    rw[show((i:Nat):Int).toNat=i from by simp,aX,ai ib];rfl
   have bm:=blm i bl[i] (ai ib)
   refine⟨_,rfl,mF (cz.of hlb) (by lia) gb ⟨_,rfl,qf (λhb=>?_) λhb=>?_⟩⟩
   ·have hf4:=s4 _ _ hf3
    refine⟨_,rfl,.inl ⟨rfl,_,cz.of hf4⟩,_,rfl,fl,_,_,rfl,rfl,hf4,dq (by rw[dk];lia),?_⟩
    have nlf:lr≠fl:=λz=>by
     rw[z,hf] at hlr0;cases hlr0
    refine⟨ns'++[i],_,rfl,by rw[ag,kR],by rw[aA nlf];exact s4 _ _ hl3,λm=>?_,Ia pw' λm hm=>?_,by rw[aG,bC];lia,iK (s3.trans s4) hfl⟩
    ·rw[aY,mm',ak]
     constructor
     ·rintro((z|⟨z,y',hy',w⟩)|z)
      ·exact .inl z
      ·exact .inr ⟨z,y',(tk y').mpr (.inl hy'),w⟩
      ·exact .inr ⟨z,y,(tk y).mpr (.inr rfl),bm.mp hb⟩
     ·rintro(z|⟨z,_⟩)
      ·exact .inl (.inl z)
      ·exact .inr z
    ·rcases(mm' m).mp hm with z|⟨z,_⟩
     ·exact iX ((mm m).mp z).1
     ·exact pR z
   ·refine⟨ns',_,rfl,s4 _ _ hf3,s4 _ _ hl3,λm=>?_,pw',by lia,s3.trans s4⟩
    rw[mm']
    constructor
    ·rintro(z|⟨z,y',hy',w⟩)
     ·exact .inl z
     ·exact .inr ⟨z,y',(tk y').mpr (.inl hy'),w⟩
    ·rintro(z|⟨z,y',hy',w⟩)
     ·exact .inl z
     ·rcases(tk y').mp hy' with k|k
      ·exact .inr ⟨z,y',k,w⟩
      ·subst k
       have:=bm.mpr w
       rw[hb] at this;cases this
  ·rintro σ' H3 ⟨ns',p4,rfl,hf3,hl3,mm',pw',ln',s3⟩
   rw[ao] at mm' ln'
   rw[bZ (aC _)] at mm'
   refine⟨ns',_,_,rfl,hf3,λm=>?_,pw',by lia,s3⟩
   rw[mm',mm]
   constructor
   ·rintro(⟨z,u⟩|⟨rfl,y,hy,np,wy⟩)
    ·exact⟨by lia,u⟩
    ·exact⟨by lia,r,y,e2,hy,np,wy⟩
   ·rintro⟨lt,u⟩
    rcases dA.mp lt with z|z
    ·exact .inl ⟨z,u⟩
    ·subst z
     obtain⟨r',y,e,hy,np,wy⟩:=u
     rw[e2] at e;cases e
     exact .inr ⟨rfl,y,hy,np,wy⟩
 ·rintro σ' H1 ⟨ns,o3,o4,rfl,hf,mm,pw,ln,s1⟩
  rw[show((rvs.length:Nat):Int).toNat=b.rows.length from by simp[rl]] at mm ln
  refine⟨_,rfl,q fl ns H1 (λm=>?_) pw (by lia) hfl hf s1⟩
  rw[mm]
  exact⟨λz=>z.2,λu=>⟨by obtain⟨r,y,e,_⟩:=u;exact(aj.mp e).1,u⟩⟩
theorem yJ.mono{H H':Hp}{v:V}{n:Nat}(h:yJ H v n)(s:Tp H H'):yJ H' v n:=by
 obtain⟨q,e,z⟩:=h;exact⟨q,e,s _ _ z⟩
theorem BA{K:Fg}{vs:List V}{H:Hp}{Q:VK}{E:XK}(h:gY K vs H Q E):vo K {nx:=λ_ H'=>Q .non H',rt:=Q} (cU kI vs) H:=by
 obtain⟨p,k,bs,b,rfl,hp,sh,hb,q⟩:=h
 obtain⟨pvs,hpt,hA⟩:=id hp
 have kb:k<bs.length:=(aj.mp hb).1
 obtain⟨w,b',e1,e2,hP⟩:=hA.get kb
 rw[hb] at e2;cases e2
 obtain⟨pt,pa,rt,rvs,rfl,hp1,hp2,hrt,hR⟩:=id hP
 have e1':pvs[((k:Nat):Int).toNat]?=some (.ref pt):=by simpa using e1
 have ps:=sh.part b (aH hb)
 have few:=ps.good.few
 have pos:=ps.good.pos
 have rl:=hR.len
 have bf:=sh.few
 refine⟨_,rfl,_,rfl,cg hpt (by lia) e1' ⟨pt,_,rfl,cY.of hp1,rfl,_,_,rfl,_,_,rfl,_,_,rfl,rfl,?_⟩⟩
 show qW K _ [some (.ref p),some (.int (k:Nat)),some (.str b.name),some (.ref pa),some (.ref rt),none] H
 refine⟨_,rfl,.inr ⟨_,rfl,_,rfl,_,rfl,.inr ⟨p,pvs,rfl,cY.of hpt,wD (by rw[hA.len];exact kb),λtp htp=>?_⟩⟩⟩
 rw[jK]
 have s1:aS H (upd H tp (.tup (pvs.take k))):=(aS.refl H).new htp
 have ht1:upd H tp (.tup (pvs.take k)) tp=some (.tup (pvs.take k)):=ag
 generalize upd H tp (.tup (pvs.take k))=H1 at s1 ht1 ⊢
 refine⟨tp,rfl,⟨_,cY.of ht1⟩,λD hD=>?_⟩
 refine qd (xs:=pvs.take k) (λj σ' H'=>∃o,σ'=[some (.ref p),some (.int (k:Nat)),some (.str b.name),some (.ref pa),some (.ref rt),none,o]/\H'=upd H1 D (.lst (((bs.take j).map (·.name)).map V.str))) ⟨none,rfl,rfl⟩ ?_ ?_ ?_
 ·rintro j σ' H' _ ⟨o,_,rfl⟩
  exact cY.of (by rw[aA (ar ht1 hD)];exact ht1)
 ·rintro j x σ' H' hx ⟨o,rfl,rfl⟩
  have jk:j<k:=by have:=(aj.mp hx).1;rw[bg] at this;lia
  rw[fJ jk] at hx
  obtain⟨b',hb',hP'⟩:=hA.of_v hx
  obtain⟨pt',pa',rt',rvs',rfl,hp1',_⟩:=hP'
  refine kg ⟨_,rfl,cg (by rw[aA (ar (s1 _ _ hp1') hD)];exact s1 _ _ hp1') (by decide) rfl ⟨_,ag,dq (by rw[ao,ao,bg];lia),_,rfl,?_⟩⟩
  rw[nu,cu,hb']
  simp
 rintro σ' H' ⟨o,_,rfl⟩
 have tl:(pvs.take k).length=k:=by rw[bg,hA.len];lia
 rw[tl]
 refine⟨D,_,rfl,.inl (cz.of ag),rfl,kE _,_,rfl,?_⟩
 rw[kQ,decide_eq_false (zk sh.nnd hb)]
 refine iU ?_
 have s2:aS H (upd H1 D (.lst (((bs.take k).map (·.name)).map V.str))):=s1.new hD
 generalize upd H1 D (.lst (((bs.take k).map (·.name)).map V.str))=H2 at s2 ⊢
 refine⟨_,rfl,pa,true,b.params,rfl,cY.of (s2 _ _ hp2),by have:=ps.p9;lia,λss nd' mm=>⟨_,rfl,_,_,rfl,.inr ⟨_,cY.of (s2 _ _ hp2),rfl⟩,_,_,rfl,rfl,_,rfl,?_⟩⟩
 have le:=wC ps.pnd nd' mm
 refine cJ (λz=>absurd z (by rw[ao];lia)) λ_=>?_
 show qV K _ [some (.ref p),some (.int (k:Nat)),some (.str b.name),some (.ref pa),some (.ref rt),none] H2
 refine⟨_,rfl,_,_,rfl,.inr ⟨_,cY.of (s2 _ _ hrt),rfl⟩,.inl ⟨rfl,_,rfl,no (by intro z;injection z with z;lia) ?_⟩⟩
 show qU K _ [some (.ref p),some (.int (k:Nat)),some (.str b.name),some (.ref pa),some (.ref rt),none] H2
 refine⟨_,rfl,_,_,rfl,.inr ⟨_,cY.of (s2 _ _ hrt),rfl⟩,_,rfl,by lia,by lia,gD (λi σ' H'=>∃o,σ'=[some (.ref p),some (.int (k:Nat)),some (.str b.name),some (.ref pa),some (.ref rt),o]/\aS H H') ⟨_,rfl,s2⟩ ?_ ?_⟩
 ·rintro i σ' H3 hi ⟨o,rfl,s3⟩
  show qT K _ [some (.ref p),some (.int (k:Nat)),some (.str b.name),some (.ref pa),some (.ref rt),some (.int (0+(i:Int)))] H3
  rw[gZ]
  exact⟨_,rfl,_,rfl,_,rfl,p,rt,i,rvs,bs,b,rfl,hp.mono (.of_same s3),s3 _ _ hrt,hR.imp (λ_ _ z=>z.mono (.of_same s3)),ps,by lia,λH4 s4=>⟨_,rfl,iU ⟨_,rfl,s3.trans s4⟩⟩⟩
 rintro σ' H3 ⟨o,rfl,s3⟩
 show qS K _ [some (.ref p),some (.int (k:Nat)),some (.str b.name),some (.ref pa),some (.ref rt),o] H3
 refine⟨_,rfl,_,_,rfl,.inr ⟨_,cY.of (s3 _ _ hrt),rfl⟩,_,rfl,by lia,by lia,gD (λi σ' H'=>∃o,σ'=[some (.ref p),some (.int (k:Nat)),some (.str b.name),some (.ref pa),some (.ref rt),o]/\aS H H') ⟨_,rfl,s3⟩ ?_ ?_⟩
 ·rintro i σ' H4 hi ⟨o,rfl,s4⟩
  show qR K _ [some (.ref p),some (.int (k:Nat)),some (.str b.name),some (.ref pa),some (.ref rt),some (.int (0+(i:Int)))] H4
  rw[gZ]
  exact⟨_,rfl,_,rfl,rt,i,rvs,b.rows,rfl,s4 _ _ hrt,hR.imp (λ_ _ z=>z.mono (.of_same s4)),ps.good,by lia,λH5 s5=>⟨_,rfl,iU ⟨_,rfl,s4.trans s5⟩⟩⟩
 rintro σ' H4 ⟨o,rfl,s4⟩
 show qQ K _ [some (.ref p),some (.int (k:Nat)),some (.str b.name),some (.ref pa),some (.ref rt),o] H4
 refine .inl ⟨_,rfl,_,rfl,pa,rt,rvs,b,_,rfl,s4 _ _ hp2,s4 _ _ hrt,hR.imp (λ_ _ z=>z.mono (.of_same s4)),ps,λl ns H5 mm pw nl hl0 hl s5=>⟨l,rfl,⟨_,cz.of hl⟩,λD hD=>?_⟩⟩
 refine ma (xs:=bG ns) (λj σ' H'=>∃(refs:List V) (o:Option V),σ'=[some (.ref p),some (.int (k:Nat)),some (.str b.name),some (.ref pa),some (.ref rt),o]/\H' D=some (.lst refs)/\cF (yJ H') refs (ns.take j)/\aS H5 H') ⟨[],none,rfl,ag,cF.nil,(aS.refl H5).new hD⟩ ?_ ?_ ?_
 ·rintro j σ' H' _ ⟨_,_,_,_,_,s⟩
  exact cz.of (s _ _ hl)
 ·rintro j x σ' H6 hx ⟨refs,o,rfl,hD6,aa,s6⟩
  obtain⟨m,hm,rfl⟩:=mh hx
  have jl:j<ns.length:=(aj.mp hm).1
  have rfl':=aa.len
  rw[bg] at rfl'
  refine kg ⟨_,rfl,(by show 2<=sizeLine;decide),λt ht=>⟨_,by rw[aA (ar hD6 ht)];exact hD6,dq (by lia),refs++[.ref t],_,rfl,ag,?_,?_⟩⟩
  ·have sx:Tp H6 (upd (upd H6 t (.tup [.int (m:Nat),.str "unset"])) D (.lst (refs++[.ref t]))):=((Tp.refl H6).new ht).lst (ys:=refs) (by rw[aA (ar hD6 ht)];exact hD6)
   rw[cu,hm]
   exact(aa.imp λ_ _ z=>z.mono sx).snoc ⟨t,rfl,by rw[aA (by intro z;rw[z,hD6] at ht;cases ht),ag]⟩
  ·exact iK (s6.new ht) hD
 rintro σ' H6 ⟨refs,o,_,hD6,aa,s6⟩
 rw[dk,bZ (aC _)] at aa
 refine q D refs ns H6 mm pw ((s4.trans s5).free hD) hD6 aa (by rw[aa.len];lia) ((s4.trans s5).trans s6)
theorem Ku{K:Fg}{H:Hp}{l e:Addr}{refs:List V}{Q:VK}(hl:H l=some (.lst refs))(he:H e=some (.lst []))(q1:refs≠[]->Q (.bl true) H)(q2:refs=[]->Q (.bl false) H):Ji K (.ref l) (.ref e) H Q:=by
 by_cases c:refs=[]
 ·subst c
  exact .inl ⟨l,e,_,_,rfl,rfl,.inl ⟨cz.of hl,cz.of he⟩,.inr ⟨[],rfl,rfl,(λj a b e h=>by cases h),q2 rfl⟩⟩
 ·exact .inl ⟨l,e,_,_,rfl,rfl,.inl ⟨cz.of hl,cz.of he⟩,.inl ⟨(λz=>c (dc.mp z)),q1 c⟩⟩
theorem Mz{K:Fg}{vs:List V}{H:Hp}{Q:VK}{E:XK}(h:lU K vs H Q E):J0 K {nx:=λ_ H'=>Q .non H',rt:=Q} (cU EJ vs) H:=by
 obtain⟨p,bs,rfl,hp,sh,q⟩:=h
 obtain⟨pvs,hpt,hA⟩:=id hp
 have few:=sh.few
 have al:=hA.len
 refine⟨_,rfl,_,_,rfl,.inr ⟨_,cY.of hpt,rfl⟩,_,rfl,by lia,by lia,gD (λi σ' H'=>∃o1 o2,σ'=[some (.ref p),o1,o2]/\aS H H'/\∀(j:Nat) b,j<i->bs[j]?=some b->∀m,¬Cb b m) ⟨_,_,rfl,aS.refl H,λj b z=>absurd z (cB _)⟩ ?_ ?_⟩
 ·rintro i σ' H1 hi ⟨o1,o2,rfl,s1,ah⟩
  have ib:i<bs.length:=by lia
  have hb:bs[i]?=some bs[i]:=ai ib
  show CM K _ [some (.ref p),some (.int (0+(i:Int))),o2] H1
  rw[gZ]
  refine⟨_,rfl,_,rfl,p,i,bs,bs[i],rfl,hp.mono (.of_same s1),sh,hb,λl refs ns H2 mm pw hl0 hl aa rn s2=>?_⟩
  show CL K _ [some (.ref p),some (.int (i:Nat)),some (.ref l)] H2
  refine⟨_,rfl,(by show 0<=sizeLine;decide),λe he=>?_⟩
  have s3:aS H2 (upd H2 e (.lst [])):=(aS.refl H2).new he
  have he3:upd H2 e (.lst []) e=some (.lst []):=ag
  generalize upd H2 e (.lst [])=H3 at s3 he3 ⊢
  have S3:=(s1.trans s2).trans s3
  refine Ku (s3 _ _ hl) he3 (λne=>⟨_,rfl,pJ ?_⟩) λen=>⟨_,rfl,iU ⟨_,_,rfl,S3,λj b lt e m u=>?_⟩⟩
  ·have l0:0<ns.length:=by rw[<-aa.len];exact dn.mpr ne
   obtain⟨v,n,f1,f2,dv⟩:=aa.get l0
   obtain⟨t,rfl,ht⟩:=dv
   have un:=(mm n).mp (aH f2)
   have fst:rS bs i n:=⟨⟨_,hb,un,λm lt um=>by
    obtain⟨j,hj,ej⟩:=cD.mp ((mm m).mpr um)
    have e0:ns[0]=n:=by rw[ai l0] at f2;exact Option.some.inj f2
    by_cases c:j=0
    ·subst c;lia
    ·have:=ia.mp pw 0 j l0 hj (by lia)
     lia⟩,ah⟩
   refine⟨_,rfl,_,rfl,mF (cz.of (s3 _ _ hl)) (by decide) f1 (cg (s3 _ _ ht) (by decide) rfl ⟨_,rfl,mF (cz.of (s3 _ _ hl)) (by decide) f1 (cg (s3 _ _ ht) (by decide) rfl ⟨(by show 3<=sizeLine;decide),λa ha=>?_⟩)⟩)⟩
   exact q a _ ⟨_,_,_,.inr ⟨i,n,fst,rfl,rfl,rfl⟩,ag⟩ (S3.new ha)
  ·rcases dA.mp lt with z|z
   ·exact ah j b z e m u
   ·subst z
    rw[hb] at e;cases e
    have:=(mm m).mpr u
    have l0:ns=[]:=dc.mp (by rw[<-aa.len,en];rfl)
    rw[l0] at this;cases this
 ·rintro σ' H1 ⟨o1,o2,rfl,s1,ah⟩
  refine⟨1,rfl,(by show 3<=sizeLine;decide),λa ha=>q a _ ⟨_,_,_,.inl ⟨λk b e m=>ah k b ?_ e m,rfl,rfl,rfl⟩,ag⟩ (s1.new ha)⟩
  have:=(aj.mp e).1
  lia
theorem G1{K:Fg}{neg:Bool}{H:Hp}{p u:Addr}{i j:Int}{w:Str}{Q:VK}(hp:H p=some (.tup [.int i,.int j,.str w]))(hu:H u=some (.tup [.int i,.int j,.str w]))(h:Q (.bl (!neg)) H):Gk K neg (.ref p) (.ref u) H Q:=by
 refine⟨p,u,_,_,rfl,rfl,.inr ⟨cY.of hp,cY.of hu,rfl⟩,.inr ⟨[true,true,true],rfl,rfl,λk x y b hx hy hb=>?_,?_⟩⟩
 ·match k with
  |0=>cases hx;cases hy;cases hb;have:=C5.flat (K:=K) (H:=H) (d:=4) (x:=V.int i) (y:=V.int i) rfl rfl;simpa[AX] using this
  |1=>cases hx;cases hy;cases hb;have:=C5.flat (K:=K) (H:=H) (d:=4) (x:=V.int j) (y:=V.int j) rfl rfl;simpa[AX] using this
  |2=>cases hx;cases hy;cases hb;have:=C5.flat (K:=K) (H:=H) (d:=4) (x:=V.str w) (y:=V.str w) rfl rfl;simpa[AX] using this
  |k+3=>cases hb
 ·cases neg<;>exact h
theorem Jk{K:Fg}{vs:List V}{H:Hp}{Q:VK}{E:XK}(h:je K vs H Q E):CV K {nx:=λ_ H'=>Q .non H',rt:=Q} (cU xB vs) H:=by
 obtain⟨p,bs,rfl,hp,sh,q⟩:=h
 refine⟨_,rfl,p,bs,rfl,hp,sh,λq1 H1 t1 s1=>?_⟩
 show wV K _ [some (.ref p),some (.ref q1),none] H1
 refine⟨_,rfl,p,bs,rfl,hp.mono (.of_same s1),sh,λq2 H2 t2 s2=>?_⟩
 show wU K _ [some (.ref p),some (.ref q1),some (.ref q2)] H2
 obtain⟨i,j,w,tl,h1⟩:=t1
 obtain⟨i',j',w',tl',h2⟩:=t2
 obtain⟨rfl,rfl,rfl⟩:=tl.one tl'
 have h1':=s2 _ _ h1
 have S2:=s1.trans s2
 refine⟨_,rfl,_,rfl,.inl (G1 h2 h1' ⟨_,rfl,iU ?_⟩)⟩
 refine⟨_,rfl,cg h2 (by decide) rfl ⟨_,rfl,.inr ⟨_,rfl⟩,_,rfl,iU ⟨_,rfl,cg h2 (by decide) rfl ⟨_,rfl,.inr ⟨_,rfl⟩,_,rfl,iU ?_⟩⟩⟩⟩
 show wR K _ [some (.ref p),some (.ref q1),some (.ref q2)] H2
 refine⟨_,rfl,cg h1' (by decide) rfl ⟨1,rfl,.inr (.inr (.inl ⟨rfl,_,rfl,cJ (λ_=>q H2 S2) λz=>?_⟩))⟩⟩
 rcases tl with⟨c,rfl,_⟩|⟨k,n,f,_⟩
 ·exact absurd rfl z
 refine⟨_,rfl,p,bs,rfl,hp.mono (.of_same S2),sh,f.clean,λl H3 hl s3=>⟨(by show 3<=sizeLine;decide),λe he=>?_⟩⟩
 refine .inr (.inr (.inr (.inr (.inr ⟨l,e,_,_,rfl,rfl,cz.of (by rw[aA (ar hl he)];exact hl),cz.of ag,rfl,rfl,?_⟩))))
 have:lO [V.bl true,.bl true,.bl false] [V.bl true,.bl true,.bl false]=true:=by decide
 show Q (.bl (lO _ _)) _
 rw[this]
 exact q _ ((S2.trans s3).new he)
def yF:bz->bz->Prop
 |.num _ z,r=>∃x,r=.num x z
 |.op _ s _ b,r=>∃x a,r=.op x s a b
 |.call _ k as,r=>∃x,r=.call x k as
 |.say _,r=>∃a,r=.say a
 |.jump t,r=>r=.jump t
 |.test _ t,r=>∃a,r=.test a t
 |.give _,r=>∃a,r=.give a
theorem yF.refl(r:bz):yF r r:=by
 cases r<;>first|exact⟨_,rfl⟩|exact⟨_,_,rfl⟩|exact rfl
theorem yF.trans{a b c:bz}(h:yF a b)(h':yF b c):yF a c:=by
 cases a with
 |num x z=>obtain⟨_,rfl⟩:=h;exact h'
 |op x s p q=>obtain⟨_,_,rfl⟩:=h;exact h'
 |call x k as=>obtain⟨_,rfl⟩:=h;exact h'
 |say p=>obtain⟨_,rfl⟩:=h;exact h'
 |jump t=>obtain rfl:=h;exact h'
 |test p t=>obtain⟨_,rfl⟩:=h;exact h'
 |give p=>obtain⟨_,rfl⟩:=h;exact h'
theorem yF.same{a b:bz}(h:yF a b):(∀n,cL n b=cL n a)/\gR b=gR a/\eV b=eV a/\jt b=jt a/\(dw b).length=(dw a).length/\(∀t,b=.jump t↔a=.jump t):=by
 cases a with
 |num x z=>obtain⟨_,rfl⟩:=h;exact⟨λ_=>rfl,rfl,rfl,rfl,rfl,λt=>⟨λz=>(by cases z),λz=>(by cases z)⟩⟩
 |op x s p q=>obtain⟨_,_,rfl⟩:=h;exact⟨λ_=>rfl,rfl,rfl,rfl,rfl,λt=>⟨λz=>(by cases z),λz=>(by cases z)⟩⟩
 |call x k as=>obtain⟨_,rfl⟩:=h;exact⟨λ_=>rfl,rfl,rfl,rfl,rfl,λt=>⟨λz=>(by cases z),λz=>(by cases z)⟩⟩
 |say p=>obtain⟨_,rfl⟩:=h;exact⟨λ_=>rfl,rfl,rfl,rfl,rfl,λt=>⟨λz=>(by cases z),λz=>(by cases z)⟩⟩
 |jump t=>obtain rfl:=h;exact⟨λ_=>rfl,rfl,rfl,rfl,rfl,λt=>Iff.rfl⟩
 |test p t=>obtain⟨_,rfl⟩:=h;exact⟨λ_=>rfl,rfl,rfl,rfl,rfl,λt=>⟨λz=>(by cases z),λz=>(by cases z)⟩⟩
 |give p=>obtain⟨_,rfl⟩:=h;exact⟨λ_=>rfl,rfl,rfl,rfl,rfl,λt=>⟨λz=>(by cases z),λz=>(by cases z)⟩⟩
structure pY(rs rs':List bz):Prop where
 len:rs'.length=rs.length
 at_:∀(i:Nat) r r',rs[i]?=some r->rs'[i]?=some r'->yF r r'
theorem pY.back{rs rs':List bz}(h:pY rs rs'){i:Nat}{r':bz}(e:rs'[i]?=some r'):∃r,rs[i]?=some r/\yF r r':=by
 have lt:=(aj.mp e).1
 rw[h.len] at lt
 exact⟨rs[i],ai lt,h.at_ i _ _ (ai lt) e⟩
theorem pY.stp{rs rs':List bz}(h:pY rs rs')(n:Nat):stp rs' n=stp rs n:=by
 unfold Bg.stp
 cases e:rs'[n]? with
 |none=>
  have:rs[n]?=none:=by rw[List.getElem?_eq_none_iff] at e ⊢;rw[<-h.len];exact e
  rw[this]
 |some r'=>
  obtain⟨r,er,s⟩:=h.back e
  rw[er]
  have sm:=s.same.2.2.2.2.2
  cases r' with
  |jump t=>rw[(sm t).mp rfl]
  |_=>
   cases r with
   |jump t=>have:=(sm t).mpr rfl;cases this
   |_=>rfl
theorem pY.runJ{rs rs':List bz}(h:pY rs rs'):∀k n,runJ rs' k n=runJ rs k n
 |0,_=>rfl
 |k+1,n=>by
  show Bg.runJ rs' k (Bg.stp rs' n)=Bg.runJ rs k (Bg.stp rs n)
  rw[h.stp,pY.runJ h k]
theorem pY.good{rs rs':List bz}(h:pY rs rs')(g:eS rs):eS rs':=by
 refine⟨by rw[h.len];exact g.pos,by rw[h.len];exact g.few,λn m r' e hm=>?_,λn hn r' e=>?_⟩
 ·obtain⟨r,er,s⟩:=h.back e
  rw[s.same.1] at hm
  rw[h.len];exact g.inr n m r er hm
 ·rw[h.len] at hn e
  rw[h.runJ] at e
  obtain⟨r,er,s⟩:=h.back e
  rw[s.same.2.2.1]
  exact g.ring n hn r er
theorem mS.shape{cs:List Nat}{b:dj}{rs':List bz}(p:mS cs b)(h:pY b.rows rs'):mS cs ⟨b.name,b.params,rs'⟩:=by
 have bk:∀r'∈rs',∃r∈b.rows,yF r r':=λr' hr=>by
  obtain⟨i,hi,e⟩:=cD.mp hr
  obtain⟨r,er,s⟩:=h.back (i:=i) (r':=r') (by rw[ai hi,e])
  exact⟨r,aH er,s⟩
 refine⟨p.pnd,p.p9,h.good p.good,λr' hr t e=>?_,λx k as hm=>?_,?_,λr' hr=>?_⟩
 ·obtain⟨r,hr0,s⟩:=bk r' hr
  rw[s.same.2.2.2.1] at e
  show t<rs'.length
  rw[h.len];exact p.gl r hr0 t e
 ·obtain⟨r,hr0,s⟩:=bk _ hm
  cases r with
  |call x' k' as'=>obtain⟨_,e⟩:=s;cases e;exact p.calls _ _ _ hr0
  |num a c=>obtain⟨_,e⟩:=s;cases e
  |op a c d f=>obtain⟨_,_,e⟩:=s;cases e
  |say a=>obtain⟨_,e⟩:=s;cases e
  |jump t=>cases s
  |test a t=>obtain⟨_,e⟩:=s;cases e
  |give a=>obtain⟨_,e⟩:=s;cases e
 ·obtain⟨r,er,ie⟩:=dM.mp p.last
  have pos:=p.good.pos
  rw[bT] at er ⊢
  show(rs'[rs'.length-1]?).map gR=some true
  rw[h.len]
  have lt:b.rows.length-1<rs'.length:=by rw[h.len];lia
  rw[ai lt]
  have s:=h.at_ _ r _ er (ai lt)
  rw[cT,s.same.2.1,ie]
 ·obtain⟨r,hr0,s⟩:=bk r' hr
  rw[s.same.2.2.2.2.1];exact p.rd r hr0
theorem pY.snoc{rs rs':List bz}{r':bz}{i:Nat}{r:bz}(h:pY (rs.take i) rs')(e:rs[i]?=some r)(s:yF r r'):pY (rs.take (i+1)) (rs'++[r']):=by
 have il:=(aj.mp e).1
 rw[cu,e,Option.toList_some]
 refine⟨by rw[aG,aG,h.len];rfl,λj a c ha hc=>?_⟩
 by_cases hj:j<rs'.length
 ·rw[cq hj] at hc
  rw[cq (by rw[<-h.len];exact hj)] at ha
  exact h.at_ j a c ha hc
 ·rw[bJ (by lia)] at hc
  rw[bJ (by rw[<-h.len];lia)] at ha
  have z:j-rs'.length=0:=by have:=(aj.mp hc).1;simp at this;lia
  rw[z] at hc
  rw[<-h.len,z] at ha
  cases ha;cases hc;exact s
theorem J7{a l:Addr}{H H1:Hp}{o:HO}(x:fu a H H1)(h:H l=none):fu a H (upd H1 l o):=λb u n e=>by
 rw[aA (ar e h)];exact x b u n e
def EN(r:bz):Prop:=(∃z,r=.num "x" z)\/∃t,r=.test "x" t/\t<24
theorem G0{rs:List bz}(hl:rs.length=22)(ok:∀r∈rs,EN r)(y:Str)(cs:List Nat):mS cs ⟨"f",[],rs++[.say y,.give "x"]⟩:=by
 have ln:(rs++[bz.say y,.give "x"]).length=24:=by rw[aG,hl];rfl
 have mm:∀r∈rs++[bz.say y,.give "x"],EN r\/r=.say y\/r=.give "x":=λr hr=>by
  rcases aY.mp hr with z|z
  ·exact .inl (ok r z)
  ·rcases aU.mp z with z|z
   ·exact .inr (.inl z)
   ·exact .inr (.inr (ak.mp z))
 have nj:∀r∈rs++[bz.say y,.give "x"],eV r=false:=λr hr=>by
  rcases mm r hr with(⟨z,rfl⟩|⟨t,rfl,_⟩)|rfl|rfl<;>rfl
 have gl:∀r∈rs++[bz.say y,.give "x"],∀t:Nat,jt r=.int (t:Nat)->t<(rs++[bz.say y,.give "x"]).length:=λr hr t e=>by
  rw[ln]
  rcases mm r hr with(⟨z,rfl⟩|⟨t',rfl,lt⟩)|rfl|rfl
  ·cases e
  ·have:t'=t:=by injection e with e;lia
   lia
  ·cases e
  ·cases e
 have la:(rs++[bz.say y,.give "x"]).getLast?.map gR=some true:=by simp[gR]
 refine⟨.nil,by show 0<=100;decide,⟨by show 0<(rs++_).length;lia,by show(rs++_).length<64;lia,y7 gl la,λn _ r e=>nj r (aH e)⟩,gl,λx k as hm=>?_,la,λr hr=>?_⟩
 ·rcases mm _ hm with(⟨z,e⟩|⟨t',e,lt⟩)|e|e<;>cases e
 ·rcases mm r hr with(⟨z,rfl⟩|⟨t',rfl,lt⟩)|rfl|rfl<;>simp[dw]
theorem Jn{K:Fg}{vs:List V}{H:Hp}{Q:VK}{E:XK}(h:kW K vs H Q E):CZ K {nx:=λ_ H'=>Q .non H',rt:=Q} (cU xE vs) H:=by
 obtain⟨st,k,rfl,S,hk,q⟩:=h
 refine⟨_,rfl,st,2,k,rfl,S,by lia,by decide,by decide,λd H1 d0 d1 S1 B1=>⟨(by show 3<=sizeLine;decide),λp hp=>⟨(by show 1<=sizeLine;decide),λrl hrl=>?_⟩⟩⟩
 show xi K _ [some (.ref st),some (.ref rl),none,none] _
 have B2:fu st H (upd H1 p (.tup [.str "num",.str "x",.int d])):=B1.new hp
 have S2:iJ K (upd H1 p (.tup [.str "num",.str "x",.int d])) st (k+1):=S1.new hp
 have hp2:upd H1 p (.tup [.str "num",.str "x",.int d]) p=some (.tup [.str "num",.str "x",.int d]):=ag
 generalize upd H1 p (.tup [.str "num",.str "x",.int d])=H2 at B2 S2 hp2 hrl ⊢
 obtain⟨ys0,hst2⟩:=S2.lst
 have nrl:st≠rl:=ar hst2 hrl
 have hrl0:H rl=none:=B2.free nrl.symm hrl
 refine⟨1,22,rfl,by decide,gD (λi σ' H'=>∃(rvs:List V) (rs:List bz) (k1:Nat) (o2:Option V),σ'=[some (.ref st),some (.ref rl),o2,none]/\H' rl=some (.lst rvs)/\cF (cx H') rvs rs/\rs.length=i+1/\(∀r∈rs,EN r)/\iJ K H' st k1/\k1<=k+1+i/\fu st H H')
  ⟨[.ref p],[.num "x" d],k+1,_,rfl,ag,(cF.snoc (R:=cx H2) (v:=V.ref p) (r:=bz.num "x" d) cF.nil ⟨p,rfl,hp2⟩).imp (λ_ _ z=>z.mono ((Tp.refl H2).new hrl)),rfl,λr hr=>.inl ⟨d,ak.mp hr⟩,S2.new hrl,by lia,B2.new hrl⟩ ?_ ?_⟩
 ·rintro i σ' H3 hi ⟨rvs,rs,k1,o2,rfl,hr3,A3,l3,ok3,S3,k3,B3⟩
  have hi:i<21:=by simpa using hi
  show xh K _ [some (.ref st),some (.ref rl),some (.int (1+(i:Int))),none] H3
  refine⟨_,rfl,.inl ⟨rfl,_,cz.of hr3⟩,_,rfl,.inl ⟨_,_,rfl,rfl,_,rfl,_,rfl,_,_,rfl,rfl,st,_,k1,rfl,S3,by lia,by lia,by lia,λe H4 e0 e1 S4 B4=>?_⟩⟩
  obtain⟨j,rfl⟩:∃j:Nat,e=(j:Int):=⟨e.toNat,by lia⟩
  refine .inl ⟨_,_,rfl,rfl,(by show 3<=sizeLine;decide),λt ht=>?_⟩
  have hr4:=B4 _ _ nrl.symm hr3
  have hr5:upd H4 t (.tup [.str "test",.str "x",.int (1+(i:Int)+1+(j:Int))]) rl=some (.lst rvs):=by rw[aA (ar hr4 ht)];exact hr4
  obtain⟨ysT,hstT⟩:=S3.lst
  have T5:Tp H3 (upd H4 t (.tup [.str "test",.str "x",.int (1+(i:Int)+1+(j:Int))])):=(Tp.of_but B4 hstT).new ht
  have rt5:cx (upd H4 t (.tup [.str "test",.str "x",.int (1+(i:Int)+1+(j:Int))])) (.ref t) (.test "x" (i+2+j)):=⟨t,rfl,by rw[ag,show(1+(i:Int)+1+(j:Int))=((i+2+j:Nat):Int) from by lia]⟩
  have S5:=S4.new (o:=.tup [.str "test",.str "x",.int (1+(i:Int)+1+(j:Int))]) ht
  have B5:fu st H (upd H4 t (.tup [.str "test",.str "x",.int (1+(i:Int)+1+(j:Int))])):=(B3.trans B4).new ht
  generalize upd H4 t (.tup [.str "test",.str "x",.int (1+(i:Int)+1+(j:Int))])=H5 at hr5 T5 rt5 S5 B5 ⊢
  have rvl:=A3.len
  refine⟨rl,rvs,_,rfl,rfl,hr5,dq (by lia),?_⟩
  have T6:Tp H5 (upd H5 rl (.lst (rvs++[.ref t]))):=(Tp.refl H5).lst hr5
  refine⟨rvs++[.ref t],rs++[.test "x" (i+2+j)],k1+1,_,rfl,ag,((A3.imp λ_ _ z=>z.mono T5).snoc rt5).imp λ_ _ z=>z.mono T6,by rw[aG,l3];rfl,λr hr=>?_,S5.mono .upd_at hr5 nrl,by lia,J7 B5 hrl0⟩
  rcases aY.mp hr with z|z
  ·exact ok3 r z
  ·exact .inr ⟨_,ak.mp z,by lia⟩
 ·rintro σ' H3 ⟨rvs,rs,k1,o2,rfl,hr3,A3,l3,ok3,S3,k3,B3⟩
  have l22:rs.length=22:=by rw[l3];rfl
  have k3:k1<=k+22:=by
   have:((22:Int)-1).toNat=21:=rfl
   rw[this] at k3;lia
  show xg K _ [some (.ref st),some (.ref rl),o2,none] H3
  refine⟨(by show 2<=sizeLine;decide),λxl hxl=>⟨_,rfl,st,2,k1,rfl,S3.new hxl,by lia,by decide,by decide,λe H4 e0 e1 S4 B4=>?_⟩⟩
  obtain⟨ysT,hstT⟩:=S3.lst
  have nxs:xl≠st:=λz=>by rw[z,hstT] at hxl;cases hxl
  have hx4:H4 xl=some (.lst ((["x","zz"]:List Str).map V.str)):=B4 _ _ nxs ag
  have el:e.toNat<(["x","zz"]:List Str).length:=by show e.toNat<2;lia
  refine mF (cz.of hx4) e0 (qx (ys:=["x","zz"]) (ai el)) ?_
  generalize (["x","zz"]:List Str)[e.toNat]=y
  show xf K _ [some (.ref st),some (.ref rl),o2,some (.str y)] H4
  have hr4:H4 rl=some (.lst rvs):=B4 _ _ nrl.symm (by rw[aA (ar hr3 hxl)];exact hr3)
  have T4:Tp H3 H4:=λa xs ha=>(Tp.of_but B4 (by rw[aA (ar hstT hxl)];exact hstT)) a xs (by rw[aA (ar ha hxl)];exact ha)
  have B4':fu st H H4:=(B3.new hxl).trans B4
  have A4:=A3.imp λ_ _ z=>z.mono T4
  refine⟨(by show 0<=sizeLine;decide),λq1 hq1=>⟨_,rfl,rl,rvs,rfl,.inl ⟨cz.of (by rw[aA (ar hr4 hq1)];exact hr4),λtr htr=>?_⟩⟩⟩
  have s5:aS H4 (upd (upd H4 q1 (.tup [])) tr (.tup rvs)):=((aS.refl H4).new hq1).new htr
  have hq5:upd (upd H4 q1 (.tup [])) tr (.tup rvs) q1=some (.tup []):=by rw[aA (ar ag htr)];exact ag
  have ht5:upd (upd H4 q1 (.tup [])) tr (.tup rvs) tr=some (.tup rvs):=ag
  generalize upd (upd H4 q1 (.tup [])) tr (.tup rvs)=H5 at s5 hq5 ht5 ⊢
  refine⟨_,rfl,(by show 2<=sizeLine;decide),λp1 hp1=>⟨(by show 2<=sizeLine;decide),λp2 hp2=>⟨(by show 2<=sizeLine;decide),λp3 hp3=>?_⟩⟩⟩
  have s6:aS H5 (upd (upd (upd H5 p1 (.tup [.str "say",.str y])) p2 (.tup [.str "give",.str "x"])) p3 (.tup [.ref p1,.ref p2])):=(((aS.refl H5).new hp1).new hp2).new hp3
  have h61:upd (upd (upd H5 p1 (.tup [.str "say",.str y])) p2 (.tup [.str "give",.str "x"])) p3 (.tup [.ref p1,.ref p2]) p1=some (.tup [.str "say",.str y]):=by
   have a1:upd (upd H5 p1 (.tup [.str "say",.str y])) p2 (.tup [.str "give",.str "x"]) p1=some (.tup [.str "say",.str y]):=by rw[aA (ar ag hp2)];exact ag
   rw[aA (ar a1 hp3)];exact a1
  have h62:upd (upd (upd H5 p1 (.tup [.str "say",.str y])) p2 (.tup [.str "give",.str "x"])) p3 (.tup [.ref p1,.ref p2]) p2=some (.tup [.str "give",.str "x"]):=by
   rw[aA (ar ag hp3)];exact ag
  have h63:upd (upd (upd H5 p1 (.tup [.str "say",.str y])) p2 (.tup [.str "give",.str "x"])) p3 (.tup [.ref p1,.ref p2]) p3=some (.tup [.ref p1,.ref p2]):=ag
  show dr K (.ref tr) (.ref p3) (upd (upd (upd H5 p1 (.tup [.str "say",.str y])) p2 (.tup [.str "give",.str "x"])) p3 (.tup [.ref p1,.ref p2])) _
  generalize upd (upd (upd H5 p1 (.tup [.str "say",.str y])) p2 (.tup [.str "give",.str "x"])) p3 (.tup [.ref p1,.ref p2])=H6 at s6 h61 h62 h63 ⊢
  have rvl:rvs.length=22:=A3.len.trans l22
  have nv:rvs≠[]:=λz=>by rw[z] at rvl;cases rvl
  refine .inr (.inr (.inr ⟨tr,p3,rvs,_,rfl,rfl,cY.of (s6 _ _ ht5),cY.of h63,nv,ck (by rw[rvl];exact aC _) (show 24<=sizeLine by decide),(λz=>by cases z),λ_ pr hpr=>⟨(by show 3<=sizeLine;decide),λpp hpp=>⟨(by show 1<=sizeLine;decide),λpz hpz=>?_⟩⟩⟩))
  have s7:aS H6 (upd (upd (upd H6 pr (.tup (rvs++[.ref p1,.ref p2]))) pp (.tup [.str "f",.ref q1,.ref pr])) pz (.tup [.ref pp])):=(((aS.refl H6).new hpr).new hpp).new hpz
  have h7r:upd (upd (upd H6 pr (.tup (rvs++[.ref p1,.ref p2]))) pp (.tup [.str "f",.ref q1,.ref pr])) pz (.tup [.ref pp]) pr=some (.tup (rvs++[.ref p1,.ref p2])):=by
   have a1:upd (upd H6 pr (.tup (rvs++[.ref p1,.ref p2]))) pp (.tup [.str "f",.ref q1,.ref pr]) pr=some (.tup (rvs++[.ref p1,.ref p2])):=by rw[aA (ar ag hpp)];exact ag
   rw[aA (ar a1 hpz)];exact a1
  have h7p:upd (upd (upd H6 pr (.tup (rvs++[.ref p1,.ref p2]))) pp (.tup [.str "f",.ref q1,.ref pr])) pz (.tup [.ref pp]) pp=some (.tup [.str "f",.ref q1,.ref pr]):=by
   rw[aA (ar ag hpz)];exact ag
  have h7z:upd (upd (upd H6 pr (.tup (rvs++[.ref p1,.ref p2]))) pp (.tup [.str "f",.ref q1,.ref pr])) pz (.tup [.ref pp]) pz=some (.tup [.ref pp]):=ag
  show Q (.ref pz) (upd (upd (upd H6 pr (.tup (rvs++[.ref p1,.ref p2]))) pp (.tup [.str "f",.ref q1,.ref pr])) pz (.tup [.ref pp]))
  generalize upd (upd (upd H6 pr (.tup (rvs++[.ref p1,.ref p2]))) pp (.tup [.str "f",.ref q1,.ref pr])) pz (.tup [.ref pp])=H7 at s7 h7r h7p h7z ⊢
  have s47:=(s5.trans s6).trans s7
  have s67:=s6.trans s7
  have A7:cF (cx H7) (rvs++[.ref p1,.ref p2]) (rs++[.say y,.give "x"]):=by
   have r1:cx H7 (.ref p1) (bz.say y):=⟨p1,rfl,s7 _ _ h61⟩
   have r2:cx H7 (.ref p2) (bz.give "x"):=⟨p2,rfl,s7 _ _ h62⟩
   have:=((A4.imp λ_ _ z=>z.mono (.of_same s47)).snoc r1).snoc r2
   simpa using this
  have P7:fk H7 pz [⟨"f",[],rs++[.say y,.give "x"]⟩]:=⟨[.ref pp],h7z,by
   exact cF.nil.snoc (v:=.ref pp) ⟨pp,q1,pr,_,rfl,h7p,s67 _ _ hq5,h7r,A7⟩⟩
  refine q pz _ (k1+1) H7 P7 ⟨by show 1<=100;decide,by simp,λb hb=>?_⟩ (S4.same s47) (by lia) (B4'.trans s47.but)
  rw[ak.mp hb]
  exact G0 l22 ok3 y _
theorem AM{a l:Addr}{H H1:Hp}{o:HO}(x:fu a H H1)(h:H l=none):fu a H (upd H1 l o):=λb u n e=>by
 rw[aA (ar e h)];exact x b u n e
def re(y:Str):bz->bz
 |.num _ z=>.num y z
 |.op _ s a b=>.op y s a b
 |.call _ k as=>.call y k as
 |.say _=>.say y
 |.jump t=>.jump t
 |.test _ t=>.test y t
 |.give _=>.give y
theorem yF.re(y:Str)(r:bz):yF r (Bg.re y r):=by
 cases r<;>first|exact⟨_,rfl⟩|exact⟨_,_,rfl⟩|exact rfl
theorem cx.split{H:Hp}{v:V}{r:bz}(h:cx H v r)(nj:eV r=false):∃p x tl,v=.ref p/\H p=some (.tup (.str (gc r)::.str x::tl))/\tl.length<=3/\∀(y:Str) (H':Hp) (p':Addr),Tp H H'->H' p'=some (.tup (.str (gc r)::.str y::tl))->cx H' (.ref p') (re y r):=by
 cases r with
 |num x z=>obtain⟨p,e,h⟩:=h;exact⟨p,_,_,e,h,by show 1<=3;decide,λy H' p' _ g=>⟨p',rfl,g⟩⟩
 |op x s a b=>obtain⟨p,e,h⟩:=h;exact⟨p,_,_,e,h,by show 3<=3;decide,λy H' p' _ g=>⟨p',rfl,g⟩⟩
 |call x k as=>obtain⟨p,q,e,h,h'⟩:=h;exact⟨p,_,_,e,h,by show 2<=3;decide,λy H' p' t g=>⟨p',q,rfl,g,t _ _ h'⟩⟩
 |say a=>obtain⟨p,e,h⟩:=h;exact⟨p,_,_,e,h,by show 0<=3;decide,λy H' p' _ g=>⟨p',rfl,g⟩⟩
 |jump to=>cases nj
 |test a to=>obtain⟨p,e,h⟩:=h;exact⟨p,_,_,e,h,by show 1<=3;decide,λy H' p' _ g=>⟨p',rfl,g⟩⟩
 |give a=>obtain⟨p,e,h⟩:=h;exact⟨p,_,_,e,h,by show 0<=3;decide,λy H' p' _ g=>⟨p',rfl,g⟩⟩
theorem cx.two{H:Hp}{v:V}{r:bz}(h:cx H v r):∃p w x tl,v=.ref p/\H p=some (.tup (.str w::x::tl))/\((∃y,x=.str y)\/∃z,x=.int z):=by
 cases r with
 |num x z=>obtain⟨p,e,h⟩:=h;exact⟨p,_,_,_,e,h,.inl ⟨_,rfl⟩⟩
 |op x s a b=>obtain⟨p,e,h⟩:=h;exact⟨p,_,_,_,e,h,.inl ⟨_,rfl⟩⟩
 |call x k as=>obtain⟨p,q,e,h,h'⟩:=h;exact⟨p,_,_,_,e,h,.inl ⟨_,rfl⟩⟩
 |say a=>obtain⟨p,e,h⟩:=h;exact⟨p,_,_,_,e,h,.inl ⟨_,rfl⟩⟩
 |jump to=>obtain⟨p,e,h⟩:=h;exact⟨p,_,_,_,e,h,.inr ⟨_,rfl⟩⟩
 |test a to=>obtain⟨p,e,h⟩:=h;exact⟨p,_,_,_,e,h,.inl ⟨_,rfl⟩⟩
 |give a=>obtain⟨p,e,h⟩:=h;exact⟨p,_,_,_,e,h,.inl ⟨_,rfl⟩⟩
theorem M5{K:Fg}{H:Hp}{p:Addr}{a b:V}{tl:List V}{Q:VK}(hp:H p=some (.tup (a::b::tl)))(h:∀(q:Addr) (H':Hp),H' q=some (.tup tl)->aS H H'->Q (.ref q) H'):r8 K (.ref p) (some 2) none H Q:=by
 refine .inr ⟨p,_,rfl,cY.of hp,λz=>?_,λq nq=>h q _ ?_ ((aS.refl H).new nq)⟩
 ·have:=z.1
  rw[show(2:Int)=((2:Nat):Int) from rfl,HT.sIx_nat] at this
  simp at this
 ·rw[ag,show(2:Int)=((2:Nat):Int) from rfl,ux];rfl
theorem MC{K:Fg}{H:Hp}{p:Addr}{a b:V}{tl:List V}{Q:VK}(hp:H p=some (.tup (a::b::tl)))(h:∀(q:Addr) (H':Hp),H' q=some (.tup [b])->aS H H'->Q (.ref q) H'):r8 K (.ref p) (some 1) (some 2) H Q:=by
 refine .inr ⟨p,_,rfl,cY.of hp,λz=>?_,λq nq=>h q _ ?_ ((aS.refl H).new nq)⟩
 ·have:=z.1
  rw[show(1:Int)=((1:Nat):Int) from rfl,HT.sIx_nat] at this
  simp at this
 ·rw[ag]
  unfold nU
  rw[show(2:Int)=((2:Nat):Int) from rfl,show(1:Int)=((1:Nat):Int) from rfl,HT.sIx_nat,HT.sIx_nat]
  simp[Nat.min_eq_left]
theorem MD{K:Fg}{H:Hp}{p:Addr}{a b c d e:V}{Q:VK}(hp:H p=some (.tup [a,b,c,d,e]))(h:∀(q:Addr) (H':Hp),H' q=some (.tup [a,b,c])->aS H H'->Q (.ref q) H'):r8 K (.ref p) none (some 3) H Q:=by
 refine .inr ⟨p,_,rfl,cY.of hp,λz=>?_,λq nq=>h q _ ?_ ((aS.refl H).new nq)⟩
 ·have:=z.2
  rw[show(3:Int)=((3:Nat):Int) from rfl,HT.sIx_nat] at this
  simp at this
 ·rw[ag,show(3:Int)=((3:Nat):Int) from rfl,jK];rfl
theorem ML{n:Nat}(h:n<=100000):n<=sizeLine:=ck h (by decide)
section
variable{K:Fg}{H:Hp}{st sm:Addr}{v:V}{r:bz}{k:Nat}{ys:List Str}{o1 o2 o3 o4 o5 o8:Option V}{D:nJ}
theorem wL{Q:VK}(S:iJ K H st k)(hk:k<=900000)(hsm:H sm=some (.lst (ys.map V.str)))(yl:0<ys.length)(y1:ys.length<=1000)(nsm:sm≠st)
  (q:∀(y:Str) (H':Hp),iJ K H' st (k+1)->fu st H H'->Q (.str y) H') :
  bb (cE K) (aq 6) (bE (bu K) [] E0 (af (aq 0) (af (fR (eP K) (af (aq 6) aE)) aE))) [some (.ref st),o1,o2,o3,o4,o5,some (.ref sm),some v,o8] H Q:=by
 refine⟨_,rfl,_,rfl,_,rfl,_,_,rfl,.inl ⟨_,cz.of hsm,rfl⟩,st,_,k,rfl,S,by lia,by rw[ao];lia,by rw[ao];lia,λd H1 d0 d1 S1 B1=>?_⟩
 rw[ao] at d1
 have dl:d.toNat<ys.length:=by lia
 exact mF (cz.of (B1 sm _ nsm hsm)) d0 (qx (ai dl)) (q _ H1 S1 B1)
theorem LW(S:iJ K H st k)(hk:k<=900000)(hsm:H sm=some (.lst (ys.map V.str)))(yl:0<ys.length)(y1:ys.length<=1000)(nsm:sm≠st)(ra:cx H v r)(nj:eV r=false)
  (q:∀(v':V) (r':bz) (H':Hp),yF r r'->cx H' v' r'->iJ K H' st (k+1)->fu st H H'->D.nx [some (.ref st),o1,o2,o3,o4,o5,some (.ref sm),some v',o8] H') :
  bV (bb (dr K) (dC (af (bb (cE K) (aq 7) (tC (.int 0))) (af (bb (cE K) (aq 6) (bE (bu K) [] E0 (af (aq 0) (af (fR (eP K) (af (aq 6) aE)) aE)))) aE))) (u5 (r8 K) (aq 7) (gJ (tC (.int 2))) dU)) (aP 7) D [some (.ref st),o1,o2,o3,o4,o5,some (.ref sm),some v,o8] H:=by
 obtain⟨p,x,tl,rfl,hp,tl3,mk⟩:=ra.split nj
 refine⟨_,rfl,cg hp (by decide) rfl (wL S hk hsm yl y1 nsm λy H1 S1 B1=>⟨(by show 2<=sizeLine;decide),λt ht=>?_⟩)⟩
 obtain⟨zs,hst⟩:=S.lst
 have T1:Tp H (upd H1 t (.tup [.str (gc r),.str y])):=(Tp.of_but B1 hst).new ht
 have S2:=S1.new (o:=.tup [.str (gc r),.str y]) ht
 have B2:fu st H (upd H1 t (.tup [.str (gc r),.str y])):=B1.new ht
 have h2:upd H1 t (.tup [.str (gc r),.str y]) t=some (.tup [.str (gc r),.str y]):=ag
 show u5 (r8 K) (aq 7) (gJ (tC (.int 2))) dU [some (.ref st),o1,o2,o3,o4,o5,some (.ref sm),some (.ref p),o8] (upd H1 t (.tup [.str (gc r),.str y])) _
 generalize upd H1 t (.tup [.str (gc r),.str y])=H2 at T1 S2 B2 h2 ⊢
 refine⟨_,rfl,_,rfl,M5 (T1 _ _ hp) λt2 H3 h3 s3=>?_⟩
 refine .inr (.inr (.inr ⟨t,t2,_,tl,rfl,rfl,cY.of (s3 _ _ h2),cY.of h3,(λz=>by cases z),ML (by show 2+tl.length<=100000;lia),λen=>?_,λ_ p' hp'=>?_⟩))
 ·subst en
  exact q _ _ H3 (.re y r) (mk y H3 t (T1.trans (.of_same s3)) (s3 _ _ h2)) (S2.same s3) (B2.trans s3.but)
 ·exact q _ _ _ (.re y r) (mk y _ p' ((T1.trans (.of_same s3)).new hp') ag) ((S2.same s3).new hp') ((B2.trans s3.but).new hp')
theorem LV{x s a b:Str}(S:iJ K H st k)(hk:k<=900000)(hsm:H sm=some (.lst (ys.map V.str)))(yl:0<ys.length)(y1:ys.length<=1000)(nsm:sm≠st)(ra:cx H v (.op x s a b))
  (q:∀(v':V) (r':bz) (H':Hp),yF (.op x s a b) r'->cx H' v' r'->iJ K H' st (k+1)->fu st H H'->D.nx [some (.ref st),o1,o2,o3,o4,o5,some (.ref sm),some v',o8] H') :
  bV (bb (dr K) (u5 (r8 K) (aq 7) dU (gJ (tC (.int 3)))) (dC (af (bb (cE K) (aq 6) (bE (bu K) [] E0 (af (aq 0) (af (fR (eP K) (af (aq 6) aE)) aE)))) (af (bb (cE K) (aq 7) (tC (.int 4))) aE)))) (aP 7) D [some (.ref st),o1,o2,o3,o4,o5,some (.ref sm),some v,o8] H:=by
 obtain⟨p,rfl,hp⟩:=ra
 refine⟨_,rfl,_,rfl,MD hp λt H1 h1 s1=>wL (S.same s1) hk (s1 _ _ hsm) yl y1 nsm λy H2 S2 B2=>?_⟩
 obtain⟨zs,hst⟩:=(S.same s1).lst
 have T2:=Tp.of_but B2 hst
 refine⟨_,rfl,cg (T2 _ _ (s1 _ _ hp)) (by decide) rfl ⟨(by show 2<=sizeLine;decide),λt2 ht2=>?_⟩⟩
 have h3:=T2.new (o:=.tup [.str y,.str b]) ht2 _ _ h1
 refine .inr (.inr (.inr ⟨t,t2,_,_,rfl,rfl,cY.of h3,cY.of ag,(λz=>by cases z),ML (by show 5<=100000;decide),(λz=>by cases z),λ_ p' hp'=>?_⟩))
 exact q _ (.op x s y b) _ ⟨x,y,rfl⟩ ⟨p',rfl,ag⟩ ((S2.new ht2).new hp') (((s1.but.trans B2).new ht2).new hp')
theorem JM{n:Int}{a b c:Str}(n0:0<n)(n1:n<100)(S:iJ K H st k)(hk:k<=800000)(hsm:H sm=some (.lst (ys.map V.str)))(yl:0<ys.length)(y1:ys.length<=1000)(nsm:sm≠st)(ra:cx H v r)
  (nj:kj (.str (gc r)) [V.str a,V.str b,V.str c]=true->eV r=false)
  (q:∀(v':V) (r':bz) (k':Nat) (H':Hp),yF r r'->cx H' v' r'->iJ K H' st k'->k'<=k+2->fu st H H'->D.nx [some (.ref st),o1,o2,o3,o4,o5,some (.ref sm),some v',o8] H') :
  cZ (qy (bH (bb (eX K) (bE (bu K) [] E0 (af (aq 0) (af (tC (.int n)) aE))) (tC (.int 0)))) (bH (bb ((vz K false)) (bb (cE K) (aq 7) (tC (.int 0))) (dC (af (tC (.str a)) (af (tC (.str b)) (af (tC (.str c)) aE))))))) (bV (bb (dr K) (dC (af (bb (cE K) (aq 7) (tC (.int 0))) (af (bb (cE K) (aq 6) (bE (bu K) [] E0 (af (aq 0) (af (fR (eP K) (af (aq 6) aE)) aE)))) aE))) (u5 (r8 K) (aq 7) (gJ (tC (.int 2))) dU)) (aP 7)) bW D [some (.ref st),o1,o2,o3,o4,o5,some (.ref sm),some v,o8] H:=by
 obtain⟨zs,hst⟩:=S.lst
 refine⟨_,rfl,st,n,k,rfl,S,by lia,n0,by lia,λd H1 d0 d1 S1 B1=>.inl ⟨rfl,_,rfl,?_⟩⟩
 have T1:=Tp.of_but B1 hst
 refine cJ (λ_=>?_) λ_=>iU (q v r (k+1) H1 (.refl r) (ra.mono T1) S1 (by lia) B1)
 obtain⟨p,xs,rfl,hp⟩:=ra.ref
 refine⟨_,rfl,cg (T1 _ _ hp) (by decide) rfl ⟨(by show 3<=sizeLine;decide),λt ht=>⟨t,_,rfl,.inr (cY.of ag),rfl,rfl,_,rfl,?_⟩⟩⟩
 have S2:=S1.new (o:=.tup [.str a,.str b,.str c]) ht
 have B2:fu st H (upd H1 t (.tup [.str a,.str b,.str c])):=B1.new ht
 have T2:Tp H (upd H1 t (.tup [.str a,.str b,.str c])):=T1.new ht
 have hs2:upd H1 t (.tup [.str a,.str b,.str c]) sm=some (.lst (ys.map V.str)):=B2 _ _ nsm hsm
 generalize upd H1 t (.tup [.str a,.str b,.str c])=H2 at S2 B2 T2 hs2 ⊢
 refine qf (λhb=>?_) λhb=>q _ r (k+1) H2 (.refl r) (ra.mono T2) S2 (by lia) B2
 exact LW S2 (by lia) hs2 yl y1 nsm (ra.mono T2) (nj hb) λv' r' H' sh ra' S' B'=>q v' r' (k+2) H' sh ra' S' (by lia) (B2.trans B')
theorem ES(S:iJ K H st k)(hk:k<=800000)(hsm:H sm=some (.lst (ys.map V.str)))(yl:0<ys.length)(y1:ys.length<=1000)(nsm:sm≠st)(ra:cx H v r)
  (q:∀(v':V) (r':bz) (k':Nat) (H':Hp),yF r r'->cx H' v' r'->iJ K H' st k'->k'<=k+2->fu st H H'->D.nx [some (.ref st),o1,o2,o3,o4,o5,some (.ref sm),some v',o8] H') :
  cZ (qy (bH (bb (eX K) (bE (bu K) [] E0 (af (aq 0) (af (tC (.int 3)) aE))) (tC (.int 0)))) (bH (bb (eX K) (bb (cE K) (aq 7) (tC (.int 0))) (tC (.str "op"))))) (bV (bb (dr K) (u5 (r8 K) (aq 7) dU (gJ (tC (.int 3)))) (dC (af (bb (cE K) (aq 6) (bE (bu K) [] E0 (af (aq 0) (af (fR (eP K) (af (aq 6) aE)) aE)))) (af (bb (cE K) (aq 7) (tC (.int 4))) aE)))) (aP 7)) bW D [some (.ref st),o1,o2,o3,o4,o5,some (.ref sm),some v,o8] H:=by
 obtain⟨zs,hst⟩:=S.lst
 refine⟨_,rfl,st,3,k,rfl,S,by lia,by decide,by decide,λd H1 d0 d1 S1 B1=>.inl ⟨rfl,_,rfl,?_⟩⟩
 have T1:=Tp.of_but B1 hst
 refine cJ (λ_=>?_) λ_=>iU (q v r (k+1) H1 (.refl r) (ra.mono T1) S1 (by lia) B1)
 obtain⟨p,xs,rfl,hp⟩:=ra.ref
 refine⟨_,rfl,cg (T1 _ _ hp) (by decide) rfl (.inl ⟨rfl,_,rfl,cJ (λhw=>?_) λ_=>q _ r (k+1) H1 (.refl r) (ra.mono T1) S1 (by lia) B1⟩)⟩
 have hw:gc r="op":=by injection hw
 have go:∀x s a b,r=.op x s a b->bV (bb (dr K) (u5 (r8 K) (aq 7) dU (gJ (tC (.int 3)))) (dC (af (bb (cE K) (aq 6) (bE (bu K) [] E0 (af (aq 0) (af (fR (eP K) (af (aq 6) aE)) aE)))) (af (bb (cE K) (aq 7) (tC (.int 4))) aE)))) (aP 7) D [some (.ref st),o1,o2,o3,o4,o5,some (.ref sm),some (.ref p),o8] H1:=λx s a b e=>by
  subst e
  exact LV S1 (by lia) (B1 _ _ nsm hsm) yl y1 nsm (ra.mono T1) λv' r' H' sh ra' S' B'=>q v' r' (k+2) H' sh ra' S' (by lia) (B1.trans B')
 cases r with
 |op x s a b=>exact go x s a b rfl
 |num x z=>exact absurd hw (by show ¬("num":Str)="op";decide +kernel)
 |jump to=>exact absurd hw (by show ¬("jump":Str)="op";decide +kernel)
 |call x k as=>exact absurd hw (by show ¬("call":Str)="op";decide +kernel)
 |say a=>exact absurd hw (by show ¬("say":Str)="op";decide +kernel)
 |test a to=>exact absurd hw (by show ¬("test":Str)="op";decide +kernel)
 |give a=>exact absurd hw (by show ¬("give":Str)="op";decide +kernel)
end
theorem Nz(r:bz)(h:kj (.str (gc r)) [V.str "say",V.str "test",V.str "give"]=true):eV r=false:=by
 cases r with
 |jump to=>exact absurd h (by show ¬kj (.str "jump") [V.str "say",V.str "test",V.str "give"]=true;decide +kernel)
 |_=>rfl
theorem NA(r:bz)(h:kj (.str (gc r)) [V.str "num",V.str "op",V.str "call"]=true):eV r=false:=by
 cases r with
 |jump to=>exact absurd h (by show ¬kj (.str "jump") [V.str "num",V.str "op",V.str "call"]=true;decide +kernel)
 |_=>rfl
theorem MA{K:Fg}{vs:List V}{H:Hp}{Q:VK}{E:XK}(h:sp_law K vs H Q E):J1 K {nx:=λ_ H'=>Q .non H',rt:=Q} (cU EK vs) H:=by
 obtain⟨scr,ns,rfl,hscr,hns,q⟩:=h
 refine⟨_,rfl,(by show 3<=sizeLine;decide),λst hst=>?_⟩
 have S1:iJ K (upd H st (.lst [.ref scr,.int 0,.int 0])) st 0:=⟨scr,ns,0,ag,hscr.mono (.of_same ((aS.refl H).new hst)),hns⟩
 show CT K _ [some (.ref scr),some (.ref st),none,none,none] (upd H st (.lst [.ref scr,.int 0,.int 0]))
 generalize upd H st (.lst [.ref scr,.int 0,.int 0])=H1 at S1 ⊢
 refine⟨_,rfl,st,2,0,rfl,S1,by decide,by decide,by decide,λd H2 d0 d1 S2 B2=>?_⟩
 show CS K _ [some (.ref scr),some (.ref st),some (.int d),none,none] H2
 refine⟨_,rfl,st,10,1,rfl,S2,by decide,by decide,by decide,λp pvs bs ys cs k3 H3 hp hA ok _ S3 l3 B3=>?_⟩
 show CQ K _ [some (.ref scr),some (.ref st),some (.int d),some (.ref p),none] H3
 have P3:fk H3 p bs:=⟨pvs,hp,hA⟩
 refine⟨_,rfl,?_⟩
 show CP K _ [some (.ref scr),some (.ref st),some (.int d),some (.ref p),some (.ref p)] H3
 have last:∀(p':Addr) (bs':List dj) (H':Hp),fk H' p bs->fk H' p' bs'->jr bs'->CN K {nx:=λ_ H'=>Q .non H',rt:=Q} [some (.ref scr),some (.ref st),some (.int d),some (.ref p),some (.ref p')] H':=λp' bs' H' P P' sh'=>by
  refine⟨_,rfl,p',bs',rfl,P',sh',λH5 s5=>⟨_,rfl,pJ ⟨_,rfl,p,bs,rfl,P.mono (.of_same s5),ok.sh,λH6 s6=>⟨_,rfl,pJ ?_⟩⟩⟩⟩
  have s56:=s5.trans s6
  refine⟨_,rfl,p,bs,rfl,P.mono (.of_same s56),ok.sh,λtq H7 tl s7=>?_⟩
  obtain⟨i,j,w,td,htq⟩:=tl
  have s57:=s56.trans s7
  rcases td with⟨_,rfl,rfl,rfl⟩|⟨k,n,f,_⟩
  ·refine cg htq (by decide) rfl ⟨1,rfl,.inl ⟨rfl,_,rfl,?_⟩⟩
   exact pJ ⟨_,rfl,p',bs',rfl,P'.mono (.of_same s57),sh',λH8 s8=>q H8⟩
  ·exact absurd ok.clean f.clean
 have two:∀(p':Addr) (bs':List dj) (k':Nat) (H':Hp),fk H' p bs->fk H' p' bs'->jr bs'->iJ K H' st k'->k'<=100000->CO K {nx:=λ_ H'=>Q .non H',rt:=Q} [some (.ref scr),some (.ref st),some (.int d),some (.ref p),some (.ref p')] H':=λp' bs' k' H' P P' sh' S' hk'=>by
  refine⟨_,rfl,st,16,k',rfl,S',by lia,by decide,by decide,λe H5 e0 e1 S5 B5=>.inl ⟨rfl,_,rfl,?_⟩⟩
  obtain⟨ys0,hs0⟩:=S'.lst
  have T5:=Tp.of_but B5 hs0
  refine cJ (λ_=>?_) λ_=>?_
  ·refine⟨_,rfl,st,k'+1,rfl,S5,by lia,λp2 bs2 k2 H6 P6 sh6 S6 l6 B6=>?_⟩
   obtain⟨ys1,hs1⟩:=S5.lst
   exact last p2 bs2 H6 (P.mono (T5.trans (.of_but B6 hs1))) P6 sh6
  ·exact last p' bs' H5 (P.mono T5) (P'.mono T5) sh'
 refine⟨_,rfl,.inl ⟨rfl,_,rfl,cJ (λ_=>?_) λ_=>?_⟩⟩
 ·refine⟨_,rfl,_,rfl,st,p,k3,ys,cs,bs,rfl,S3,by lia,P3,ok,λp' bs' k' H4 P4 sh4 S4 l4 B4=>?_⟩
  obtain⟨ys1,hs1⟩:=S3.lst
  exact two p' bs' k' H4 (P3.mono (.of_but B4 hs1)) P4 sh4 S4 (by lia)
 ·exact two p bs k3 H3 P3 P3 ok.sh S3 (by lia)
theorem D9{K:Fg}{vs:List V}{H:Hp}{Q:VK}{E:XK}(h:iM K vs H Q E):wN K {nx:=λ_ H'=>Q .non H',rt:=Q} (cU oM vs) H:=by
 obtain⟨st,p,k,ys,cs,bs,rfl,S,hk,hp,ok,q⟩:=h
 obtain⟨pvs,hpt,hA⟩:=id hp
 obtain⟨zs0,hst⟩:=S.lst
 have sh:=ok.sh
 have few:=ok.few
 have al:=hA.len
 refine⟨(by show 0<=sizeLine;decide),λfl hfl=>?_⟩
 show qE K _ [some (.ref st),some (.ref p),some (.ref fl),none,none,none,none,none,none] (upd H fl (.lst []))
 have nfl:fl≠st:=(ar hst hfl).symm
 refine .inr ⟨_,rfl,p,rfl,⟨_,cY.of (by rw[aA (ar hpt hfl)];exact hpt)⟩,ki (xs:=pvs) (λi σ' H'=>∃(refs:List V) (bs':List dj) (k':Nat) (o3 o4 o5 o6 o7 o8:Option V),σ'=[some (.ref st),some (.ref p),some (.ref fl),o3,o4,o5,o6,o7,o8]/\H' fl=some (.lst refs)/\cF (lN H') refs bs'/\
  bs'.map (·.name)=(bs.map (·.name)).take i/\bs'.map (·.params.length)=(bs.map (·.params.length)).take i/\(∀b'∈bs',mS (bs.map (·.params.length)) b')/\iJ K H' st k'/\k'<=k+400*i/\fu st H H') ⟨[],[],k,_,_,_,_,_,_,rfl,ag,.nil,by simp,by simp,λb' z=>(by cases z),S.new hfl,by lia,AM (.refl _ _) hfl⟩ ?_ ?_ ?_⟩
 ·rintro i σ' H' _ ⟨_,_,_,_,_,_,_,_,_,_,_,_,_,_,_,_,_,B⟩
  exact cY.of (Tp.of_but B hst _ _ hpt)
 ·rintro i x σ' H1 hx ⟨refs,bs',k1,o3,o4,o5,o6,o7,o8,rfl,hf1,A1,nm1,cn1,sh1,S1,hk1,B1⟩
  have ix:i<pvs.length:=(aj.mp hx).1
  have T1:=Tp.of_but B1 hst
  obtain⟨b,hb,hP⟩:=hA.of_v hx
  obtain⟨pt,pa,rt,rvs,rfl,hpt1,hpa1,hrt1,hR1⟩:=hP.mono T1
  have bm:=aH hb
  have ps:=sh.part b bm
  have good:=ps.good
  have few64:=good.few
  have rl:=hR1.len
  have p100:=ps.p9
  refine⟨pt,_,rfl,cY.of hpt1,rfl,_,_,rfl,_,_,rfl,_,_,rfl,rfl,?_⟩
  show qD K _ [some (.ref st),some (.ref p),some (.ref fl),some (.str b.name),some (.ref pa),some (.ref rt),o6,o7,o8] H1
  refine⟨_,rfl,pa,_,rfl,.inr (cY.of hpa1),λsm hsm=>?_⟩
  show qC K _ [some (.ref st),some (.ref p),some (.ref fl),some (.str b.name),some (.ref pa),some (.ref rt),some (.ref sm),o7,o8] (upd H1 sm (.lst (b.params.map V.str)))
  have s1:aS H1 (upd H1 sm (.lst (b.params.map V.str))):=(aS.refl H1).new hsm
  refine .inr ⟨_,rfl,rt,rfl,⟨_,cY.of (s1 _ _ hrt1)⟩,ki (xs:=rvs) (λj σ' H'=>∃(ts:List Str) (o7:Option V),σ'=[some (.ref st),some (.ref p),some (.ref fl),some (.str b.name),some (.ref pa),some (.ref rt),some (.ref sm),o7,o8]/\H' sm=some (.lst (ts.map V.str))/\ts.length<=100+j/\aS H1 H') ⟨b.params,_,rfl,ag,by lia,s1⟩ ?_ ?_ ?_⟩
  ·rintro j σ' H' _ ⟨_,_,_,_,_,s⟩
   exact cY.of (s _ _ hrt1)
  ·rintro j x σ' H2 hx2 ⟨ts,o7,rfl,hs2,tl2,s2⟩
   have jx:j<rvs.length:=(aj.mp hx2).1
   obtain⟨r,hr,ra⟩:=hR1.of_v hx2
   obtain⟨rp,w,x1,tl,rfl,hrp,sx⟩:=(ra.mono (.of_same s2)).two
   show qB K _ [some (.ref st),some (.ref p),some (.ref fl),some (.str b.name),some (.ref pa),some (.ref rt),some (.ref sm),some (.ref rp),o8] H2
   refine⟨_,rfl,.inl ⟨rfl,_,cz.of hs2⟩,.inr ⟨_,rfl,_,rfl,_,rfl,MC hrp λt H3 h3 s3=>⟨t,rfl,⟨_,cY.of h3⟩,λDl hD=>?_⟩⟩⟩
   have nD:sm≠Dl:=ar (s3 _ _ hs2) hD
   refine qd (xs:=[x1]) (λm σ' H'=>∃(o:Option V) (zs:List Str),σ'=[some (.ref st),some (.ref p),some (.ref fl),some (.str b.name),some (.ref pa),some (.ref rt),some (.ref sm),some (.ref rp),o8,o]/\H'=upd H3 Dl (.lst (zs.map V.str))/\zs.length<=m) ⟨none,[],rfl,rfl,aC _⟩ ?_ ?_ ?_
   ·rintro m σ' H' _ ⟨o,zs,_,rfl,_⟩
    exact cY.of (by rw[aA (ar h3 hD)];exact h3)
   ·rintro m y σ' H' hy ⟨o,zs,rfl,rfl,zl⟩
    have m0:m=0:=by have:=(aj.mp hy).1;simpa using this
    subst m0
    have ey:y=x1:=by simpa using hy.symm
    subst ey
    rcases sx with⟨y',rfl⟩|⟨z,rfl⟩
    ·refine⟨_,rfl,_,rfl,.inl ⟨y',rfl,true,rfl,pJ ⟨_,rfl,_,ag,dq (by rw[ao];lia),?_⟩⟩⟩
     refine⟨_,zs++[y'],rfl,by rw[nu];simp,by rw[aG];simpa using zl⟩
    ·exact⟨_,rfl,_,rfl,.inr ⟨z,rfl,false,rfl,iU ⟨_,zs,rfl,rfl,by lia⟩⟩⟩
   ·rintro σ' H' ⟨o,zs,_,rfl,zl⟩
    have zl:zs.length<=1:=zl
    have hs4:upd H3 Dl (.lst (zs.map V.str)) sm=some (.lst (ts.map V.str)):=by rw[aA nD];exact s3 _ _ hs2
    refine⟨sm,Dl,_,_,rfl,rfl,hs4,ag,ML (by rw[ao,ao];lia),?_⟩
    refine⟨ts++zs,_,rfl,by rw[ag,aZ],by rw[aG];lia,iK ((s2.trans s3).new hD) hsm⟩
  ·rintro σ' H2 ⟨ts,o7,rfl,hs2,tl2,s2⟩
   show sC K _ [some (.ref st),some (.ref p),some (.ref fl),some (.str b.name),some (.ref pa),some (.ref rt),some (.ref sm),o7,o8] H2
   refine⟨_,rfl,(by show 1<=sizeLine;decide),λzl hzl=>.inr (.inr (.inl ⟨sm,zl,_,_,rfl,rfl,by rw[aA (ar hs2 hzl)];exact hs2,ag,ML (by rw[ao];show ts.length+1<=100000;lia),λs3a hs3=>?_⟩))⟩
   have hs3':upd (upd H2 zl (.lst [.str "zz"])) s3a (.lst (ts.map V.str++[.str "zz"])) s3a=some (.lst ((ts++(["zz"]:List Str)).map V.str)):=by rw[ag,aZ];rfl
   have s3:aS H1 (upd (upd H2 zl (.lst [.str "zz"])) s3a (.lst (ts.map V.str++[.str "zz"]))):=(s2.new hzl).new hs3
   show sA K _ [some (.ref st),some (.ref p),some (.ref fl),some (.str b.name),some (.ref pa),some (.ref rt),some (.ref s3a),o7,o8] (upd (upd H2 zl (.lst [.str "zz"])) s3a (.lst (ts.map V.str++[.str "zz"])))
   generalize upd (upd H2 zl (.lst [.str "zz"])) s3a (.lst (ts.map V.str++[.str "zz"]))=H3 at hs3' s3 ⊢
   have yl:0<(ts++(["zz"]:List Str)).length:=by simp
   have y1:(ts++(["zz"]:List Str)).length<=1000:=by rw[aG];show ts.length+1<=1000;lia
   generalize ts++(["zz"]:List Str)=sms at hs3' yl y1
   have S3:=S1.same s3
   obtain⟨zs3,hst3⟩:=S3.lst
   have B3:fu st H H3:=B1.trans s3.but
   have hf3:=s3 _ _ hf1
   refine⟨(by show 0<=sizeLine;decide),λnl hnl=>?_⟩
   show sy K _ [some (.ref st),some (.ref p),some (.ref fl),some (.str b.name),some (.ref pa),some (.ref rt),some (.ref s3a),o7,some (.ref nl)] (upd H3 nl (.lst []))
   have nnl:nl≠st:=(ar hst3 hnl).symm
   by_cases ce:s3a=st
   ·exfalso
    subst ce
    obtain⟨scr,ns,c,e,_⟩:=S3
    rw[hs3'] at e
    injection e with e
    injection e with e
    cases sms with
    |nil=>cases e
    |cons a as=>injection e with e1 _;cases e1
   refine .inr ⟨_,rfl,rt,rfl,⟨_,cY.of (by rw[aA (ar (s3 _ _ hrt1) hnl)];exact s3 _ _ hrt1)⟩,ki (xs:=rvs) (λj σ' H'=>∃(rvs':List V) (rs':List bz) (k':Nat) (o7:Option V),σ'=[some (.ref st),some (.ref p),some (.ref fl),some (.str b.name),some (.ref pa),some (.ref rt),some (.ref s3a),o7,some (.ref nl)]/\H' nl=some (.lst rvs')/\cF (cx H') rvs' rs'/\pY (b.rows.take j) rs'/\iJ K H' st k'/\k'<=k1+6*j/\fu st H3 H') ⟨[],[],k1,_,rfl,ag,.nil,⟨by simp,λi a c e _=>(by simp at e)⟩,S3.new hnl,by lia,(fu.refl st H3).new hnl⟩ ?_ ?_ ?_⟩
   ·rintro j σ' H' _ ⟨_,_,_,_,_,_,_,_,_,_,B⟩
    exact cY.of (Tp.of_but B hst3 _ _ (s3 _ _ hrt1))
   ·rintro j x σ' H4 hx4 ⟨rvs',rs',k4,p7,rfl,hn4,A4,sh4,S4,hk4,B4⟩
    have jx:j<rvs.length:=(aj.mp hx4).1
    obtain⟨r,hr,ra⟩:=hR1.of_v hx4
    have T4:=(Tp.of_same s3).trans (Tp.of_but B4 hst3)
    obtain⟨zs4,hst4⟩:=S4.lst
    show sv K _ [some (.ref st),some (.ref p),some (.ref fl),some (.str b.name),some (.ref pa),some (.ref rt),some (.ref s3a),some x,some (.ref nl)] H4
    refine JM (by decide) (by decide) S4 (by lia) (B4 _ _ ce hs3') yl y1 ce (ra.mono T4) (Nz r) λv5 r5 k5 H5 e5 ra5 S5 hk5 B5=>?_
    show su K _ [some (.ref st),some (.ref p),some (.ref fl),some (.str b.name),some (.ref pa),some (.ref rt),some (.ref s3a),some v5,some (.ref nl)] H5
    have B35:=B4.trans B5
    refine ES S5 (by lia) (B35 _ _ ce hs3') yl y1 ce ra5 λv6 r6 k6 H6 e6 ra6 S6 hk6 B6=>?_
    show sr K _ [some (.ref st),some (.ref p),some (.ref fl),some (.str b.name),some (.ref pa),some (.ref rt),some (.ref s3a),some v6,some (.ref nl)] H6
    have B36:=B35.trans B6
    refine JM (by decide) (by decide) S6 (by lia) (B36 _ _ ce hs3') yl y1 ce ra6 (NA r6) λv7 r7 k7 H7 e7 ra7 S7 hk7 B7=>?_
    show so K _ [some (.ref st),some (.ref p),some (.ref fl),some (.str b.name),some (.ref pa),some (.ref rt),some (.ref s3a),some v7,some (.ref nl)] H7
    have B37:=B36.trans B7
    have B47:=(B5.trans B6).trans B7
    have hn7:=B47 _ _ nnl hn4
    have rl4:=A4.len
    have rsl:=sh4.len
    rw[bg] at rsl
    refine⟨_,rfl,.inl ⟨rfl,_,cz.of hn7⟩,_,rfl,nl,_,_,rfl,rfl,hn7,dq (by lia),?_⟩
    have T8:Tp H7 (upd H7 nl (.lst (rvs'++[v7]))):=(Tp.refl H7).lst hn7
    refine⟨rvs'++[v7],rs'++[r7],k7,_,rfl,ag,((A4.imp λ_ _ z=>z.mono (.of_but B47 hst4)).snoc ra7).imp λ_ _ z=>z.mono T8,sh4.snoc hr ((e5.trans e6).trans e7),S7.mono .upd_at hn7 nnl.symm,by lia,AM B37 hnl⟩
   ·rintro σ' H4 ⟨rvs',rs',k4,p7,rfl,hn4,A4,sh4,S4,hk4,B4⟩
    rw[rl,bZ (aC _)] at sh4
    rw[rl] at hk4
    obtain⟨zs4,hst4⟩:=S4.lst
    have B14:fu st H1 H4:=s3.but.trans B4
    have T14:Tp H1 H4:=(Tp.of_same s3).trans (Tp.of_but B4 hst3)
    have hf4:=B4 _ _ nfl hf3
    show sk K _ [some (.ref st),some (.ref p),some (.ref fl),some (.str b.name),some (.ref pa),some (.ref rt),some (.ref s3a),p7,some (.ref nl)] H4
    refine⟨_,rfl,.inl ⟨rfl,_,cz.of hf4⟩,_,rfl,_,rfl,_,rfl,nl,_,rfl,.inl ⟨cz.of hn4,λt ht=>⟨(by show 3<=sizeLine;decide),λt2 ht2=>?_⟩⟩⟩
    have s5:aS H4 (upd (upd H4 t (.tup rvs')) t2 (.tup [.str b.name,.ref pa,.ref t])):=((aS.refl H4).new ht).new ht2
    have h5:upd (upd H4 t (.tup rvs')) t2 (.tup [.str b.name,.ref pa,.ref t]) t=some (.tup rvs'):=by rw[aA (ar ag ht2)];exact ag
    have h52:upd (upd H4 t (.tup rvs')) t2 (.tup [.str b.name,.ref pa,.ref t]) t2=some (.tup [.str b.name,.ref pa,.ref t]):=ag
    generalize upd (upd H4 t (.tup rvs')) t2 (.tup [.str b.name,.ref pa,.ref t])=H5 at s5 h5 h52 ⊢
    have hf5:=s5 _ _ hf4
    have T5:=T14.trans (.of_same s5)
    have P5:lN H5 (.ref t2) ⟨b.name,b.params,rs'⟩:=⟨t2,pa,t,rvs',rfl,h52,T5 _ _ hpa1,h5,A4.imp λ_ _ z=>z.mono (.of_same s5)⟩
    have bl':bs'.length<=i:=by have:=congrArg jG nm1;rw[ao,bg] at this;lia
    have rfl_:=A1.len
    refine⟨fl,_,_,rfl,rfl,hf5,dq (by lia),?_⟩
    have T6:Tp H5 (upd H5 fl (.lst (refs++[.ref t2]))):=(Tp.refl H5).lst hf5
    refine⟨refs++[.ref t2],bs'++[⟨b.name,b.params,rs'⟩],k4,_,_,_,_,_,_,rfl,ag,((A1.imp λ_ _ z=>z.mono T5).snoc P5).imp λ_ _ z=>z.mono T6,?_,?_,λb' hb'=>?_,(S4.same s5).mono .upd_at hf5 nfl.symm,by lia,AM ((B1.trans B14).trans s5.but) hfl⟩
    ·rw[aZ,nm1,cu,aX,hb];rfl
    ·rw[aZ,cn1,cu,aX,hb];rfl
    ·rcases aY.mp hb' with z|z
     ·exact sh1 b' z
     ·rw[ak.mp z];exact ps.shape sh4
 ·rintro σ' H1 ⟨refs,bs',k1,o3,o4,o5,o6,o7,o8,rfl,hf1,A1,nm1,cn1,sh1,S1,hk1,B1⟩
  rw[al,bZ (by rw[ao];exact aC _)] at nm1 cn1
  rw[al] at hk1
  refine⟨_,rfl,fl,_,rfl,.inl ⟨cz.of hf1,λt ht=>?_⟩⟩
  have bl':bs'.length=bs.length:=by have:=congrArg jG nm1;simpa using this
  exact q t bs' k1 _ ⟨refs,ag,A1.imp λ_ _ z=>z.mono ((Tp.refl H1).new ht)⟩ ⟨by lia,by rw[nm1];exact sh.nnd,λb' hb'=>by rw[cn1];exact sh1 b' hb'⟩ (S1.new ht) (by lia) (B1.new ht)
end Bg
end
namespace Bg
open PySem PySem.Spec PyProof.Rows L2
section
variable{P:Program}{w:World}{K:Fg}{mg:Str->Option Value}{base:Heap}
theorem zd{vs:List V}{H:Hp}{Q:VK}{E:XK}(h:fO K vs H Q E):vs.length=gk.length:=by
 first|(obtain⟨rfl,_⟩:=h;rfl)|(obtain⟨_,rfl,_⟩:=h;rfl)|(obtain⟨_,_,rfl,_⟩:=h;rfl)|(obtain⟨_,_,_,rfl,_⟩:=h;rfl)|(obtain⟨_,_,_,_,rfl,_⟩:=h;rfl)|(obtain⟨_,_,_,_,_,rfl,_⟩:=h;rfl)|(obtain⟨_,_,_,_,_,_,rfl,_⟩:=h;rfl)|(obtain⟨_,_,_,_,_,_,_,rfl,_⟩:=h;rfl)|(obtain⟨_,_,_,_,_,_,_,_,rfl,_⟩:=h;rfl)|(obtain⟨_,_,_,_,_,_,_,_,_,rfl,_⟩:=h;rfl)|(obtain⟨_,_,_,_,_,_,_,_,_,_,rfl,_⟩:=h;rfl)|(obtain⟨_,_,_,_,_,_,_,_,_,_,_,rfl,_⟩:=h;rfl)|(obtain⟨_,_,_,_,_,_,_,_,_,_,_,_,rfl,_⟩:=h;rfl)|(obtain⟨_,_,_,_,_,_,_,_,_,_,_,_,_,rfl,_⟩:=h;rfl)|(obtain⟨_,_,_,_,_,_,_,_,_,_,_,_,_,_,rfl,_⟩:=h;rfl)|(obtain⟨_,_,_,_,_,_,_,_,_,_,_,_,_,_,_,rfl,_⟩:=h;rfl)|(obtain⟨_,_,_,_,_,_,_,_,_,_,_,_,_,_,_,_,rfl,_⟩:=h;rfl)|(obtain⟨_,_,_,_,_,_,_,_,_,_,_,_,_,_,_,_,_,rfl,_⟩:=h;rfl)|(obtain⟨_,_,_,_,_,_,_,_,_,_,_,_,_,_,_,_,_,_,rfl,_⟩:=h;rfl)|(obtain⟨_,_,_,_,_,_,_,_,_,_,_,_,_,_,_,_,_,_,_,rfl,_⟩:=h;rfl)|(obtain⟨_,_,_,_,_,_,_,_,_,_,_,_,_,_,_,_,_,_,_,_,rfl,_⟩:=h;rfl)|(obtain⟨_,_,_,_,_,_,_,_,_,_,_,_,_,_,_,_,_,_,_,_,_,rfl,_⟩:=h;rfl)|(obtain⟨_,_,_,_,_,_,_,_,_,_,_,_,_,_,_,_,_,_,_,_,_,_,rfl,_⟩:=h;rfl)|(obtain⟨_,_,_,_,_,_,_,_,_,_,_,_,_,_,_,_,_,_,_,_,_,_,_,rfl,_⟩:=h;rfl)|(obtain⟨_,_,_,_,_,_,_,_,_,_,_,_,_,_,_,_,_,_,_,_,_,_,_,_,rfl,_⟩:=h;rfl)|(obtain⟨_,_,_,_,_,_,_,_,_,_,_,_,_,_,_,_,_,_,_,_,_,_,_,_,_,rfl,_⟩:=h;rfl)
theorem Bq{f:Addr}{fd:FuncData}(F:lg K "reads" "reads" h9 f fd)(B:gf mg) :d5 P w K mg base fH kD f fd gk (fO K):=
 F.ok uW (λvs H Q E h=>zd h) λcdv A outer s H vs Q E hr h=>⟨_,Dk B hr,Ee (E:=E) h⟩
theorem rC{vs:List V}{H:Hp}{Q:VK}{E:XK}(h:eR K vs H Q E):vs.length=eO.length:=by
 first|(obtain⟨_,_,_,rfl,_⟩:=h;rfl)
theorem tF{f:Addr}{fd:FuncData}(F:lg K "names_read" "names_read" dQ f fd)(B:gf mg)(c_p_reads:aL P w K mg base "reads" gk kD (fO K)):d5 P w K mg base fH i4 f fd eO (eR K):=
 F.ok nC (λvs H Q E h=>rC h) λcdv A outer s H vs Q E hr h=>⟨_,uy B c_p_reads hr,uQ (E:=E) h⟩
theorem Bd{vs:List V}{H:Hp}{Q:VK}{E:XK}(h:jA K vs H Q E):vs.length=jq.length:=by
 first|(obtain⟨_,_,rfl,_⟩:=h;rfl)
theorem DZ{f:Addr}{fd:FuncData}(F:lg K "sets" "sets" jc f fd)(B:gf mg) :d5 P w K mg base fH pW f fd jq (jA K):=
 F.ok wK (λvs H Q E h=>Bd h) λcdv A outer s H vs Q E hr h=>⟨_,E2 B hr,Gw (E:=E) h⟩
theorem Bc{vs:List V}{H:Hp}{Q:VK}{E:XK}(h:eJ K vs H Q E):vs.length=fW.length:=by
 first|(obtain⟨_,_,rfl,_⟩:=h;rfl)
theorem DY{f:Addr}{fd:FuncData}(F:lg K "goal" "goal" jb f fd)(B:gf mg) :d5 P w K mg base fH jI f fd fW (eJ K):=
 F.ok wJ (λvs H Q E h=>Bc h) λcdv A outer s H vs Q E hr h=>⟨_,EZ B hr,Gv (E:=E) h⟩
theorem zc{vs:List V}{H:Hp}{Q:VK}{E:XK}(h:gW K vs H Q E):vs.length=iG.length:=by
 first|(obtain⟨rfl,_⟩:=h;rfl)|(obtain⟨_,rfl,_⟩:=h;rfl)|(obtain⟨_,_,rfl,_⟩:=h;rfl)|(obtain⟨_,_,_,rfl,_⟩:=h;rfl)|(obtain⟨_,_,_,_,rfl,_⟩:=h;rfl)|(obtain⟨_,_,_,_,_,rfl,_⟩:=h;rfl)|(obtain⟨_,_,_,_,_,_,rfl,_⟩:=h;rfl)|(obtain⟨_,_,_,_,_,_,_,rfl,_⟩:=h;rfl)|(obtain⟨_,_,_,_,_,_,_,_,rfl,_⟩:=h;rfl)|(obtain⟨_,_,_,_,_,_,_,_,_,rfl,_⟩:=h;rfl)|(obtain⟨_,_,_,_,_,_,_,_,_,_,rfl,_⟩:=h;rfl)|(obtain⟨_,_,_,_,_,_,_,_,_,_,_,rfl,_⟩:=h;rfl)|(obtain⟨_,_,_,_,_,_,_,_,_,_,_,_,rfl,_⟩:=h;rfl)|(obtain⟨_,_,_,_,_,_,_,_,_,_,_,_,_,rfl,_⟩:=h;rfl)|(obtain⟨_,_,_,_,_,_,_,_,_,_,_,_,_,_,rfl,_⟩:=h;rfl)|(obtain⟨_,_,_,_,_,_,_,_,_,_,_,_,_,_,_,rfl,_⟩:=h;rfl)|(obtain⟨_,_,_,_,_,_,_,_,_,_,_,_,_,_,_,_,rfl,_⟩:=h;rfl)|(obtain⟨_,_,_,_,_,_,_,_,_,_,_,_,_,_,_,_,_,rfl,_⟩:=h;rfl)|(obtain⟨_,_,_,_,_,_,_,_,_,_,_,_,_,_,_,_,_,_,rfl,_⟩:=h;rfl)|(obtain⟨_,_,_,_,_,_,_,_,_,_,_,_,_,_,_,_,_,_,_,rfl,_⟩:=h;rfl)|(obtain⟨_,_,_,_,_,_,_,_,_,_,_,_,_,_,_,_,_,_,_,_,rfl,_⟩:=h;rfl)|(obtain⟨_,_,_,_,_,_,_,_,_,_,_,_,_,_,_,_,_,_,_,_,_,rfl,_⟩:=h;rfl)|(obtain⟨_,_,_,_,_,_,_,_,_,_,_,_,_,_,_,_,_,_,_,_,_,_,rfl,_⟩:=h;rfl)|(obtain⟨_,_,_,_,_,_,_,_,_,_,_,_,_,_,_,_,_,_,_,_,_,_,_,rfl,_⟩:=h;rfl)|(obtain⟨_,_,_,_,_,_,_,_,_,_,_,_,_,_,_,_,_,_,_,_,_,_,_,_,rfl,_⟩:=h;rfl)|(obtain⟨_,_,_,_,_,_,_,_,_,_,_,_,_,_,_,_,_,_,_,_,_,_,_,_,_,rfl,_⟩:=h;rfl)
theorem Bp{f:Addr}{fd:FuncData}(F:lg K "leads" "leads" hZ f fd)(B:gf mg)(c_p_goal:aL P w K mg base "goal" fW jI (eJ K)):d5 P w K mg base fH oH f fd iG (gW K):=
 F.ok uV (λvs H Q E h=>zc h) λcdv A outer s H vs Q E hr h=>⟨_,Dj B c_p_goal hr,Ed (E:=E) h⟩
theorem yd{vs:List V}{H:Hp}{Q:VK}{E:XK}(h:gX K vs H Q E):vs.length=gP.length:=by
 first|(obtain⟨_,_,_,_,rfl,_⟩:=h;rfl)
theorem zr{f:Addr}{fd:FuncData}{dV:Value}(F:Hi K "walked" "walked" eQ dV f fd)(B:gf mg)(c_p_sets:aL P w K mg base "sets" jq pW (jA K))(c_p_leads:aL P w K mg base "leads" iG oH (gW K)):d5 P w K mg base fH mJ f fd gP (gX K):=
 F.ok si (λvs H Q E h=>yd h) λcdv A outer s H vs Q E hr h=>⟨_,AS B c_p_sets c_p_leads hr,Bz (E:=E) h⟩
theorem tE{vs:List V}{H:Hp}{Q:VK}{E:XK}(h:fj K vs H Q E):vs.length=fg.length:=by
 first|(obtain⟨_,_,_,rfl,_⟩:=h;rfl)
theorem uN{f:Addr}{fd:FuncData}(F:lg K "unset_due" "unset_due" dI f fd)(B:gf mg)(c_p_names_read:aL P w K mg base "names_read" eO i4 (eR K))(c_p_walked:aL P w K mg base "walked" gP mJ (gX K))(c_p_reads:aL P w K mg base "reads" gk kD (fO K)):d5 P w K mg base fH jD f fd fg (fj K):=
 F.ok oa (λvs H Q E h=>tE h) λcdv A outer s H vs Q E hr h=>⟨_,vC B c_p_names_read c_p_walked c_p_reads hr,vK (E:=E) h⟩
theorem pK{vs:List V}{H:Hp}{Q:VK}{E:XK}(h:dR K vs H Q E):vs.length=dN.length:=by
 first|(obtain⟨_,_,_,_,rfl,_⟩:=h;rfl)
theorem ql{f:Addr}{fd:FuncData}(F:lg K "__init__" "NoProgram.__init__" dm f fd)(B:gf mg)(T:xH K) :d5 P w K mg base fH g8 f fd dN (dR K):=
 F.ok lF (λvs H Q E h=>pK h) λcdv A outer s H vs Q E hr h=>⟨_,rq B hr,rL T (E:=E) h⟩
theorem yc{vs:List V}{H:Hp}{Q:VK}{E:XK}(h:eZ K vs H Q E):vs.length=gO.length:=by
 first|(obtain⟨_,_,_,rfl,_⟩:=h;rfl)
theorem zq{f:Addr}{fd:FuncData}(F:lg K "refuse" "refuse" gs f fd)(B:gf mg)(T:xH K)(mx_NoProgram:B9 P w K mg base "NoProgram" (cS K "NoProgram") dN g8 (dR K)):d5 P w K mg base (Az P w) mI f fd gO (eZ K):=
 Co F sf (λvs H Q E h=>yc h) λcdv A outer s H vs Q E hr h=>⟨_,AR B mx_NoProgram hr,By T (E:=E) h⟩
theorem qi{vs:List V}{H:Hp}{Q:VK}{E:XK}(h:ee K vs H Q E):vs.length=d7.length:=by
 first|(obtain⟨_,_,_,_,rfl,_⟩:=h;rfl)
theorem rH{f:Addr}{fd:FuncData}(F:lg K "comes_round" "comes_round" dE f fd)(B:gf mg)(c_p_goal:aL P w K mg base "goal" fW jI (eJ K)):d5 P w K mg base fH iy f fd d7 (ee K):=
 F.ok mx (λvs H Q E h=>qi h) λcdv A outer s H vs Q E hr h=>⟨_,sZ B c_p_goal hr,tH (E:=E) h⟩
theorem uK{vs:List V}{H:Hp}{Q:VK}{E:XK}(h:fP K vs H Q E):vs.length=fL.length:=by
 first|(obtain⟨_,_,_,rfl,_⟩:=h;rfl)
theorem vJ{f:Addr}{fd:FuncData}(F:lg K "ring_due" "ring_due" eY f fd)(B:gf mg)(c_p_comes_round:aL P w K mg base "comes_round" d7 iy (ee K)):d5 P w K mg base fH kc f fd fL (fP K):=
 F.ok oZ (λvs H Q E h=>uK h) λcdv A outer s H vs Q E hr h=>⟨_,xT B c_p_comes_round hr,yu (E:=E) h⟩
theorem qh{vs:List V}{H:Hp}{Q:VK}{E:XK}(h:d9 K vs H Q E):vs.length=d6.length:=by
 first|(obtain⟨_,_,_,_,rfl,_⟩:=h;rfl)
theorem rG{f:Addr}{fd:FuncData}(F:lg K "calls_amiss" "calls_amiss" dD f fd)(B:gf mg) :d5 P w K mg base fH iw f fd d6 (d9 K):=
 F.ok mw (λvs H Q E h=>qh h) λcdv A outer s H vs Q E hr h=>⟨_,sY B hr,tG (E:=E) h⟩
theorem qj{vs:List V}{H:Hp}{Q:VK}{E:XK}(h:ef K vs H Q E):vs.length=d8.length:=by
 first|(obtain⟨_,_,_,_,rfl,_⟩:=h;rfl)
theorem rJ{f:Addr}{fd:FuncData}(F:lg K "goes_astray" "goes_astray" dF f fd)(B:gf mg)(c_p_goal:aL P w K mg base "goal" fW jI (eJ K)):d5 P w K mg base fH iz f fd d8 (ef K):=
 F.ok my (λvs H Q E h=>qj h) λcdv A outer s H vs Q E hr h=>⟨_,tf B c_p_goal hr,tI (E:=E) h⟩
theorem vF{vs:List V}{H:Hp}{Q:VK}{E:XK}(h:gu K vs H Q E):vs.length=gm.length:=by
 first|(obtain⟨_,_,_,rfl,_⟩:=h;rfl)
theorem yf{f:Addr}{fd:FuncData}(F:lg K "row_due" "row_due" fF f fd)(B:gf mg)(c_p_calls_amiss:aL P w K mg base "calls_amiss" d6 iw (d9 K))(c_p_goes_astray:aL P w K mg base "goes_astray" d8 iz (ef K)):d5 P w K mg base fH lx f fd gm (gu K):=
 F.ok qr (λvs H Q E h=>vF h) λcdv A outer s H vs Q E hr h=>⟨_,yR B c_p_calls_amiss c_p_goes_astray hr,zA (E:=E) h⟩
theorem uJ{vs:List V}{H:Hp}{Q:VK}{E:XK}(h:fN K vs H Q E):vs.length=fK.length:=by
 first|(obtain⟨_,_,_,rfl,_⟩:=h;rfl)
theorem vI{f:Addr}{fd:FuncData}(F:lg K "name_due" "name_due" eA f fd)(B:gf mg) :d5 P w K mg base fH j9 f fd fK (fN K):=
 F.ok oY (λvs H Q E h=>uJ h) λcdv A outer s H vs Q E hr h=>⟨_,xS B hr,yt (E:=E) h⟩
theorem zb{vs:List V}{H:Hp}{Q:VK}{E:XK}(h:fM K vs H Q E):vs.length=gj.length:=by
 first|(obtain⟨_,_,rfl,_⟩:=h;rfl)
theorem Bo{f:Addr}{fd:FuncData}(F:lg K "check" "check" hW f fd)(B:gf mg)(c_p_unset_due:aL P w K mg base "unset_due" fg jD (fj K))(c_p_refuse:j8 P w K mg base "refuse" gO mI (eZ K))(c_p_ring_due:aL P w K mg base "ring_due" fL kc (fP K))(c_p_row_due:aL P w K mg base "row_due" gm lx (gu K))(c_p_name_due:aL P w K mg base "name_due" fK j9 (fN K)):d5 P w K mg base (Az P w) kC f fd gj (fM K):=
 Co F uU (λvs H Q E h=>zb h) λcdv A outer s H vs Q E hr h=>⟨_,Di B c_p_unset_due c_p_refuse c_p_ring_due c_p_row_due c_p_name_due hr,Ec (E:=E) h⟩
theorem za{vs:List V}{H:Hp}{Q:VK}{E:XK}(h:iO K vs H Q E):vs.length=iF.length:=by
 first|(obtain⟨_,_,rfl,_⟩:=h;rfl)
theorem Bn{f:Addr}{fd:FuncData}(F:lg K "_law_classes" "_law_classes" hV f fd)(B:gf mg)(T:xH K)(g_BeltError:mg "BeltError"=some (.ref (cS K "BeltError")))(z_ValueError:mg "ValueError"=none)(g_NoProgram:mg "NoProgram"=some (.ref (cS K "NoProgram")))(g_NoLine:mg "NoLine"=some (.ref (cS K "NoLine")))(g_Short:mg "Short"=some (.ref (cS K "Short")))(c_p_check:j8 P w K mg base "check" gj kC (fM K)):d5 P w K mg base fH oG f fd iF (iO K):=
 F.ok uT (λvs H Q E h=>za h) λcdv A outer s H vs Q E hr h=>⟨_,Dh B g_BeltError z_ValueError g_NoProgram g_NoLine g_Short c_p_check hr,Eb T (E:=E) h⟩
theorem FC{vs:List V}{H:Hp}{Q:VK}{E:XK}(h:nh K vs H Q E):vs.length=mR.length:=by
 first|(obtain⟨_,_,rfl,_⟩:=h;rfl)
theorem Io{f:Addr}{fd:FuncData}(F:lg K "_law_told" "_law_told" m8 f fd)(B:gf mg)(T:xH K)(g_NoProgram:mg "NoProgram"=some (.ref (cS K "NoProgram")))(c_p_check:j8 P w K mg base "check" gj kC (fM K)):d5 P w K mg base fH xx f fd mR (nh K):=
 F.ok CI (λvs H Q E h=>FC h) λcdv A outer s H vs Q E hr h=>⟨_,Kc B g_NoProgram c_p_check hr,Ls T (E:=E) h⟩
theorem FA{vs:List V}{H:Hp}{Q:VK}{E:XK}(h:ng K vs H Q E):vs.length=mQ.length:=by
 first|(obtain⟨_,_,rfl,_⟩:=h;rfl)
theorem Im{f:Addr}{fd:FuncData}(F:lg K "_law_read" "_law_read" m7 f fd)(B:gf mg) :d5 P w K mg base fH xw f fd mQ (ng K):=
 F.ok CH (λvs H Q E h=>FA h) λcdv A outer s H vs Q E hr h=>⟨_,Kb B hr,Lr (E:=E) h⟩
theorem Fx{vs:List V}{H:Hp}{Q:VK}{E:XK}(h:kB K vs H Q E):vs.length=mO.length:=by
 first|(obtain⟨_,_,_,_,_,rfl,_⟩:=h;rfl)
theorem Ik{f:Addr}{fd:FuncData}(F:lg K "_law_next" "_law_next" m6 f fd)(B:gf mg) :d5 P w K mg base fH xt f fd mO (kB K):=
 F.ok CF (λvs H Q E h=>Fx h) λcdv A outer s H vs Q E hr h=>⟨_,J9 B hr,Lp (E:=E) h⟩
theorem zf{vs:List V}{H:Hp}{Q:VK}{E:XK}(h:iQ K vs H Q E):vs.length=iI.length:=by
 first|(obtain⟨_,_,_,_,_,_,rfl,_⟩:=h;rfl)
theorem Bs{f:Addr}{fd:FuncData}(F:lg K "_law_without" "_law_without" fY f fd)(B:gf mg)(c_next:aL P w K mg base "_law_next" mO xt (kB K)):d5 P w K mg base fH oK f fd iI (iQ K):=
 F.ok uY (λvs H Q E h=>zf h) λcdv A outer s H vs Q E hr h=>⟨_,Do B c_next hr,Eg (E:=E) h⟩
theorem DO{vs:List V}{H:Hp}{Q:VK}{E:XK}(h:kX K vs H Q E):vs.length=kO.length:=by
 first|(obtain⟨_,_,_,_,_,rfl,_⟩:=h;rfl)
theorem FM{f:Addr}{fd:FuncData}(F:lg K "_law_unset" "_law_unset" kz f fd)(B:gf mg)(c_read:aL P w K mg base "_law_read" mQ xw (ng K))(c_without:aL P w K mg base "_law_without" iI oK (iQ K)):d5 P w K mg base fH tQ f fd kO (kX K):=
 F.ok zN (λvs H Q E h=>DO h) λcdv A outer s H vs Q E hr h=>⟨_,HE B c_read c_without hr,Jo (E:=E) h⟩
theorem DM{vs:List V}{H:Hp}{Q:VK}{E:XK}(h:kU K vs H Q E):vs.length=kM.length:=by
 first|(obtain⟨_,_,_,_,rfl,_⟩:=h;rfl)
theorem FK{f:Addr}{fd:FuncData}(F:lg K "_law_round" "_law_round" kx f fd)(B:gf mg) :d5 P w K mg base fH tO f fd kM (kU K):=
 F.ok zL (λvs H Q E h=>DM h) λcdv A outer s H vs Q E hr h=>⟨_,HC B hr,Jm (E:=E) h⟩
theorem y9{vs:List V}{H:Hp}{Q:VK}{E:XK}(h:iN K vs H Q E):vs.length=iE.length:=by
 first|(obtain⟨_,_,_,_,_,_,rfl,_⟩:=h;rfl)
theorem Bm{f:Addr}{fd:FuncData}(F:lg K "_law_bad_row" "_law_bad_row" hU f fd)(B:gf mg) :d5 P w K mg base fH oF f fd iE (iN K):=
 F.ok uS (λvs H Q E h=>y9 h) λcdv A outer s H vs Q E hr h=>⟨_,Dg B hr,Ea (E:=E) h⟩
theorem ye{vs:List V}{H:Hp}{Q:VK}{E:XK}(h:gY K vs H Q E):vs.length=gQ.length:=by
 first|(obtain⟨_,_,_,_,rfl,_⟩:=h;rfl)
theorem zt{f:Addr}{fd:FuncData}(F:lg K "_law_part_due" "_law_part_due" fi f fd)(B:gf mg)(c_unset:aL P w K mg base "_law_unset" kO tQ (kX K))(c_round:aL P w K mg base "_law_round" kM tO (kU K))(c_bad_row:aL P w K mg base "_law_bad_row" iE oF (iN K)):d5 P w K mg base fH mK f fd gQ (gY K):=
 F.ok sj (λvs H Q E h=>ye h) λcdv A outer s H vs Q E hr h=>⟨_,AU B c_unset c_round c_bad_row hr,BA (E:=E) h⟩
theorem Ib{vs:List V}{H:Hp}{Q:VK}{E:XK}(h:lU K vs H Q E):vs.length=mN.length:=by
 first|(obtain⟨_,_,rfl,_⟩:=h;rfl)|(obtain⟨_,_,_,_,_,rfl,_⟩:=h;rfl)|(obtain⟨_,_,_,_,_,_,rfl,_⟩:=h;rfl)
theorem Kv{f:Addr}{fd:FuncData}(F:lg K "_law_due" "_law_due" qp f fd)(B:gf mg)(c_part_due:aL P w K mg base "_law_part_due" gQ mK (gY K)):d5 P w K mg base fH v9 f fd mN (lU K):=
 F.ok GC (λvs H Q E h=>Ib h) λcdv A outer s H vs Q E hr h=>⟨_,LX B c_part_due hr,Mz (E:=E) h⟩
theorem DK{vs:List V}{H:Hp}{Q:VK}{E:XK}(h:je K vs H Q E):vs.length=kK.length:=by
 first|(obtain⟨_,_,rfl,_⟩:=h;rfl)
theorem FI{f:Addr}{fd:FuncData}(F:lg K "_law_meets" "_law_meets" ku f fd)(B:gf mg)(c_classes:aL P w K mg base "_law_classes" iF oG (iO K))(c_told:aL P w K mg base "_law_told" mR xx (nh K))(c_due:aL P w K mg base "_law_due" mN v9 (lU K)):d5 P w K mg base fH tM f fd kK (je K):=
 F.ok zJ (λvs H Q E h=>DK h) λcdv A outer s H vs Q E hr h=>⟨_,Hz B c_classes c_told c_due hr,Jk (E:=E) h⟩
theorem Fv{vs:List V}{H:Hp}{Q:VK}{E:XK}(h:bu K vs H Q E):vs.length=dO.length:=by
 first|(obtain⟨_,_,_,rfl,_⟩:=h;rfl)
theorem Ij{f:Addr}{fd:FuncData}(F:lg K "_law_draw" "_law_draw" m5 f fd)(B:gf mg) :d5 P w K mg base fH fV f fd dO (bu K):=
 F.ok CD (λvs H Q E h=>Fv h) λcdv A outer s H vs Q E hr h=>⟨_,J8 B hr,Lo (E:=E) h⟩
theorem DN{vs:List V}{H:Hp}{Q:VK}{E:XK}(h:kW K vs H Q E):vs.length=kN.length:=by
 first|(obtain⟨_,_,rfl,_⟩:=h;rfl)
theorem FL{f:Addr}{fd:FuncData}(F:lg K "_law_tests" "_law_tests" ky f fd)(B:gf mg)(c_draw:aL P w K mg base "_law_draw" dO fV (bu K)):d5 P w K mg base fH tP f fd kN (kW K):=
 F.ok zM (λvs H Q E h=>DN h) λcdv A outer s H vs Q E hr h=>⟨_,HD B c_draw hr,Jn (E:=E) h⟩
theorem y8{vs:List V}{H:Hp}{Q:VK}{E:XK}(h:iM K vs H Q E):vs.length=iD.length:=by
 first|(obtain⟨_,_,_,_,_,_,rfl,_⟩:=h;rfl)
theorem Bl{f:Addr}{fd:FuncData}(F:lg K "_law_at_will" "_law_at_will" gE f fd)(B:gf mg)(c_draw:aL P w K mg base "_law_draw" dO fV (bu K)):d5 P w K mg base fH oE f fd iD (iM K):=
 F.ok uR (λvs H Q E h=>y8 h) λcdv A outer s H vs Q E hr h=>⟨_,Df B c_draw hr,D9 (E:=E) h⟩
theorem Ba{vs:List V}{H:Hp}{Q:VK}{E:XK}(h:jy K vs H Q E):vs.length=jm.length:=by
 first|(obtain⟨_,_,_,_,_,_,_,_,_,_,rfl,_⟩:=h;rfl)
theorem DW{f:Addr}{fd:FuncData}(F:lg K "_law_filled" "_law_filled" iu f fd)(B:gf mg)(c_draw:aL P w K mg base "_law_draw" dO fV (bu K)):d5 P w K mg base fH pU f fd jm (jy K):=
 F.ok wH (λvs H Q E h=>Ba h) λcdv A outer s H vs Q E hr h=>⟨_,EX B c_draw hr,Gs (E:=E) h⟩
theorem DJ{vs:List V}{H:Hp}{Q:VK}{E:XK}(h:kT K vs H Q E):vs.length=kJ.length:=by
 first|(obtain⟨_,_,_,_,_,rfl,_⟩:=h;rfl)
theorem FH{f:Addr}{fd:FuncData}(F:lg K "_law_leads" "_law_leads" kr f fd)(B:gf mg) :d5 P w K mg base fH tL f fd kJ (kT K):=
 F.ok zI (λvs H Q E h=>DJ h) λcdv A outer s H vs Q E hr h=>⟨_,Hy B hr,Jj (E:=E) h⟩
theorem vH{vs:List V}{H:Hp}{Q:VK}{E:XK}(h:gz K vs H Q E):vs.length=gq.length:=by
 first|(obtain⟨_,_,_,_,_,_,_,_,rfl,_⟩:=h;rfl)
theorem yh{f:Addr}{fd:FuncData}(F:lg K "_law_set_names" "_law_set_names" eD f fd)(B:gf mg)(c_leads:aL P w K mg base "_law_leads" kJ tL (kT K)):d5 P w K mg base fH lz f fd gq (gz K):=
 F.ok qu (λvs H Q E h=>vH h) λcdv A outer s H vs Q E hr h=>⟨_,yT B c_leads hr,zC (E:=E) h⟩
theorem Bb{vs:List V}{H:Hp}{Q:VK}{E:XK}(h:jz K vs H Q E):vs.length=jo.length:=by
 first|(obtain⟨_,_,_,_,_,_,_,rfl,_⟩:=h;rfl)
theorem DX{f:Addr}{fd:FuncData}(F:lg K "_law_mended" "_law_mended" ja f fd)(B:gf mg) :d5 P w K mg base fH pV f fd jo (jz K):=
 F.ok wI (λvs H Q E h=>Bb h) λcdv A outer s H vs Q E hr h=>⟨_,EY B hr,Gu (E:=E) h⟩
theorem DP{vs:List V}{H:Hp}{Q:VK}{E:XK}(h:kY K vs H Q E):vs.length=kP.length:=by
 first|(obtain⟨_,_,rfl,_⟩:=h;rfl)
theorem FN{f:Addr}{fd:FuncData}(F:lg K "_law_worth" "_law_worth" kA f fd)(B:gf mg)(c_draw:aL P w K mg base "_law_draw" dO fV (bu K)):d5 P w K mg base fH tR f fd kP (kY K):=
 F.ok zO (λvs H Q E h=>DP h) λcdv A outer s H vs Q E hr h=>⟨_,HG B c_draw hr,Jp (E:=E) h⟩
theorem vG{vs:List V}{H:Hp}{Q:VK}{E:XK}(h:gy K vs H Q E):vs.length=gp.length:=by
 first|(obtain⟨_,_,_,_,_,_,_,rfl,_⟩:=h;rfl)
theorem yg{f:Addr}{fd:FuncData}(F:lg K "_law_rough_row" "_law_rough_row" fG f fd)(B:gf mg)(c_draw:aL P w K mg base "_law_draw" dO fV (bu K))(c_worth:aL P w K mg base "_law_worth" kP tR (kY K)):d5 P w K mg base fH ly f fd gp (gy K):=
 F.ok qt (λvs H Q E h=>vG h) λcdv A outer s H vs Q E hr h=>⟨_,yS B c_draw c_worth hr,zB (E:=E) h⟩
theorem Fy{vs:List V}{H:Hp}{Q:VK}{E:XK}(h:m9 K vs H Q E):vs.length=mP.length:=by
 first|(obtain⟨_,_,_,_,_,_,_,_,_,_,rfl,_⟩:=h;rfl)
theorem Il{f:Addr}{fd:FuncData}(F:lg K "_law_part" "_law_part" lT f fd)(B:gf mg)(c_filled:aL P w K mg base "_law_filled" jm pU (jy K))(c_set_names:aL P w K mg base "_law_set_names" gq lz (gz K))(c_mended:aL P w K mg base "_law_mended" jo pV (jz K))(c_rough_row:aL P w K mg base "_law_rough_row" gp ly (gy K))(c_draw:aL P w K mg base "_law_draw" dO fV (bu K)):d5 P w K mg base fH xu f fd mP (m9 K):=
 F.ok CG (λvs H Q E h=>Fy h) λcdv A outer s H vs Q E hr h=>⟨_,Ka B c_filled c_set_names c_mended c_rough_row c_draw hr,Lq (E:=E) h⟩
theorem DL{vs:List V}{H:Hp}{Q:VK}{E:XK}(h:jN K vs H Q E):vs.length=kL.length:=by
 first|(obtain⟨_,_,_,rfl,_⟩:=h;rfl)
theorem FJ{f:Addr}{fd:FuncData}(F:lg K "_law_names" "_law_names" jF f fd)(B:gf mg)(c_draw:aL P w K mg base "_law_draw" dO fV (bu K)):d5 P w K mg base fH tN f fd kL (jN K):=
 F.ok zK (λvs H Q E h=>DL h) λcdv A outer s H vs Q E hr h=>⟨_,HA B c_draw hr,Jl (E:=E) h⟩
theorem ze{vs:List V}{H:Hp}{Q:VK}{E:XK}(h:iP K vs H Q E):vs.length=iH.length:=by
 first|(obtain⟨_,_,_,rfl,_⟩:=h;rfl)
theorem Br{f:Addr}{fd:FuncData}(F:lg K "_law_program" "_law_program" gF f fd)(B:gf mg)(c_part:aL P w K mg base "_law_part" mP xu (m9 K))(c_draw:aL P w K mg base "_law_draw" dO fV (bu K))(c_names:aL P w K mg base "_law_names" kL tN (jN K)):d5 P w K mg base fH oJ f fd iH (iP K):=
 F.ok uX (λvs H Q E h=>ze h) λcdv A outer s H vs Q E hr h=>⟨_,Dm B c_part c_draw c_names hr,Ef (E:=E) h⟩
theorem Ic{vs:List V}{H:Hp}{Q:VK}{E:XK}(h:sp_law K vs H Q E):vs.length=uj.length:=by
 first|(obtain⟨_,_,rfl,_⟩:=h;rfl)
theorem Kw{f:Addr}{fd:FuncData}(F:lg K "law" "law" nB f fd)(B:gf mg)(c_meets:aL P w K mg base "_law_meets" kK tM (je K))(c_due:aL P w K mg base "_law_due" mN v9 (lU K))(c_draw:aL P w K mg base "_law_draw" dO fV (bu K))(c_tests:aL P w K mg base "_law_tests" kN tP (kW K))(c_at_will:aL P w K mg base "_law_at_will" iD oE (iM K))(c_program:aL P w K mg base "_law_program" iH oJ (iP K)):d5 P w K mg base fH B0 f fd uj (sp_law K):=
 F.ok GD (λvs H Q E h=>Ic h) λcdv A outer s H vs Q E hr h=>⟨_,LY B c_meets c_due c_draw c_tests c_at_will c_program hr,MA (E:=E) h⟩
end
theorem all_mk{l:PySem.W.OpenLaw}{w:World}{K:Fg}{h:Heap}{mg:Str->Option Value}{fa:Addr}(X:K.In h)(G:h.Ns mainGlobals mg)(hfa:mg "law"=some (.ref fa))
  {C_BeltError:Addr} (zc_BeltError:aD K mainGlobals "BeltError"=some (some (.ref C_BeltError)))
  {C_NoLine:Addr} (zc_NoLine:aD K mainGlobals "NoLine"=some (some (.ref C_NoLine)))
  {C_NoProgram:Addr} (zc_NoProgram:aD K mainGlobals "NoProgram"=some (some (.ref C_NoProgram)))
  {C_Short:Addr} (zc_Short:aD K mainGlobals "Short"=some (some (.ref C_Short)))
  {nm_NoProgram q_NoProgram:Str} {N_NoProgram B_NoProgram:Addr} {bs_NoProgram:List Value} {sn_NoProgram:List Str} {sub_NoProgram:List Value} {ab_NoProgram:Bool} {col_NoProgram:Option Bool} {dd_NoProgram:Option Addr} {k0_NoProgram k1_NoProgram k2_NoProgram k3_NoProgram k5_NoProgram:Option Value}
  (lx_NoProgram:K.lookup C_NoProgram=some (EA nm_NoProgram q_NoProgram C_NoProgram N_NoProgram B_NoProgram bs_NoProgram true sn_NoProgram sub_NoProgram ab_NoProgram col_NoProgram dd_NoProgram k0_NoProgram k1_NoProgram k2_NoProgram k3_NoProgram k5_NoProgram)) (ga_NoProgram:cN K (.ref C_NoProgram) "__getattribute__"=some (some (.builtin "BaseException.__getattribute__"))) (gh_NoProgram:cN K (.ref C_NoProgram) "__getattr__"=some none) (sa_NoProgram:cN K (.ref C_NoProgram) "__setattr__"=some (some (.builtin "object.__setattr__")))
  {nm2_BeltError q2_BeltError:Str} {N2_BeltError:Addr} {bs2_BeltError bm2_BeltError:List Value} {hd2_BeltError:Bool} {sn2_BeltError:List Str} {sub2_BeltError:List Value} {ab2_BeltError:Bool} {col2_BeltError:Option Bool} {dd2_BeltError:Option Addr} {k02_BeltError k12_BeltError k22_BeltError k32_BeltError k52_BeltError:Option Value} {nid_BeltError:String}
  (le_BeltError:K.lookup C_BeltError=some (excClassObj nm2_BeltError q2_BeltError C_BeltError N2_BeltError bs2_BeltError bm2_BeltError hd2_BeltError sn2_BeltError sub2_BeltError ab2_BeltError col2_BeltError dd2_BeltError k02_BeltError k12_BeltError k22_BeltError k32_BeltError k52_BeltError nid_BeltError)) (me_BeltError:cV K C_BeltError (.type "BaseException")=some true)
  {nm2_NoProgram q2_NoProgram:Str} {N2_NoProgram:Addr} {bs2_NoProgram bm2_NoProgram:List Value} {hd2_NoProgram:Bool} {sn2_NoProgram:List Str} {sub2_NoProgram:List Value} {ab2_NoProgram:Bool} {col2_NoProgram:Option Bool} {dd2_NoProgram:Option Addr} {k02_NoProgram k12_NoProgram k22_NoProgram k32_NoProgram k52_NoProgram:Option Value} {nid_NoProgram:String}
  (le_NoProgram:K.lookup C_NoProgram=some (excClassObj nm2_NoProgram q2_NoProgram C_NoProgram N2_NoProgram bs2_NoProgram bm2_NoProgram hd2_NoProgram sn2_NoProgram sub2_NoProgram ab2_NoProgram col2_NoProgram dd2_NoProgram k02_NoProgram k12_NoProgram k22_NoProgram k32_NoProgram k52_NoProgram nid_NoProgram)) (me_NoProgram:cV K C_NoProgram (.type "BaseException")=some true)
  (kp_NoProgram:aI K (.ref C_NoProgram)=true)
  (xw_4:cN K (.ref C_NoProgram) "__class__"=some (some (.builtin "object.__class__")))
  (xm_5:cV K C_NoProgram (.ref C_NoProgram)=some true)
  (xm_6:cV K C_NoProgram (.ref C_BeltError)=some true)
  (xi_7:PySem.W.isIn K (.ref C_NoProgram) C_NoProgram=true)
  (xn_8:C_NoProgram≠C_NoLine) (xi_8:jQ K C_NoLine=true) (xt_8:iZ K (.ref C_NoLine)=some (.type "type")) (xs_8:oU K (.ref C_NoProgram) (.ref C_NoLine)=some false)
  (xn_9:C_NoProgram≠C_Short) (xi_9:jQ K C_Short=true) (xt_9:iZ K (.ref C_Short)=some (.type "type")) (xs_9:oU K (.ref C_NoProgram) (.ref C_Short)=some false)
  (z_ValueError:aD K mainGlobals "ValueError"=some none)
  (no_0:cN K (.ref C_NoProgram) "part"=some none)
  (no_1:cN K (.ref C_NoProgram) "row"=some none)
  (no_2:cN K (.ref C_NoProgram) "word"=some none)
  {od0 an0:Option Addr} {sl0:Array (Option Value)} {oc0 kV0 dc0 pm0 cd0 ct0:Value} {f0:Addr}
  (a0:aD K mainGlobals "reads"=some (some (.ref f0)))
  (l0:K.lookup f0=some ⟨oc0,od0,.func (aM "reads" "reads" (bN h9) (aO h9) (au h9) .none kV0 dc0 pm0 an0 cd0 ct0),sl0⟩) (c0:aK K cd0 "reads"=true) (k0:aI K (.ref f0)=true)
  {od1 an1:Option Addr} {sl1:Array (Option Value)} {oc1 kV1 dc1 pm1 cd1 ct1:Value} {f1:Addr}
  (a1:aD K mainGlobals "names_read"=some (some (.ref f1)))
  (l1:K.lookup f1=some ⟨oc1,od1,.func (aM "names_read" "names_read" (bN dQ) (aO dQ) (au dQ) .none kV1 dc1 pm1 an1 cd1 ct1),sl1⟩) (c1:aK K cd1 "names_read"=true) (k1:aI K (.ref f1)=true)
  {od2 an2:Option Addr} {sl2:Array (Option Value)} {oc2 kV2 dc2 pm2 cd2 ct2:Value} {f2:Addr}
  (a2:aD K mainGlobals "sets"=some (some (.ref f2)))
  (l2:K.lookup f2=some ⟨oc2,od2,.func (aM "sets" "sets" (bN jc) (aO jc) (au jc) .none kV2 dc2 pm2 an2 cd2 ct2),sl2⟩) (c2:aK K cd2 "sets"=true) (k2:aI K (.ref f2)=true)
  {od3 an3:Option Addr} {sl3:Array (Option Value)} {oc3 kV3 dc3 pm3 cd3 ct3:Value} {f3:Addr}
  (a3:aD K mainGlobals "goal"=some (some (.ref f3)))
  (l3:K.lookup f3=some ⟨oc3,od3,.func (aM "goal" "goal" (bN jb) (aO jb) (au jb) .none kV3 dc3 pm3 an3 cd3 ct3),sl3⟩) (c3:aK K cd3 "goal"=true) (k3:aI K (.ref f3)=true)
  {od4 an4:Option Addr} {sl4:Array (Option Value)} {oc4 kV4 dc4 pm4 cd4 ct4:Value} {f4:Addr}
  (a4:aD K mainGlobals "leads"=some (some (.ref f4)))
  (l4:K.lookup f4=some ⟨oc4,od4,.func (aM "leads" "leads" (bN hZ) (aO hZ) (au hZ) .none kV4 dc4 pm4 an4 cd4 ct4),sl4⟩) (c4:aK K cd4 "leads"=true) (k4:aI K (.ref f4)=true)
  {od5 an5:Option Addr} {sl5:Array (Option Value)} {oc5 kV5 dc5 pm5 cd5 ct5:Value} {f5:Addr}
  {T5:Addr} {ocT5:Value} {odT5:Option Addr} {nT5:Nat} {slT5:Array (Option Value)}
  (a5:aD K mainGlobals "walked"=some (some (.ref f5)))
  (l5:K.lookup f5=some ⟨oc5,od5,.func (aM "walked" "walked" (bN eQ) (aO eQ) (au eQ) (.ref T5) kV5 dc5 pm5 an5 cd5 ct5),sl5⟩) (c5:aK K cd5 "walked"=true) (k5:aI K (.ref f5)=true)
  (t5:K.lookup T5=some ⟨ocT5,odT5,.seq #[Value.none] nT5,slT5⟩)
  {od6 an6:Option Addr} {sl6:Array (Option Value)} {oc6 kV6 dc6 pm6 cd6 ct6:Value} {f6:Addr}
  (a6:aD K mainGlobals "unset_due"=some (some (.ref f6)))
  (l6:K.lookup f6=some ⟨oc6,od6,.func (aM "unset_due" "unset_due" (bN dI) (aO dI) (au dI) .none kV6 dc6 pm6 an6 cd6 ct6),sl6⟩) (c6:aK K cd6 "unset_due"=true) (k6:aI K (.ref f6)=true)
  {od7 an7:Option Addr} {sl7:Array (Option Value)} {oc7 kV7 dc7 pm7 cd7 ct7:Value} {f7:Addr}
  (a7:cN K (.ref C_NoProgram) "__init__"=some (some (.ref f7)))
  (l7:K.lookup f7=some ⟨oc7,od7,.func (aM "__init__" "NoProgram.__init__" (bN dm) (aO dm) (au dm) .none kV7 dc7 pm7 an7 cd7 ct7),sl7⟩) (c7:aK K cd7 "NoProgram.__init__"=true) (k7:aI K (.ref f7)=true)
  (i7:PySem.W.isFn K (.ref f7)=true)
  {od8 an8:Option Addr} {sl8:Array (Option Value)} {oc8 kV8 dc8 pm8 cd8 ct8:Value} {f8:Addr}
  (a8:aD K mainGlobals "refuse"=some (some (.ref f8)))
  (l8:K.lookup f8=some ⟨oc8,od8,.func (aM "refuse" "refuse" (bN gs) (aO gs) (au gs) .none kV8 dc8 pm8 an8 cd8 ct8),sl8⟩) (c8:aK K cd8 "refuse"=true) (k8:aI K (.ref f8)=true)
  {od9 an9:Option Addr} {sl9:Array (Option Value)} {oc9 kV9 dc9 pm9 cd9 ct9:Value} {f9:Addr}
  (a9:aD K mainGlobals "comes_round"=some (some (.ref f9)))
  (l9:K.lookup f9=some ⟨oc9,od9,.func (aM "comes_round" "comes_round" (bN dE) (aO dE) (au dE) .none kV9 dc9 pm9 an9 cd9 ct9),sl9⟩) (c9:aK K cd9 "comes_round"=true) (k9:aI K (.ref f9)=true)
  {od10 an10:Option Addr} {sl10:Array (Option Value)} {oc10 kV10 dc10 pm10 cd10 ct10:Value} {f10:Addr}
  (a10:aD K mainGlobals "ring_due"=some (some (.ref f10)))
  (l10:K.lookup f10=some ⟨oc10,od10,.func (aM "ring_due" "ring_due" (bN eY) (aO eY) (au eY) .none kV10 dc10 pm10 an10 cd10 ct10),sl10⟩) (c10:aK K cd10 "ring_due"=true) (k10:aI K (.ref f10)=true)
  {od11 an11:Option Addr} {sl11:Array (Option Value)} {oc11 kV11 dc11 pm11 cd11 ct11:Value} {f11:Addr}
  (a11:aD K mainGlobals "calls_amiss"=some (some (.ref f11)))
  (l11:K.lookup f11=some ⟨oc11,od11,.func (aM "calls_amiss" "calls_amiss" (bN dD) (aO dD) (au dD) .none kV11 dc11 pm11 an11 cd11 ct11),sl11⟩) (c11:aK K cd11 "calls_amiss"=true) (k11:aI K (.ref f11)=true)
  {od12 an12:Option Addr} {sl12:Array (Option Value)} {oc12 kV12 dc12 pm12 cd12 ct12:Value} {f12:Addr}
  (a12:aD K mainGlobals "goes_astray"=some (some (.ref f12)))
  (l12:K.lookup f12=some ⟨oc12,od12,.func (aM "goes_astray" "goes_astray" (bN dF) (aO dF) (au dF) .none kV12 dc12 pm12 an12 cd12 ct12),sl12⟩) (c12:aK K cd12 "goes_astray"=true) (k12:aI K (.ref f12)=true)
  {od13 an13:Option Addr} {sl13:Array (Option Value)} {oc13 kV13 dc13 pm13 cd13 ct13:Value} {f13:Addr}
  (a13:aD K mainGlobals "row_due"=some (some (.ref f13)))
  (l13:K.lookup f13=some ⟨oc13,od13,.func (aM "row_due" "row_due" (bN fF) (aO fF) (au fF) .none kV13 dc13 pm13 an13 cd13 ct13),sl13⟩) (c13:aK K cd13 "row_due"=true) (k13:aI K (.ref f13)=true)
  {od14 an14:Option Addr} {sl14:Array (Option Value)} {oc14 kV14 dc14 pm14 cd14 ct14:Value} {f14:Addr}
  (a14:aD K mainGlobals "name_due"=some (some (.ref f14)))
  (l14:K.lookup f14=some ⟨oc14,od14,.func (aM "name_due" "name_due" (bN eA) (aO eA) (au eA) .none kV14 dc14 pm14 an14 cd14 ct14),sl14⟩) (c14:aK K cd14 "name_due"=true) (k14:aI K (.ref f14)=true)
  {od15 an15:Option Addr} {sl15:Array (Option Value)} {oc15 kV15 dc15 pm15 cd15 ct15:Value} {f15:Addr}
  (a15:aD K mainGlobals "check"=some (some (.ref f15)))
  (l15:K.lookup f15=some ⟨oc15,od15,.func (aM "check" "check" (bN hW) (aO hW) (au hW) .none kV15 dc15 pm15 an15 cd15 ct15),sl15⟩) (c15:aK K cd15 "check"=true) (k15:aI K (.ref f15)=true)
  {od16 an16:Option Addr} {sl16:Array (Option Value)} {oc16 kV16 dc16 pm16 cd16 ct16:Value} {f16:Addr}
  (a16:aD K mainGlobals "_law_classes"=some (some (.ref f16)))
  (l16:K.lookup f16=some ⟨oc16,od16,.func (aM "_law_classes" "_law_classes" (bN hV) (aO hV) (au hV) .none kV16 dc16 pm16 an16 cd16 ct16),sl16⟩) (c16:aK K cd16 "_law_classes"=true) (k16:aI K (.ref f16)=true)
  {od17 an17:Option Addr} {sl17:Array (Option Value)} {oc17 kV17 dc17 pm17 cd17 ct17:Value} {f17:Addr}
  (a17:aD K mainGlobals "_law_told"=some (some (.ref f17)))
  (l17:K.lookup f17=some ⟨oc17,od17,.func (aM "_law_told" "_law_told" (bN m8) (aO m8) (au m8) .none kV17 dc17 pm17 an17 cd17 ct17),sl17⟩) (c17:aK K cd17 "_law_told"=true) (k17:aI K (.ref f17)=true)
  {od18 an18:Option Addr} {sl18:Array (Option Value)} {oc18 kV18 dc18 pm18 cd18 ct18:Value} {f18:Addr}
  (a18:aD K mainGlobals "_law_read"=some (some (.ref f18)))
  (l18:K.lookup f18=some ⟨oc18,od18,.func (aM "_law_read" "_law_read" (bN m7) (aO m7) (au m7) .none kV18 dc18 pm18 an18 cd18 ct18),sl18⟩) (c18:aK K cd18 "_law_read"=true) (k18:aI K (.ref f18)=true)
  {od19 an19:Option Addr} {sl19:Array (Option Value)} {oc19 kV19 dc19 pm19 cd19 ct19:Value} {f19:Addr}
  (a19:aD K mainGlobals "_law_next"=some (some (.ref f19)))
  (l19:K.lookup f19=some ⟨oc19,od19,.func (aM "_law_next" "_law_next" (bN m6) (aO m6) (au m6) .none kV19 dc19 pm19 an19 cd19 ct19),sl19⟩) (c19:aK K cd19 "_law_next"=true) (k19:aI K (.ref f19)=true)
  {od20 an20:Option Addr} {sl20:Array (Option Value)} {oc20 kV20 dc20 pm20 cd20 ct20:Value} {f20:Addr}
  (a20:aD K mainGlobals "_law_without"=some (some (.ref f20)))
  (l20:K.lookup f20=some ⟨oc20,od20,.func (aM "_law_without" "_law_without" (bN fY) (aO fY) (au fY) .none kV20 dc20 pm20 an20 cd20 ct20),sl20⟩) (c20:aK K cd20 "_law_without"=true) (k20:aI K (.ref f20)=true)
  {od21 an21:Option Addr} {sl21:Array (Option Value)} {oc21 kV21 dc21 pm21 cd21 ct21:Value} {f21:Addr}
  (a21:aD K mainGlobals "_law_unset"=some (some (.ref f21)))
  (l21:K.lookup f21=some ⟨oc21,od21,.func (aM "_law_unset" "_law_unset" (bN kz) (aO kz) (au kz) .none kV21 dc21 pm21 an21 cd21 ct21),sl21⟩) (c21:aK K cd21 "_law_unset"=true) (k21:aI K (.ref f21)=true)
  {od22 an22:Option Addr} {sl22:Array (Option Value)} {oc22 kV22 dc22 pm22 cd22 ct22:Value} {f22:Addr}
  (a22:aD K mainGlobals "_law_round"=some (some (.ref f22)))
  (l22:K.lookup f22=some ⟨oc22,od22,.func (aM "_law_round" "_law_round" (bN kx) (aO kx) (au kx) .none kV22 dc22 pm22 an22 cd22 ct22),sl22⟩) (c22:aK K cd22 "_law_round"=true) (k22:aI K (.ref f22)=true)
  {od23 an23:Option Addr} {sl23:Array (Option Value)} {oc23 kV23 dc23 pm23 cd23 ct23:Value} {f23:Addr}
  (a23:aD K mainGlobals "_law_bad_row"=some (some (.ref f23)))
  (l23:K.lookup f23=some ⟨oc23,od23,.func (aM "_law_bad_row" "_law_bad_row" (bN hU) (aO hU) (au hU) .none kV23 dc23 pm23 an23 cd23 ct23),sl23⟩) (c23:aK K cd23 "_law_bad_row"=true) (k23:aI K (.ref f23)=true)
  {od24 an24:Option Addr} {sl24:Array (Option Value)} {oc24 kV24 dc24 pm24 cd24 ct24:Value} {f24:Addr}
  (a24:aD K mainGlobals "_law_part_due"=some (some (.ref f24)))
  (l24:K.lookup f24=some ⟨oc24,od24,.func (aM "_law_part_due" "_law_part_due" (bN fi) (aO fi) (au fi) .none kV24 dc24 pm24 an24 cd24 ct24),sl24⟩) (c24:aK K cd24 "_law_part_due"=true) (k24:aI K (.ref f24)=true)
  {od25 an25:Option Addr} {sl25:Array (Option Value)} {oc25 kV25 dc25 pm25 cd25 ct25:Value} {f25:Addr}
  (a25:aD K mainGlobals "_law_due"=some (some (.ref f25)))
  (l25:K.lookup f25=some ⟨oc25,od25,.func (aM "_law_due" "_law_due" (bN qp) (aO qp) (au qp) .none kV25 dc25 pm25 an25 cd25 ct25),sl25⟩) (c25:aK K cd25 "_law_due"=true) (k25:aI K (.ref f25)=true)
  {od26 an26:Option Addr} {sl26:Array (Option Value)} {oc26 kV26 dc26 pm26 cd26 ct26:Value} {f26:Addr}
  (a26:aD K mainGlobals "_law_meets"=some (some (.ref f26)))
  (l26:K.lookup f26=some ⟨oc26,od26,.func (aM "_law_meets" "_law_meets" (bN ku) (aO ku) (au ku) .none kV26 dc26 pm26 an26 cd26 ct26),sl26⟩) (c26:aK K cd26 "_law_meets"=true) (k26:aI K (.ref f26)=true)
  {od27 an27:Option Addr} {sl27:Array (Option Value)} {oc27 kV27 dc27 pm27 cd27 ct27:Value} {f27:Addr}
  (a27:aD K mainGlobals "_law_draw"=some (some (.ref f27)))
  (l27:K.lookup f27=some ⟨oc27,od27,.func (aM "_law_draw" "_law_draw" (bN m5) (aO m5) (au m5) .none kV27 dc27 pm27 an27 cd27 ct27),sl27⟩) (c27:aK K cd27 "_law_draw"=true) (k27:aI K (.ref f27)=true)
  {od28 an28:Option Addr} {sl28:Array (Option Value)} {oc28 kV28 dc28 pm28 cd28 ct28:Value} {f28:Addr}
  (a28:aD K mainGlobals "_law_tests"=some (some (.ref f28)))
  (l28:K.lookup f28=some ⟨oc28,od28,.func (aM "_law_tests" "_law_tests" (bN ky) (aO ky) (au ky) .none kV28 dc28 pm28 an28 cd28 ct28),sl28⟩) (c28:aK K cd28 "_law_tests"=true) (k28:aI K (.ref f28)=true)
  {od29 an29:Option Addr} {sl29:Array (Option Value)} {oc29 kV29 dc29 pm29 cd29 ct29:Value} {f29:Addr}
  (a29:aD K mainGlobals "_law_at_will"=some (some (.ref f29)))
  (l29:K.lookup f29=some ⟨oc29,od29,.func (aM "_law_at_will" "_law_at_will" (bN gE) (aO gE) (au gE) .none kV29 dc29 pm29 an29 cd29 ct29),sl29⟩) (c29:aK K cd29 "_law_at_will"=true) (k29:aI K (.ref f29)=true)
  {od30 an30:Option Addr} {sl30:Array (Option Value)} {oc30 kV30 dc30 pm30 cd30 ct30:Value} {f30:Addr}
  (a30:aD K mainGlobals "_law_filled"=some (some (.ref f30)))
  (l30:K.lookup f30=some ⟨oc30,od30,.func (aM "_law_filled" "_law_filled" (bN iu) (aO iu) (au iu) .none kV30 dc30 pm30 an30 cd30 ct30),sl30⟩) (c30:aK K cd30 "_law_filled"=true) (k30:aI K (.ref f30)=true)
  {od31 an31:Option Addr} {sl31:Array (Option Value)} {oc31 kV31 dc31 pm31 cd31 ct31:Value} {f31:Addr}
  (a31:aD K mainGlobals "_law_leads"=some (some (.ref f31)))
  (l31:K.lookup f31=some ⟨oc31,od31,.func (aM "_law_leads" "_law_leads" (bN kr) (aO kr) (au kr) .none kV31 dc31 pm31 an31 cd31 ct31),sl31⟩) (c31:aK K cd31 "_law_leads"=true) (k31:aI K (.ref f31)=true)
  {od32 an32:Option Addr} {sl32:Array (Option Value)} {oc32 kV32 dc32 pm32 cd32 ct32:Value} {f32:Addr}
  (a32:aD K mainGlobals "_law_set_names"=some (some (.ref f32)))
  (l32:K.lookup f32=some ⟨oc32,od32,.func (aM "_law_set_names" "_law_set_names" (bN eD) (aO eD) (au eD) .none kV32 dc32 pm32 an32 cd32 ct32),sl32⟩) (c32:aK K cd32 "_law_set_names"=true) (k32:aI K (.ref f32)=true)
  {od33 an33:Option Addr} {sl33:Array (Option Value)} {oc33 kV33 dc33 pm33 cd33 ct33:Value} {f33:Addr}
  (a33:aD K mainGlobals "_law_mended"=some (some (.ref f33)))
  (l33:K.lookup f33=some ⟨oc33,od33,.func (aM "_law_mended" "_law_mended" (bN ja) (aO ja) (au ja) .none kV33 dc33 pm33 an33 cd33 ct33),sl33⟩) (c33:aK K cd33 "_law_mended"=true) (k33:aI K (.ref f33)=true)
  {od34 an34:Option Addr} {sl34:Array (Option Value)} {oc34 kV34 dc34 pm34 cd34 ct34:Value} {f34:Addr}
  (a34:aD K mainGlobals "_law_worth"=some (some (.ref f34)))
  (l34:K.lookup f34=some ⟨oc34,od34,.func (aM "_law_worth" "_law_worth" (bN kA) (aO kA) (au kA) .none kV34 dc34 pm34 an34 cd34 ct34),sl34⟩) (c34:aK K cd34 "_law_worth"=true) (k34:aI K (.ref f34)=true)
  {od35 an35:Option Addr} {sl35:Array (Option Value)} {oc35 kV35 dc35 pm35 cd35 ct35:Value} {f35:Addr}
  (a35:aD K mainGlobals "_law_rough_row"=some (some (.ref f35)))
  (l35:K.lookup f35=some ⟨oc35,od35,.func (aM "_law_rough_row" "_law_rough_row" (bN fG) (aO fG) (au fG) .none kV35 dc35 pm35 an35 cd35 ct35),sl35⟩) (c35:aK K cd35 "_law_rough_row"=true) (k35:aI K (.ref f35)=true)
  {od36 an36:Option Addr} {sl36:Array (Option Value)} {oc36 kV36 dc36 pm36 cd36 ct36:Value} {f36:Addr}
  (a36:aD K mainGlobals "_law_part"=some (some (.ref f36)))
  (l36:K.lookup f36=some ⟨oc36,od36,.func (aM "_law_part" "_law_part" (bN lT) (aO lT) (au lT) .none kV36 dc36 pm36 an36 cd36 ct36),sl36⟩) (c36:aK K cd36 "_law_part"=true) (k36:aI K (.ref f36)=true)
  {od37 an37:Option Addr} {sl37:Array (Option Value)} {oc37 kV37 dc37 pm37 cd37 ct37:Value} {f37:Addr}
  (a37:aD K mainGlobals "_law_names"=some (some (.ref f37)))
  (l37:K.lookup f37=some ⟨oc37,od37,.func (aM "_law_names" "_law_names" (bN jF) (aO jF) (au jF) .none kV37 dc37 pm37 an37 cd37 ct37),sl37⟩) (c37:aK K cd37 "_law_names"=true) (k37:aI K (.ref f37)=true)
  {od38 an38:Option Addr} {sl38:Array (Option Value)} {oc38 kV38 dc38 pm38 cd38 ct38:Value} {f38:Addr}
  (a38:aD K mainGlobals "_law_program"=some (some (.ref f38)))
  (l38:K.lookup f38=some ⟨oc38,od38,.func (aM "_law_program" "_law_program" (bN gF) (aO gF) (au gF) .none kV38 dc38 pm38 an38 cd38 ct38),sl38⟩) (c38:aK K cd38 "_law_program"=true) (k38:aI K (.ref f38)=true)
  {od39 an39:Option Addr} {sl39:Array (Option Value)} {oc39 kV39 dc39 pm39 cd39 ct39:Value} {f39:Addr}
  (a39:aD K mainGlobals "law"=some (some (.ref f39)))
  (l39:K.lookup f39=some ⟨oc39,od39,.func (aM "law" "law" (bN nB) (aO nB) (au nB) .none kV39 dc39 pm39 an39 cd39 ct39),sl39⟩) (c39:aK K cd39 "law"=true) (k39:aI K (.ref f39)=true)
  (z_len:aD K mainGlobals "len"=some none) (z_range:aD K mainGlobals "range"=some none) (z_divmod:aD K mainGlobals "divmod"=some none) (z_max:aD K mainGlobals "max"=some none) (z_min:aD K mainGlobals "min"=some none) (z_sum:aD K mainGlobals "sum"=some none) (z_all:aD K mainGlobals "all"=some none) (z_isinstance:aD K mainGlobals "isinstance"=some none) (z_int:aD K mainGlobals "int"=some none) (z_bool:aD K mainGlobals "bool"=some none) (z_list:aD K mainGlobals "list"=some none) (z_tuple:aD K mainGlobals "tuple"=some none) (z_enumerate:aD K mainGlobals "enumerate"=some none) (z_zip:aD K mainGlobals "zip"=some none) (z_sorted:aD K mainGlobals "sorted"=some none) (z_set:aD K mainGlobals "set"=some none) (z_dict:aD K mainGlobals "dict"=some none) (z_str:aD K mainGlobals "str"=some none) (z_any:aD K mainGlobals "any"=some none) (z_reversed:aD K mainGlobals "reversed"=some none) (z_abs:aD K mainGlobals "abs"=some none) :
  ∃fd:FuncData,(∀(s:Shared) (v:Value),BindsTo s fd ⟨[v],[]⟩ [("_law_script",v)])/\∀base:Heap,K.In base->base.Ns mainGlobals mg->d5 l.prog w K mg base fH B0 fa fd uj (sp_law K):=by
 have e:=hfa.symm.trans (aN X G a39)
 cases e
 have B:gf mg:=⟨bj X G z_len,bj X G z_range,bj X G z_divmod,bj X G z_max,bj X G z_min,bj X G z_sum,bj X G z_all,bj X G z_isinstance,bj X G z_int,bj X G z_bool,bj X G z_list,bj X G z_tuple,bj X G z_enumerate,bj X G z_zip,bj X G z_sorted,bj X G z_set,bj X G z_dict,bj X G z_str,bj X G z_any,bj X G z_reversed,bj X G z_abs⟩
 have eC_BeltError:cS K "BeltError"=C_BeltError:=qc zc_BeltError
 have eC_NoLine:cS K "NoLine"=C_NoLine:=qc zc_NoLine
 have eC_NoProgram:cS K "NoProgram"=C_NoProgram:=qc zc_NoProgram
 have eC_Short:cS K "Short"=C_Short:=qc zc_Short
 have xc_NoProgram:ur K C_NoProgram:=⟨⟨_,_,_,_,_,_,_,_,_,_,_,_,_,_,_,lx_NoProgram⟩,ga_NoProgram,gh_NoProgram,sa_NoProgram⟩
 have xe_BeltError:J5 K C_BeltError:=⟨⟨_,_,_,_,_,_,_,_,_,_,_,_,_,_,_,_,_,le_BeltError⟩,me_BeltError⟩
 have xe_NoProgram:J5 K C_NoProgram:=⟨⟨_,_,_,_,_,_,_,_,_,_,_,_,_,_,_,_,_,le_NoProgram⟩,me_NoProgram⟩
 have g_BeltError:mg "BeltError"=some (.ref (cS K "BeltError")):=aN X G zc_BeltError |>.trans (by rw[eC_BeltError])
 have z_ValueError:mg "ValueError"=none:=bj X G z_ValueError
 have g_NoProgram:mg "NoProgram"=some (.ref (cS K "NoProgram")):=aN X G zc_NoProgram |>.trans (by rw[eC_NoProgram])
 have g_NoLine:mg "NoLine"=some (.ref (cS K "NoLine")):=aN X G zc_NoLine |>.trans (by rw[eC_NoLine])
 have g_Short:mg "Short"=some (.ref (cS K "Short")):=aN X G zc_Short |>.trans (by rw[eC_Short])
 have T:xH K:=⟨(by rw[eC_NoProgram];exact xc_NoProgram),(by rw[eC_NoProgram];exact no_0),(by rw[eC_NoProgram];exact no_1),(by rw[eC_NoProgram];exact no_2),(by rw[eC_NoProgram];exact xw_4),(by rw[eC_NoProgram];exact⟨xc_NoProgram,xe_NoProgram,xm_5⟩),(by rw[eC_NoProgram,eC_BeltError];exact⟨xc_NoProgram,xe_BeltError,xm_6⟩),(by rw[eC_NoProgram];exact xi_7),(by rw[eC_NoProgram,eC_NoLine];exact⟨xn_8,xi_8,xt_8,xs_8⟩),(by rw[eC_NoProgram,eC_Short];exact⟨xn_9,xi_9,xt_9,xs_9⟩)⟩
 have F0:=cQ (st:=h9) l0 c0 k0
 have b0:=F0.binds (ps:=gk) λ_ _ _ _ _ _ us hl=>by(obtain⟨_,rfl⟩:=Cr (us:=us) hl);rfl
 have F1:=cQ (st:=dQ) l1 c1 k1
 have b1:=F1.binds (ps:=eO) λ_ _ _ _ _ _ us hl=>by(obtain⟨_,rfl⟩:=Cr (us:=us) hl);rfl
 have F2:=cQ (st:=jc) l2 c2 k2
 have b2:=F2.binds (ps:=jq) λ_ _ _ _ _ _ us hl=>by(obtain⟨_,rfl⟩:=Cr (us:=us) hl);rfl
 have F3:=cQ (st:=jb) l3 c3 k3
 have b3:=F3.binds (ps:=fW) λ_ _ _ _ _ _ us hl=>by(obtain⟨_,rfl⟩:=Cr (us:=us) hl);rfl
 have F4:=cQ (st:=hZ) l4 c4 k4
 have b4:=F4.binds (ps:=iG) λ_ _ _ _ _ _ us hl=>by(obtain⟨_,_,rfl⟩:=AA (us:=us) hl);rfl
 have F5:=HN (st:=eQ) l5 c5 k5
 have F6:=cQ (st:=dI) l6 c6 k6
 have b6:=F6.binds (ps:=fg) λ_ _ _ _ _ _ us hl=>by(obtain⟨_,rfl⟩:=Cr (us:=us) hl);rfl
 have F7:=cQ (st:=dm) l7 c7 k7
 have b7:=F7.binds (ps:=dN) λ_ _ _ _ _ _ us hl=>by(obtain⟨_,_,_,_,rfl⟩:=Nf (us:=us) hl);rfl
 have F8:=cQ (st:=gs) l8 c8 k8
 have b8:=F8.binds (ps:=gO) λ_ _ _ _ _ _ us hl=>by(obtain⟨_,_,_,rfl⟩:=LH (us:=us) hl);rfl
 have F9:=cQ (st:=dE) l9 c9 k9
 have b9:=F9.binds (ps:=d7) λ_ _ _ _ _ _ us hl=>by(obtain⟨_,_,rfl⟩:=AA (us:=us) hl);rfl
 have F10:=cQ (st:=eY) l10 c10 k10
 have b10:=F10.binds (ps:=fL) λ_ _ _ _ _ _ us hl=>by(obtain⟨_,rfl⟩:=Cr (us:=us) hl);rfl
 have F11:=cQ (st:=dD) l11 c11 k11
 have b11:=F11.binds (ps:=d6) λ_ _ _ _ _ _ us hl=>by(obtain⟨_,_,rfl⟩:=AA (us:=us) hl);rfl
 have F12:=cQ (st:=dF) l12 c12 k12
 have b12:=F12.binds (ps:=d8) λ_ _ _ _ _ _ us hl=>by(obtain⟨_,_,rfl⟩:=AA (us:=us) hl);rfl
 have F13:=cQ (st:=fF) l13 c13 k13
 have b13:=F13.binds (ps:=gm) λ_ _ _ _ _ _ us hl=>by(obtain⟨_,_,rfl⟩:=AA (us:=us) hl);rfl
 have F14:=cQ (st:=eA) l14 c14 k14
 have b14:=F14.binds (ps:=fK) λ_ _ _ _ _ _ us hl=>by(obtain⟨_,_,rfl⟩:=AA (us:=us) hl);rfl
 have F15:=cQ (st:=hW) l15 c15 k15
 have b15:=F15.binds (ps:=gj) λ_ _ _ _ _ _ us hl=>by(obtain⟨_,rfl⟩:=Cr (us:=us) hl);rfl
 have F16:=cQ (st:=hV) l16 c16 k16
 have b16:=F16.binds (ps:=iF) λ_ _ _ _ _ _ us hl=>by(obtain⟨_,rfl⟩:=Cr (us:=us) hl);rfl
 have F17:=cQ (st:=m8) l17 c17 k17
 have b17:=F17.binds (ps:=mR) λ_ _ _ _ _ _ us hl=>by(obtain⟨_,rfl⟩:=Cr (us:=us) hl);rfl
 have F18:=cQ (st:=m7) l18 c18 k18
 have b18:=F18.binds (ps:=mQ) λ_ _ _ _ _ _ us hl=>by(obtain⟨_,rfl⟩:=Cr (us:=us) hl);rfl
 have F19:=cQ (st:=m6) l19 c19 k19
 have b19:=F19.binds (ps:=mO) λ_ _ _ _ _ _ us hl=>by(obtain⟨_,_,rfl⟩:=AA (us:=us) hl);rfl
 have F20:=cQ (st:=fY) l20 c20 k20
 have b20:=F20.binds (ps:=iI) λ_ _ _ _ _ _ us hl=>by(obtain⟨_,_,_,rfl⟩:=LH (us:=us) hl);rfl
 have F21:=cQ (st:=kz) l21 c21 k21
 have b21:=F21.binds (ps:=kO) λ_ _ _ _ _ _ us hl=>by(obtain⟨_,_,rfl⟩:=AA (us:=us) hl);rfl
 have F22:=cQ (st:=kx) l22 c22 k22
 have b22:=F22.binds (ps:=kM) λ_ _ _ _ _ _ us hl=>by(obtain⟨_,_,rfl⟩:=AA (us:=us) hl);rfl
 have F23:=cQ (st:=hU) l23 c23 k23
 have b23:=F23.binds (ps:=iE) λ_ _ _ _ _ _ us hl=>by(obtain⟨_,_,_,rfl⟩:=LH (us:=us) hl);rfl
 have F24:=cQ (st:=fi) l24 c24 k24
 have b24:=F24.binds (ps:=gQ) λ_ _ _ _ _ _ us hl=>by(obtain⟨_,_,rfl⟩:=AA (us:=us) hl);rfl
 have F25:=cQ (st:=qp) l25 c25 k25
 have b25:=F25.binds (ps:=mN) λ_ _ _ _ _ _ us hl=>by(obtain⟨_,rfl⟩:=Cr (us:=us) hl);rfl
 have F26:=cQ (st:=ku) l26 c26 k26
 have b26:=F26.binds (ps:=kK) λ_ _ _ _ _ _ us hl=>by(obtain⟨_,rfl⟩:=Cr (us:=us) hl);rfl
 have F27:=cQ (st:=m5) l27 c27 k27
 have b27:=F27.binds (ps:=dO) λ_ _ _ _ _ _ us hl=>by(obtain⟨_,_,rfl⟩:=AA (us:=us) hl);rfl
 have F28:=cQ (st:=ky) l28 c28 k28
 have b28:=F28.binds (ps:=kN) λ_ _ _ _ _ _ us hl=>by(obtain⟨_,rfl⟩:=Cr (us:=us) hl);rfl
 have F29:=cQ (st:=gE) l29 c29 k29
 have b29:=F29.binds (ps:=iD) λ_ _ _ _ _ _ us hl=>by(obtain⟨_,_,rfl⟩:=AA (us:=us) hl);rfl
 have F30:=cQ (st:=iu) l30 c30 k30
 have b30:=F30.binds (ps:=jm) λ_ _ _ _ _ _ us hl=>by(obtain⟨_,_,_,rfl⟩:=LH (us:=us) hl);rfl
 have F31:=cQ (st:=kr) l31 c31 k31
 have b31:=F31.binds (ps:=kJ) λ_ _ _ _ _ _ us hl=>by(obtain⟨_,_,rfl⟩:=AA (us:=us) hl);rfl
 have F32:=cQ (st:=eD) l32 c32 k32
 have b32:=F32.binds (ps:=gq) λ_ _ _ _ _ _ us hl=>by(obtain⟨_,_,_,rfl⟩:=LH (us:=us) hl);rfl
 have F33:=cQ (st:=ja) l33 c33 k33
 have b33:=F33.binds (ps:=jo) λ_ _ _ _ _ _ us hl=>by(obtain⟨_,_,_,rfl⟩:=LH (us:=us) hl);rfl
 have F34:=cQ (st:=kA) l34 c34 k34
 have b34:=F34.binds (ps:=kP) λ_ _ _ _ _ _ us hl=>by(obtain⟨_,rfl⟩:=Cr (us:=us) hl);rfl
 have F35:=cQ (st:=fG) l35 c35 k35
 have b35:=F35.binds (ps:=gp) λ_ _ _ _ _ _ us hl=>by(obtain⟨_,_,_,_,rfl⟩:=Nf (us:=us) hl);rfl
 have F36:=cQ (st:=lT) l36 c36 k36
 have b36:=F36.binds (ps:=mP) λ_ _ _ _ _ _ us hl=>by(obtain⟨_,_,_,_,_,_,rfl⟩:=Nu (us:=us) hl);rfl
 have F37:=cQ (st:=jF) l37 c37 k37
 have b37:=F37.binds (ps:=kL) λ_ _ _ _ _ _ us hl=>by(obtain⟨_,_,rfl⟩:=AA (us:=us) hl);rfl
 have F38:=cQ (st:=gF) l38 c38 k38
 have b38:=F38.binds (ps:=iH) λ_ _ _ _ _ _ us hl=>by(obtain⟨_,_,rfl⟩:=AA (us:=us) hl);rfl
 have F39:=cQ (st:=nB) l39 c39 k39
 refine⟨aM "law" "law" (bN nB) (aO nB) (au nB) .none kV39 dc39 pm39 an39 cd39 ct39,λs v=>.of_eq rfl,λbase _ _=>?_⟩
 have c_p_reads:aL l.prog w K mg base "reads" gk kD (fO K):=⟨⟨_,_,aN X G a0,k0,b0,Bq F0 B⟩⟩
 have c_p_names_read:aL l.prog w K mg base "names_read" eO i4 (eR K):=⟨⟨_,_,aN X G a1,k1,b1,tF F1 B c_p_reads⟩⟩
 have c_p_sets:aL l.prog w K mg base "sets" jq pW (jA K):=⟨⟨_,_,aN X G a2,k2,b2,DZ F2 B⟩⟩
 have c_p_goal:aL l.prog w K mg base "goal" fW jI (eJ K):=⟨⟨_,_,aN X G a3,k3,b3,DY F3 B⟩⟩
 have c_p_leads:aL l.prog w K mg base "leads" iG oH (gW K):=⟨⟨_,_,aN X G a4,k4,b4,Bp F4 B c_p_goal⟩⟩
 have b5_0:nN K _ gP []:=λs us X hl=>by(obtain⟨_,_,rfl⟩:=AA (us:=us) (show us.length=2 from by rw[eK] at hl;exact hl));exact PySem.W.binds_K (fd:=aM "walked" "walked" (bN eQ) (aO eQ) (au eQ) (.ref T5) kV5 dc5 pm5 an5 cd5 ct5) X rfl t5 rfl rfl rfl
 have c_p_walked:aL l.prog w K mg base "walked" gP mJ (gX K):=⟨⟨_,_,aN X G a5,k5,b5_0,zr F5 B c_p_sets c_p_leads⟩⟩
 have c_p_unset_due:aL l.prog w K mg base "unset_due" fg jD (fj K):=⟨⟨_,_,aN X G a6,k6,b6,uN F6 B c_p_names_read c_p_walked c_p_reads⟩⟩
 have mx_NoProgram:B9 l.prog w K mg base "NoProgram" (cS K "NoProgram") dN g8 (dR K):=⟨⟨f7,_,aN X G zc_NoProgram |>.trans (by rw[eC_NoProgram]),by rw[eC_NoProgram];exact⟨xc_NoProgram,a7,i7,kp_NoProgram⟩,b7,ql F7 B T⟩⟩
 have c_p_refuse:j8 l.prog w K mg base "refuse" gO mI (eZ K):=⟨⟨_,_,aN X G a8,k8,b8,zq F8 B T mx_NoProgram⟩⟩
 have c_p_comes_round:aL l.prog w K mg base "comes_round" d7 iy (ee K):=⟨⟨_,_,aN X G a9,k9,b9,rH F9 B c_p_goal⟩⟩
 have c_p_ring_due:aL l.prog w K mg base "ring_due" fL kc (fP K):=⟨⟨_,_,aN X G a10,k10,b10,vJ F10 B c_p_comes_round⟩⟩
 have c_p_calls_amiss:aL l.prog w K mg base "calls_amiss" d6 iw (d9 K):=⟨⟨_,_,aN X G a11,k11,b11,rG F11 B⟩⟩
 have c_p_goes_astray:aL l.prog w K mg base "goes_astray" d8 iz (ef K):=⟨⟨_,_,aN X G a12,k12,b12,rJ F12 B c_p_goal⟩⟩
 have c_p_row_due:aL l.prog w K mg base "row_due" gm lx (gu K):=⟨⟨_,_,aN X G a13,k13,b13,yf F13 B c_p_calls_amiss c_p_goes_astray⟩⟩
 have c_p_name_due:aL l.prog w K mg base "name_due" fK j9 (fN K):=⟨⟨_,_,aN X G a14,k14,b14,vI F14 B⟩⟩
 have c_p_check:j8 l.prog w K mg base "check" gj kC (fM K):=⟨⟨_,_,aN X G a15,k15,b15,Bo F15 B c_p_unset_due c_p_refuse c_p_ring_due c_p_row_due c_p_name_due⟩⟩
 have c_classes:aL l.prog w K mg base "_law_classes" iF oG (iO K):=⟨⟨_,_,aN X G a16,k16,b16,Bn F16 B T g_BeltError z_ValueError g_NoProgram g_NoLine g_Short c_p_check⟩⟩
 have c_told:aL l.prog w K mg base "_law_told" mR xx (nh K):=⟨⟨_,_,aN X G a17,k17,b17,Io F17 B T g_NoProgram c_p_check⟩⟩
 have c_read:aL l.prog w K mg base "_law_read" mQ xw (ng K):=⟨⟨_,_,aN X G a18,k18,b18,Im F18 B⟩⟩
 have c_next:aL l.prog w K mg base "_law_next" mO xt (kB K):=⟨⟨_,_,aN X G a19,k19,b19,Ik F19 B⟩⟩
 have c_without:aL l.prog w K mg base "_law_without" iI oK (iQ K):=⟨⟨_,_,aN X G a20,k20,b20,Bs F20 B c_next⟩⟩
 have c_unset:aL l.prog w K mg base "_law_unset" kO tQ (kX K):=⟨⟨_,_,aN X G a21,k21,b21,FM F21 B c_read c_without⟩⟩
 have c_round:aL l.prog w K mg base "_law_round" kM tO (kU K):=⟨⟨_,_,aN X G a22,k22,b22,FK F22 B⟩⟩
 have c_bad_row:aL l.prog w K mg base "_law_bad_row" iE oF (iN K):=⟨⟨_,_,aN X G a23,k23,b23,Bm F23 B⟩⟩
 have c_part_due:aL l.prog w K mg base "_law_part_due" gQ mK (gY K):=⟨⟨_,_,aN X G a24,k24,b24,zt F24 B c_unset c_round c_bad_row⟩⟩
 have c_due:aL l.prog w K mg base "_law_due" mN v9 (lU K):=⟨⟨_,_,aN X G a25,k25,b25,Kv F25 B c_part_due⟩⟩
 have c_meets:aL l.prog w K mg base "_law_meets" kK tM (je K):=⟨⟨_,_,aN X G a26,k26,b26,FI F26 B c_classes c_told c_due⟩⟩
 have c_draw:aL l.prog w K mg base "_law_draw" dO fV (bu K):=⟨⟨_,_,aN X G a27,k27,b27,Ij F27 B⟩⟩
 have c_tests:aL l.prog w K mg base "_law_tests" kN tP (kW K):=⟨⟨_,_,aN X G a28,k28,b28,FL F28 B c_draw⟩⟩
 have c_at_will:aL l.prog w K mg base "_law_at_will" iD oE (iM K):=⟨⟨_,_,aN X G a29,k29,b29,Bl F29 B c_draw⟩⟩
 have c_filled:aL l.prog w K mg base "_law_filled" jm pU (jy K):=⟨⟨_,_,aN X G a30,k30,b30,DW F30 B c_draw⟩⟩
 have c_leads:aL l.prog w K mg base "_law_leads" kJ tL (kT K):=⟨⟨_,_,aN X G a31,k31,b31,FH F31 B⟩⟩
 have c_set_names:aL l.prog w K mg base "_law_set_names" gq lz (gz K):=⟨⟨_,_,aN X G a32,k32,b32,yh F32 B c_leads⟩⟩
 have c_mended:aL l.prog w K mg base "_law_mended" jo pV (jz K):=⟨⟨_,_,aN X G a33,k33,b33,DX F33 B⟩⟩
 have c_worth:aL l.prog w K mg base "_law_worth" kP tR (kY K):=⟨⟨_,_,aN X G a34,k34,b34,FN F34 B c_draw⟩⟩
 have c_rough_row:aL l.prog w K mg base "_law_rough_row" gp ly (gy K):=⟨⟨_,_,aN X G a35,k35,b35,yg F35 B c_draw c_worth⟩⟩
 have c_part:aL l.prog w K mg base "_law_part" mP xu (m9 K):=⟨⟨_,_,aN X G a36,k36,b36,Il F36 B c_filled c_set_names c_mended c_rough_row c_draw⟩⟩
 have c_names:aL l.prog w K mg base "_law_names" kL tN (jN K):=⟨⟨_,_,aN X G a37,k37,b37,FJ F37 B c_draw⟩⟩
 have c_program:aL l.prog w K mg base "_law_program" iH oJ (iP K):=⟨⟨_,_,aN X G a38,k38,b38,Br F38 B c_part c_draw c_names⟩⟩
 exact Kw F39 B c_meets c_due c_draw c_tests c_at_will c_program
theorem Lw{K:Fg}{H:Hp}{a:Addr}{ns:List Int}(o:Hj H)(h:cz K H a (ns.map V.int)):lA K H a ns:=by
 rcases h with(h|h)|h
 ·rcases o a with z|⟨ob,xs,z⟩<;>rw[h] at z<;>cases z
 ·exact .inl h
 ·exact .inr h
theorem walk{l:PySem.W.OpenLaw}{q:Program}{loose:List Str}{XP:(Str->Option Value)->Heap->Prop}{YP:World->Heap->Prop}{d:DefRec}{K:Params->Fg}(hn:l.most=some 63)(hdf:d.params.defaults=[])
  (hY:∀(w:World) (h:Heap),YP w h->(K w.params).In h)
  (F:∀(w:World) (mg:Str->Option Value) (fa:Addr) (h:Heap),(K w.params).In h->h.Ns mainGlobals mg->mg d.name=some (.ref fa)->
   ∃fd:FuncData,(∀(s:Shared) (u:Value),BindsTo s fd ⟨[u],[]⟩ [("_law_script",u)])/\∀base:Heap,(K w.params).In base->base.Ns mainGlobals mg->d5 l.prog w (K w.params) mg base fH B0 fa fd uj (sp_law (K w.params))) :
  PySem.W.WalkO q loose XP YP l.row.toRowW d [] (λf vs=>uc f vs):=
 L2.walk_of (n:=63) (k:=B0) (x:="_law_script") (CX:=λ_=>fH) (sp:=λw=>sp_law (K w.params)) hn (by decide) hdf ⟨rfl,by decide,by decide⟩ hY F (λ_ _ a ns hl hO hS=>⟨a,ns,rfl,Lw hO hS,hl,λ_=>rfl⟩) λ_ _ _ _ _ z=>z
end Bg
open PySem PySem.W PyProof.Rows
def PySem.W.Fast.tw16807368603726513057:Unit:=()
def PySem.W.Fast.tw4748535878271630938:Unit:=()
def PySem.W.Fast.tw14140809005217293034:Unit:=()
def PySem.W.Fast.tw9690457790002199128:Unit:=()
def PySem.W.Fast.tw6110277678437496234:Unit:=()
def PySem.W.Fast.tw72584412446762100:Unit:=()
def PySem.W.Fast.tw14091718736920851213:Unit:=()
def PySem.W.Fast.tw13649555596216750176:Unit:=()
def PySem.W.Fast.tw486537743026269474:Unit:=()
def PySem.W.Fast.tw4195073644867930991:Unit:=()
def PySem.W.Fast.tw8247774814795241089:Unit:=()
def PySem.W.Fast.tw13715391244024513106:Unit:=()
def PySem.W.Fast.tw7312343087493220038:Unit:=()
set_option maxRecDepth 100000 in
set_option maxHeartbeats 0 in
theorem PySem.Challenge.cw_beltgarth_k13_unset_names_holds : PySem.Challenge.rw_beltgarth_k13_unset_names.Holds := by
 w_on;o_law;k_head;(case hw=>w_witness2)
 k_fill
 refine Bg.walk (l:=PySem.Challenge.rw_beltgarth_k13_unset_names) rfl rfl (λw h Y=>PySem.W.kIn_of Y) ?F
 case F=>
  intro w mg fa h KX G hmg
  refine' Bg.all_mk KX G hmg ?zc_BeltError ?zc_NoLine ?zc_NoProgram ?zc_Short ?lx_NoProgram ?ga_NoProgram ?gh_NoProgram ?sa_NoProgram ?le_BeltError ?me_BeltError ?le_NoProgram ?me_NoProgram ?kp_NoProgram ?xw_4 ?xm_5 ?xm_6 ?xi_7 ?xn_8 ?xi_8 ?xt_8 ?xs_8 ?xn_9 ?xi_9 ?xt_9 ?xs_9 ?z_ValueError ?no_0 ?no_1 ?no_2 ?a0 ?l0 ?c0 ?k0 ?a1 ?l1 ?c1 ?k1 ?a2 ?l2 ?c2 ?k2 ?a3 ?l3 ?c3 ?k3 ?a4 ?l4 ?c4 ?k4 ?a5 ?l5 ?c5 ?k5 ?t5 ?a6 ?l6 ?c6 ?k6 ?a7 ?l7 ?c7 ?k7 ?i7 ?a8 ?l8 ?c8 ?k8 ?a9 ?l9 ?c9 ?k9 ?a10 ?l10 ?c10 ?k10 ?a11 ?l11 ?c11 ?k11 ?a12 ?l12 ?c12 ?k12 ?a13 ?l13 ?c13 ?k13 ?a14 ?l14 ?c14 ?k14 ?a15 ?l15 ?c15 ?k15 ?a16 ?l16 ?c16 ?k16 ?a17 ?l17 ?c17 ?k17 ?a18 ?l18 ?c18 ?k18 ?a19 ?l19 ?c19 ?k19 ?a20 ?l20 ?c20 ?k20 ?a21 ?l21 ?c21 ?k21 ?a22 ?l22 ?c22 ?k22 ?a23 ?l23 ?c23 ?k23 ?a24 ?l24 ?c24 ?k24 ?a25 ?l25 ?c25 ?k25 ?a26 ?l26 ?c26 ?k26 ?a27 ?l27 ?c27 ?k27 ?a28 ?l28 ?c28 ?k28 ?a29 ?l29 ?c29 ?k29 ?a30 ?l30 ?c30 ?k30 ?a31 ?l31 ?c31 ?k31 ?a32 ?l32 ?c32 ?k32 ?a33 ?l33 ?c33 ?k33 ?a34 ?l34 ?c34 ?k34 ?a35 ?l35 ?c35 ?k35 ?a36 ?l36 ?c36 ?k36 ?a37 ?l37 ?c37 ?k37 ?a38 ?l38 ?c38 ?k38 ?a39 ?l39 ?c39 ?k39 ?z_len ?z_range ?z_divmod ?z_max ?z_min ?z_sum ?z_all ?z_isinstance ?z_int ?z_bool ?z_list ?z_tuple ?z_enumerate ?z_zip ?z_sorted ?z_set ?z_dict ?z_str ?z_any ?z_reversed ?z_abs
  (case zc_BeltError=>k_is)
  (case zc_NoLine=>k_is)
  (case zc_NoProgram=>k_is)
  (case zc_Short=>k_is)
  (case lx_NoProgram=>k_is)
  (case ga_NoProgram=>k_is)
  (case gh_NoProgram=>k_is)
  (case sa_NoProgram=>k_is)
  (case le_BeltError=>k_is)
  (case me_BeltError=>k_is)
  (case le_NoProgram=>k_is)
  (case me_NoProgram=>k_is)
  (case kp_NoProgram=>k_is)
  (case xw_4=>k_is)
  (case xm_5=>k_is)
  (case xm_6=>k_is)
  (case xi_7=>k_is)
  (case xn_8=>decide)
  (case xi_8=>k_is)
  (case xt_8=>k_is)
  (case xs_8=>k_is)
  (case xn_9=>decide)
  (case xi_9=>k_is)
  (case xt_9=>k_is)
  (case xs_9=>k_is)
  (case z_ValueError=>k_is)
  (case no_0=>k_is)
  (case no_1=>k_is)
  (case no_2=>k_is)
  (case a0=>k_is)
  (case l0=>k_is)
  (case c0=>k_is)
  (case k0=>k_is)
  (case a1=>k_is)
  (case l1=>k_is)
  (case c1=>k_is)
  (case k1=>k_is)
  (case a2=>k_is)
  (case l2=>k_is)
  (case c2=>k_is)
  (case k2=>k_is)
  (case a3=>k_is)
  (case l3=>k_is)
  (case c3=>k_is)
  (case k3=>k_is)
  (case a4=>k_is)
  (case l4=>k_is)
  (case c4=>k_is)
  (case k4=>k_is)
  (case a5=>k_is)
  (case l5=>k_is)
  (case c5=>k_is)
  (case k5=>k_is)
  (case t5=>k_is)
  (case a6=>k_is)
  (case l6=>k_is)
  (case c6=>k_is)
  (case k6=>k_is)
  (case a7=>k_is)
  (case l7=>k_is)
  (case c7=>k_is)
  (case k7=>k_is)
  (case i7=>k_is)
  (case a8=>k_is)
  (case l8=>k_is)
  (case c8=>k_is)
  (case k8=>k_is)
  (case a9=>k_is)
  (case l9=>k_is)
  (case c9=>k_is)
  (case k9=>k_is)
  (case a10=>k_is)
  (case l10=>k_is)
  (case c10=>k_is)
  (case k10=>k_is)
  (case a11=>k_is)
  (case l11=>k_is)
  (case c11=>k_is)
  (case k11=>k_is)
  (case a12=>k_is)
  (case l12=>k_is)
  (case c12=>k_is)
  (case k12=>k_is)
  (case a13=>k_is)
  (case l13=>k_is)
  (case c13=>k_is)
  (case k13=>k_is)
  (case a14=>k_is)
  (case l14=>k_is)
  (case c14=>k_is)
  (case k14=>k_is)
  (case a15=>k_is)
  (case l15=>k_is)
  (case c15=>k_is)
  (case k15=>k_is)
  (case a16=>k_is)
  (case l16=>k_is)
  (case c16=>k_is)
  (case k16=>k_is)
  (case a17=>k_is)
  (case l17=>k_is)
  (case c17=>k_is)
  (case k17=>k_is)
  (case a18=>k_is)
  (case l18=>k_is)
  (case c18=>k_is)
  (case k18=>k_is)
  (case a19=>k_is)
  (case l19=>k_is)
  (case c19=>k_is)
  (case k19=>k_is)
  (case a20=>k_is)
  (case l20=>k_is)
  (case c20=>k_is)
  (case k20=>k_is)
  (case a21=>k_is)
  (case l21=>k_is)
  (case c21=>k_is)
  (case k21=>k_is)
  (case a22=>k_is)
  (case l22=>k_is)
  (case c22=>k_is)
  (case k22=>k_is)
  (case a23=>k_is)
  (case l23=>k_is)
  (case c23=>k_is)
  (case k23=>k_is)
  (case a24=>k_is)
  (case l24=>k_is)
  (case c24=>k_is)
  (case k24=>k_is)
  (case a25=>k_is)
  (case l25=>k_is)
  (case c25=>k_is)
  (case k25=>k_is)
  (case a26=>k_is)
  (case l26=>k_is)
  (case c26=>k_is)
  (case k26=>k_is)
  (case a27=>k_is)
  (case l27=>k_is)
  (case c27=>k_is)
  (case k27=>k_is)
  (case a28=>k_is)
  (case l28=>k_is)
  (case c28=>k_is)
  (case k28=>k_is)
  (case a29=>k_is)
  (case l29=>k_is)
  (case c29=>k_is)
  (case k29=>k_is)
  (case a30=>k_is)
  (case l30=>k_is)
  (case c30=>k_is)
  (case k30=>k_is)
  (case a31=>k_is)
  (case l31=>k_is)
  (case c31=>k_is)
  (case k31=>k_is)
  (case a32=>k_is)
  (case l32=>k_is)
  (case c32=>k_is)
  (case k32=>k_is)
  (case a33=>k_is)
  (case l33=>k_is)
  (case c33=>k_is)
  (case k33=>k_is)
  (case a34=>k_is)
  (case l34=>k_is)
  (case c34=>k_is)
  (case k34=>k_is)
  (case a35=>k_is)
  (case l35=>k_is)
  (case c35=>k_is)
  (case k35=>k_is)
  (case a36=>k_is)
  (case l36=>k_is)
  (case c36=>k_is)
  (case k36=>k_is)
  (case a37=>k_is)
  (case l37=>k_is)
  (case c37=>k_is)
  (case k37=>k_is)
  (case a38=>k_is)
  (case l38=>k_is)
  (case c38=>k_is)
  (case k38=>k_is)
  (case a39=>k_is)
  (case l39=>k_is)
  (case c39=>k_is)
  (case k39=>k_is)
  (case z_len=>k_is)
  (case z_range=>k_is)
  (case z_divmod=>k_is)
  (case z_max=>k_is)
  (case z_min=>k_is)
  (case z_sum=>k_is)
  (case z_all=>k_is)
  (case z_isinstance=>k_is)
  (case z_int=>k_is)
  (case z_bool=>k_is)
  (case z_list=>k_is)
  (case z_tuple=>k_is)
  (case z_enumerate=>k_is)
  (case z_zip=>k_is)
  (case z_sorted=>k_is)
  (case z_set=>k_is)
  (case z_dict=>k_is)
  (case z_str=>k_is)
  (case z_any=>k_is)
  (case z_reversed=>k_is)
  (case z_abs=>k_is)
