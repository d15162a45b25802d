import PyProof.Rows.All
import Wide.All
import OpenK.AllK
import Wide.FinOn
import Lean
import PyProof.EqAt
import PyProof.EqKinds
import PyProof.TupleCall
import PyProof.SetKind
import PyProof.Rows.SetFrom
import PyProof.FactsAll.set
import PyProof.DictIter
import PyProof.DictWalks
import PyProof.WalksMore
import PyProof.MakeMany
import PyProof.FactsAll.subtypes_4
import KE.KDictSum
import PySem.Challenge.RW_beltgarth_k14_programs_refused
set_option Elab.async false
set_option autoImplicit true
set_option linter.all false
set_option maxHeartbeats 1000000
set_option maxHeartbeats 3200000
set_option maxHeartbeats 4000000
set_option maxRecDepth 100000
set_option relaxedAutoImplicit true
open List renaming length_map → ai, getElem?_eq_getElem → ao, getElem?_eq_some_iff → ar, mem_singleton → av, size_toArray → ax, mem_of_getElem? → aH, length_append → aN, getElem?_map → aO, mem_cons → aV, length_take → aY, map_cons → ba, map_append → bg, replicate → bh, mem_append → bu, getElem?_set_self → bB, mem_append_right → bD, length_singleton → bF, length_cons → bK, getElem?_set_ne → bP, map_nil → bV, getElem?_append_right → cg, mem_append_left → ck, length_replicate → cv, range → cw, getLast?_eq_getElem? → cx, take_of_length_le → cy, mem_map → cB, length_eq_zero_iff → cD, mem_iff_getElem → cF, mem_cons_self → cJ, getElem?_eq_none → cO, length_pos_iff → cP, mem_cons_of_mem → cX, getElem?_append_left → cZ, replicate_succ → di, take_add_one → dn, length_set → dC, length_range → dF, map_map → dN, nodup_cons → dO, length_drop → dU, append_nil → d7, length_filter_le → ef, getElem?_range → fb, getElem_mem → fo, lookup_cons → fq, not_mem_nil → fu, getD_eq_getElem?_getD → fA, find?_cons → fO, range_succ → fP, flatten_cons → fS, getElem?_take_of_lt → gf, map_take → gg, all_eq_true → gE, contains_cons → gL, mem_filter → g7, lookup → iq, mem_of_mem_take → iu, mem_range → iw, mem_or_eq_of_mem_set → iO, pairwise_iff_getElem → iP, filterMap_cons → iQ, map_congr_left → iR, getElem?_replicate → jh, head?_eq_getElem? → jw, take_sublist → jx, any_cons → j6, pairwise_append → ki, length_nil → kE, filter_append → lG, append_assoc → my, ext_getElem? → mz, filter_cons → m9, foldl_cons → oK, of_mem_zip → oM, drop_zero → pj, length → pq, map_drop → qJ, map_id → uq, foldl → vF
open PySem.Heap renaming get?_push_of_some → az, lt_size → aJ, get?_push_size → aZ, get?_update_other → cf, get?_update_self → dk, size_push → dG
open PySem.W renaming nsIn → aC, keepIn → aF, codeIn → aI, fnOf → aL, mg_of → aM, mg_none_of → bp, findIn → bw, mroIn → dh, typeIn → eQ, emptyDict → eV, isClsIn → eZ, subIn → hU, isIn → iH, looks_clsIn → kO, methodObj → mE, specialIn → mF, clsIn → mU, isFn → nU
open Nat renaming le_refl → aD, lt_of_lt_of_le → aX, ne_of_lt → bj, not_lt_zero → bN, le_trans → cq, lt_succ_iff_lt_or_eq → cz, lt_irrefl → cK, zero_le → dA, lt_succ_of_lt → fU, lt_of_le_of_lt → i7, le_of_lt → jy, ne_of_gt → jz, sub_self → kQ, le_succ → mB, lt_trichotomy → mC, lt_succ_self → nh, lt_or_ge → nR, le_of_eq → rP, lt_trans → rQ, not_lt → vG
open Array renaming getElem?_eq_some_iff → bM, length_toList → cc, getElem?_toList → ee, toList_append → kN
open PySem.F renaming plainAttrs_list → cu, slot_list_append → de, type_list_append → dg, excBase_ValueError → ix, args_tuple_add_2 → iU, entry_tuple_add → jj, slot_tuple_add → jA
open Option renaming map_eq_some_iff → cG, map_some → cR, bind_some → fv, getD_some → iG, isSome_iff_exists → iT, isSome_map → mD, getD_none → ni
open PySem renaming mem_of_lookup → dj, strKind → j7, call → vH
open PyProof.Rows renaming callWith_type1 → dr, slot_tuple_getitem → d9
open Int renaming emod_lt_of_pos → dz, emod_nonneg → dB, toNat_natCast → fQ, zero_add → fR, toNat → gD, not_lt → vE
abbrev Fg := PySem.W.Frag
section
namespace Bg
theorem Px{α:Type}{P:List α->Prop}{us:List α}(h:us.length=0)(k:P []):P us:=by cases us with|nil=>exact k|cons a r=>cases h
theorem Pf{α:Type}{P:List α->Prop}{us:List α}(h:us.length=1)(k:∀x0,P [x0]):P us:=by cases us with|nil=>cases h|cons a r=>exact Px (P:=λr=>P (a::r)) (Nat.succ.inj h) (k a)
theorem Pg{α:Type}{P:List α->Prop}{us:List α}(h:us.length=2)(k:∀x0 x1,P [x0,x1]):P us:=by cases us with|nil=>cases h|cons a r=>exact Pf (P:=λr=>P (a::r)) (Nat.succ.inj h) (k a)
theorem Ph{α:Type}{P:List α->Prop}{us:List α}(h:us.length=3)(k:∀x0 x1 x2,P [x0,x1,x2]):P us:=by cases us with|nil=>cases h|cons a r=>exact Pg (P:=λr=>P (a::r)) (Nat.succ.inj h) (k a)
theorem Pj{α:Type}{P:List α->Prop}{us:List α}(h:us.length=4)(k:∀x0 x1 x2 x3,P [x0,x1,x2,x3]):P us:=by cases us with|nil=>cases h|cons a r=>exact Ph (P:=λr=>P (a::r)) (Nat.succ.inj h) (k a)
theorem Pk{α:Type}{P:List α->Prop}{us:List α}(h:us.length=5)(k:∀x0 x1 x2 x3 x4,P [x0,x1,x2,x3,x4]):P us:=by cases us with|nil=>cases h|cons a r=>exact Pj (P:=λr=>P (a::r)) (Nat.succ.inj h) (k a)
theorem Py{α:Type}{P:List α->Prop}{us:List α}(h:us.length=6)(k:∀x0 x1 x2 x3 x4 x5,P [x0,x1,x2,x3,x4,x5]):P us:=by cases us with|nil=>cases h|cons a r=>exact Pk (P:=λr=>P (a::r)) (Nat.succ.inj h) (k a)
theorem GD{α:Type}{us:List α}(h:us.length=1):∃x0,us=[x0]:=Pf (P:=λus=>∃x0,us=[x0]) h λx0=>⟨x0,rfl⟩
theorem AD{α:Type}{us:List α}(h:us.length=2):∃x0 x1,us=[x0,x1]:=Pg (P:=λus=>∃x0 x1,us=[x0,x1]) h λx0 x1=>⟨x0,x1,rfl⟩
theorem LQ{α:Type}{us:List α}(h:us.length=3):∃x0 x1 x2,us=[x0,x1,x2]:=Ph (P:=λus=>∃x0 x1 x2,us=[x0,x1,x2]) h λx0 x1 x2=>⟨x0,x1,x2,rfl⟩
theorem Pe{α:Type}{us:List α}(h:us.length=4):∃x0 x1 x2 x3,us=[x0,x1,x2,x3]:=Pj (P:=λus=>∃x0 x1 x2 x3,us=[x0,x1,x2,x3]) h λx0 x1 x2 x3=>⟨x0,x1,x2,x3,rfl⟩
theorem Pu{α:Type}{us:List α}(h:us.length=5):∃x0 x1 x2 x3 x4,us=[x0,x1,x2,x3,x4]:=Pk (P:=λus=>∃x0 x1 x2 x3 x4,us=[x0,x1,x2,x3,x4]) h λx0 x1 x2 x3 x4=>⟨x0,x1,x2,x3,x4,rfl⟩
theorem Pw{α:Type}{us:List α}(h:us.length=6):∃x0 x1 x2 x3 x4 x5,us=[x0,x1,x2,x3,x4,x5]:=Py (P:=λus=>∃x0 x1 x2 x3 x4 x5,us=[x0,x1,x2,x3,x4,x5]) h λx0 x1 x2 x3 x4 x5=>⟨x0,x1,x2,x3,x4,x5,rfl⟩
end Bg
end
section
namespace L2
open PySem PySem.Spec PyProof.Rows
abbrev hV:=Sum Int Str
def yD:hV->Value->Bool
 |.inl k,v=>Value.isInt k v
 |.inr x,v=>Value.isStrOf x v
def O2(w:World):hV->Int
 |.inl k=>hashInt k
 |.inr x=>hashStr w x
theorem fW:∀{k:hV} {v:Value},yD k v=true->(∃i t,k=Sum.inl i/\v=Value.int i t)\/(∃x t,k=Sum.inr x/\v=Value.str x t)
 |.inl i,v,h=>by
  obtain⟨t,e⟩:=Value.isInt_shape (k:=i) (v:=v) h
  exact .inl ⟨i,t,rfl,e⟩
 |.inr x,v,h=>by
  obtain⟨t,e⟩:=Value.isStrOf_shape (x:=x) (v:=v) h
  exact .inr ⟨x,t,rfl,e⟩
theorem Fq(i:Int)(t:Tok):yD (.inl i) (.int i t)=true:=by simp[yD,Value.isInt]
theorem Fs(x:Str)(t:Tok):yD (.inr x) (.str x t)=true:=by simp[yD,Value.isStrOf]
theorem Mz(a b:Int):decide ((Sum.inl a:hV)=Sum.inl b)=(a==b):=by
 by_cases e:a=b
 ·subst e;simp
 ·have h:¬(Sum.inl a:hV)=Sum.inl b:=λq=>e (Sum.inl.inj q)
  rw[decide_eq_false h]
  exact(beq_eq_false_iff_ne.mpr e).symm
theorem MC(a b:Str):decide ((Sum.inr a:hV)=Sum.inr b)=decide (a=b):=by
 by_cases e:a=b
 ·subst e;simp
 ·have h:¬(Sum.inr a:hV)=Sum.inr b:=λq=>e (Sum.inr.inj q)
  rw[decide_eq_false h,decide_eq_false e]
theorem MA(a:Int)(b:Str):decide ((Sum.inl a:hV)=Sum.inr b)=false:=decide_eq_false (λq=>nomatch q)
theorem MB(a:Str)(b:Int):decide ((Sum.inr a:hV)=Sum.inl b)=false:=decide_eq_false (λq=>nomatch q)
def ff(prog:Program)(w:World):PySem.KeyKind prog w hV where
 is:=yD
 hash:=O2 w
 inj:=λv a b ha hb=>by
  rcases fW ha with⟨i,t,rfl,rfl⟩|⟨x,t,rfl,rfl⟩
  ·rcases fW hb with⟨j,u,rfl,e⟩|⟨y,u,rfl,e⟩
   ·injection e with e1 _;rw[e1]
   ·exact nomatch e
  ·rcases fW hb with⟨j,u,rfl,e⟩|⟨y,u,rfl,e⟩
   ·exact nomatch e
   ·injection e with e1 _;rw[e1]
 byValue:=λk v h=>by
  rcases fW h with⟨i,t,rfl,rfl⟩|⟨x,t,rfl,rfl⟩<;>rfl
 pyHash:=λhv h=>by
  rcases fW hv with⟨i,t,rfl,rfl⟩|⟨x,t,rfl,rfl⟩
  ·exact wpAny_pyHash_int h
  ·exact wpAny_pyHash_str h
 eqBool:=λhu hv h=>by
  rcases fW hu with⟨i,t,rfl,rfl⟩|⟨x,t,rfl,rfl⟩
  ·rcases fW hv with⟨j,u,rfl,rfl⟩|⟨y,u,rfl,rfl⟩
   ·rw[Mz] at h;exact wpAny_eqBool_int h
   ·rw[MA] at h;exact SeqAt.EqAt.int_str i t y u _ _ _ _ h
  ·rcases fW hv with⟨j,u,rfl,rfl⟩|⟨y,u,rfl,rfl⟩
   ·rw[MB] at h;exact SeqAt.EqAt.str_int x t j u _ _ _ _ h
   ·rw[MC] at h;exact wpAny_eqBool_str h
 «strs»:=λk x t v h=>by
  rcases fW h with⟨i,u,rfl,e⟩|⟨y,u,rfl,e⟩
  ·exact nomatch e
  ·injection e with e1 _
   subst e1
   cases v<;>rfl
theorem Bb(prog:Program)(w:World)(i:Int)(t:Tok):(ff prog w).is (.inl i) (.int i t)=true:=Fq i t
theorem Bc(prog:Program)(w:World)(x:Str)(t:Tok):(ff prog w).is (.inr x) (.str x t)=true:=Fs x t
inductive V where
 |non|bl (b:Bool)|int (i:Int)|str (x:Str)|byt (b:Array UInt8)|flt (b:UInt64)|ref (a:Addr)|ty (n:String)
 deriving DecidableEq
def dy:V->Value->Prop
 |.non,u=>u=Value.none
 |.bl b,u=>u=Value.bool b
 |.int i,u=>∃t,u=Value.int i t
 |.str x,u=>∃t,u=Value.str x t
 |.byt b,u=>∃t,u=Value.bytes b t
 |.flt b,u=>∃t,u=Value.float b t
 |.ref a,u=>u=Value.ref a
 |.ty n,u=>u=Value.type n
abbrev cT:List V->List Value->Prop:=Paired dy
theorem cT.length{xs:List V}{us:List Value}(r:cT xs us):xs.length=us.length:=Paired.length r
theorem cT.get:∀{xs:List V} {us:List Value} {i:Nat} {x:V},cT xs us->xs[i]?=some x->∃u,us[i]?=some u/\dy x u
 |_,_,_,_,.nil,e=>by simp at e
 |_,_,0,_,.cons r _,e=>by simp at e;subst e;exact⟨_,rfl,r⟩
 |_,_,i+1,x,.cons _ t,e=>by
  obtain⟨u,h1,h2⟩:=cT.get (i:=i) (x:=x) t (by simpa using e)
  exact⟨u,by simpa using h1,h2⟩
theorem cT.set{x:V}{u:Value}(r:dy x u):∀{xs:List V} {us:List Value} (i:Nat),cT xs us->cT (xs.set i x) (us.set i u)
 |_,_,_,.nil=>.nil
 |_,_,0,.cons _ t=>.cons r t
 |_,_,i+1,.cons q t=>.cons q (cT.set r i t)
theorem cT.append:∀{xs ys:List V} {us ws:List Value},cT xs us->cT ys ws->cT (xs++ys) (us++ws)
 |_,_,_,_,.nil,s=>s
 |_,_,_,_,.cons r t,s=>.cons r (cT.append t s)
theorem cT.take:∀{xs:List V} {us:List Value} (n:Nat),cT xs us->cT (xs.take n) (us.take n)
 |_,_,0,_=>.nil
 |_,_,_+1,.nil=>.nil
 |_,_,n+1,.cons r t=>.cons r (cT.take n t)
theorem cT.drop:∀{xs:List V} {us:List Value} (n:Nat),cT xs us->cT (xs.drop n) (us.drop n)
 |_,_,0,r=>r
 |_,_,_+1,.nil=>.nil
 |_,_,n+1,.cons _ t=>cT.drop n t
def rA:Option V->Option Value->Prop
 |some v,some u=>dy v u
 |none,none=>True
 |_,_=>False
def KV{κ:Type}:List (κ×V)->List (κ×Value)->Prop:=Paired λ(p:κ×V) (q:κ×Value)=>p.1=q.1/\dy p.2 q.2
def kV:hV->V
 |.inl i=>.int i
 |.inr x=>.str x
inductive HO where
  |lst (xs:List V)
  |tup (xs:List V)
  |dK (kvs:List (hV×V))|dT (kvs:List (List hV×V))
  |set (S:Int->Bool) (n:Nat)
  |ins (C dx:Addr) (fs:List (Str×V))
  |own (x:Addr)
  |xd (fs:List (Str×V))
  |met (f x:Addr)
  |rng (lo hi:Int)
  |frz (o:Obj) (u:HO)
  |tbl (ps:Array Value)
  |ext (φ:Heap->Prop)
abbrev Hp:=Addr->Option HO
def upd(H:Hp)(a:Addr)(o:HO):Hp:=λb=>if b=a then some o else H b
theorem ag{H:Hp}{a:Addr}{o:HO}:upd H a o a=some o:=by unfold upd;rw[if_pos rfl]
theorem aB{H:Hp}{a b:Addr}{o:HO}(h:b≠a):upd H a o b=H b:=by unfold upd;rw[if_neg h]
theorem lC{H:Hp}{a:Addr}{o u:HO}:upd (upd H a o) a u=upd H a u:=by
 funext b;unfold upd;split<;>rfl
theorem LR{H:Hp}{a b:Addr}{o u:HO}(h:H a=some o)(h':H b=some u)(d:o≠u):a≠b:=by
 intro e;subst e;rw[h] at h';exact d (Option.some.inj h')
theorem au{H:Hp}{a b:Addr}{o:HO}(h:H a=some o)(h':H b=none):a≠b:=by
 intro e;subst e;rw[h] at h';cases h'
def mV(h:Heap)(a:Addr)(items:Array Value):Prop:=∃o,h.get? a=some o/\(o.cls=.type "tuple"/\o.dict=none)/\∃n,o.data=.seq items n
theorem mV.tup{h:Heap}{a:Addr}{items:Array Value}(x:mV h a items):IsTup h a items:=let⟨o,e,c,n⟩:=x;⟨o,e,c.1,n⟩
theorem mV.lt{h:Heap}{a:Addr}{items:Array Value}(x:mV h a items):a<h.objs.size:=let⟨_,e,_⟩:=x;aJ e
theorem mV.new(h:Heap)(items:Array Value):mV (h.push {cls:=.type "tuple",data:=.seq items}) h.objs.size items:=⟨_,aZ _ rfl,⟨rfl,rfl⟩,_,rfl⟩
section
variable(P:Program)(w:World)
def eR(H:Hp)(h:Heap)(a:Addr):HO->Prop
 |.lst xs=>xs.length<=sizeLine/\∃(its:List Value) (n:Nat),cT xs its/\h.get? a=some {cls:=.type "list",data:=.seq its.toArray n}
 |.tup xs=>xs.length<=sizeLine/\∃its:List Value,cT xs its/\mV h a its.toArray
 |.dK kvs=>kvs.length<=sizeLine/\(a==sysModules)=false/\∃vs,KV kvs vs/\h.DictOf (ff P w) a vs
 |.dT kvs=>kvs.length<=sizeLine/\(a==sysModules)=false/\∃xs:List (List hV×Addr×Value),
   Paired (λ(p:List hV×V) (q:List hV×Addr×Value)=>p.1=q.1/\H q.2.1=some (.tup (p.1.map kV))/\dy p.2 q.2.2) kvs xs/\
   ∃o es ep,h.get? a=some o/\o.ExactDict/\o.data=.dict es ep/\es.toList=xs.map (entryOfKey (tupleKind (ff P w)))/\(xs.map (·.1)).Nodup
 |.set S n=>h.SetOf (intKind P w) a S n
 |.ins C dx fs=>H dx=some (.own a)/\fs.length<=1000/\dx≠a/\h.get? a=some (PySem.W.instObj C dx)/\
   ∃mA,h.Ns1 dx mA/\(∀f,rA (fs.lookup f) (mA f))/\PySem.Within mA (fs.map (·.1))
 |.own _=>∃o,h.get? a=some o
 |.xd fs=>∃mA,h.Ns1 a mA/\∀f,rA (fs.lookup f) (mA f)
 |.rng lo hi=>∃t u v,h.get? a=some {cls:=.type "range",data:=.fields #[.int lo t,.int hi u,.int 1 v]}
 |.frz o u=>h.get? a=some o/\eR H h a u
 |.tbl ps=>h.get? a=some {cls:=.none,data:=.fields ps}
 |.met f x=>h.get? a=some (mE (.ref f) (.ref x))
 |.ext φ=>φ h/\(∃o,h.get? a=some o)/\∀h1 h2:Heap,φ h1->(∀o,h1.get? a=some o->h2.get? a=some o)->φ h2
def pd(H:Hp)(h:Heap):Prop:=∀a o,H a=some o->eR P w H h a o
end
section
variable{P:Program}{w:World}{H H':Hp}{h h':Heap}{a:Addr}{o:HO}
theorem eR.lt(x:eR P w H h a o):a<h.objs.size:=by
 cases o with
 |lst xs=>obtain⟨_,_,_,_,e⟩:=x;exact aJ e
 |tup xs=>obtain⟨_,_,_,p⟩:=x;exact p.lt
 |dK kvs=>obtain⟨_,_,_,_,o,_,_,e,_⟩:=x;exact aJ e
 |dT kvs=>obtain⟨_,_,_,_,o,_,_,e,_⟩:=x;exact aJ e
 |set S n=>obtain⟨o,_,_,_,e,_⟩:=x;exact aJ e
 |ins C dx fs=>obtain⟨_,_,_,e,_⟩:=x;exact aJ e
 |own y=>obtain⟨_,e⟩:=x;exact aJ e
 |xd fs=>obtain⟨_,⟨_,_,_,e,_⟩,_⟩:=x;exact aJ e
 |rng lo hi=>obtain⟨_,_,_,e⟩:=x;exact aJ e
 |frz ob u=>obtain⟨e,_⟩:=x;exact aJ e
 |tbl ps=>exact aJ (show h.get? a=some _ from x)
 |met f y=>exact aJ (show h.get? a=some _ from x)
 |ext φ=>obtain⟨_,⟨_,e⟩,_⟩:=x;exact aJ e
theorem Paired.mapP{α β:Type}{F G:α->β->Prop}:∀{l₁:List α} {l₂:List β},Paired F l₁ l₂->(∀a b,F a b->G a b)->Paired G l₁ l₂
 |_,_,.nil,_=>.nil
 |_,_,.cons r t,f=>.cons (f _ _ r) (Paired.mapP t f)
theorem eR.stay(x:eR P w H h a o)(k:∀b u,(b=a\/H b=some (.own a))->h.get? b=some u->h'.get? b=some u)
  (ho:∀b,H b=some (.own a)->H' b=some (.own a)) (ht:∀b xs,H b=some (.tup xs)->H' b=some (.tup xs)):eR P w H' h' a o:=by
 induction o with
 |lst xs=>obtain⟨z,its,n,r,e⟩:=x;exact⟨z,its,n,r,k _ _ (.inl rfl) e⟩
 |tup xs=>obtain⟨z,its,r,ob,e,c⟩:=x;exact⟨z,its,r,ob,k _ _ (.inl rfl) e,c⟩
 |dK kvs=>obtain⟨z,y,vs,r,ob,es,ep,e,c⟩:=x;exact⟨z,y,vs,r,ob,es,ep,k _ _ (.inl rfl) e,c⟩
 |dT kvs=>
  obtain⟨z,y,xs,r,ob,es,ep,e,c⟩:=x
  exact⟨z,y,xs,Paired.mapP r λp q z=>⟨z.1,ht _ _ z.2.1,z.2.2⟩,ob,es,ep,k _ _ (.inl rfl) e,c⟩
 |set S n=>obtain⟨ob,es,ep,t,e,c⟩:=x;exact⟨ob,es,ep,t,k _ _ (.inl rfl) e,c⟩
 |ins C dx fs=>
  obtain⟨d,z,ne,e,mA,⟨od,es,ep,e2,c⟩,r⟩:=x
  exact⟨ho _ d,z,ne,k _ _ (.inl rfl) e,mA,⟨od,es,ep,k _ _ (.inr d) e2,c⟩,r⟩
 |own y=>obtain⟨ob,e⟩:=x;exact⟨ob,k _ _ (.inl rfl) e⟩
 |xd fs=>obtain⟨mA,⟨od,es,ep,e,c⟩,r⟩:=x;exact⟨mA,⟨od,es,ep,k _ _ (.inl rfl) e,c⟩,r⟩
 |rng lo hi=>obtain⟨t,u,v,e⟩:=x;exact⟨t,u,v,k _ _ (.inl rfl) e⟩
 |frz ob u ih=>obtain⟨e,q⟩:=x;exact⟨k _ _ (.inl rfl) e,ih q⟩
 |tbl ps=>
  have e:h.get? a=some {cls:=.none,data:=.fields ps}:=x
  show h'.get? a=some {cls:=.none,data:=.fields ps}
  exact k a _ (.inl rfl) e
 |met f y=>
  have e:h.get? a=some (mE (.ref f) (.ref y)):=x
  show h'.get? a=some (mE (.ref f) (.ref y))
  exact k a _ (.inl rfl) e
 |ext φ=>obtain⟨p,⟨o,e⟩,st⟩:=x;exact⟨st _ _ p λo q=>k _ _ (.inl rfl) q,⟨o,k _ _ (.inl rfl) e⟩,st⟩
theorem pd.lt(x:pd P w H h)(e:H a=some o):a<h.objs.size:=(x a o e).lt
theorem pd.fresh(x:pd P w H h)(e:h.objs.size<=a):H a=none:=by
 cases q:H a with
 |none=>rfl
 |some u=>exact absurd (aX (x.lt q) e) (cK _)
theorem pd.kept(x:pd P w H h)(k:∀b u,h.get? b=some u->h'.get? b=some u):pd P w H h':=λa o e=>
 (x a o e).stay (λb u _ q=>k b u q) (λ_ q=>q) λ_ _ q=>q
theorem pd.laid(x:pd P w H h)(k:∀b u,h.get? b=some u->h'.get? b=some u)(hp:h.objs.size<=a)(new:eR P w (upd H a o) h' a o):pd P w (upd H a o) h':=λb u e=>by
 have hn:=x.fresh hp
 by_cases hb:b=a
 ·subst hb;rw[ag] at e;cases e;exact new
 ·rw[aB hb] at e
  exact(x b u e).stay (λc v _ q=>k c v q) (λc q=>by rw[aB (au q hn)];exact q) λc xs q=>by rw[aB (au q hn)];exact q
end
def Rd(H:Hp)(a:Addr)(u:HO):Prop:=H a=some u\/∃o,H a=some (.frz o u)
theorem Rd.ok{P:Program}{w:World}{H:Hp}{h:Heap}{a:Addr}{u:HO}(r:Rd H a u)(x:pd P w H h):eR P w H h a u:=by
 rcases r with r|⟨o,r⟩
 ·exact x a u r
 ·obtain⟨_,q⟩:=x a _ r
  exact q
def NU:Option HO->Prop
 |some (.lst _)=>True
 |some (.dK _)=>True
 |some (.dT _)=>True
 |some (.set _ _)=>True
 |some (.ins _ _ _)=>True
 |some (.ext _)=>True
 |_=>False
section
variable{P:Program}{w:World}{H:Hp}{h h':Heap}{x e:Addr}{o':HO}
theorem pd.write(ok:pd P w H h)(mu:NU (H x))(he:e=x\/H e=some (.own x))(k:∀b u,b≠e->h.get? b=some u->h'.get? b=some u)(heo:∃u,h'.get? e=some u)
  (new:eR P w (upd H x o') h' x o'):pd P w (upd H x o') h':=λb u q=>by
 have nown:∀c y,H c=some (.own y)->c≠x:=λc y r z=>by subst z;rw[r] at mu;exact mu
 have ntup:∀c xs,H c=some (.tup xs)->c≠x:=λc xs r z=>by subst z;rw[r] at mu;exact mu
 by_cases hb:b=x
 ·subst hb;rw[ag] at q;cases q;exact new
 ·rw[aB hb] at q
  by_cases hbe:b=e
  ·have q':H b=some (.own x):=by
    rcases he with z|z
    ·exact absurd (hbe.trans z) hb
    ·rw[hbe];exact z
   rw[q] at q';cases q'
   obtain⟨v,hv⟩:=heo
   exact⟨v,by rw[hbe];exact hv⟩
  ·refine(ok b u q).stay (λc v hc r=>k c v ?_ r) (λc r=>by rw[aB (nown c b r)];exact r) λc xs r=>by rw[aB (ntup c xs r)];exact r
   rcases hc with rfl|hc
   ·exact hbe
   ·rintro rfl
    rcases he with z|z
    ·exact nown c b hc z
    ·rw[hc] at z;cases z;exact hb rfl
end
structure Un(fs ex:List Addr)(H H':Hp)(h h':Heap):Prop where
 keep:∀b o,h.get? b=some o->H b=none->b∉fs->b∉ex->h'.get? b=some o
 slot:∀b o,h.get? b=some o->H b=none->b∈fs->b∉ex->∃sl,h'.get? b=some {o with slots:=sl}
 free:∀b o,h.get? b=some o->H b=none->b∉ex->H' b=none
 there:∀b o,h.get? b=some o->b∉ex->∃o',h'.get? b=some o'
 tups:∀b xs,H b=some (.tup xs)->H' b=some (.tup xs)
 frzs:∀b o u,H b=some (.frz o u)->H' b=some (.frz o u)
 tbls:∀b ps,H b=some (.tbl ps)->∃more,H' b=some (.tbl (ps++more))
section
variable{fs fs' ex ex':List Addr}{H H1 H2:Hp}{h h1 h2 h':Heap}{a x e:Addr}{o:HO}
theorem Un.any(u:Un fs ex H H1 h h1){b:Addr}{ob:Obj}(q:h.get? b=some ob)(n:H b=none)(hx:b∉ex):∃sl,h1.get? b=some {ob with slots:=sl}:=by
 by_cases hb:b∈fs
 ·exact u.slot b ob q n hb hx
 ·exact⟨ob.slots,u.keep b ob q n hb hx⟩
theorem Un.kept(k:∀b u,h.get? b=some u->h'.get? b=some u):Un fs ex H H h h':=
 ⟨λb ob q _ _ _=>k b ob q,λb ob q _ _ _=>⟨ob.slots,k b ob q⟩,λ_ _ _ n _=>n,λb ob q _=>⟨ob,k b ob q⟩,λ_ _ q=>q,λ_ _ _ q=>q,λ_ ps q=>⟨#[],by rw[q];simp⟩⟩
theorem Un.refl:Un fs ex H H h h:=Un.kept λ_ _ q=>q
theorem Un.laid(k:∀b u,h.get? b=some u->h'.get? b=some u)(hp:h.objs.size<=a)(hn:H a=none):Un fs ex H (upd H a o) h h' where
 keep:=λb u q _ _ _=>k b u q
 slot:=λb u q _ _ _=>⟨u.slots,k b u q⟩
 free:=λb u q n _=>by rw[aB (bj (aX (aJ q) hp))];exact n
 there:=λb u q _=>⟨u,k b u q⟩
 tups:=λb xs q=>by rw[aB (au q hn)];exact q
 frzs:=λb u xs q=>by rw[aB (au q hn)];exact q
 tbls:=λb ps q=>⟨#[],by rw[aB (au q hn),q];simp⟩
theorem Un.write(mu:NU (H x))(he:e=x\/H e=some (.own x))(k:∀b u,b≠e->h.get? b=some u->h'.get? b=some u)(heo:∃u,h'.get? e=some u):Un fs ex H (upd H x o) h h':=by
 have hx:∀b,H b=none->b≠x:=λb n z=>by subst z;rw[n] at mu;exact mu
 have hb:∀b,H b=none->b≠e:=λb n z=>by
  subst z
  rcases he with r|r
  ·exact hx b n r
  ·rw[n] at r;cases r
 have hm:∀b u,H b=some u->¬NU (some u)->b≠x:=λb u q nm z=>by subst z;rw[q] at mu;exact nm mu
 refine⟨λb u q n _ _=>k b u (hb b n) q,λb u q n _ _=>⟨u.slots,k b u (hb b n) q⟩,λb u q n _=>by rw[aB (hx b n)];exact n,λb u q _=>?_,
  λb xs q=>by rw[aB (hm b _ q λz=>z)];exact q,λb u xs q=>by rw[aB (hm b _ q λz=>z)];exact q,λb ps q=>⟨#[],by rw[aB (hm b _ q λz=>z),q];simp⟩⟩
 by_cases hbe:b=e
 ·subst hbe;exact heo
 ·exact⟨u,k b u hbe q⟩
theorem Un.mono(u:Un fs ex H H1 h h1)(hs:∀b∈fs,b∈fs')(hx:∀b∈ex,b∈ex'):Un fs' ex' H H1 h h1:=
 ⟨λb ob q n hb he=>u.keep b ob q n (λz=>hb (hs b z)) λz=>he (hx b z),λ_ _ q n _ he=>u.any q n λz=>he (hx _ z),λb ob q n he=>u.free b ob q n λz=>he (hx b z),λb ob q he=>u.there b ob q λz=>he (hx b z),u.tups,u.frzs,u.tbls⟩
end
def OM(h:Heap)(H:Hp):List Addr:=(cw h.objs.size).filter λa=>(H a).isSome
def zN(h:Heap)(H:Hp):Heap:=PySem.W.hideAll h (OM h H)
theorem Ff(h:Heap)(H:Hp):(zN h H).objs.size=h.objs.size:=PySem.W.hideAll_size _ _
theorem Hc{h:Heap}{H:Hp}{b:Addr}{o:Obj}(e:h.get? b=some o)(n:H b=none):(zN h H).get? b=some o:=
 PySem.W.hideAll_get _ e λhm=>by
  have q:(H b).isSome=true:=(g7.mp hm).2
  rw[n] at q;simp at q
theorem Kg{h:Heap}{H:Hp}{b:Addr}{o:Obj}(e:(zN h H).get? b=some o):h.get? b=some o/\H b=none:=by
 have e':h.get? b=some o:=PySem.W.of_hideAll (OM h H) e
 refine⟨e',?_⟩
 cases q:H b with
 |none=>rfl
 |some x=>
  have hm:b∈OM h H:=g7.mpr ⟨iw.mpr (aJ e'),by simp[q]⟩
  have z:(zN h H).get? b=none:=PySem.W.hideAll_none (OM h H) hm
  rw[z] at e;cases e
structure Mod(K:Fg)(mg:Str->Option Value)(base:Heap):Prop where
 kin:K.In base
 glob:base.Ns mainGlobals mg
 blt:∃mb,base.Ns builtinsNs mb/\∀x:Str,x≠"__name__"->mb x=bootBuiltins x
 nolimit:base.NoLimit
structure Cx where
 prog:Program
 w:World
 K:Fg
 mg:Str->Option Value
 base:Heap
 A:Around
 N:List Str
 s₀:Shared
 H₀:Hp
 env:Env
 outer:List Env
 stack:List Env
 ex:List Addr
 fn:Str->Bool
 calm:Bool
 pn:List (Addr×Obj)
 xe:Value->Shared->Prop
def AC(l:List Env):List Addr:=l.filterMap (·.frame)
abbrev Cx.fs(X:Cx):List Addr:=AC X.outer
def OK(sc:Scope)(x:Str):Prop:=sc.names.lookup x=some .local\/sc.names.lookup x=some .cell\/sc.names.lookup x=some .free
def LK(sc:Scope)(x:Str):Prop:=sc.names.lookup x=some .local\/sc.names.lookup x=some .cell
def ON(env:Env)(h:Heap)(m:Str->Option Value)(x:Str)(u:Value):Prop:=
 (env.kindOf x=some .local/\m x=some u)\/((env.kindOf x=some .cell\/env.kindOf x=some .free)/\∃c,env.cells.lookup x=some c/\h.IsCell c (some u))
structure Cx.Ok(X:Cx):Prop where
 mod:Mod X.K X.mg X.base
 kind:X.env.scope.kind=.function
 glob:X.env.globals=mainGlobals
 blt:X.env.builtins=builtinsNs
 above:X.s₀.heap.objs.size<=X.env.locals
 inj:∀x y c,X.env.cells.lookup x=some c->X.env.cells.lookup y=some c->x=y
 has:∀x,(X.env.kindOf x=some .cell\/X.env.kindOf x=some .free)->∃c,X.env.cells.lookup x=some c
 cab:∀x c,X.fn x=true->X.env.cells.lookup x=some c->X.s₀.heap.objs.size<=c
 hd:X.calm=true->X.A.handled=none
 frames:X.A.frames=some X.stack
 stk:X.stack=X.outer\/(X.stack=X.env::X.outer/\X.env.frame=some X.env.locals)
 exf:∀b∈X.ex,b≠X.env.locals/\∀x c,X.env.cells.lookup x=some c->c≠b
 bs:∀b o,X.base.get? b=some o->X.s₀.heap.get? b=some o/\X.H₀ b=none
 bsz:X.base.objs.size<=X.s₀.heap.objs.size
 noex:∀b o,X.base.get? b=some o->b∉X.ex
 exfs:∀b∈X.ex,b∉X.fs
 funs:X.s₀.heap.FunFrames X.base X.outer
 frf:∀b∈X.fs,X.H₀ b=none
structure bW(X:Cx)(pins:List (Addr×Obj))(σ:List (Option V))(H:Hp)(s:Shared):Prop where
 ok:X.Ok
 os:s.os=X.s₀.os
 bare:AllBare s.gens
 base:Un X.fs X.ex X.H₀ H X.s₀.heap s.heap
 loc:∃m,s.heap.Ns X.env.locals m/\∀(i:Nat) (x:Str) (v:V),X.N[i]?=some x->σ[i]?=some (some v)->OK X.env.scope x->∃u,dy v u/\ON X.env s.heap m x u
 cell:∀x c,X.env.cells.lookup x=some c->∃v,s.heap.IsCell c v
 free:H X.env.locals=none
 freeC:∀x c,X.env.cells.lookup x=some c->H c=none
 pin:∀p∈X.pn++pins,s.heap.get? p.1=some p.2/\H p.1=none/\p.1≠X.env.locals/\p.1∉X.fs/\∀v,p.2.data≠.cell v
 hok:pd X.prog X.w H s.heap
 len:σ.length=X.N.length
section
variable{X:Cx}{pins:List (Addr×Obj)}{σ:List (Option V)}{H H':Hp}{s:Shared}{h':Heap}
theorem Cx.Ok.nofr(ok:X.Ok){b:Addr}{o:Obj}(e:X.base.get? b=some o):b∉X.fs:=λhb=>by
 have:=(ok.funs.mem hb).1
 rw[e] at this;cases this
theorem bW.bs(I:bW X pins σ H s):∀b o,X.base.get? b=some o->s.heap.get? b=some o/\H b=none:=λb o e=>
 ⟨I.base.keep b o (I.ok.bs b o e).1 (I.ok.bs b o e).2 (I.ok.nofr e) (I.ok.noex b o e),I.base.free b o (I.ok.bs b o e).1 (I.ok.bs b o e).2 (I.ok.noex b o e)⟩
theorem bW.bk(I:bW X pins σ H s):∀b o,X.base.get? b=some o->s.heap.get? b=some o:=λb o e=>(I.bs b o e).1
theorem bW.mod(I:bW X pins σ H s):Mod X.K X.mg X.base:=I.ok.mod
theorem bW.kIn(I:bW X pins σ H s):X.K.In s.heap:=I.ok.mod.kin.keeps I.bk
theorem bW.lt(I:bW X pins σ H s):X.env.locals<s.heap.objs.size:=let⟨_,hn,_⟩:=I.loc;hn.lt
theorem bW.sz(I:bW X pins σ H s):X.s₀.heap.objs.size<=s.heap.objs.size:=cq I.ok.above (jy I.lt)
theorem bW.nofs(I:bW X pins σ H s){a:Addr}(h:s.heap.objs.size<=a):a∉X.fs:=λhb=>by
 obtain⟨_,o,ho,_⟩:=I.ok.funs.mem hb
 exact absurd (aX (aJ ho) (cq I.sz h)) (cK _)
theorem bW.cne(I:bW X pins σ H s):∀x c,X.env.cells.lookup x=some c->c≠X.env.locals:=λx c e z=>by
 obtain⟨v,o,ho,hd⟩:=I.cell x c e
 obtain⟨m,⟨o',es,ep,ho',hd',_⟩,_⟩:=I.loc
 rw[z,ho'] at ho;cases ho;rw[hd'] at hd;cases hd
theorem bW.funs(I:bW X pins σ H s):s.heap.FunFrames X.base X.outer:=by
 have all:∀(l:List Env),(∀b∈AC l,b∈X.fs)->X.s₀.heap.FunFrames X.base l->s.heap.FunFrames X.base l:=by
  intro l
  induction l with
  |nil=>intro _ _;trivial
  |cons env r ih=>
   intro hs hl
   obtain⟨hk,⟨L,o,hf,hn,ho,hd⟩,hr⟩:=hl
   have hL:L∈X.fs:=hs L (by unfold AC;rw[iQ,hf];exact cJ)
   obtain⟨sl,e⟩:=I.base.slot L o ho (I.ok.frf L hL) hL λz=>I.ok.exfs L z hL
   exact⟨hk,⟨L,_,hf,hn,e,hd⟩,ih (λb hb=>hs b (by unfold AC;rw[iQ,hf];exact cX _ hb)) hr⟩
 exact all X.outer (λ_ hb=>hb) I.ok.funs
theorem bW.stack(I:bW X pins σ H s):s.heap.FunFrames X.base X.stack:=by
 rcases I.ok.stk with e|⟨e,hf⟩
 ·rw[e];exact I.funs
 ·rw[e]
  obtain⟨m,hn,_⟩:=I.loc
  refine .cons (by rw[I.ok.kind];decide) hf hn ?_ I.funs
  exact Heap.get?_none_of_le (cq I.ok.bsz I.ok.above)
theorem bW.stkSub(I:bW X pins σ H s):∀b∈AC X.stack,b∈X.env.locals::X.fs:=λb hb=>by
 rcases I.ok.stk with e|⟨e,hf⟩
 ·rw[e] at hb;exact cX _ hb
 ·rw[e] at hb
  unfold AC at hb
  rw[iQ,hf] at hb
  exact hb
theorem bW.stkFree(I:bW X pins σ H s):∀b∈AC X.stack,H b=none:=λb hb=>by
 rcases aV.mp (I.stkSub b hb) with e|hb
 ·rw[e];exact I.free
 ·obtain⟨_,o,ho,_⟩:=I.ok.funs.mem hb
  exact I.base.free b o ho (I.ok.frf b hb) λz=>I.ok.exfs b z hb
theorem bW.step{g':Array GenState}{t':Nat}{d':Drawn}{ch:List Addr}(I:bW X pins σ H s)
  (hch:∀b∈ch,(b∈X.ex\/X.s₀.heap.objs.size<=b)/\b≠X.env.locals/\(∀x c,X.env.cells.lookup x=some c->c≠b)/\∀p∈X.pn++pins,p.1≠b)
  (keep:∀b o,b≠X.env.locals->b∉X.fs->b∉ch->s.heap.get? b=some o->H b=none->h'.get? b=some o)
  (slot:∀b o,b≠X.env.locals->b∈X.fs->b∉ch->s.heap.get? b=some o->H b=none->∃sl,h'.get? b=some {o with slots:=sl}) (free:∀b o,b∉ch->s.heap.get? b=some o->H b=none->H' b=none)
  (there:∀b o,b∉ch->s.heap.get? b=some o->∃o',h'.get? b=some o')
  (tups:∀b xs,H b=some (.tup xs)->H' b=some (.tup xs)) (frzs:∀b o u,H b=some (.frz o u)->H' b=some (.frz o u)) (tbls:∀b ps,H b=some (.tbl ps)->∃more,H' b=some (.tbl (ps++more)))
  (ns:∀m,s.heap.Ns X.env.locals m->h'.Ns X.env.locals m) (hok:pd X.prog X.w H' h') (hg:AllBare g') :
  bW X pins σ H' {s with heap:=h',gens:=g',drawn:=d',toks:=t'}:=by
 have neL:∀b o,X.s₀.heap.get? b=some o->b≠X.env.locals:=λb o e=>bj (aX (aJ e) I.ok.above)
 have neC:∀b o,X.s₀.heap.get? b=some o->b∉X.ex->b∉ch:=λb o e hx hb=>by
  rcases(hch b hb).1 with z|z
  ·exact hx z
  ·exact absurd (aX (aJ e) z) (cK _)
 have cellK:∀x c,X.env.cells.lookup x=some c->∀v,s.heap.IsCell c v->h'.IsCell c v:=λx c e v ⟨o,ho,hd⟩=>by
  have nch:c∉ch:=λz=>(hch c z).2.2.1 x c e rfl
  by_cases hc:c∈X.fs
  ·obtain⟨sl,q⟩:=slot c o (I.cne x c e) hc nch ho (I.freeC x c e)
   exact⟨_,q,hd⟩
  ·exact⟨o,keep c o (I.cne x c e) hc nch ho (I.freeC x c e),hd⟩
 refine⟨I.ok,I.os,hg,⟨λb o e n hb hx=>?_,λb o e n hb hx=>?_,λb o e n hx=>?_,λb o e hx=>?_,λb xs e=>tups b xs (I.base.tups b xs e),λb o xs e=>frzs b o xs (I.base.frzs b o xs e),λb ps e=>?_⟩,?_,λx c e=>?_,?_,λx c e=>?_,λp hp=>?_,hok,I.len⟩
 ·exact keep b o (neL b o e) hb (neC b o e hx) (I.base.keep b o e n hb hx) (I.base.free b o e n hx)
 ·obtain⟨sl,e1⟩:=I.base.slot b o e n hb hx
  obtain⟨sl',e2⟩:=slot b _ (neL b o e) hb (neC b o e hx) e1 (I.base.free b o e n hx)
  exact⟨sl',e2⟩
 ·obtain⟨o',e1⟩:=I.base.there b o e hx
  exact free b o' (neC b o e hx) e1 (I.base.free b o e n hx)
 ·obtain⟨o',e1⟩:=I.base.there b o e hx
  exact there b o' (neC b o e hx) e1
 ·obtain⟨m1,e1⟩:=I.base.tbls b ps e
  obtain⟨m2,e2⟩:=tbls b _ e1
  exact⟨m1++m2,by rw[e2,Array.append_assoc]⟩
 ·obtain⟨m,hn,hl⟩:=I.loc
  refine⟨m,ns m hn,λi x v e1 e2 e3=>?_⟩
  obtain⟨u,r,l⟩:=hl i x v e1 e2 e3
  refine⟨u,r,?_⟩
  rcases l with l|⟨k,c,e,z⟩
  ·exact .inl l
  ·exact .inr ⟨k,c,e,cellK x c e _ z⟩
 ·obtain⟨v,z⟩:=I.cell x c e
  exact⟨v,cellK x c e v z⟩
 ·obtain⟨m,⟨o,_,_,ho,_⟩,_⟩:=I.loc
  exact free _ o (λz=>(hch _ z).2.1 rfl) ho I.free
 ·obtain⟨v,o,ho,hd⟩:=I.cell x c e
  exact free c o (λz=>(hch c z).2.2.1 x c e rfl) ho (I.freeC x c e)
 ·obtain⟨e,n,ne,nf,d⟩:=I.pin p hp
  have nch:p.1∉ch:=λz=>(hch p.1 z).2.2.2 p hp rfl
  exact⟨keep p.1 p.2 ne nf nch e n,free p.1 p.2 nch e n,ne,nf,d⟩
theorem bW.un{t':Nat}(I:bW X pins σ H s)(u:Un X.fs [] H H' s.heap h')(hok:pd X.prog X.w H' h'):bW X pins σ H' {s with heap:=h',toks:=t'}:=by
 obtain⟨m,⟨o,es,ep,ho,r⟩,_⟩:=id I.loc
 obtain⟨sl,hL⟩:=u.any ho I.free (by simp)
 exact I.step (g':=s.gens) (d':=s.drawn) (ch:=[]) (λ_ z=>nomatch z) (λb o _ hb _ e n=>u.keep b o e n hb (by simp)) (λb o _ hb _ e n=>u.slot b o e n hb (by simp)) (λb o _ e n=>u.free b o e n (by simp)) (λb o _ e=>u.there b o e (by simp)) u.tups u.frzs u.tbls (λm' hm=>by
  obtain⟨o',es',ep',ho',r'⟩:=hm
  rw[ho] at ho';cases ho'
  exact⟨_,es',ep',hL,r'⟩) hok I.bare
theorem bW.call{g':Array GenState}{t':Nat}{d':Drawn}{ch:List Addr}(I:bW X pins σ H s)(u:Un (AC X.stack) ch H H' s.heap h')(hok:pd X.prog X.w H' h')(hg:AllBare g')
  (hch:∀b∈ch,(b∈X.ex\/X.s₀.heap.objs.size<=b)/\b≠X.env.locals/\(∀x c,X.env.cells.lookup x=some c->c≠b)/\∀p∈X.pn++pins,p.1≠b) :
  bW X pins σ H' {s with heap:=h',gens:=g',drawn:=d',toks:=t'}:=by
 obtain⟨m,⟨o,es,ep,ho,r⟩,_⟩:=id I.loc
 obtain⟨sl,hL⟩:=u.any ho I.free λz=>(hch _ z).2.1 rfl
 exact I.step (ch:=ch) hch (λb o hL hb hc e n=>u.keep b o e n (λz=>(aV.mp (I.stkSub b z)).elim hL hb) hc) (λb o _ _ hc e n=>u.any e n hc) (λb o hc e n=>u.free b o e n hc) (λb o hc e=>u.there b o e hc) u.tups u.frzs u.tbls (λm' hm=>by
  obtain⟨o',es',ep',ho',r'⟩:=hm
  rw[ho] at ho';cases ho'
  exact⟨_,es',ep',hL,r'⟩) hok hg
theorem bW.turned{t':Nat}{it:Addr}(I:bW X pins σ H s)(k:∀b o,b≠it->s.heap.get? b=some o->h'.get? b=some o)(hn:H it=none)(hL:it≠X.env.locals)
  (h1:it∈X.ex\/X.s₀.heap.objs.size<=it) (h2:∀x c,X.env.cells.lookup x=some c->c≠it) (h3:∀p∈X.pn++pins,p.1≠it):bW X pins σ H {s with heap:=h',toks:=t'}:=by
 have nit:∀b u,H b=some u->b≠it:=λb u e z=>by rw[z,hn] at e;cases e
 refine I.step (g':=s.gens) (d':=s.drawn) (ch:=[it]) (λb hb=>?_) (λb o _ _ hc e _=>k b o (λz=>hc (by simp[z])) e) (λb o _ _ hc e _=>⟨o.slots,k b o (λz=>hc (by simp[z])) e⟩) (λ_ _ _ _ n=>n)
  (λb o hc e=>⟨o,k b o (λz=>hc (by simp[z])) e⟩) (λ_ _ e=>e) (λ_ _ _ e=>e) (λb ps e=>⟨#[],by rw[e];simp⟩) (λm hm=>?_) (λb u e=>?_) I.bare
 ·have e:b=it:=by simpa using hb
  subst e
  exact⟨h1,hL,h2,h3⟩
 ·obtain⟨o,es,ep,ho,r⟩:=hm
  exact⟨o,es,ep,k _ o (Ne.symm hL) ho,r⟩
 ·refine(I.hok b u e).stay (λc v hc q=>k c v ?_ q) (λ_ q=>q) λ_ _ q=>q
  rcases hc with z|z
  ·rw[z];exact nit b u e
  ·exact nit c _ z
theorem bW.tok(I:bW X pins σ H s)(t:Nat):bW X pins σ H {s with toks:=t}:=I.un (h':=s.heap) (t':=t) Un.refl I.hok
theorem bW.kept{t':Nat}(I:bW X pins σ H s)(k:∀b u,s.heap.get? b=some u->h'.get? b=some u):bW X pins σ H {s with heap:=h',toks:=t'}:=I.un (Un.kept k) (I.hok.kept k)
theorem bW.laid{a:Addr}{o:HO}{t':Nat}(I:bW X pins σ H s)(k:∀b u,s.heap.get? b=some u->h'.get? b=some u)(hp:s.heap.objs.size<=a)(new:eR X.prog X.w (upd H a o) h' a o) :
  bW X pins σ (upd H a o) {s with heap:=h',toks:=t'}:=I.un (Un.laid k hp (I.hok.fresh hp)) (I.hok.laid k hp new)
theorem bW.write{x e:Addr}{o:HO}{t':Nat}(I:bW X pins σ H s)(mu:NU (H x))(he:e=x\/H e=some (.own x))(k:∀b u,b≠e->s.heap.get? b=some u->h'.get? b=some u)(heo:∃u,h'.get? e=some u)
  (new:eR X.prog X.w (upd H x o) h' x o):bW X pins σ (upd H x o) {s with heap:=h',toks:=t'}:=I.un (Un.write mu he k heo) (I.hok.write mu he k heo new)
theorem bW.weak{σ':List (Option V)}(I:bW X pins σ H s)(hl:σ'.length=σ.length)(w:∀(i:Nat) v,σ'[i]?=some (some v)->σ[i]?=some (some v)):bW X pins σ' H s:=
 ⟨I.ok,I.os,I.bare,I.base,let⟨m,hn,hl'⟩:=I.loc;⟨m,hn,λi x v e1 e2 e3=>hl' i x v e1 (w i v e2) e3⟩,I.cell,I.free,I.freeC,I.pin,I.hok,hl.trans I.len⟩
theorem bW.pins_of{pins':List (Addr×Obj)}(I:bW X pins σ H s)(h:∀p∈pins',s.heap.get? p.1=some p.2/\H p.1=none/\p.1≠X.env.locals/\p.1∉X.fs/\∀v,p.2.data≠.cell v):bW X pins' σ H s:=
 ⟨I.ok,I.os,I.bare,I.base,I.loc,I.cell,I.free,I.freeC,λp hp=>(bu.mp hp).elim (λz=>I.pin p (ck _ z)) (h p),I.hok,I.len⟩
theorem wx{N:List Str}(hN:N.Nodup){i j:Nat}{x:Str}(a:N[i]?=some x)(b:N[j]?=some x):i=j:=by
 obtain⟨h1,e1⟩:=ar.mp a
 obtain⟨h2,e2⟩:=ar.mp b
 exact(List.getElem_inj hN).mp (e1.trans e2.symm)
theorem yL{M:Model}{A:Around}{E:Value->Shared->Prop}{i:Nat}{x:Str}{v:V}{u:Value}{Q:Unit->Shared->Prop}(I:bW X pins σ H s)(hN:X.N.Nodup)(hi:X.N[i]?=some x)(hx:LK X.env.scope x)(r:dy v u)
  (h:∀s',bW X pins (σ.set i (some v)) H s'->(∃a,Heap.SameBut a s.heap s'.heap/\(a=X.env.locals\/X.env.cells.lookup x=some a))->Q () s') (hf:X.fn x=true\/X.env.scope.names.lookup x=some .local:=by first|exact .inl rfl|exact .inr rfl|assumption):wpAny M A (storeName X.env x u) Q E s:=by
 obtain⟨m,hn,hl⟩:=id I.loc
 have hcls:(X.env.scope.kind==.class || (X.env.scope.kind==.module&&X.env.locals != X.env.globals))=false:=by rw[I.ok.kind];rfl
 have hiσ:i<σ.length:=by rw[I.len];exact(ar.mp hi).1
 have cne:=I.cne
 have tracked:∀{a:Addr} {h':Heap},(∃o,s.heap.get? a=some o/\H a=none)->Heap.SameBut a s.heap h'->pd X.prog X.w H h':=λ{a h'} ha hs b ob e=>by
  obtain⟨_,_,hfree⟩:=ha
  refine(I.hok b ob e).stay (λc w' hc q=>(hs.2 c ?_).trans q) (λ_ q=>q) λ_ _ q=>q
  rintro rfl
  rcases hc with rfl|hc
  ·rw[hfree] at e;cases e
  ·rw[hfree] at hc;cases hc
 rcases hx with hk|hk
 ·refine wpAny_storeName_local hk hn (λh' hn' hs=>?_) hcls
  obtain⟨oL,_,_,hoL,_⟩:=id hn
  refine h _ ⟨I.ok,I.os,I.bare,⟨λb o e n hb hx=>?_,λb o e n hb hx=>?_,I.base.free,λb o e hx=>?_,I.base.tups,I.base.frzs,I.base.tbls⟩,⟨_,hn',λj y v' e1 e2 e3=>?_⟩,λy c e=>?_,I.free,I.freeC,λp hp=>?_,tracked ⟨oL,hoL,I.free⟩ hs,by simpa using I.len⟩ ⟨_,hs,.inl rfl⟩
  ·exact(hs.2 b (bj (aX (aJ e) I.ok.above))).trans (I.base.keep b o e n hb hx)
  ·obtain⟨sl,e1⟩:=I.base.slot b o e n hb hx
   exact⟨sl,(hs.2 b (bj (aX (aJ e) I.ok.above))).trans e1⟩
  ·obtain⟨o',e1⟩:=I.base.there b o e hx
   exact⟨o',(hs.2 b (bj (aX (aJ e) I.ok.above))).trans e1⟩
  ·by_cases hj:j=i
   ·subst hj
    rw[hi] at e1;cases e1
    rw[bB hiσ] at e2
    cases e2
    exact⟨u,r,.inl ⟨hk,by simp⟩⟩
   ·rw[bP (Ne.symm hj)] at e2
    obtain⟨u',r',q⟩:=hl j y v' e1 e2 e3
    refine⟨u',r',?_⟩
    rcases q with⟨k,e⟩|⟨k,c,e,z⟩
    ·refine .inl ⟨k,?_⟩
     have:y≠x:=λe=>hj (wx hN e1 (e ▸ hi))
     simp[this,e]
    ·exact .inr ⟨k,c,e,z.sameBut hs (cne y c e)⟩
  ·obtain⟨w',z⟩:=I.cell y c e
   exact⟨w',z.sameBut hs (cne y c e)⟩
  ·obtain⟨e,n,ne,nf,d⟩:=I.pin p hp
   exact⟨(hs.2 p.1 ne).trans e,n,ne,nf,d⟩
 ·have hfn:X.fn x=true:=by
   rcases hf with z|z
   ·exact z
   ·rw[z] at hk;cases hk
  obtain⟨c,hc⟩:=I.ok.has x (.inl hk)
  obtain⟨w',z⟩:=I.cell x c hc
  refine wpAny_storeName_cell I.ok.kind hk hc z (λh' hc' hs=>?_)
  obtain⟨oc,hoc,hocd⟩:=id z
  refine h {s with heap:=h'} ⟨I.ok,I.os,I.bare,⟨λb o e n hb hx=>?_,λb o e n hb hx=>?_,I.base.free,λb o e hx=>?_,I.base.tups,I.base.frzs,I.base.tbls⟩,⟨m,hn.sameBut hs (Ne.symm (cne x c hc)),λj y v' e1 e2 e3=>?_⟩,λy c' e=>?_,I.free,I.freeC,λp hp=>?_,tracked ⟨oc,hoc,I.freeC x c hc⟩ hs,by simpa using I.len⟩ ⟨c,hs,.inr hc⟩
  ·exact(hs.2 b (bj (aX (aJ e) (I.ok.cab x c hfn hc)))).trans (I.base.keep b o e n hb hx)
  ·obtain⟨sl,e1⟩:=I.base.slot b o e n hb hx
   exact⟨sl,(hs.2 b (bj (aX (aJ e) (I.ok.cab x c hfn hc)))).trans e1⟩
  ·obtain⟨o',e1⟩:=I.base.there b o e hx
   exact⟨o',(hs.2 b (bj (aX (aJ e) (I.ok.cab x c hfn hc)))).trans e1⟩
  ·by_cases hj:j=i
   ·subst hj
    rw[hi] at e1;cases e1
    rw[bB hiσ] at e2
    cases e2
    exact⟨u,r,.inr ⟨.inl hk,c,hc,hc'⟩⟩
   ·rw[bP (Ne.symm hj)] at e2
    obtain⟨u',r',q⟩:=hl j y v' e1 e2 e3
    refine⟨u',r',?_⟩
    rcases q with q|⟨k,c',e,z'⟩
    ·exact .inl q
    ·refine .inr ⟨k,c',e,z'.sameBut hs ?_⟩
     rintro rfl
     exact hj (wx hN e1 (I.ok.inj _ _ _ e hc ▸ hi))
  ·by_cases hcc:c'=c
   ·subst hcc;exact⟨_,hc'⟩
   ·obtain⟨w2,z2⟩:=I.cell y c' e
    exact⟨w2,z2.sameBut hs hcc⟩
  ·obtain⟨e,n,ne,nf,d⟩:=I.pin p hp
   refine⟨(hs.2 p.1 ?_).trans e,n,ne,nf,d⟩
   intro q
   rw[q,hoc] at e
   have q':oc=p.2:=Option.some.inj e
   exact d w' (by rw[<-q'];exact hocd)
theorem sN{M:Model}{A:Around}{E:Value->Shared->Prop}{i:Nat}{x:Str}{v:V}{u:Value}{Q:Unit->Shared->Prop}(I:bW X pins σ H s)(hN:X.N.Nodup)(hi:X.N[i]?=some x)(hx:LK X.env.scope x)(r:dy v u)
  (h:∀s',bW X pins (σ.set i (some v)) H s'->Q () s') (hf:X.fn x=true\/X.env.scope.names.lookup x=some .local:=by first|exact .inl rfl|exact .inr rfl|assumption):wpAny M A (storeName X.env x u) Q E s:=
 yL I hN hi hx r (λs' I' _=>h s' I') hf
theorem bW.call'{s':Shared}{ch:List Addr}(I:bW X pins σ H s)(ho:s'.os=s.os)(u:Un (AC X.stack) ch H H' s.heap s'.heap)(hok:pd X.prog X.w H' s'.heap)(hg:AllBare s'.gens)
  (hch:∀b∈ch,(b∈X.ex\/X.s₀.heap.objs.size<=b)/\b≠X.env.locals/\(∀x c,X.env.cells.lookup x=some c->c≠b)/\∀p∈X.pn++pins,p.1≠b):bW X pins σ H' s':=by
 obtain⟨h',g',d',t',o'⟩:=s'
 have e:o'=s.os:=ho
 subst e
 exact I.call (g':=g') (t':=t') (d':=d') u hok hg hch
end
abbrev XK:=Value->Option Addr->Hp->Prop
abbrev St:=List (Option V)
abbrev VK:=V->Hp->Prop
abbrev TE:=St->Hp->VK->Prop
abbrev TT:=St->Hp->(Bool->Hp->Prop)->Prop
abbrev TA:=St->Hp->(List V->Hp->Prop)->Prop
structure oZ where
 nx:St->Hp->Prop
 rt:VK
 bk:St->Hp->Prop:=λ_ _=>False
 ct:St->Hp->Prop:=λ_ _=>False
abbrev TS:=oZ->St->Hp->Prop
def EP(X:Cx)(pins:List (Addr×Obj))(σ:St)(Q:VK)(u:Value)(s':Shared):Prop:=∃v H',bW X pins σ H' s'/\dy v u/\Q v H'
def TP(X:Cx)(pins:List (Addr×Obj))(σ:St)(Q:Bool->Hp->Prop)(b:Bool)(s':Shared):Prop:=∃H',bW X pins σ H' s'/\Q b H'
def AP(X:Cx)(pins:List (Addr×Obj))(σ:St)(Q:List V->Hp->Prop)(us:List Value)(s':Shared):Prop:=∃vs H',bW X pins σ H' s'/\cT vs us/\Q vs H'
def SP(X:Cx)(pins:List (Addr×Obj))(D:oZ)(f:Flow)(s':Shared):Prop:=
 match f with
 |.next=>∃σ' H',bW X pins σ' H' s'/\D.nx σ' H'
 |.brk=>∃σ' H',bW X pins σ' H' s'/\D.bk σ' H'
 |.cont=>∃σ' H',bW X pins σ' H' s'/\D.ct σ' H'
 |.ret u=>∃v σ' H',bW X pins σ' H' s'/\dy v u/\D.rt v H'
def PE(X:Cx)(e:Expr)(t:TE):Prop:=
 ∀(pins:List (Addr×Obj)) (s:Shared) (σ:St) (H:Hp) (Q:VK),bW X pins σ H s->t σ H Q->wpAny (model X.prog X.w) X.A (eval e X.env) (EP X pins σ Q) X.xe s
def PT(X:Cx)(e:Expr)(t:TT):Prop:=
 ∀(pins:List (Addr×Obj)) (s:Shared) (σ:St) (H:Hp) (Q:Bool->Hp->Prop),bW X pins σ H s->t σ H Q->wpAny (model X.prog X.w) X.A (isTrue e X.env (eval e X.env)) (TP X pins σ Q) X.xe s
def PW(X:Cx)(e:Expr)(t:TT):Prop:=
 ∀(whole:Sem Value) (pins:List (Addr×Obj)) (s:Shared) (σ:St) (H:Hp) (Q:Bool->Hp->Prop),bW X pins σ H s->t σ H Q->wpAny (model X.prog X.w) X.A (isTrue e X.env whole) (TP X pins σ Q) X.xe s
theorem PW.pt{X:Cx}{e:Expr}{t:TT}(h:PW X e t):PT X e t:=h _
def PA(X:Cx)(es:List Expr)(t:TA):Prop:=
 ∀(pos:Pos) (pins:List (Addr×Obj)) (s:Shared) (σ:St) (H:Hp) (Q:List V->Hp->Prop),bW X pins σ H s->t σ H Q->wpAny (model X.prog X.w) X.A (spliced (backTo pos (starEach es X.env))) (AP X pins σ Q) X.xe s
def PS(X:Cx)(st:Stmt)(t:TS):Prop:=
 ∀(pins:List (Addr×Obj)) (s:Shared) (σ:St) (H:Hp) (D:oZ),bW X pins σ H s->t D σ H->wpAny (model X.prog X.w) X.A (exec st X.env) (SP X pins D) X.xe s
def jv(X:Cx)(st:List Stmt)(t:TS):Prop:=
 ∀(pins:List (Addr×Obj)) (s:Shared) (σ:St) (H:Hp) (D:oZ),bW X pins σ H s->t D σ H->wpAny (model X.prog X.w) X.A (execs st X.env) (SP X pins D) X.xe s
theorem gZ{α:Type}{t:Sem α}{Q Q':α->Shared->Prop}{M:Model}{A:Around}{E:Value->Shared->Prop}{s:Shared}(h:wpAny M A t Q E s)(hQ:∀a s,Q a s->Q' a s):wpAny M A t Q' E s:=wpAny_mono h hQ λ_ _ x=>x
section
variable{X:Cx}
def aj(i:Nat):TE:=λσ H Q=>∃v,σ[i]?=some (some v)/\Q v H
def tC(v:V):TE:=λ_ H Q=>Q v H
theorem Nb{i:Nat}{x:Str}{pos:Pos}(hN:X.N[i]?=some x)(hv:OK X.env.scope x)(hd:(x==("__debug__":Str))=false:=by decide)(hcd:(x==("__classdict__":Str))=false:=by decide):PE X (.Name x pos) (aj i):=by
 intro pins s σ H Q I h
 obtain⟨v,e,h⟩:=h
 obtain⟨m,hn,hl⟩:=I.loc
 obtain⟨u,r,l⟩:=hl i x v hN e hv
 have fin:EP X pins σ Q u s:=⟨v,H,I,r,h⟩
 rcases l with⟨hk,hm⟩|⟨hk,c,hc,hcell⟩
 ·exact wpAny_Name (wpAny_loadName_local I.ok.kind hk hn hm fin) hd
 ·rcases hk with hk|hk
  ·exact wpAny_Name (wpAny_loadName_cell I.ok.kind hk hc hcell fin) hd
  ·exact wpAny_Name (wpAny_loadName_free I.ok.kind hk hc hcell fin hcd) hd
theorem MX{i j pos}:PE X (.Constant (.int i) j pos) (tC (.int i)):=λ_ _ _ H _ I h=>wpAny_Constant_int ⟨.int i,H,I.tok _,⟨_,rfl⟩,h⟩
theorem Oh{b j pos}:PE X (.Constant (.bool b) j pos) (tC (.bl b)):=λ_ _ _ H _ I h=>Constant_bool ⟨.bl b,H,I,rfl,h⟩
theorem HS{j pos}:PE X (.Constant .none j pos) (tC .non):=λ_ _ _ H _ I h=>Constant_none ⟨.non,H,I,rfl,h⟩
theorem M5{x j pos}:PE X (.Constant (.str x) j pos) (tC (.str x)):=λ_ _ _ H _ I h=>Calls.Constant_str ⟨.str x,H,I.tok _,⟨_,rfl⟩,h⟩
def Gl(X:Cx)(x:Str):Prop:=X.env.kindOf x=some .globalImplicit
theorem vz{E:Value->Shared->Prop}{pins:List (Addr×Obj)}{s:Shared}{σ:St}{H:Hp}{x:Str}{u:Value}{pos:Pos}{Q:Value->Shared->Prop}(I:bW X pins σ H s)(hg:Gl X x)(hm:X.mg x=some u)(h:Q u s)
  (hd:(x==("__debug__":Str))=false:=by decide):wpAny (model X.prog X.w) X.A (eval (.Name x pos) X.env) Q E s:=
 Calls.Name_function_global I.ok.kind hg (Calls.loadGlobal_global (by rw[I.ok.glob];exact I.mod.glob.keeps I.bk) hm h) hd
theorem mY{E:Value->Shared->Prop}{pins:List (Addr×Obj)}{s:Shared}{σ:St}{H:Hp}{x:Str}{u:Value}{pos:Pos}{Q:Value->Shared->Prop}(I:bW X pins σ H s)(hg:Gl X x)(hm:X.mg x=none)(hv:bootBuiltins x=some u)(h:Q u s)
  (hn:x≠"__name__":=by decide) (hd:(x==("__debug__":Str))=false:=by decide):wpAny (model X.prog X.w) X.A (eval (.Name x pos) X.env) Q E s:=by
 obtain⟨mb,h1,h2⟩:=I.mod.blt
 exact Calls.Name_function_global I.ok.kind hg (Calls.loadGlobal_builtin (by rw[I.ok.glob];exact I.mod.glob.keeps I.bk) hm (by rw[I.ok.blt];exact h1.keeps I.bk) ((h2 x hn).trans hv) h) hd
theorem Kt{x:Str}{v:V}{u:Value}{pos:Pos}(hg:Gl X x)(hm:X.mg x=none)(hv:bootBuiltins x=some u)(r:dy v u)(hn:x≠"__name__":=by decide)(hd:(x==("__debug__":Str))=false:=by decide):PE X (.Name x pos) (tC v):=
 λ_ _ _ H _ I h=>mY I hg hm hv ⟨v,H,I,r,h⟩ hn hd
variable{a b:Expr}{ta tb:TE}{pos:Pos}
def tB(t:TE):TT:=λσ H Q=>t σ H λx H1=>∃c,x=.bl c/\Q c H1
theorem Nr{e:Expr}{t:TE}(h:PE X e t)(he:∀whole,isTrue e X.env whole=(do let v <-whole;standAt e.pos;holding [v] (truthy v)):=by intro _;rfl):PT X e (tB t):=by
 intro pins s σ H Q I hw
 refine isTrue_plain (gZ (h pins s σ H _ I hw) λv s1 ⟨x,H1,I1,r1,q1⟩=>?_) (he _)
 obtain⟨d,rfl,q⟩:=q1
 cases r1
 exact wpAny_truthy_bool ⟨H1,I1,q⟩
variable{tA tB':TT}{rest:List Expr}
def vh(t u:TT):TT:=λσ H Q=>t σ H λc H1=>if c=true then u σ H1 Q else Q false H1
def Dz(t u:TT):TT:=λσ H Q=>t σ H λc H1=>if c=true then Q true H1 else u σ H1 Q
def BE(t:TT):TT:=λσ H Q=>t σ H λc H1=>Q (!c) H1
theorem KU(ha:PT X a tA):PW X (.BoolOp .And [a] pos) tA:=by
 intro wh pins s σ H Q I h
 refine isTrue_and (gZ (ha pins s σ H Q I h) λc s1 e=>?_)
 cases c with
 |true=>exact isTrue_and_nil e
 |false=>exact e
theorem Nu(ha:PT X a tA):PW X (.BoolOp .Or [a] pos) tA:=by
 intro wh pins s σ H Q I h
 refine isTrue_or (gZ (ha pins s σ H Q I h) λc s1 e=>?_)
 cases c with
 |false=>exact isTrue_or_nil e
 |true=>exact e
theorem Nt(ha:PT X a tA)(hb:PW X (.BoolOp .And (b::rest) pos) tB'):PW X (.BoolOp .And (a::b::rest) pos) (vh tA tB'):=by
 intro wh pins s σ H Q I h
 refine isTrue_and (gZ (ha pins s σ H _ I h) λc s1 ⟨H1,I1,q1⟩=>?_)
 cases c with
 |true=>exact hb wh pins s1 σ H1 Q I1 q1
 |false=>exact⟨H1,I1,q1⟩
theorem Os(ha:PT X a tA)(hb:PW X (.BoolOp .Or (b::rest) pos) tB'):PW X (.BoolOp .Or (a::b::rest) pos) (Dz tA tB'):=by
 intro wh pins s σ H Q I h
 refine isTrue_or (gZ (ha pins s σ H _ I h) λc s1 ⟨H1,I1,q1⟩=>?_)
 cases c with
 |true=>exact⟨H1,I1,q1⟩
 |false=>exact hb wh pins s1 σ H1 Q I1 q1
theorem Nq(ha:PT X a tA):PT X (.UnaryOp .Not a pos) (BE tA):=by
 intro pins s σ H Q I h
 exact isTrue_not (ha pins s σ H (λc H1=>Q (!c) H1) I h)
def yM(ta tb:TE):TE:=λσ H Q=>ta σ H λx H1=>∃c,x=.bl c/\if c=true then tb σ H1 Q else Q (.bl false) H1
def IQ(ta tb:TE):TE:=λσ H Q=>ta σ H λx H1=>∃c,x=.bl c/\if c=true then Q (.bl true) H1 else tb σ H1 Q
theorem MZ{op}{t:TE}(h:PE X a t):PE X (.BoolOp op [a] pos) t:=λpins s σ H Q I hw=>BoolOp_one (h pins s σ H Q I hw)
theorem MU(ha:PE X a ta)(hb:PE X (.BoolOp .And (b::rest) pos) tb):PE X (.BoolOp .And (a::b::rest) pos) (yM ta tb):=by
 intro pins s σ H Q I h
 refine BoolOp_and (gZ (ha pins s σ H _ I h) λv s1 ⟨x,H1,I1,r1,q1⟩=>?_)
 obtain⟨c,rfl,q1⟩:=q1
 cases r1
 refine wpAny_truthy_bool ?_
 cases c with
 |true=>exact hb pins s1 σ H1 Q I1 q1
 |false=>exact⟨.bl false,H1,I1,rfl,q1⟩
theorem On(ha:PE X a ta)(hb:PE X (.BoolOp .Or (b::rest) pos) tb):PE X (.BoolOp .Or (a::b::rest) pos) (IQ ta tb):=by
 intro pins s σ H Q I h
 refine BoolOp_or (gZ (ha pins s σ H _ I h) λv s1 ⟨x,H1,I1,r1,q1⟩=>?_)
 obtain⟨c,rfl,q1⟩:=q1
 cases r1
 refine wpAny_truthy_bool ?_
 cases c with
 |false=>exact hb pins s1 σ H1 Q I1 q1
 |true=>exact⟨.bl true,H1,I1,rfl,q1⟩
end
def cA(K:Fg)(H:Hp)(a:Addr)(xs:List V):Prop:=
 Rd H a (.lst xs)\/
  ∃(o:Obj) (its:Array Value) (n:Nat),K.lookup a=some o/\o.cls=.type "list"/\o.dict=none/\o.data=.seq its n/\its.size<=sizeLine/\cT xs its.toList
def cY(K:Fg)(H:Hp)(a:Addr)(xs:List V):Prop:=
 Rd H a (.tup xs)\/
  ∃(o:Obj) (its:Array Value) (n:Nat),K.lookup a=some o/\o.cls=.type "tuple"/\o.data=.seq its n/\its.size<=sizeLine/\cT xs its.toList
def OU:Value->Option V
 |.none=>some .non
 |.bool b=>some (.bl b)
 |.int i _=>some (.int i)
 |.str x _=>some (.str x)
 |.bytes b _=>some (.byt b)
 |.float b _=>some (.flt b)
 |.ref a=>some (.ref a)
 |.type n=>some (.ty n)
 |_=>none
theorem dy.abs{x:V}{u:Value}(r:dy x u):OU u=some x:=by
 cases x with
 |non=>cases r;rfl
 |bl _=>cases r;rfl
 |int _=>obtain⟨t,rfl⟩:=r;rfl
 |str _=>obtain⟨t,rfl⟩:=r;rfl
 |byt _=>obtain⟨t,rfl⟩:=r;rfl
 |flt _=>obtain⟨t,rfl⟩:=r;rfl
 |ref _=>cases r;rfl
 |ty _=>cases r;rfl
theorem dy.inj{x y:V}{u:Value}(r:dy x u)(q:dy y u):x=y:=Option.some.inj (r.abs.symm.trans q.abs)
theorem cT.inj:∀{xs ys:List V} {us:List Value},cT xs us->cT ys us->xs=ys
 |_,_,_,.nil,.nil=>rfl
 |_,_,_,.cons r t,.cons r' t'=>by rw[r.inj r',cT.inj t t']
section
variable{X:Cx}{pins:List (Addr×Obj)}{σ:St}{H:Hp}{s:Shared}{a:Addr}{xs ys:List V}
theorem cA.of{K:Fg}(h:H a=some (.lst xs)):cA K H a xs:=.inl (.inl h)
theorem cY.of{K:Fg}(h:H a=some (.tup xs)):cY K H a xs:=.inl (.inl h)
theorem bW.list(I:bW X pins σ H s)(h:cA X.K H a xs):∃its:List Value,cT xs its/\PlainL s.heap a its.toArray/\xs.length<=sizeLine:=by
 rcases h with h|⟨o,its,n,hk,hc,hd,hs,hz,r⟩
 ·obtain⟨z,its,n,r,e⟩:=h.ok I.hok
  exact⟨its,r,⟨_,n,e,rfl,rfl,rfl⟩,z⟩
 ·refine⟨its.toList,r,⟨o,n,I.kIn a o hk,hc,hd,by simpa using hs⟩,?_⟩
  have e:=r.length
  simp only[cc] at e
  lia
theorem bW.tuple(I:bW X pins σ H s)(h:cY X.K H a xs):∃its:List Value,cT xs its/\IsTup s.heap a its.toArray/\xs.length<=sizeLine:=by
 rcases h with h|⟨o,its,n,hk,hc,hs,hz,r⟩
 ·obtain⟨z,its,r,p⟩:=h.ok I.hok
  exact⟨its,r,p.tup,z⟩
 ·refine⟨its.toList,r,⟨o,I.kIn a o hk,hc,n,by simpa using hs⟩,?_⟩
  have e:=r.length
  simp only[cc] at e
  lia
theorem bW.list_inj(I:bW X pins σ H s)(h:cA X.K H a xs)(h':cA X.K H a ys):xs=ys:=by
 obtain⟨its,r,⟨o,n,e,_,_,d⟩,_⟩:=I.list h
 obtain⟨its',r',⟨o',n',e',_,_,d'⟩,_⟩:=I.list h'
 rw[e] at e';cases e'
 rw[d] at d'
 injection d' with d1 _
 have:its=its':=by simpa using congrArg Array.toList d1
 subst this
 exact r.inj r'
theorem bW.tuple_inj(I:bW X pins σ H s)(h:cY X.K H a xs)(h':cY X.K H a ys):xs=ys:=by
 obtain⟨its,r,⟨o,e,_,n,d⟩,_⟩:=I.tuple h
 obtain⟨its',r',⟨o',e',_,n',d'⟩,_⟩:=I.tuple h'
 rw[e] at e';cases e'
 rw[d] at d'
 injection d' with d1 _
 have:its=its':=by simpa using congrArg Array.toList d1
 subst this
 exact r.inj r'
end
abbrev Cx.wish(X:Cx)(E:Value->Shared->Prop):Cx:={X with xe:=E}
abbrev Cx.nox(X:Cx):Cx:=X.wish λ_ _=>False
theorem Cx.Ok.wish{X:Cx}(ok:X.Ok)(E:Value->Shared->Prop):(X.wish E).Ok:=
 ⟨ok.mod,ok.kind,ok.glob,ok.blt,ok.above,ok.inj,ok.has,ok.cab,ok.hd,ok.frames,ok.stk,ok.exf,ok.bs,ok.bsz,ok.noex,ok.exfs,ok.funs,ok.frf⟩
theorem Cx.Ok.unwish{X:Cx}{E:Value->Shared->Prop}(ok:(X.wish E).Ok):X.Ok:=
 ⟨ok.mod,ok.kind,ok.glob,ok.blt,ok.above,ok.inj,ok.has,ok.cab,ok.hd,ok.frames,ok.stk,ok.exf,ok.bs,ok.bsz,ok.noex,ok.exfs,ok.funs,ok.frf⟩
section
variable{X:Cx}{pins:List (Addr×Obj)}{σ:St}{H:Hp}{s:Shared}{E:Value->Shared->Prop}
theorem bW.wish(I:bW X pins σ H s)(E:Value->Shared->Prop):bW (X.wish E) pins σ H s:=⟨I.ok.wish E,I.os,I.bare,I.base,I.loc,I.cell,I.free,I.freeC,I.pin,I.hok,I.len⟩
theorem bW.unwish(I:bW (X.wish E) pins σ H s):bW X pins σ H s:=⟨I.ok.unwish,I.os,I.bare,I.base,I.loc,I.cell,I.free,I.freeC,I.pin,I.hok,I.len⟩
theorem SP.unwish{D:oZ}{f:Flow}{s':Shared}(h:SP (X.wish E) pins D f s'):SP X pins D f s':=by
 cases f with
 |next=>obtain⟨σ',H',I,q⟩:=h;exact⟨σ',H',I.unwish,q⟩
 |brk=>obtain⟨σ',H',I,q⟩:=h;exact⟨σ',H',I.unwish,q⟩
 |cont=>obtain⟨σ',H',I,q⟩:=h;exact⟨σ',H',I.unwish,q⟩
 |ret u=>obtain⟨v,σ',H',I,r,q⟩:=h;exact⟨v,σ',H',I.unwish,r,q⟩
theorem jv.nox{st:List Stmt}{t:TS}(h:jv X.nox st t):jv X st t:=λpins s σ H D I hw=>
 wpAny_mono (h pins s σ H D (I.wish _) hw) (λ_ _ q=>q.unwish) λ_ _ z=>False.elim z
end
section
variable{X:Cx}{st:Stmt}{rest:List Stmt}{t u:TS}{e:Expr}{te:TE}{pos:Pos}
def bY:TS:=λD σ H=>D.nx σ H
def bz(t u:TS):TS:=λD σ H=>t {D with nx:=u D} σ H
theorem KQ:jv X [] bY:=λ_ _ σ H _ I h=>wpAny_execs_nil ⟨σ,H,I,h⟩
theorem Ib(h1:PS X st t)(h2:jv X rest u):jv X (st::rest) (bz t u):=by
 intro pins s σ H D I h
 refine wpAny_execs_cons (gZ (h1 pins s σ H {D with nx:=u D} I h) λf s1 q=>?_)
 cases f with
 |next=>
  obtain⟨σ',H',I',q⟩:=q
  exact h2 pins s1 σ' H' D I' q
 |ret v=>exact q
 |brk=>exact q
 |cont=>exact q
theorem KR(h1:PS X st t):jv X [st] t:=by
 intro pins s σ H D I h
 refine wpAny_execs_cons (gZ (h1 pins s σ H D I h) λf s1 q=>?_)
 cases f with
 |next=>exact wpAny_execs_nil q
 |ret v=>exact q
 |brk=>exact q
 |cont=>exact q
theorem bW.quiet{pins:List (Addr×Obj)}{σ:St}{H:Hp}{s:Shared}(I:bW X pins σ H s):interactive X.env=false:=by simp[interactive,I.ok.kind]
def mq(te:TE):TS:=λD σ H=>te σ H λ_ H1=>D.nx σ H1
theorem KO(he:PE X e te)(hs:swapsWith e none pos.line X.env=pure false:=by rfl):PS X (.Expr e pos) (mq te):=by
 intro pins s σ H D I h
 exact wpAny_Expr_any (gZ (he pins s σ H _ I h) λv s1 ⟨x,H1,I1,r1,q1⟩=>⟨σ,H1,I1,q1⟩) I.quiet hs
def cE(te:TE):TS:=λD σ H=>te σ H D.rt
theorem Nl(he:PE X e te):PS X (.Return (some e) pos) (cE te):=by
 intro pins s σ H D I h
 exact wpAny_Return_some (gZ (he pins s σ H _ I h) λv s1 ⟨x,H1,I1,r1,q1⟩=>⟨x,σ,H1,I1,r1,q1⟩)
def cM(c:TT)(t u:TS):TS:=λD σ H=>c σ H λb H1=>if b=true then t D σ H1 else u D σ H1
theorem Oq{c:Expr}{a b:List Stmt}{tc:TT}(hc:PT X c tc)(ha:jv X a t)(hb:jv X b u):PS X (.If c a b pos) (cM tc t u):=by
 intro pins s σ H D I h
 refine wpAny_If (gZ (hc pins s σ H _ I h) λd s1 ⟨H1,I1,q1⟩=>?_)
 cases d with
 |true=>exact ha pins s1 σ H1 D I1 q1
 |false=>exact hb pins s1 σ H1 D I1 q1
end
abbrev TG:=V->St->Hp->(St->Hp->Prop)->Prop
abbrev EU:=List V->St->Hp->(St->Hp->Prop)->Prop
def PG(X:Cx)(target:Expr)(t:TG):Prop:=
 ∀(pins:List (Addr×Obj)) (s:Shared) (σ:St) (H:Hp) (v:V) (u:Value) (Q:St->Hp->Prop),bW X pins σ H s->dy v u->t v σ H Q->
  wpAny (model X.prog X.w) X.A (assign target X.env u) (λ_ s'=>∃σ' H',bW X pins σ' H' s'/\Q σ' H') X.xe s
def NN(X:Cx)(ts:List Expr)(t:EU):Prop:=
 ∀(pins:List (Addr×Obj)) (s:Shared) (σ:St) (H:Hp) (vs:List V) (us:List Value) (Q:St->Hp->Prop),bW X pins σ H s->cT vs us->t vs σ H Q->
  wpAny (model X.prog X.w) X.A (assignInOrder ((assignEach ts X.env).map (·.2)) us) (λ_ s'=>∃σ' H',bW X pins σ' H' s'/\Q σ' H') X.xe s
abbrev JD:=V->V->V->Hp->(Hp->Prop)->Prop
def JB(X:Cx)(t:JD):Prop:=
 ∀(pins:List (Addr×Obj)) (s:Shared) (σ:St) (H:Hp) (o i v:V) (ov iv u:Value) (Q:Hp->Prop),bW X pins σ H s->dy o ov->dy i iv->dy v u->t o i v H Q->
  wpAny (model X.prog X.w) X.A (setItem ov iv u) (λ_ s'=>∃H',bW X pins σ H' s'/\Q H') X.xe s
section
variable{X:Cx}{pos:Pos}
def aR(i:Nat):TG:=λv σ H Q=>Q (σ.set i (some v)) H
theorem Kz{i:Nat}{x:Str}(hN:X.N.Nodup)(hi:X.N[i]?=some x)(hx:LK X.env.scope x)(hf:X.fn x=true\/X.env.scope.names.lookup x=some .local:=by first|exact .inl rfl|exact .inr rfl|assumption):PG X (.Name x pos) (aR i):=by
 intro pins s σ H v u Q I r h
 exact wpAny_assign_Name (sN I hN hi hx r (λs' I'=>⟨_,H,I',h⟩) hf)
def xK:EU:=λvs σ H Q=>vs=[]/\Q σ H
def jo(t:TG)(u:EU):EU:=λvs σ H Q=>∃v r,vs=v::r/\t v σ H λσ' H'=>u r σ' H' Q
theorem KB:NN X [] xK:=by
 intro pins s σ H vs us Q I r h
 obtain⟨e,h⟩:=h
 subst e
 cases r
 exact assignInOrder_nil ⟨σ,H,I,h⟩
theorem HV{e:Expr}{es:List Expr}{t:TG}{u:EU}(h1:PG X e t)(h2:NN X es u)
  (hs:(assignEach (e::es) X.env).map (·.2)=assign e X.env::(assignEach es X.env).map (·.2):=by rfl):NN X (e::es) (jo t u):=by
 intro pins s σ H vs us Q I r h
 obtain⟨v,vr,e1,h⟩:=h
 subst e1
 cases r with
 |cons r rr=>
  rw[hs]
  refine assignInOrder_cons (gZ (h1 pins s σ H _ _ _ I r h) λ_ s1 ⟨σ1,H1,I1,q1⟩=>?_)
  exact h2 pins s1 σ1 H1 _ _ Q I1 rr q1
def zM(K:Fg)(n:Nat)(t:EU):TG:=λv σ H Q=>∃a xs,v=.ref a/\cY K H a xs/\xs.length=n/\t xs σ H Q
theorem Nd{es:List Expr}{k:Nat}{t:EU}{n:Nat}(hc:X.calm=true)(h:NN X es t)
  (hn:(assignEach es X.env).length=n:=by rfl) (hst:(assignEach es X.env).findIdx? (·.1)=none:=by rfl):PG X (.Tuple es k pos) (zM X.K n t):=by
 intro pins s σ H v u Q I r hw
 obtain⟨a,xs,e1,hq,hl,hw⟩:=hw
 subst e1
 cases r
 obtain⟨its,rv,ht,hz⟩:=I.tuple hq
 refine assign_Tuple_tuple (I.ok.hd hc) ht (by simp[hn,<-hl,rv.length]) hst λh' hx=>?_
 have I1:bW X pins σ H {s with heap:=h'}:=I.kept (t':=s.toks) λb o e=>hx b o (bj (aJ e)) e
 exact h pins _ σ H xs _ Q I1 (by simpa using rv) hw
def lS(to ti:TE)(t:JD):TG:=λv σ H Q=>to σ H λo H1=>ti σ H1 λi H2=>t o i v H2 λH3=>Q σ H3
theorem Nc{o i:Expr}{to ti:TE}{t:JD}(ho:PE X o to)(hi:PE X i ti)(hs:JB X t)
  (ha:∀v,assign (.Subscript o i pos) X.env v=(do
   let ov <-holding [v] (eval o X.env)
   let iv <-holding [v,ov] (eval i X.env)
   standAt pos
   holding [v,ov,iv] (setItem ov iv v)
   release [v,ov,iv] []):=by intro _;rfl):PG X (.Subscript o i pos) (lS to ti t):=by
 intro pins s σ H v u Q I r h
 rw[ha]
 refine wpAny_bind (wpAny_holding (gZ (ho pins s σ H _ I h) λov s1 ⟨x,H1,I1,r1,q1⟩=>?_))
 refine wpAny_bind (wpAny_holding (gZ (hi pins s1 σ H1 _ I1 q1) λiv s2 ⟨y,H2,I2,r2,q2⟩=>?_))
 refine wpAny_bind (wpAny_standAt (wpAny_bind (wpAny_holding (gZ (hs pins s2 σ H2 x y v ov iv u _ I2 r1 r2 r q2) λ_ s3 ⟨H3,I3,q3⟩=>?_))))
 exact wpAny_release ⟨σ,H3,I3,q3⟩
def bR(te:TE)(g:TG):TS:=λD σ H=>te σ H λx H1=>g x σ H1 D.nx
theorem Nj{tg e:Expr}{te:TE}{g:TG}(he:PE X e te)(hg:PG X tg g)(hs:swapsWithSole [tg] e pos.line X.env=pure false:=by rfl)(hw:swappedStores [tg] e X.env=pure none:=by rfl)
  (h1:(assignEach [tg] X.env).map (·.2)=[assign tg X.env]:=by rfl):PS X (.Assign [tg] e pos) (bR te g):=by
 intro pins s σ H D I h
 refine wpAny_Assign_stores (gZ (he pins s σ H _ I h) λv s1 ⟨x,H1,I1,r1,q1⟩=>?_) hs hw
 rw[h1]
 exact gZ (hg pins s1 σ H1 x v _ I1 r1 q1) λ_ s2 q=>q
theorem Nn{i:Nat}{x:Str}{e:Expr}{te:TE}{pos':Pos}(hN:X.N.Nodup)(hi:X.N[i]?=some x)(hx:LK X.env.scope x)(he:PE X e te)(hs:swapsWith e (some (.Name x pos')) pos.line X.env=pure false:=by rfl)(hf:X.fn x=true\/X.env.scope.names.lookup x=some .local:=by first|exact .inl rfl|exact .inr rfl|assumption) :
  PS X (.Assign [.Name x pos'] e pos) (bR te (aR i)):=by
 intro pins s σ H D I h
 refine wpAny_Assign_Name (gZ (he pins s σ H _ I h) λv s1 ⟨y,H1,I1,r1,q1⟩=>?_) hs
 exact sN I1 hN hi hx r1 (λs2 I2=>⟨_,H1,I2,q1⟩) hf
end
section
variable{X:Cx}{pos:Pos}
def uj(c:TT)(tb:TS):TS:=λD σ H=>∃W:Nat->St->Hp->Prop,(∃m,W m σ H)/\∀m σ H,W m σ H->
 c σ H λb H1=>if b=true then ∃N:St->Hp->Prop,(∀σ' H',N σ' H'->∃m',m'<m/\W m' σ' H')/\tb {D with nx:=N,ct:=N,bk:=D.nx} σ H1 else D.nx σ H1
theorem Ia{c:Expr}{body:List Stmt}{tc:TT}{tb:TS}(hp:PassesOwn (model X.prog X.w) X.A X.env X.xe)(hc:PT X c tc)(hb:jv X body tb):PS X (.While c body [] pos) (uj tc tb):=by
 intro pins s σ H D I h
 obtain⟨W,⟨m0,w0⟩,turn⟩:=h
 refine wpAny_While (codeAny_whileLoop (λn s'=>∃σ' H',bW X pins σ' H' s'/\W n σ' H') ?_ m0 ⟨σ,H,I,w0⟩)
 rintro n s1 ⟨σ1,H1,I1,w1⟩
 refine wpAny_passesOwn hp (gZ (hc pins s1 σ1 H1 _ I1 (turn n σ1 H1 w1)) λb s2 ⟨H2,I2,q2⟩=>?_)
 cases b with
 |true=>
  obtain⟨N,hN,q2⟩:=q2
  rw[if_pos rfl]
  refine wpAny_passesOwn hp (gZ (hb pins s2 σ1 H2 _ I2 q2) λf s3 q3=>?_)
  cases f with
  |next=>
   obtain⟨σ3,H3,I3,n3⟩:=q3
   obtain⟨m',hm,w3⟩:=hN σ3 H3 n3
   exact⟨m',hm,σ3,H3,I3,w3⟩
  |cont=>
   obtain⟨σ3,H3,I3,n3⟩:=q3
   obtain⟨m',hm,w3⟩:=hN σ3 H3 n3
   exact⟨m',hm,σ3,H3,I3,w3⟩
  |brk=>exact q3
  |ret v=>exact q3
 |false=>
  rw[if_neg Bool.false_ne_true]
  exact wpAny_execs_nil ⟨σ1,H2,I2,q2⟩
end
structure It where
 go:Nat->Hp->Prop
 yld:Nat->Hp->V->Hp->Prop
 stop:Nat->Hp->Prop
def rR(X:Cx)(pins:List (Addr×Obj))(H:Hp)(b:Addr):Prop:=
 H b=none/\b≠X.env.locals/\b∉X.fs/\(b∈X.ex\/X.s₀.heap.objs.size<=b)/\(∀x c,X.env.cells.lookup x=some c->c≠b)/\∀p∈X.pn++pins,p.1≠b
theorem bW.fpOk{X:Cx}{pins:List (Addr×Obj)}{σ:St}{H H':Hp}{s:Shared}{b:Addr}(I:bW X pins σ H s)(hb:s.heap.objs.size<=b)(hn:H' b=none):rR X pins H' b:=by
 refine⟨hn,jz (aX I.lt hb),I.nofs hb,.inr (cq I.sz hb),λx c e z=>?_,λp hp z=>?_⟩
 ·obtain⟨v,q⟩:=I.cell x c e
  exact absurd (aX q.lt (by rw[z];exact hb)) (cK _)
 ·exact absurd (aX (aJ (I.pin p hp).1) (by rw[z];exact hb)) (cK _)
structure AG(P:Program)(w:World)(K:Fg)(tg:Expr)(J:It)(fp:List Addr)(it:Addr)(tn:Nat->Heap->Prop):Prop where
 mem:it∈fp
 obj:∀i h,tn i h->∀b∈fp,∃o,h.get? b=some o/\∀v,o.data≠.cell v
 keep:∀i h h',tn i h->(∀b∈fp,∀o,h.get? b=some o->h'.get? b=some o)->tn i h'
 item:∀(X:Cx),X.prog=P->X.w=w->X.K=K->X.calm=true->∀(i:Nat) (pins:List (Addr×Obj)) (s:Shared) (σ:St) (H:Hp) (E:Value->Shared->Prop),bW X pins σ H s->(∀b∈fp,rR X pins H b)->tn i s.heap->J.go i H->
  wpAny (model P w) X.A (pyNext (.ref it)) (λr s1=>∃u,r=some u/\
   wpAny (model P w) X.A (letOwnedTupleGo tg (.ref it) u) (λ_ s2=>∃x H',bW X pins σ H' s2/\dy x u/\J.yld i H x H'/\tn (i+1) s2.heap/\∀b∈fp,H' b=none) E s1) E s
 done:∀(X:Cx),X.prog=P->X.w=w->X.K=K->X.calm=true->∀(i:Nat) (pins:List (Addr×Obj)) (s:Shared) (σ:St) (H:Hp) (E:Value->Shared->Prop),bW X pins σ H s->(∀b∈fp,rR X pins H b)->tn i s.heap->J.stop i H->
  wpAny (model P w) X.A (pyNext (.ref it)) (λr s1=>r=none/\bW X pins σ H s1) E s
 self:∀(A:Around) (i:Nat) (s:Shared) (Q:Value->Shared->Prop) (E:Value->Shared->Prop),tn i s.heap->Q (.ref it) s->wpAny (model P w) A (pyIter (.ref it)) Q E s
abbrev TI:=St->Hp->(It->Hp->Prop)->Prop
def Pc(X:Cx)(pins:List (Addr×Obj))(σ:St)(tg:Expr)(R:It->Hp->Prop)(itv:Value)(s2:Shared):Prop:=
 ∃(it:Addr) (fp:List Addr) (tn:Nat->Heap->Prop) (J:It) (H':Hp),itv=.ref it/\bW X pins σ H' s2/\AG X.prog X.w X.K tg J fp it tn/\tn 0 s2.heap/\(∀b∈fp,rR X pins H' b)/\R J H'
def PI(X:Cx)(tg iter:Expr)(wi:TI):Prop:=
 ∀(pins:List (Addr×Obj)) (s:Shared) (σ:St) (H:Hp) (R:It->Hp->Prop),bW X pins σ H s->wi σ H R->
  wpAny (model X.prog X.w) X.A (eval iter X.env) (λv s1=>wpAny (model X.prog X.w) X.A (pyIter v) (Pc X pins σ tg R) X.xe s1) X.xe s
theorem Hb{M:Model}{A:Around}{E:Value->Shared->Prop}{s:Shared}{tg:Expr}{it:Addr}{u:Value}{o:Obj}{n:String}{vs:Array Value}{Q:Unit->Shared->Prop}(ho:s.heap.get? it=some o)(hc:o.cls=.type n)(hd:o.data=.fields vs)
  (hn:["enumerate","zip","dict_itemiterator","dict_reverseitemiterator","odict_iterator","itertools.zip_longest","itertools.pairwise"].contains n=false) (hQ:Q () s):wpAny M A (letOwnedTupleGo tg (.ref it) u) Q E s:=by
 unfold letOwnedTupleGo
 cases tg<;>first
  |exact wpAny_pure hQ
  |(cases u<;>first
    |exact wpAny_pure hQ
    |(refine wpAny_bind (wpAny_load ho ?_)
      rw[hc,hd]
      show wpAny M A (if(["enumerate","zip","dict_itemiterator","dict_reverseitemiterator","odict_iterator","itertools.zip_longest","itertools.pairwise"].contains n&&vs[0]?==some (rawInt _))=true then _ else _) Q E s
      rw[if_neg (by intro h;rw[hn,Bool.false_and] at h;cases h)]
      exact wpAny_pure hQ))
def LG(K:Fg)(a:Addr):It:=
 ⟨λi H=>∃xs x,cA K H a xs/\xs[i]?=some x,λi H x H'=>H'=H/\∀xs,cA K H a xs->xs[i]?=some x,λi H=>∃xs,cA K H a xs/\xs.length<=i⟩
def LH(K:Fg)(a:Addr):It:=
 ⟨λi H=>∃xs x,cY K H a xs/\xs[i]?=some x,λi H x H'=>H'=H/\∀xs,cY K H a xs->xs[i]?=some x,λi H=>∃xs,cY K H a xs/\xs.length<=i⟩
def Jz(lo:Int)(n:Nat):It:=⟨λi _=>i<n,λi H x H'=>H'=H/\x=.int (lo+i),λi _=>n<=i⟩
theorem Gy{P:Program}{w:World}{K:Fg}{tg:Expr}(a it:Addr):AG P w K tg (LG K a) [it] it (λi h=>h.IsListIter it a i) where
 mem:=by simp
 obj:=λi h st b hb=>by
  have e:b=it:=by simpa using hb
  subst e
  obtain⟨o,e,c,d⟩:=st
  exact⟨o,e,λv z=>by rw[d] at z;cases z⟩
 keep:=λi h h' st k=>st.at λo e=>k it (by simp) o e
 item:=by
  intro X hP hw hK hc i pins s σ H E I hf st hg
  subst hP hw hK
  obtain⟨xs,x,hq,hx⟩:=hg
  obtain⟨its,rv,p,hz⟩:=I.list hq
  obtain⟨u,hu,ru⟩:=rv.get hx
  obtain⟨f0,f1,f2,f3,f4,f5⟩:=hf it (by simp)
  refine wpAny_pyNext_list_item st p.isList (x:=u) (by simpa using hu) λh' st' sb=>?_
  have I1:bW X pins σ H {s with heap:=h'}:=I.turned (t':=s.toks) (λb o hb e=>(sb.2 b hb).trans e) f0 f1 f3 f4 f5
  obtain⟨o,e,c,d⟩:=id st'
  exact⟨u,rfl,Hb (s:={s with heap:=h'}) e c d (by decide) ⟨x,H,I1,ru,⟨rfl,λys hy=>by rw[I.list_inj hy hq];exact hx⟩,st',λb hb=>(hf b hb).1⟩⟩
 done:=by
  intro X hP hw hK hc i pins s σ H E I hf st hg
  subst hP hw hK
  obtain⟨xs,hq,hx⟩:=hg
  obtain⟨its,rv,p,hz⟩:=I.list hq
  obtain⟨f0,f1,f2,f3,f4,f5⟩:=hf it (by simp)
  have hl:=rv.length
  exact wpAny_pyNext_list_end (I.ok.hd hc) st p.isList (by simp;lia) λh' eb=>⟨rfl,I.turned (t':=s.toks) (λb o hb e=>eb b o hb e) f0 f1 f3 f4 f5⟩
 self:=λ_ _ _ _ _ st h=>wpAny_pyIter_listiter st h
theorem DN{P:Program}{w:World}{K:Fg}{tg:Expr}(a it:Addr):AG P w K tg (LH K a) [it] it (λi h=>h.IsTupleIter it a i) where
 mem:=by simp
 obj:=λi h st b hb=>by
  have e:b=it:=by simpa using hb
  subst e
  obtain⟨o,e,c,d⟩:=st
  exact⟨o,e,λv z=>by rw[d] at z;cases z⟩
 keep:=λi h h' st k=>st.at λo e=>k it (by simp) o e
 item:=by
  intro X hP hw hK hc i pins s σ H E I hf st hg
  subst hP hw hK
  obtain⟨xs,x,hq,hx⟩:=hg
  obtain⟨its,rv,p,hz⟩:=I.tuple hq
  obtain⟨u,hu,ru⟩:=rv.get hx
  obtain⟨f0,f1,f2,f3,f4,f5⟩:=hf it (by simp)
  refine wpAny_pyNext_tuple_item st (show s.heap.IsTuple a its.toArray from p) (x:=u) (by simpa using hu) λh' st' sb=>?_
  have I1:bW X pins σ H {s with heap:=h'}:=I.turned (t':=s.toks) (λb o hb e=>(sb.2 b hb).trans e) f0 f1 f3 f4 f5
  obtain⟨o,e,c,d⟩:=id st'
  exact⟨u,rfl,Hb (s:={s with heap:=h'}) e c d (by decide) ⟨x,H,I1,ru,⟨rfl,λys hy=>by rw[I.tuple_inj hy hq];exact hx⟩,st',λb hb=>(hf b hb).1⟩⟩
 done:=by
  intro X hP hw hK hc i pins s σ H E I hf st hg
  subst hP hw hK
  obtain⟨xs,hq,hx⟩:=hg
  obtain⟨its,rv,p,hz⟩:=I.tuple hq
  obtain⟨f0,f1,f2,f3,f4,f5⟩:=hf it (by simp)
  have hl:=rv.length
  exact wpAny_pyNext_tuple_end (I.ok.hd hc) st (show s.heap.IsTuple a its.toArray from p) (by simp;lia) λh' eb=>⟨rfl,I.turned (t':=s.toks) (λb o hb e=>eb b o hb e) f0 f1 f3 f4 f5⟩
 self:=λ_ _ _ _ _ st h=>wpAny_pyIter_tupleiter st h
theorem DM{P:Program}{w:World}{K:Fg}{tg:Expr}(it:Addr)(lo:Int)(n:Nat):AG P w K tg (Jz lo n) [it] it (λi h=>IsRangeIter h it (lo+(i:Nat)*1) ((n:Int)-(i:Nat)) 1) where
 mem:=by simp
 obj:=λi h st b hb=>by
  have e:b=it:=by simpa using hb
  subst e
  exact⟨_,st,λv z=>by
   have z':Data.fields _=Data.cell v:=z
   cases z'⟩
 keep:=λi h h' st k=>k it (by simp) _ st
 item:=by
  intro X hP hw hK hc i pins s σ H E I hf st hg
  subst hP hw hK
  obtain⟨f0,f1,f2,f3,f4,f5⟩:=hf it (by simp)
  have W:=Walks.range (prog:=X.prog) (w:=X.w) (I.ok.hd hc) it lo 1 n
  refine W.item i s _ _ hg st λv h' tk hv st' kk=>?_
  obtain⟨t,rfl⟩:=hv
  have I1:bW X pins σ H {s with heap:=h',toks:=tk}:=I.turned (λb o hb e=>kk b o (by simpa using hb) e) f0 f1 f3 f4 f5
  refine⟨_,rfl,Hb (s:={s with heap:=h',toks:=tk}) (n:="range_iterator") st' rfl rfl (by decide) ⟨.int (lo+i),H,I1,⟨t,?_⟩,⟨rfl,rfl⟩,st',λb hb=>(hf b hb).1⟩⟩
  rw[Int.mul_one]
 done:=by
  intro X hP hw hK hc i pins s σ H E I hf st hg
  subst hP hw hK
  obtain⟨f0,f1,f2,f3,f4,f5⟩:=hf it (by simp)
  exact wpAny_pyNext_range_end (I.ok.hd hc) st (by have:n<=i:=hg;lia) λh' eb=>⟨rfl,I.turned (t':=s.toks) (λb o hb e=>eb b o hb e) f0 f1 f3 f4 f5⟩
 self:=λ_ _ _ _ _ st h=>wpAny_pyIter_rangeiter st h
section
variable{X:Cx}{tg:Expr}
def LN(K:Fg)(tl:TE):TI:=λσ H R=>tl σ H λx H1=>∃a,x=.ref a/\(∃xs,cA K H1 a xs)/\R (LG K a) H1
def N8(K:Fg)(tl:TE):TI:=λσ H R=>tl σ H λx H1=>∃a,x=.ref a/\(∃xs,cY K H1 a xs)/\R (LH K a) H1
theorem KD{l:Expr}{tl:TE}(hl:PE X l tl):PI X tg l (LN X.K tl):=by
 intro pins s σ H R I h
 refine gZ (hl pins s σ H _ I h) λv s1 ⟨x,H1,I1,r1,q1⟩=>?_
 obtain⟨a,e,⟨xs,hq⟩,q⟩:=q1
 subst e
 cases r1
 obtain⟨its,rv,p,hz⟩:=I1.list hq
 refine wpAny_pyIter_list p.isList ?_
 refine⟨s1.heap.objs.size,[s1.heap.objs.size],_,_,H1,rfl,I1.kept (t':=s1.toks) λb o e=>az _ e,Gy a _,⟨_,aZ _ rfl,rfl,rfl⟩,λb hb=>?_,q⟩
 have e:b=s1.heap.objs.size:=by simpa using hb
 subst e
 exact I1.fpOk (aD _) (I1.hok.fresh (aD _))
theorem Ng{l:Expr}{tl:TE}(hl:PE X l tl):PI X tg l (N8 X.K tl):=by
 intro pins s σ H R I h
 refine gZ (hl pins s σ H _ I h) λv s1 ⟨x,H1,I1,r1,q1⟩=>?_
 obtain⟨a,e,⟨xs,hq⟩,q⟩:=q1
 subst e
 cases r1
 obtain⟨its,rv,p,hz⟩:=I1.tuple hq
 refine wpAny_pyIter_tuple (show s1.heap.IsTuple a its.toArray from p) ?_
 refine⟨s1.heap.objs.size,[s1.heap.objs.size],_,_,H1,rfl,I1.kept (t':=s1.toks) λb o e=>az _ e,DN a _,⟨_,aZ _ rfl,rfl,rfl⟩,λb hb=>?_,q⟩
 have e:b=s1.heap.objs.size:=by simpa using hb
 subst e
 exact I1.fpOk (aD _) (I1.hok.fresh (aD _))
theorem IA{pins:List (Addr×Obj)}{σ:St}{H:Hp}{s:Shared}{R:It->Hp->Prop}{E:Value->Shared->Prop}{lo hi:Int}{t u v:Tok}{tk:Nat}(I:bW X pins σ H s)(h1:-(2 ^ 62)<=lo)(h2:lo<2 ^ 62)(h3:-(2 ^ 62)<=hi)(h4:hi<2 ^ 62)
  (q:R (Jz lo (hi-lo).toNat) H):wpAny (model X.prog X.w) X.A (pyIter (.ref s.heap.objs.size)) (Pc X pins σ tg R) E {s with heap:=s.heap.push {cls:=.type "range",data:=.fields #[.int lo t,.int hi u,.int 1 v]},toks:=tk}:=by
 refine wpAny_pyIter_range (IsRange.new ..) (small_one h1 h2 h3 h4) ?_
 have I1:bW X pins σ H {s with heap:=s.heap.push {cls:=.type "range",data:=.fields #[.int lo t,.int hi u,.int 1 v]},toks:=tk}:=I.kept λb o e=>az _ e
 refine⟨(s.heap.push {cls:=.type "range",data:=.fields #[.int lo t,.int hi u,.int 1 v]}).objs.size,[(s.heap.push {cls:=.type "range",data:=.fields #[.int lo t,.int hi u,.int 1 v]}).objs.size],_,_,H,rfl,
  I1.kept (t':=tk) λb o e=>az _ e,DM _ lo (hi-lo).toNat,?_,λb hb=>?_,q⟩
 ·have e1:lo+((0:Nat):Int)*1=lo:=by simp
  have e2:(((hi-lo).toNat:Nat):Int)-((0:Nat):Int)=Builtin.Range.rangeSize lo hi 1:=by rw[rangeSize_one];split<;>lia
  show IsRangeIter _ _ (lo+((0:Nat):Int)*1) ((((hi-lo).toNat:Nat):Int)-((0:Nat):Int)) 1
  rw[e1,e2]
  exact aZ _ rfl
 ·have e:b=(s.heap.push {cls:=.type "range",data:=.fields #[.int lo t,.int hi u,.int 1 v]}).objs.size:=by simpa using hb
  subst e
  exact I1.fpOk (aD _) (I1.hok.fresh (aD _))
def ky(ta:TA):TI:=λσ H R=>ta σ H λvs H1=>∃j:Int,vs=[.int j]/\-(2 ^ 62)<=j/\j<2 ^ 62/\R (Jz 0 j.toNat) H1
theorem FS{a:Expr}{ta:TA}{p pos:Pos}(hg:Gl X "range")(hm:X.mg "range"=none)(ha:PA X [a] ta)(hs:starEach [a] X.env=[(false,eval a X.env)]:=by rfl):PI X tg (.Call (.Name "range" p) [a] [] pos) (ky ta):=by
 intro pins s σ H R I h
 refine Call_ (mY I hg hm boot_range (dr (gZ (ha pos pins s σ H _ I h) λus s1 ⟨vs,H1,I1,r1,q1⟩=>?_) hs rfl))
 obtain⟨j,e,q1,q2,q⟩:=q1
 subst e
 cases r1 with
 |cons r rr=>
  cases rr
  obtain⟨t,rfl⟩:=r
  exact call_range_1 (IA I1 (by lia) (by lia) q1 q2 (by simpa using q))
def jM(wi:TI)(g:TG)(tb:TS):TS:=λD σ H=>wi σ H λJ H1=>∃W:Nat->Nat->St->Hp->Prop,(∃m,W 0 m σ H1)/\∀i m σ H,W i m σ H->
 (J.stop i H/\D.nx σ H)\/(J.go i H/\∃N:St->Hp->Prop,(∀σ' H',N σ' H'->∃m',m'<m/\W (i+1) m' σ' H')/\∀x H',J.yld i H x H'->g x σ H' λσ2 H2=>tb {D with nx:=N,ct:=N,bk:=D.nx} σ2 H2)
def wF(fp:List Addr)(h:Heap):List (Addr×Obj):=fp.filterMap λb=>(h.get? b).map λo=>(b,o)
theorem oj{fp:List Addr}{h:Heap}{b:Addr}{o:Obj}(hb:b∈fp)(e:h.get? b=some o):(b,o)∈wF fp h:=List.mem_filterMap.mpr ⟨b,hb,by rw[e];rfl⟩
theorem FI{fp:List Addr}{h:Heap}{p:Addr×Obj}(hp:p∈wF fp h):p.1∈fp/\h.get? p.1=some p.2:=by
 obtain⟨b,hb,e⟩:=List.mem_filterMap.mp hp
 cases q:h.get? b with
 |none=>rw[q] at e;cases e
 |some o=>
  rw[q] at e
  have e':(b,o)=p:=Option.some.inj e
  subst e'
  exact⟨hb,q⟩
theorem bW.pinned{pins:List (Addr×Obj)}{σ:St}{H:Hp}{s:Shared}{fp:List Addr}(I:bW X pins σ H s)(hf:∀b∈fp,rR X pins H b)(ho:∀b∈fp,∃o,s.heap.get? b=some o/\∀v,o.data≠.cell v):bW X (pins++wF fp s.heap) σ H s:=
 I.pins_of λp hp=>(bu.mp hp).elim (λz=>I.pin p (bD _ z)) λz=>by
  obtain⟨hb,e⟩:=FI z
  obtain⟨f0,f1,f2,_⟩:=hf p.1 hb
  obtain⟨o,e',d⟩:=ho p.1 hb
  rw[e] at e';cases e'
  exact⟨e,f0,f1,f2,d⟩
theorem bW.unpinned{pins pl:List (Addr×Obj)}{σ:St}{H:Hp}{s:Shared}(I:bW X (pins++pl) σ H s):bW X pins σ H s:=I.pins_of λp hp=>I.pin p (bD _ (ck _ hp))
theorem Nk{iter:Expr}{body:List Stmt}{wi:TI}{g:TG}{tb:TS}{pos:Pos}(hp:PassesOwn (model X.prog X.w) X.A X.env X.xe)(hc:X.calm=true)(hi:PI X tg iter wi)(hg:PG X tg g)(hb:jv X body tb)
  (hs:∀x,foldedSetIterable iter X.env x=pure x:=by intro _;rfl):PS X (.For tg iter body [] pos) (jM wi g tb):=by
 intro pins s σ H D I h
 refine wpAny_For (gZ (hi pins s σ H _ I h) λv s1 h1=>gZ h1 λitv s2 h2=>?_) hs
 obtain⟨it,fp,tn,J,H2,e,I2,T,st2,f2,W,⟨m0,w0⟩,turn⟩:=h2
 subst e
 have stat:∀{H':Hp},(∀b∈fp,H' b=none)->∀b∈fp,rR X pins H' b:=λhn b hb=>⟨hn b hb,(f2 b hb).2⟩
 refine codeAny_forLoop_any (λn s'=>∃i σ' H',bW X pins σ' H' s'/\tn i s'.heap/\(∀b∈fp,H' b=none)/\W i n σ' H') ?_ m0 ⟨0,σ,H2,I2,st2,λb hb=>(f2 b hb).1,w0⟩
 rintro n s3 ⟨i,σ3,H3,I3,st3,fr3,w3⟩
 rcases turn i n σ3 H3 w3 with⟨stop,qn⟩|⟨go,N,hN,step⟩
 ·refine wpAny_passesOwn hp (gZ (T.done X rfl rfl rfl hc i pins s3 σ3 H3 X.xe I3 (stat fr3) st3 stop) λr s4 ⟨hr,I4⟩=>?_)
  subst hr
  exact wpAny_execs_nil ⟨σ3,H3,I4,qn⟩
 ·refine wpAny_passesOwn hp (gZ (T.item X rfl rfl rfl hc i pins s3 σ3 H3 X.xe I3 (stat fr3) st3 go) λr s4 ⟨u,hr,h4⟩=>?_)
  subst hr
  refine wpAny_passesOwn hp (gZ h4 λ_ s5 ⟨x,H5,I5,r5,y5,st5,fr5⟩=>?_)
  have I5':=I5.pinned (stat fr5) (T.obj _ _ st5)
  refine wpAny_passesOwn hp (gZ (hg _ s5 σ3 H5 x u _ I5' r5 (step x H5 y5)) λ_ s6 ⟨σ6,H6,I6,q6⟩=>?_)
  refine wpAny_passesOwn hp (gZ (hb _ s6 σ6 H6 _ I6 q6) λf s7 q7=>?_)
  have again:∀{σ7:St} {H7:Hp},bW X (pins++wF fp s5.heap) σ7 H7 s7->N σ7 H7->∃m,m<n/\∃i σ' H',bW X pins σ' H' s7/\tn i s7.heap/\(∀b∈fp,H' b=none)/\W i m σ' H':=λ{σ7 H7} I7 n7=>by
   obtain⟨m',hm,w7⟩:=hN σ7 H7 n7
   refine⟨m',hm,i+1,σ7,H7,I7.unpinned,T.keep _ _ _ st5 λb hb o e=>(I7.pin (b,o) (bD _ (bD _ (oj hb e)))).1,λb hb=>?_,w7⟩
   obtain⟨o,e,d⟩:=T.obj _ _ st5 b hb
   exact(I7.pin (b,o) (bD _ (bD _ (oj hb e)))).2.1
  cases f with
  |next=>obtain⟨σ7,H7,I7,n7⟩:=q7;exact again I7 n7
  |cont=>obtain⟨σ7,H7,I7,n7⟩:=q7;exact again I7 n7
  |brk=>obtain⟨σ7,H7,I7,q7⟩:=q7;exact⟨σ7,H7,I7.unpinned,q7⟩
  |ret v=>obtain⟨x7,σ7,H7,I7,r7,q7⟩:=q7;exact⟨x7,σ7,H7,I7.unpinned,r7,q7⟩
end
theorem nv{K:Fg}{a:Addr}{xs:List V}{g:TG}{tb:TS}{D:oZ}{σ:St}{H:Hp}(Pv:Nat->St->Hp->Prop)(h0:Pv 0 σ H)(hl:∀i σ H,i<=xs.length->Pv i σ H->cA K H a xs)
  (hs:∀i x σ H,xs[i]?=some x->Pv i σ H->g x σ H λσ2 H2=>tb {D with nx:=Pv (i+1),ct:=Pv (i+1),bk:=D.nx} σ2 H2) (hd:∀σ H,Pv xs.length σ H->D.nx σ H) :
  ∃W:Nat->Nat->St->Hp->Prop,(∃m,W 0 m σ H)/\∀i m σ H,W i m σ H->
   ((LG K a).stop i H/\D.nx σ H)\/((LG K a).go i H/\∃N:St->Hp->Prop,(∀σ' H',N σ' H'->∃m',m'<m/\W (i+1) m' σ' H')/\∀x H',(LG K a).yld i H x H'->g x σ H' λσ2 H2=>tb {D with nx:=N,ct:=N,bk:=D.nx} σ2 H2):=by
 refine⟨λi m σ H=>m=xs.length-i/\i<=xs.length/\Pv i σ H,⟨xs.length,by simp,dA _,h0⟩,?_⟩
 rintro i m σ H ⟨rfl,hi,p⟩
 have q:=hl i σ H hi p
 by_cases hlt:i<xs.length
 ·refine .inr ⟨⟨xs,xs[i],q,by simp[hlt]⟩,Pv (i+1),λσ' H' p'=>⟨xs.length-(i+1),by lia,rfl,hlt,p'⟩,λx H' y=>?_⟩
  obtain⟨e,y⟩:=y
  subst e
  exact hs i x σ _ (y xs q) p
 ·have e:i=xs.length:=by lia
  subst e
  exact .inl ⟨⟨xs,q,aD _⟩,hd σ H p⟩
theorem qA{K:Fg}{a:Addr}{xs:List V}{g:TG}{tb:TS}{D:oZ}{σ:St}{H:Hp}(Pv:Nat->St->Hp->Prop)(h0:Pv 0 σ H)(hl:∀i σ H,i<=xs.length->Pv i σ H->cY K H a xs)
  (hs:∀i x σ H,xs[i]?=some x->Pv i σ H->g x σ H λσ2 H2=>tb {D with nx:=Pv (i+1),ct:=Pv (i+1),bk:=D.nx} σ2 H2) (hd:∀σ H,Pv xs.length σ H->D.nx σ H) :
  ∃W:Nat->Nat->St->Hp->Prop,(∃m,W 0 m σ H)/\∀i m σ H,W i m σ H->
   ((LH K a).stop i H/\D.nx σ H)\/((LH K a).go i H/\∃N:St->Hp->Prop,(∀σ' H',N σ' H'->∃m',m'<m/\W (i+1) m' σ' H')/\∀x H',(LH K a).yld i H x H'->g x σ H' λσ2 H2=>tb {D with nx:=N,ct:=N,bk:=D.nx} σ2 H2):=by
 refine⟨λi m σ H=>m=xs.length-i/\i<=xs.length/\Pv i σ H,⟨xs.length,by simp,dA _,h0⟩,?_⟩
 rintro i m σ H ⟨rfl,hi,p⟩
 have q:=hl i σ H hi p
 by_cases hlt:i<xs.length
 ·refine .inr ⟨⟨xs,xs[i],q,by simp[hlt]⟩,Pv (i+1),λσ' H' p'=>⟨xs.length-(i+1),by lia,rfl,hlt,p'⟩,λx H' y=>?_⟩
  obtain⟨e,y⟩:=y
  subst e
  exact hs i x σ _ (y xs q) p
 ·have e:i=xs.length:=by lia
  subst e
  exact .inl ⟨⟨xs,q,aD _⟩,hd σ H p⟩
theorem gH{lo:Int}{n:Nat}{g:TG}{tb:TS}{D:oZ}{σ:St}{H:Hp}(Pv:Nat->St->Hp->Prop)(h0:Pv 0 σ H)
  (hs:∀i σ H,i<n->Pv i σ H->g (.int (lo+i)) σ H λσ2 H2=>tb {D with nx:=Pv (i+1),ct:=Pv (i+1),bk:=D.nx} σ2 H2) (hd:∀σ H,Pv n σ H->D.nx σ H) :
  ∃W:Nat->Nat->St->Hp->Prop,(∃m,W 0 m σ H)/\∀i m σ H,W i m σ H->
   ((Jz lo n).stop i H/\D.nx σ H)\/((Jz lo n).go i H/\∃N:St->Hp->Prop,(∀σ' H',N σ' H'->∃m',m'<m/\W (i+1) m' σ' H')/\∀x H',(Jz lo n).yld i H x H'->g x σ H' λσ2 H2=>tb {D with nx:=N,ct:=N,bk:=D.nx} σ2 H2):=by
 refine⟨λi m σ H=>m=n-i/\i<=n/\Pv i σ H,⟨n,by simp,dA _,h0⟩,?_⟩
 rintro i m σ H ⟨rfl,hi,p⟩
 by_cases hlt:i<n
 ·refine .inr ⟨hlt,Pv (i+1),λσ' H' p'=>⟨n-(i+1),by lia,rfl,hlt,p'⟩,λx H' y=>?_⟩
  obtain⟨e,y⟩:=y
  subst e y
  exact hs i σ _ hlt p
 ·have e:i=n:=by lia
  subst e
  exact .inl ⟨aD _,hd σ H p⟩
abbrev R2:=V->V->Hp->VK->Prop
def kq(X:Cx)(f:Value->Value->Sem Value)(r:R2):Prop:=
 ∀(pins:List (Addr×Obj)) (s:Shared) (σ:St) (H:Hp) (x y:V) (v u:Value) (Q:VK),bW X pins σ H s->dy x v->dy y u->r x y H Q->
  wpAny (model X.prog X.w) X.A (f v u) (EP X pins σ Q) X.xe s
def OJ(X:Cx)(f:Value->Sem Value)(r:V->Hp->VK->Prop):Prop:=
 ∀(pins:List (Addr×Obj)) (s:Shared) (σ:St) (H:Hp) (x:V) (v:Value) (Q:VK),bW X pins σ H s->dy x v->r x H Q->
  wpAny (model X.prog X.w) X.A (f v) (EP X pins σ Q) X.xe s
def kj(X:Cx)(f:Value)(r:List V->Hp->VK->Prop):Prop:=
 ∀(pins:List (Addr×Obj)) (s:Shared) (σ:St) (H:Hp) (xs:List V) (us:List Value) (Q:VK),bW X pins σ H s->cT xs us->r xs H Q->
  wpAny (model X.prog X.w) X.A (call f us) (EP X pins σ Q) X.xe s
def bb(r:R2)(ta tb:TE):TE:=λσ H Q=>ta σ H λx H1=>tb σ H1 λy H2=>r x y H2 Q
def Gi(r:V->Hp->VK->Prop)(ta:TE):TE:=λσ H Q=>ta σ H λx H1=>r x H1 Q
def rI(C:Int->Int->Prop)(g:Int->Int->V):R2:=λx y H Q=>∃i j,x=.int i/\y=.int j/\C i j/\Q (g i j) H
def GE(g:Int->Int->V):R2:=λx y H Q=>∃i j,x=.int i/\y=.int j/\Q (g i j) H
def rU(g:Int->V):V->Hp->VK->Prop:=λx H Q=>∃i,x=.int i/\Q (g i) H
section
variable{X:Cx}{a b c:Expr}{ta tb tc:TE}{pos:Pos}
theorem Md(ha:PE X a ta)(hb:PE X b tb){pins:List (Addr×Obj)}{s:Shared}{σ:St}{H:Hp}{R:V->V->Hp->Prop}(I:bW X pins σ H s)
  (h:ta σ H λx H1=>tb σ H1 λy H2=>R x y H2) {Q:Value->Shared->Prop} {f:Value->Value->Sem Value}
  (hf:∀v u s2 x y H2,bW X pins σ H2 s2->dy x v->dy y u->R x y H2->wpAny (model X.prog X.w) X.A (f v u) Q X.xe s2) :
  wpAny (model X.prog X.w) X.A (eval a X.env) (λv s₁=>wpAny (model X.prog X.w) X.A (eval b X.env) (λu s₂=>wpAny (model X.prog X.w) X.A (f v u) Q X.xe s₂) X.xe s₁) X.xe s:=by
 refine gZ (ha pins s σ H _ I h) λv s1 ⟨x,H1,I1,r1,q1⟩=>?_
 refine gZ (hb pins s1 σ H1 _ I1 q1) λu s2 ⟨y,H2,I2,r2,q2⟩=>?_
 exact hf v u s2 x y H2 I2 r1 r2 q2
theorem Om{op:Operator}{r:R2}(ho:kq X (binaryOp op) r)(ha:PE X a ta)(hb:PE X b tb):PE X (.BinOp a op b pos) (bb r ta tb):=by
 intro pins s σ H Q I h
 exact wpAny_BinOp (Md ha hb I h λv u s2 x y H2 I2 rx ry q=>ho pins s2 σ H2 x y v u Q I2 rx ry q)
theorem Oo{op:UnaryOp}{r:V->Hp->VK->Prop}(ho:OJ X (unaryOp op) r)(ha:PE X a ta):PE X (.UnaryOp op a pos) (Gi r ta):=by
 intro pins s σ H Q I h
 exact UnaryOp_ (gZ (ha pins s σ H _ I h) λv s1 ⟨x,H1,I1,r1,q1⟩=>ho pins s1 σ H1 x v Q I1 r1 q1)
theorem OL{f:Value->Value->Sem Value}{C:Int->Int->Prop}{g:Int->Int->Int}
  (rule:∀(i j:Int) (t u:Tok) (s:Shared) (Q:Value->Shared->Prop) (E:Value->Shared->Prop),C i j->Q (.int (g i j) s.toks) {s with toks:=s.toks+1}->wpAny (model X.prog X.w) X.A (f (.int i t) (.int j u)) Q E s) :
  kq X f (rI C λi j=>.int (g i j)):=by
 intro pins s σ H x y v u Q I rx ry h
 obtain⟨i,j,rfl,rfl,hc,q⟩:=h
 obtain⟨t,rfl⟩:=rx
 obtain⟨t',rfl⟩:=ry
 exact rule i j t t' s _ _ hc ⟨.int (g i j),H,I.tok _,⟨_,rfl⟩,q⟩
theorem Od{f:Value->Value->Sem Value}{g:Int->Int->Int}
  (rule:∀(i j:Int) (t u:Tok) (s:Shared) (Q:Value->Shared->Prop) (E:Value->Shared->Prop),Q (.int (g i j) s.toks) {s with toks:=s.toks+1}->wpAny (model X.prog X.w) X.A (f (.int i t) (.int j u)) Q E s) :
  kq X f (GE λi j=>.int (g i j)):=by
 intro pins s σ H x y v u Q I rx ry h
 obtain⟨i,j,rfl,rfl,q⟩:=h
 obtain⟨t,rfl⟩:=rx
 obtain⟨t',rfl⟩:=ry
 exact rule i j t t' s _ _ ⟨.int (g i j),H,I.tok _,⟨_,rfl⟩,q⟩
theorem MF{f:Value->Value->Sem Value}{g:Int->Int->Bool}
  (rule:∀(i j:Int) (t u:Tok) (s:Shared) (Q:Value->Shared->Prop) (E:Value->Shared->Prop),Q (.bool (g i j)) s->wpAny (model X.prog X.w) X.A (f (.int i t) (.int j u)) Q E s) :
  kq X f (GE λi j=>.bl (g i j)):=by
 intro pins s σ H x y v u Q I rx ry h
 obtain⟨i,j,rfl,rfl,q⟩:=h
 obtain⟨t,rfl⟩:=rx
 obtain⟨t',rfl⟩:=ry
 exact rule i j t t' s _ _ ⟨.bl (g i j),H,I,rfl,q⟩
def NP(i j:Int):Prop:=0<j/\j<1073741824
def NQ(i j:Int):Prop:=0<=j/\j<=1000000/\i.natAbs<2 ^ 64
def Jw(i j:Int):Prop:=(-(2 ^ 64)<i/\i<2 ^ 64)\/(-(2 ^ 64)<j/\j<2 ^ 64)
theorem Jw.ok{i j:Int}(h:Jw i j):IntMulOk i j:=by
 rcases h with⟨h1,h2⟩|⟨h1,h2⟩
 ·exact .of_left (intBits_le_64 h1 h2)
 ·exact .of_right (intBits_le_64 h1 h2)
theorem MG:kq X (binaryOp .Add) (GE λi j=>.int (i+j)):=Od λ_ _ _ _ _ _ _ q=>add_int q
theorem pL:kq X (binaryOp .Sub) (GE λi j=>.int (i-j)):=Od λ_ _ _ _ _ _ _ q=>sub_int q
theorem MO:kq X (binaryOp .Mult) (rI Jw λi j=>.int (i*j)):=OL λ_ _ _ _ _ _ _ hc q=>mul_int q hc.ok
theorem Ad:kq X (binaryOp .FloorDiv) (rI NP λi j=>.int (i / j)):=OL λi j _ _ _ _ _ hc q=>by
 have h1:(0:Int)<j:=hc.1
 have h2:j<1073741824:=hc.2
 exact floordiv_int (by lia) (by rw[Int.fdiv_eq_ediv_of_nonneg i (by lia)];exact q) (.inl (PyProof.noPylong_small (by lia)))
theorem jU:kq X (binaryOp .Mod) (rI (λ_ j=>0<j) λi j=>.int (i % j)):=OL λi j _ _ _ _ _ hc q=>by
 have h1:(0:Int)<j:=hc
 exact mod_int' (by lia) (by rw[Int.fmod_eq_emod_of_nonneg i (by lia)];exact q)
theorem Ae:kq X (binaryOp .Pow) (rI NQ λi j=>.int (i ^ j.toNat)):=OL λ_ _ _ _ _ _ _ hc q=>pow_int_small hc.1 hc.2.1 hc.2.2 q
theorem PB{f:Value->Sem Value}{g:Int->Int}
  (rule:∀(i:Int) (t:Tok) (s:Shared) (Q:Value->Shared->Prop) (E:Value->Shared->Prop),Q (.int (g i) s.toks) {s with toks:=s.toks+1}->wpAny (model X.prog X.w) X.A (f (.int i t)) Q E s) :
  OJ X f (rU λi=>.int (g i)):=by
 intro pins s σ H x v Q I rx h
 obtain⟨i,rfl,q⟩:=h
 obtain⟨t,rfl⟩:=rx
 exact rule i t s _ _ ⟨.int (g i),H,I.tok _,⟨_,rfl⟩,q⟩
theorem mw:OJ X (unaryOp .USub) (rU λi=>.int (-i)):=PB λ_ _ _ _ _ q=>neg_int q
end
def OF:V->V->Bool
 |.non,.non=>true|.non,.int _=>true|.int _,.non=>true|.non,.bl _=>true|.bl _,.non=>true|.non,.str _=>true|.str _,.non=>true
 |.int _,.int _=>true|.bl _,.bl _=>true|.str _,.str _=>true|.byt _,.byt _=>true
 |.int _,.str _=>true|.str _,.int _=>true|.bl _,.str _=>true|.str _,.bl _=>true
 |_,_=>false
def Pm:R2:=λx y H Q=>OF x y=true/\Q (.bl (decide (x=y))) H
def Pn:R2:=λx y H Q=>OF x y=true/\Q (.bl (!decide (x=y))) H
theorem D7{i j:Int}:decide (V.int i=V.int j)=(i==j):=by
 rw[Bool.eq_iff_iff]
 simp
theorem GX{i j:Bool}:decide (V.bl i=V.bl j)=(i==j):=by
 rw[Bool.eq_iff_iff]
 simp
theorem D8{i j:Str}:decide (V.str i=V.str j)=(i==j):=by
 rw[Bool.eq_iff_iff]
 simp
theorem D6{i j:Array UInt8}:decide (V.byt i=V.byt j)=(i.toList==j.toList):=by
 rw[Bool.eq_iff_iff]
 cases i
 cases j
 simp
section
variable{X:Cx}{a b c:Expr}{ta tb tc:TE}{pos:Pos}
theorem dI{pins:List (Addr×Obj)}{σ:St}{H:Hp}{s:Shared}{Q:VK}{k k':Bool}(I:bW X pins σ H s)(q:Q (.bl k) H)(e:k=k'):EP X pins σ Q (.bool k') s:=by
 subst e
 exact⟨.bl k,H,I,rfl,q⟩
theorem Oe:kq X (compareOp .Eq) Pm:=by
 intro pins s σ H x y v u Q I rx ry h
 obtain⟨hs,q⟩:=h
 cases x with
 |non=>
  cases rx
  cases y with
  |non=>cases ry;exact PySem.EqNone.eq_none_none (dI I q (by simp))
  |bl j=>cases ry;exact PySem.EqNone.eq_none_bool (dI I q (by simp))
  |int j=>obtain⟨t',rfl⟩:=ry;exact PySem.EqNone.eq_none_int (dI I q (by simp))
  |str j=>obtain⟨t',rfl⟩:=ry;exact PySem.EqNone.eq_none_str (dI I q (by simp))
  |_=>exact absurd (show false=true from hs) Bool.false_ne_true
 |bl i=>
  cases rx
  cases y with
  |non=>cases ry;exact PySem.EqNone.eq_bool_none (dI I q (by simp))
  |bl j=>cases ry;exact eq_bool (dI I q GX)
  |str j=>obtain⟨t',rfl⟩:=ry;exact PySem.EqMixed.eq_bool_str (dI I q (by simp))
  |_=>exact absurd (show false=true from hs) Bool.false_ne_true
 |int i=>
  obtain⟨t,rfl⟩:=rx
  cases y with
  |non=>cases ry;exact PySem.EqNone.eq_int_none (dI I q (by simp))
  |int j=>obtain⟨t',rfl⟩:=ry;exact eq_int (dI I q D7)
  |str j=>obtain⟨t',rfl⟩:=ry;exact PySem.EqMixed.eq_int_str (dI I q (by simp))
  |_=>exact absurd (show false=true from hs) Bool.false_ne_true
 |str i=>
  obtain⟨t,rfl⟩:=rx
  cases y with
  |non=>cases ry;exact PySem.EqNone.eq_str_none (dI I q (by simp))
  |bl j=>cases ry;exact PySem.EqMixed.eq_str_bool (dI I q (by simp))
  |int j=>obtain⟨t',rfl⟩:=ry;exact PySem.EqMixed.eq_str_int (dI I q (by simp))
  |str j=>obtain⟨t',rfl⟩:=ry;exact eq_str (dI I q D8)
  |_=>exact absurd (show false=true from hs) Bool.false_ne_true
 |byt i=>
  obtain⟨t,rfl⟩:=rx
  cases y with
  |byt j=>obtain⟨t',rfl⟩:=ry;exact PySem.W.eq_bytes (dI I q D6)
  |_=>exact absurd (show false=true from hs) Bool.false_ne_true
 |_=>cases y<;>exact absurd (show false=true from hs) Bool.false_ne_true
theorem Of:kq X (compareOp .NotEq) Pn:=by
 intro pins s σ H x y v u Q I rx ry h
 obtain⟨hs,q⟩:=h
 cases x with
 |non=>
  cases rx
  cases y with
  |non=>cases ry;exact PySem.EqNone.ne_none_none (dI I q (by simp))
  |bl j=>cases ry;exact PySem.EqNone.ne_none_bool (dI I q (by simp))
  |int j=>obtain⟨t',rfl⟩:=ry;exact PySem.EqNone.ne_none_int (dI I q (by simp))
  |str j=>obtain⟨t',rfl⟩:=ry;exact PySem.EqNone.ne_none_str (dI I q (by simp))
  |_=>exact absurd (show false=true from hs) Bool.false_ne_true
 |bl i=>
  cases rx
  cases y with
  |non=>cases ry;exact PySem.EqNone.ne_bool_none (dI I q (by simp))
  |bl j=>cases ry;exact ne_bool (dI I q (congrArg not GX))
  |str j=>obtain⟨t',rfl⟩:=ry;exact PySem.EqMixed.ne_bool_str (dI I q (by simp))
  |_=>exact absurd (show false=true from hs) Bool.false_ne_true
 |int i=>
  obtain⟨t,rfl⟩:=rx
  cases y with
  |non=>cases ry;exact PySem.EqNone.ne_int_none (dI I q (by simp))
  |int j=>obtain⟨t',rfl⟩:=ry;exact ne_int (dI I q (congrArg not D7))
  |str j=>obtain⟨t',rfl⟩:=ry;exact PySem.EqMixed.ne_int_str (dI I q (by simp))
  |_=>exact absurd (show false=true from hs) Bool.false_ne_true
 |str i=>
  obtain⟨t,rfl⟩:=rx
  cases y with
  |non=>cases ry;exact PySem.EqNone.ne_str_none (dI I q (by simp))
  |bl j=>cases ry;exact PySem.EqMixed.ne_str_bool (dI I q (by simp))
  |int j=>obtain⟨t',rfl⟩:=ry;exact PySem.EqMixed.ne_str_int (dI I q (by simp))
  |str j=>obtain⟨t',rfl⟩:=ry;exact ne_str (dI I q (congrArg not D8))
  |_=>exact absurd (show false=true from hs) Bool.false_ne_true
 |byt i=>
  obtain⟨t,rfl⟩:=rx
  cases y with
  |byt j=>obtain⟨t',rfl⟩:=ry;exact PySem.W.ne_bytes (dI I q (congrArg not D6))
  |_=>exact absurd (show false=true from hs) Bool.false_ne_true
 |_=>cases y<;>exact absurd (show false=true from hs) Bool.false_ne_true
theorem lX:kq X (compareOp .Lt) (GE λi j=>.bl (decide (i<j))):=MF λ_ _ _ _ _ _ _ q=>lt_int q
theorem Ej:kq X (compareOp .Gt) (GE λi j=>.bl (decide (j<i))):=MF λ_ _ _ _ _ _ _ q=>gt_int q
theorem Ei:kq X (compareOp .GtE) (GE λi j=>.bl (decide (j<=i))):=MF λ_ _ _ _ _ _ _ q=>ge_int q
theorem HN:kq X (compareOp .Is) (λx y H Q=>y=.non/\Q (.bl (decide (x=.non))) H):=by
 intro pins s σ H x y v u Q I rx ry h
 obtain⟨rfl,q⟩:=h
 cases ry
 refine is_none_gen (dI I q ?_)
 cases x<;>first
  |(cases rx;rfl)
  |(obtain⟨t,rfl⟩:=rx;rfl)
theorem Ek:kq X (compareOp .IsNot) (λx y H Q=>y=.non/\Q (.bl (!decide (x=.non))) H):=by
 intro pins s σ H x y v u Q I rx ry h
 obtain⟨rfl,q⟩:=h
 cases ry
 refine isnot_none_gen (dI I q ?_)
 cases x<;>first
  |(cases rx;rfl)
  |(obtain⟨t,rfl⟩:=rx;rfl)
theorem kq.or{f:Value->Value->Sem Value}{r r':R2}(h:kq X f r)(h':kq X f r'):kq X f (λx y H Q=>r x y H Q\/r' x y H Q):=by
 intro pins s σ H x y v u Q I rx ry q
 rcases q with q|q
 ·exact h pins s σ H x y v u Q I rx ry q
 ·exact h' pins s σ H x y v u Q I rx ry q
theorem Ku{op:CmpOp}{r:R2}(ho:kq X (compareOp op) r)(ha:PE X a ta)(hb:PE X b tb)(hm:behindInMarks op b=false):PE X (.Compare a [op] [b] pos) (bb r ta tb):=by
 intro pins s σ H Q I h
 exact wpAny_Compare1 (Md ha hb I h λv u s2 x y H2 I2 rx ry q=>ho pins s2 σ H2 x y v u Q I2 rx ry q) hm
def bI(t:TE):TT:=λσ H Q=>t σ H λx H'=>∃k,x=.bl k/\Q k H'
theorem KS{op:CmpOp}{r:R2}(ho:kq X (compareOp op) r)(ha:PE X a ta)(hb:PE X b tb)(hm:behindInMarks op b=false):PT X (.Compare a [op] [b] pos) (bI (bb r ta tb)):=by
 intro pins s σ H Q I h
 refine wpAny_isTrue_Compare1 (gZ (ha pins s σ H _ I h) λv s1 ⟨x,H1,I1,r1,q1⟩=>gZ (hb pins s1 σ H1 _ I1 q1) λu s2 ⟨y,H2,I2,r2,q2⟩=>
  gZ (ho pins s2 σ H2 x y v u _ I2 r1 r2 q2) λc s3 ⟨z,H3,I3,r3,k,e,q3⟩=>?_) hm
 subst e
 cases r3
 exact wpAny_truthy_bool ⟨H3,I3,q3⟩
theorem tX:(sizeLine:Nat)<2 ^ 63:=by rw[sizeLine_eq];decide
theorem Dl:kq X (binaryOp .Add) (λx y H Q=>∃i j,x=.str i/\y=.str j/\i.length+j.length<=sizeLine/\Q (.str (i++j)) H):=by
 intro pins s σ H x y v u Q I rx ry h
 obtain⟨i,j,rfl,rfl,hz,q⟩:=h
 obtain⟨t,rfl⟩:=rx
 obtain⟨t',rfl⟩:=ry
 exact add_str (λt' tk=>⟨.str (i++j),H,I.tok _,⟨_,rfl⟩,q⟩) hz
theorem qo{x:V}{us:List Value}(r:cT [x] us):∃u,us=[u]/\dy x u:=by
 cases r with
 |cons r1 r2=>cases r2;exact⟨_,rfl,r1⟩
theorem xE{x y:V}{us:List Value}(r:cT [x,y] us):∃u w',us=[u,w']/\dy x u/\dy y w':=by
 cases r with
 |cons r1 r2=>
  cases r2 with
  |cons r3 r4=>cases r4;exact⟨_,_,rfl,r1,r3⟩
theorem EX(hc:X.calm=true):kj X (.builtin "max") (λxs H Q=>∃i j,xs=[.int i,.int j]/\Q (.int (if j>i then j else i)) H):=by
 intro pins s σ H xs us Q I r h
 obtain⟨i,j,rfl,q⟩:=h
 obtain⟨u,w',rfl,⟨t,rfl⟩,⟨t',rfl⟩⟩:=xE r
 refine max_two_ints (I.ok.hd hc) λh' tk k=>⟨_,H,I.kept k,?_,q⟩
 by_cases hj:j>i
 ·rw[if_pos hj,if_pos hj];exact⟨_,rfl⟩
 ·rw[if_neg hj,if_neg hj];exact⟨_,rfl⟩
theorem EY(hc:X.calm=true):kj X (.builtin "min") (λxs H Q=>∃i j,xs=[.int i,.int j]/\Q (.int (if j<i then j else i)) H):=by
 intro pins s σ H xs us Q I r h
 obtain⟨i,j,rfl,q⟩:=h
 obtain⟨u,w',rfl,⟨t,rfl⟩,⟨t',rfl⟩⟩:=xE r
 refine min_two_ints (I.ok.hd hc) λh' tk k=>⟨_,H,I.kept k,?_,q⟩
 by_cases hj:j<i
 ·rw[if_pos hj,if_pos hj];exact⟨_,rfl⟩
 ·rw[if_neg hj,if_neg hj];exact⟨_,rfl⟩
theorem tQ:kj X (.type "int") (λxs H Q=>(∃i,xs=[.int i]/\Q (.int i) H)\/∃k,xs=[.bl k]/\Q (.int (if k then 1 else 0)) H):=by
 intro pins s σ H xs us Q I r h
 rcases h with⟨i,rfl,q⟩|⟨k,rfl,q⟩
 ·obtain⟨u,rfl,t,rfl⟩:=qo r
  exact call_int_int ⟨.int i,H,I,⟨_,rfl⟩,q⟩
 ·obtain⟨u,rfl,r1⟩:=qo r
  cases r1
  exact call_int_bool ⟨.int (if k then 1 else 0),H,I.tok _,⟨_,rfl⟩,q⟩
def NT(K:Fg)(x:V)(H:Hp)(n:Nat):Prop:=
 match x with
 |.str y=>y.length<=sizeLine/\n=y.length
 |.byt y=>y.size<=sizeLine/\n=y.size
 |.ref p=>(∃xs,cA K H p xs/\n=xs.length)\/∃xs,cY K H p xs/\n=xs.length
 |_=>False
theorem bE:kj X (.builtin "len") (λxs H Q=>∃x n,xs=[x]/\NT X.K x H n/\Q (.int n) H):=by
 intro pins s σ H xs us Q I r h
 obtain⟨x,n,rfl,e,q⟩:=h
 obtain⟨u,rfl,rx⟩:=qo r
 have hl:=tX
 have hs:sizeLine=16777216:=sizeLine_eq
 cases x with
 |str y=>
  obtain⟨t,rfl⟩:=rx
  obtain⟨hy,e'⟩:y.length<=sizeLine/\n=y.length:=e
  subst e'
  exact len_str (by lia) ⟨.int _,H,I.tok _,⟨_,rfl⟩,q⟩
 |byt y=>
  obtain⟨t,rfl⟩:=rx
  obtain⟨hy,e'⟩:y.size<=sizeLine/\n=y.size:=e
  subst e'
  exact PySem.W.len_bytes (by lia) ⟨.int _,H,I.tok _,⟨_,rfl⟩,q⟩
 |ref p=>
  cases rx
  have e':(∃xs,cA X.K H p xs/\n=xs.length)\/∃xs,cY X.K H p xs/\n=xs.length:=e
  rcases e' with⟨xs,hx,e'⟩|⟨xs,hx,e'⟩
  ·subst e'
   obtain⟨its,r',pl,hz⟩:=I.list hx
   have hlen:=r'.length
   exact Calls.call_len_list pl.isList (by simp only[ax];lia) ⟨.int xs.length,H,I.tok _,⟨_,by simp only[ax];rw[hlen]⟩,q⟩
  ·subst e'
   obtain⟨its,r',pl,hz⟩:=I.tuple hx
   have hlen:=r'.length
   exact len_tuple pl (by simp only[ax];lia) ⟨.int xs.length,H,I.tok _,⟨_,by simp only[ax];rw[hlen]⟩,q⟩
 |_=>exact(show False from e).elim
end
theorem tY{h:Heap}{dx:Addr}{mA:Str->Option Value}(n:h.Ns1 dx mA):∃od,h.get? dx=some od/\∀name,PySem.W.lookIn name od=some (mA name):=by
 obtain⟨o,es,ep,ho,hd,hk,_,hm⟩:=n
 refine⟨o,ho,λname=>?_⟩
 have e:=hm name
 unfold nsFind findBy at e
 rw[<-Array.find?_toList] at e
 unfold PySem.W.lookIn
 rw[hd]
 dsimp only
 split
 ·rename_i y q
  rw[q] at e
  exact congrArg some e
 ·rename_i q
  rw[q] at e
  have a:es.toList.any (·.refKey)=false:=by
   rw[List.any_eq_false]
   intro y hy
   obtain⟨z,t,hkey⟩:=hk y (Array.mem_toList_iff.mp hy)
   simp[DictEntry.refKey,hkey]
  have a':¬es.toList.any (·.refKey)=true:=by rw[a];exact Bool.false_ne_true
  rw[if_neg a']
  exact congrArg some e
section
variable{prog:Program}{w:World}{A:Around}{E:Value->Shared->Prop}{s:Shared}{K:Fg}{x dx C f:Addr}{mA:Str->Option Value}{name:Str}{v:Value}
end
def mZ(f:Str)(v:V):List (Str×V)->List (Str×V)
 |[]=>[(f,v)]
 |(g,x)::r=>if g=f then(g,v)::r else(g,x)::mZ f v r
theorem ux(f g:Str)(v:V):∀fs:List (Str×V),(mZ f v fs).lookup g=if g=f then some v else fs.lookup g
 |[]=>by
  show iq g [(f,v)]=_
  by_cases h:g=f
  ·have hb:(g==f)=true:=beq_iff_eq.mpr h
   simp only[iq,hb,if_pos h]
  ·have hb:(g==f)=false:=beq_eq_false_iff_ne.mpr h
   simp only[iq,hb,if_neg h]
 |(k,x)::r=>by
  have ih:=ux f g v r
  rw[show mZ f v ((k,x)::r)=(if k=f then(k,v)::r else(k,x)::mZ f v r) from rfl]
  by_cases hk:k=f
  ·rw[if_pos hk]
   by_cases h:g=k
   ·have hb:(g==k)=true:=beq_iff_eq.mpr h
    simp only[iq,hb,if_pos (h.trans hk)]
   ·have hb:(g==k)=false:=beq_eq_false_iff_ne.mpr h
    simp only[iq,hb,if_neg (λe:g=f=>h (e.trans hk.symm))]
  ·rw[if_neg hk]
   by_cases h:g=k
   ·have hb:(g==k)=true:=beq_iff_eq.mpr h
    simp only[iq,hb,if_neg (λe:g=f=>hk (h.symm.trans e))]
   ·have hb:(g==k)=false:=beq_eq_false_iff_ne.mpr h
    simp only[iq,hb]
    exact ih
theorem tV(f:Str)(v:V):∀fs:List (Str×V),f∈(mZ f v fs).map (·.1)/\∀g,g∈fs.map (·.1)->g∈(mZ f v fs).map (·.1)
 |[]=>⟨by simp[mZ],λg h=>by simp at h⟩
 |(k,x)::r=>by
  obtain⟨i1,i2⟩:=tV f v r
  rw[show mZ f v ((k,x)::r)=(if k=f then(k,v)::r else(k,x)::mZ f v r) from rfl]
  by_cases hk:k=f
  ·rw[if_pos hk]
   subst hk
   exact⟨by simp,λg h=>by simpa using h⟩
  ·rw[if_neg hk]
   refine⟨?_,λg h=>?_⟩
   ·rw[ba]
    exact cX _ i1
   ·rw[ba] at h ⊢
    rcases aV.mp h with e|e
    ·exact aV.mpr (.inl e)
    ·exact cX _ (i2 g e)
theorem uw(f:Str)(v:V):∀fs:List (Str×V),(mZ f v fs).length<=fs.length+1
 |[]=>by simp[mZ]
 |(k,x)::r=>by
  have ih:=uw f v r
  rw[show mZ f v ((k,x)::r)=(if k=f then(k,v)::r else(k,x)::mZ f v r) from rfl]
  by_cases hk:k=f
  ·rw[if_pos hk,bK,bK];lia
  ·rw[if_neg hk,bK,bK];lia
theorem rA.some_of{v:V}{o:Option Value}(r:rA (some v) o):∃u,o=some u/\dy v u:=by
 cases o with
 |none=>exact(show False from r).elim
 |some u=>exact⟨u,rfl,r⟩
theorem Fe{v:V}{u:Value}(r:dy v u):PySem.W.handedIn u=true:=by
 cases v with
 |non=>cases(show u=Value.none from r);rfl
 |bl b=>cases(show u=Value.bool b from r);rfl
 |int i=>obtain⟨t,e⟩:=(show ∃t,u=Value.int i t from r);cases e;rfl
 |str x=>obtain⟨t,e⟩:=(show ∃t,u=Value.str x t from r);cases e;rfl
 |byt b=>obtain⟨t,e⟩:=(show ∃t,u=Value.bytes b t from r);cases e;rfl
 |flt b=>obtain⟨t,e⟩:=(show ∃t,u=Value.float b t from r);cases e;rfl
 |ref a=>cases(show u=Value.ref a from r);rfl
 |ty n=>cases(show u=Value.type n from r);rfl
section
variable{P:Program}{w:World}{H H':Hp}{h h':Heap}{a C dx:Addr}{fs fs':List (Str×V)}
end
def jC(K:Fg)(C:Addr)(f:Str):Prop:=bw K (.ref C) f=some none
section
variable{X:Cx}{pins:List (Addr×Obj)}{σ:St}{H:Hp}{s:Shared}{a C dx:Addr}{fs:List (Str×V)}{f:Str}{v:V}{A:Around}{E:Value->Shared->Prop}
theorem JH{prog:Program}{w:World}{env:Env}{e:Expr}{f:Str}{pos:Pos}{s:Shared}{Q:Value->Shared->Prop}(hb:attributeBase e f env (eval e env)=eval e env)
  (h:wpAny (model prog w) A (eval e env) (λo s₁=>wpAny (model prog w) A (getAttr o f true) Q E s₁) E s):wpAny (model prog w) A (eval (.Attribute e f pos) env) Q E s:=
 Attribute_any_ h (by rw[arm_eval_Attribute,hb])
end
section
variable{X:Cx}{o e value:Expr}{f:Str}{pos pos' tpos:Pos}{ta tv:TE}
end
section
variable{X:Cx}{pins:List (Addr×Obj)}{σ:St}{H:Hp}{s:Shared}{A:Around}{E:Value->Shared->Prop}{Q:Value->Shared->Prop}{c:Value}{b:Bool}
end
structure dm(k:Nat)(A:Around):Prop where
 hd:A.handled=none
 dp:A.depth+3*k+5<recursionLimit
 un:A.units+16*k+200<cLine
theorem dm.mono{j k:Nat}{A:Around}(r:dm k A)(h:j<=k):dm j A:=⟨r.hd,by have:=r.dp;lia,by have:=r.un;lia⟩
theorem dm.deeper{k:Nat}{A:Around}(r:dm (k+1) A)(env:Env):dm k (A.deeper env):=
 ⟨r.hd,by have:=r.dp;show A.depth+1+3*k+5<_;lia,by have:=r.un;show A.units+3+16*k+200<_;lia⟩
theorem C6{A:Around}{C:Addr}{us:List Value}{kw:List (Str×Value)}:(A.under (.builtin "type.__call__" ⟨.ref C::us,kw⟩)).depth=A.depth+1:=by
 first|rfl|simp[Around.under,Code.weight,Code.isCreation,Code.isGuard,Code.isCaller,Code.frames,Code.isFrame,guardIds]
theorem C7{A:Around}{C:Addr}{us:List Value}{kw:List (Str×Value)}:(A.under (.builtin "type.__call__" ⟨.ref C::us,kw⟩)).units=A.units+1:=by
 first|rfl|simp[Around.under,Code.cUnits,Code.frames,Code.isFrame]
theorem dm.make{k:Nat}{A:Around}(r:dm (k+1) A)(C:Addr)(us:List Value)(kw:List (Str×Value)):dm k (A.under (.builtin "type.__call__" ⟨.ref C::us,kw⟩)):=
 ⟨r.hd,by have:=r.dp;rw[C6];lia,by have:=r.un;rw[C7];lia⟩
theorem dm.depth{k:Nat}{A:Around}(r:dm k A):A.depth<recursionLimit:=by have:=r.dp;lia
theorem dm.units{k:Nat}{A:Around}(r:dm k A):A.units+64<cLine:=by have:=r.un;lia
theorem dm.units0{k:Nat}{A:Around}(r:dm k A):A.units<cLine:=by have:=r.un;lia
def aE:TA:=λ_ H Q=>Q [] H
def af(ta:TE)(tr:TA):TA:=λσ H Q=>ta σ H λx H1=>tr σ H1 λxs H2=>Q (x::xs) H2
section
variable{X:Cx}{e:Expr}{es:List Expr}{te:TE}{t:TA}{pos:Pos}
theorem MS:PA X [] aE:=λ_ _ _ _ H Q I h=>Calls.spliced_nil ⟨[],H,I,.nil,h⟩
theorem Ks(ha:PE X e te)(hr:PA X es t)(hs:starEach (e::es) X.env=(false,eval e X.env)::starEach es X.env:=by rfl):PA X (e::es) (af te t):=by
 intro pos pins s σ H Q I h
 rw[hs]
 show wpAny _ _ (spliced ((false,eval e X.env)::backTo pos (starEach es X.env))) _ _ s
 refine Calls.spliced_cons (gZ (ha pins s σ H _ I h) λu s1 ⟨x,H1,I1,r1,q1⟩=>?_)
 exact gZ (hr pos pins s1 σ H1 _ I1 q1) λus s2 ⟨xs,H2,I2,r2,q2⟩=>⟨x::xs,H2,I2,.cons r1 r2,q2⟩
def dM(t:TA):TE:=λσ H Q=>t σ H λxs H1=>xs.length<=sizeLine/\∀p,H1 p=none->Q (.ref p) (upd H1 p (.tup xs))
def fL(t:TA):TE:=λσ H Q=>t σ H λxs H1=>xs.length<=sizeLine/\∀p,H1 p=none->Q (.ref p) (upd H1 p (.lst xs))
theorem Na{x1}(h:PA X es t):PE X (.Tuple es x1 pos) (dM t):=by
 intro pins s σ H Q I hq
 refine wpAny_Tuple_spliced (gZ (h pos pins s σ H _ I hq) λus s1 ⟨xs,H1,I1,r,z,q⟩=>⟨by rw[<-r.length];exact z,?_⟩)
 have hf:H1 s1.heap.objs.size=none:=I1.hok.fresh (aD _)
 refine⟨.ref s1.heap.objs.size,upd H1 s1.heap.objs.size (.tup xs),I1.laid (t':=s1.toks) (λb u e=>az _ e) (aD _) ?_,rfl,q _ hf⟩
 exact⟨z,us,r,⟨_,aZ _ rfl,⟨rfl,rfl⟩,_,rfl⟩⟩
theorem MY(h:PA X es t):PE X (.List es pos) (fL t):=by
 intro pins s σ H Q I hq
 refine wpAny_List_spliced (gZ (h pos pins s σ H _ I hq) λus s1 ⟨xs,H1,I1,r,z,q⟩=>⟨by rw[<-r.length];exact z,?_⟩)
 have hf:H1 s1.heap.objs.size=none:=I1.hok.fresh (aD _)
 refine⟨.ref s1.heap.objs.size,upd H1 s1.heap.objs.size (.lst xs),I1.laid (t':=s1.toks) (λb u e=>az _ e) (aD _) ?_,rfl,q _ hf⟩
 exact⟨z,us,0,r,aZ _ rfl⟩
end
abbrev Sp:=List V->Hp->VK->XK->Prop
abbrev GC:=List Env->Hp->Shared->XK->Value->Shared->Prop
structure Cq(P:Program)(w:World)(K:Fg)(mg:Str->Option Value)(base:Heap)(A:Around)(outer:List Env)(s:Shared)(H:Hp):Prop where
 frames:A.frames=some outer
 mod:Mod K mg base
 bs:∀b o,base.get? b=some o->s.heap.get? b=some o/\H b=none
 bsz:base.objs.size<=s.heap.objs.size
 funs:s.heap.FunFrames base outer
 frf:∀b∈AC outer,H b=none
 hok:pd P w H s.heap
 bare:AllBare s.gens
def CE(outer:List Env)(P:Program)(w:World)(H:Hp)(s:Shared)(Q:VK)(u:Value)(s':Shared):Prop:=
 ∃v H',s'.os=s.os/\AllBare s'.gens/\Un (AC outer) [] H H' s.heap s'.heap/\pd P w H' s'.heap/\dy v u/\Q v H'
def CR(CX:GC)(outer:List Env)(P:Program)(w:World)(H:Hp)(s:Shared)(Q:VK)(E:XK)(r:Result)(s':Shared):Prop:=
 match r with
 |.ok (.ret u)=>CE outer P w H s Q u s'
 |.ok _=>False
 |.error e=>CX outer H s E e s'
structure dY(P:Program)(w:World)(K:Fg)(mg:Str->Option Value)(base:Heap)(CX:GC)(k:Nat)(f:Addr)(fd:FuncData)(ps:List Str)(sp:Sp):Prop where
 len:∀vs H Q E,sp vs H Q E->vs.length=ps.length
 run:∀(A:Around) (outer:List Env) (s:Shared) (H:Hp) (args:Args) (us:List Value) (vs:List V) (Q:VK) (E:XK),dm k A->Cq P w K mg base A outer s H->BindsTo s fd args (ps.zip us)->cT vs us->sp vs H Q E->
  codeAny (model P w) A (.call (.ref f) args) (CR CX outer P w H s Q E) s
theorem Cq.make{P:Program}{w:World}{K:Fg}{mg:Str->Option Value}{base:Heap}{A:Around}{outer:List Env}{s:Shared}{H:Hp}(e:Cq P w K mg base A outer s H)(C:Addr)(us:List Value)(kw:List (Str×Value)) :
  Cq P w K mg base (A.under (.builtin "type.__call__" ⟨.ref C::us,kw⟩)) outer s H:=⟨by first|exact e.frames|(simpa[Around.under,Code.envs,Code.isFrame,pushEnvs] using e.frames),e.mod,e.bs,e.bsz,e.funs,e.frf,e.hok,e.bare⟩
section
variable{X:Cx}{pins:List (Addr×Obj)}{σ:St}{H:Hp}{s s':Shared}
theorem bW.env0(I:bW X pins σ H s):Cq X.prog X.w X.K X.mg X.base X.A X.stack s H:=
 ⟨I.ok.frames,I.ok.mod,I.bs,cq I.ok.bsz I.sz,I.stack,I.stkFree,I.hok,I.bare⟩
theorem bW.after{Q:VK}{u:Value}(I:bW X pins σ H s)(h:CE X.stack X.prog X.w H s Q u s'):EP X pins σ Q u s':=by
 obtain⟨v,H',os,bare,un,hok,r,q⟩:=h
 obtain⟨hh,g,d,t,os'⟩:=s'
 obtain rfl:os'=s.os:=os
 exact⟨v,H',I.call (h':=hh) (g':=g) (d':=d) (t':=t) (ch:=[]) un hok bare (λb z=>absurd z (by simp)),r,q⟩
end
def bG(sp:Sp)(dvs:List V)(E:XK)(t:TA):TE:=λσ H Q=>t σ H λvs H1=>sp (vs++dvs) H1 Q E
def px(K:Fg)(fd:FuncData)(ps:List Str)(ds:List Value):Prop:=
 ∀(s:Shared) (us:List Value),K.In s.heap->(us++ds).length=ps.length->BindsTo s fd ⟨us,[]⟩ (ps.zip (us++ds))
theorem px.all{K:Fg}{fd:FuncData}{ps:List Str}(h:∀us:List Value,us.length=ps.length->bindArgs fd ⟨us,[]⟩=pure (ps.zip us)):px K fd ps []:=λs us _ hl=>by
 rw[d7] at hl ⊢
 exact .of_eq (h us hl)
def pD(CX:GC)(X:Cx)(E:XK):Prop:=∀(pins:List (Addr×Obj)) (σ:St) (H:Hp) (s:Shared) (e:Value) (s':Shared),bW X pins σ H s->CX X.stack H s E e s'->X.xe e s'
section
variable{X:Cx}{CX:GC}{k:Nat}{f C:Addr}{fd:FuncData}{ps:List Str}{sp:Sp}{dvs:List V}{ds:List Value}{E:XK}{x m:Str}{p pos apos:Pos}{e o:Expr}{es:List Expr}{ta:TE}{t:TA}
theorem ND{pins:List (Addr×Obj)}{σ:St}{H:Hp}{s:Shared}{Q:VK}{us:List Value}{vs:List V}(F:dY X.prog X.w X.K X.mg X.base CX k f fd ps sp)(hr:dm k X.A)(hb:px X.K fd ps ds)(hd:cT dvs ds)(hx:pD CX X E)
  (I:bW X pins σ H s) (r:cT vs us) (h:sp (vs++dvs) H Q E):wpAny (model X.prog X.w) X.A (call (.ref f) us) (EP X pins σ Q) X.xe s:=by
 have r2:cT (vs++dvs) (us++ds):=r.append hd
 have hl:(us++ds).length=ps.length:=by rw[<-r2.length];exact F.len _ _ _ _ h
 refine wpAny_call (codeAny_mono (F.run X.A X.stack s H ⟨us,[]⟩ (us++ds) (vs++dvs) Q E hr I.env0 (hb s us I.kIn hl) r2 h) λr s' hq=>?_)
 cases r with
 |error e=>exact hx pins σ H s e s' I hq
 |ok fl=>
  cases fl with
  |ret u=>exact I.after hq
  |next=>exact False.elim hq
  |brk=>exact False.elim hq
  |cont=>exact False.elim hq
theorem El(F:dY X.prog X.w X.K X.mg X.base CX k f fd ps sp)(hr:dm k X.A)(hg:Gl X x)(hm:X.mg x=some (.ref f))(hk:aF X.K (.ref f)=true)(hb:px X.K fd ps ds)(hd:cT dvs ds)(hx:pD CX X E)
  (ha:PA X (e::es) t) (hdb:(x==("__debug__":Str))=false:=by decide) (he:starEach (e::es) X.env=(false,eval e X.env)::starEach es X.env:=by rfl) (hpl:(backTo pos (starEach es X.env)).any (·.1)=false:=by rfl) :
  PE X (.Call (.Name x p) (e::es) [] pos) (bG sp dvs E t):=by
 intro pins s σ H Q I h
 refine wpAny_Call_Name_kw (vz I hg hm ?_ hdb)
 refine PySem.W.callWith_K (h₀:=X.base) I.ok.mod.kin hk (gZ (ha pos pins s σ H _ I h) λus s1 ⟨vs,H1,I1,r,q⟩=>⟨I1.kIn,?_⟩) he hpl
 exact ND F hr hb hd hx I1 r q
end
def PK(X:Cx)(kws:List Keyword)(t:TA):Prop:=
 ∀(pos:Pos) (pins:List (Addr×Obj)) (s:Shared) (σ:St) (H:Hp) (Q:List V->Hp->Prop),bW X pins σ H s->t σ H Q->wpAny (model X.prog X.w) X.A (evalAll ((backToKw pos (keywordEach kws X.env)).map (·.2))) (AP X pins σ Q) X.xe s
section
variable{X:Cx}{CX:GC}{k:Nat}{f C:Addr}{fd:FuncData}{ps ks:List Str}{sp:Sp}{E:XK}{x m:Str}{p pos apos kpos:Pos}{e o:Expr}{es:List Expr}{kws:List Keyword}{te ta:TE}{t tk:TA}{nm:Option Str}
theorem Ni:PK X [] aE:=λ_ _ _ _ H Q I h=>wpAny_evalAll_nil ⟨[],H,I,.nil,h⟩
theorem KH(ha:PE X e te)(hr:PK X kws t):PK X (⟨nm,e,kpos⟩::kws) (af te t):=by
 intro pos pins s σ H Q I h
 show wpAny _ _ (evalAll ((do let v <-eval e X.env;standAt pos;pure v)::(backToKw pos (keywordEach kws X.env)).map (·.2))) _ _ s
 refine wpAny_evalAll_cons (wpAny_bind (gZ (ha pins s σ H _ I h) λu s1 ⟨x,H1,I1,r1,q1⟩=>wpAny_bind (wpAny_standAt (wpAny_pure ?_))))
 exact gZ (hr pos pins s1 σ H1 _ I1 q1) λus s2 ⟨xs,H2,I2,r2,q2⟩=>⟨x::xs,H2,I2,.cons r1 r2,q2⟩
variable{g:List Value->List Value->List Value}{gV:List V->List V->List V}
end
structure bT(N P:List Str)(sc:Scope):Prop where
 kind:sc.kind=.function
 co:sc.isCoroutine=false
 gen:sc.isGenerator=false
 nd:N.Nodup
 pre:N.take P.length=P
 par:∀x∈P,sc.names.lookup x=some .local\/sc.names.lookup x=some .cell
 nofree:∀y∈sc.names,y.2≠.free
theorem yt{kindOf:Str->Option NameKind}{x:Str}:∀{binds:List (Str×Value)} {m:Str->Option Value},(∀v,(x,v)∉binds)->bindL kindOf binds m x=m x
 |[],_,_=>rfl
 |(n,v)::r,m,h=>by
  unfold bindL
  rw[yt λw hw=>h w (cX _ hw)]
  split
  ·have:x≠n:=by rintro rfl;exact h v cJ
   simp[this]
  ·rfl
theorem yo{kindOf:Str->Option NameKind}{x:Str}:∀{binds:List (Str×Value)} {m:Str->Option Value},(∀v,(x,v)∉binds)->bindC kindOf binds m x=m x
 |[],_,_=>rfl
 |(n,v)::r,m,h=>by
  unfold bindC
  rw[yo λw hw=>h w (cX _ hw)]
  split
  ·rfl
  ·have:x≠n:=by rintro rfl;exact h v cJ
   simp[this]
theorem yq{kindOf:Str->Option NameKind}{x:Str}{v:Value}:∀{P:List Str} {vs:List Value} {i:Nat} {m:Str->Option Value},P.Nodup->P[i]?=some x->vs[i]?=some v->kindOf x=some .local->
  bindL kindOf (P.zip vs) m x=some v
 |[],_,_,_,_,h,_,_=>by simp at h
 |_::_,[],_,_,_,_,h,_=>by simp at h
 |p::P,w::vs,0,m,nd,h1,h2,hk=>by
  simp at h1 h2;subst h1;subst h2
  show bindL kindOf ((p,w)::P.zip vs) m p=_
  unfold bindL
  rw[yt λv hv=>(dO.mp nd).1 (oM hv).1,if_pos hk]
  simp
 |p::P,w::vs,i+1,m,nd,h1,h2,hk=>by
  show bindL kindOf ((p,w)::P.zip vs) m x=_
  unfold bindL
  exact yq (i:=i) (dO.mp nd).2 (by simpa using h1) (by simpa using h2) hk
theorem yn{kindOf:Str->Option NameKind}{x:Str}{v:Value}:∀{P:List Str} {vs:List Value} {i:Nat} {m:Str->Option Value},P.Nodup->P[i]?=some x->vs[i]?=some v->kindOf x≠some .local->
  bindC kindOf (P.zip vs) m x=some v
 |[],_,_,_,_,h,_,_=>by simp at h
 |_::_,[],_,_,_,_,h,_=>by simp at h
 |p::P,w::vs,0,m,nd,h1,h2,hk=>by
  simp at h1 h2;subst h1;subst h2
  show bindC kindOf ((p,w)::P.zip vs) m p=_
  unfold bindC
  rw[yo λv hv=>(dO.mp nd).1 (oM hv).1,if_neg hk]
  simp
 |p::P,w::vs,i+1,m,nd,h1,h2,hk=>by
  show bindC kindOf ((p,w)::P.zip vs) m x=_
  unfold bindC
  exact yn (i:=i) (dO.mp nd).2 (by simpa using h1) (by simpa using h2) hk
def cU(N:List Str)(vs:List V):St:=vs.map some++bh (N.length-vs.length) none
def eE(CX:GC)(P:Program)(w:World)(K:Fg)(mg:Str->Option Value)(base:Heap)(N:List Str)(qual:Str)(scope:Scope)(f:Addr)(cd:Value)(A:Around)(outer:List Env)(s:Shared)(H:Hp)(E:XK):Cx where
 prog:=P
 w:=w
 K:=K
 mg:=mg
 base:=base
 A:=A.deeper (envOfC qual scope s.heap.objs.size f cd)
 N:=N
 s₀:=s
 H₀:=H
 env:=envOfC qual scope s.heap.objs.size f cd
 outer:=outer
 stack:=envOfC qual scope s.heap.objs.size f cd::outer
 ex:=[]
 calm:=true
 fn:=λ_=>true
 pn:=[]
 xe:=λe s'=>wpAny (model P w) (A.deeper (envOfC qual scope s.heap.objs.size f cd)) (leaving (envOfC qual scope s.heap.objs.size f cd) e) (λ_ s''=>CX outer H s E e s'') (λe' s''=>CX outer H s E e' s'') s'
theorem AK{sc:Scope}{n:Nat}{x:Str}(h:sc.names.lookup x=some .cell):∃c,(cellsFrom n sc.names []).lookup x=some c:=by
 have q:=PySem.W.cellsFrom_some sc.names n [] (.inl h)
 exact iT.mp q
theorem Fi{CX:GC}{P:Program}{w:World}{K:Fg}{mg:Str->Option Value}{base:Heap}{N ps:List Str}{qual:Str}{scope:Scope}{f:Addr}{cd:Value}{A:Around}{outer:List Env}{s s1:Shared}{H:Hp}{E:XK}{us:List Value}{vs:List V}
  (S:bT N ps scope) (hd:A.handled=none) (e0:Cq P w K mg base A outer s H) (hl:vs.length=ps.length) (r:cT vs us)
  (x:InCallC s s.heap.objs.size (bindL (envOfC qual scope s.heap.objs.size f cd).kindOf (ps.zip us) λ_=>none) (cellsFrom (s.heap.objs.size+1) scope.names []) (bindC (envOfC qual scope s.heap.objs.size f cd).kindOf (ps.zip us) λ_=>none) s1) :
  bW (eE CX P w K mg base N qual scope f cd A outer s H E) [] (cU N vs) H s1:=by
 have hpl:ps.length<=N.length:=by have:=congrArg pq S.pre;rw[aY] at this;lia
 obtain⟨h1,tk,rfl,hk⟩:=x.done
 have noA:∀b:Addr,b∉(eE CX P w K mg base N qual scope f cd A outer s H E).ex:=λb z=>absurd (show b∈([]:List Addr) from z) (by simp)
 refine⟨⟨e0.mod,S.kind,rfl,rfl,aD _,λy z c h1 h2=>?_,λy hy=>?_,λy c _ h=>?_,λ_=>hd,Around.frames_deeper e0.frames,.inr ⟨rfl,rfl⟩,λb z=>absurd z (noA b),e0.bs,e0.bsz,λb _ _=>noA b,λb z=>absurd z (noA b),e0.funs,e0.frf⟩,
  rfl,e0.bare,Un.kept hk,⟨_,x.toInCall.ns,λi y v h1 h2 h3=>?_⟩,λy c h=>⟨_,x.cell y c h⟩,e0.hok.fresh (aD _),λy c h=>?_,λp hp=>absurd (show p∈([]:List (Addr×Obj)) from hp) (by simp),e0.hok.kept hk,?_⟩
 ·exact name_of_addr x.apart (dj h1) (dj h2)
 ·have hy:scope.names.lookup y=some .cell\/scope.names.lookup y=some .free:=hy
  rcases hy with hy|hy
  ·exact AK hy
  ·exact absurd rfl (S.nofree _ (dj hy))
 ·exact jy (x.above y c (dj h))
 ·have hi:i<vs.length:=by
   unfold cU at h2
   by_cases hi:i<vs.length
   ·exact hi
   ·rw[cg (by simpa using hi)] at h2
    rw[jh] at h2
    split at h2<;>cases h2
  have ha:vs[i]?=some v:=by
   unfold cU at h2
   rw[cZ (by simpa using hi),aO] at h2
   cases e:vs[i]? with
   |none=>rw[e] at h2;cases h2
   |some a=>rw[e] at h2;cases h2;rfl
  obtain⟨u,hu,rv⟩:=r.get ha
  have hp:ps[i]?=some y:=by
   rw[<-S.pre,gf (by lia)];exact h1
  have ndP:ps.Nodup:=by rw[<-S.pre];exact S.nd.sublist (jx _ _)
  refine⟨u,rv,?_⟩
  rcases S.par y (aH hp) with k|k
  ·exact .inl ⟨k,yq ndP hp hu k⟩
  ·obtain⟨c,e⟩:=AK (n:=s.heap.objs.size+1) k
   refine .inr ⟨.inl k,c,e,?_⟩
   have q:=x.cell y c e
   rw[yn ndP hp hu (by show scope.names.lookup y≠_;rw[k];decide)] at q
   exact q
 ·exact e0.hok.fresh (jy (x.above y c (dj h)))
 ·unfold cU
  show _=N.length
  rw[aN,ai,cv]
  lia
theorem G8{CX:GC}{P:Program}{w:World}{K:Fg}{mg:Str->Option Value}{base:Heap}{k:Nat}{f:Addr}{name qual:Str}{params:Arguments}{body:List Stmt}{scope:Scope}{dV kV doc pm cdv ct oc:Value}{an od:Option Addr}
  {osl:Array (Option Value)} {N ps:List Str} {sp:Sp} (lk:K.lookup f=some ⟨oc,od,.func (aL name qual params body scope dV kV doc pm an cdv ct),osl⟩) (hcd:aI K cdv qual=true) (S:bT N ps scope)
  (len:∀vs H Q E,sp vs H Q E->vs.length=ps.length)
  (hbody:∀(A:Around) (outer:List Env) (s:Shared) (H:Hp) (vs:List V) (Q:VK) (E:XK),dm k (A.deeper (envOfC qual scope s.heap.objs.size f cdv))->sp vs H Q E->
   ∃t,jv (eE CX P w K mg base N qual scope f cdv A outer s H E) body t/\t {nx:=λ_ H'=>Q .non H',rt:=Q} (cU N vs) H) :
  dY P w K mg base CX (k+1) f (aL name qual params body scope dV kV doc pm an cdv ct) ps sp:=by
 refine⟨len,λA outer s H args us vs Q E hr e0 hb r hsp=>?_⟩
 have hl:=len _ _ _ _ hsp
 have KX:K.In s.heap:=e0.mod.kin.keeps λb o e=>(e0.bs b o e).1
 have lim:s.heap.NoLimit:=e0.mod.nolimit.keeps λb o e=>(e0.bs b o e).1
 have hkind:∀y∈ps.zip us,scope.names.lookup y.1=some .local\/(scope.names.lookup y.1=some .cell/\((cellsFrom (s.heap.objs.size+1) scope.names []).lookup y.1).isSome=true):=λ⟨n,v⟩ hy=>by
  rcases S.par n (oM hy).1 with q|q
  ·exact .inl q
  ·exact .inr ⟨q,PySem.W.cellsFrom_some _ _ _ (.inl q)⟩
 refine codeAny_call_function hr.depth (KX _ _ lk) rfl S.co S.gen rfl (PySem.W.codeRec_of KX hcd) (hb _ _ _ _ ?_)
 refine wpAny_newFunctionEnv_cells S.kind hkind λenv he s1 x=>?_
 subst he
 refine⟨lim.keeps x.toInCall.keep,codeAny_func ?_⟩
 obtain⟨t,ht,hq⟩:=hbody A outer s H vs Q E (hr.deeper _) hsp
 have I:bW (eE CX P w K mg base N qual scope f cdv A outer s H E) [] (cU N vs) H s1:=Fi S hr.hd e0 hl r x
 refine wpAny_mono (ht [] s1 (cU N vs) H _ I hq) (λfl s' hs=>?_) λe s' hs=>hs
 have fin:∀{σ':St} {H':Hp} {v:V} {u:Value},bW (eE CX P w K mg base N qual scope f cdv A outer s H E) [] σ' H' s'->dy v u->Q v H'->CE outer P w H s Q u s':=
  λ{σ' H' v u} J rv q=>⟨v,H',J.os,J.bare,J.base,J.hok,rv,q⟩
 cases fl with
 |ret u=>
  obtain⟨v,σ',H',J,rv,q⟩:=hs
  exact fin J rv q
 |next=>
  obtain⟨σ',H',J,q⟩:=hs
  exact fin (v:=V.non) (u:=Value.none) J rfl q
 |brk=>
  obtain⟨_,_,_,q⟩:=hs
  exact False.elim q
 |cont=>
  obtain⟨_,_,_,q⟩:=hs
  exact False.elim q
section
variable{X:Cx}{x:Str}{p pos:Pos}{e:Expr}{es:List Expr}{t:TA}{id T:String}{r:List V->Hp->VK->Prop}
def fN(r:List V->Hp->VK->Prop)(t:TA):TE:=λσ H Q=>t σ H λvs H1=>r vs H1 Q
theorem HP(hc:kj X (.builtin id) r)(hg:Gl X x)(hm:X.mg x=none)(hv:bootBuiltins x=some (.builtin id))(ha:PA X (e::es) t)(hn:x≠"__name__":=by decide)(hdb:(x==("__debug__":Str))=false:=by decide)
  (he:starEach (e::es) X.env=(false,eval e X.env)::starEach es X.env:=by rfl) (hpl:(backTo pos (starEach es X.env)).any (·.1)=false:=by rfl):PE X (.Call (.Name x p) (e::es) [] pos) (fN r t):=by
 intro pins s σ H Q I h
 refine wpAny_Call_Name_kw (mY I hg hm hv ?_ hn hdb)
 exact PyProof.Rows.callWith_builtin1 (gZ (ha pos pins s σ H _ I h) λus s1 ⟨vs,H1,I1,r1,q1⟩=>hc pins s1 σ H1 vs us Q I1 r1 q1) he hpl
theorem FP(hc:kj X (.type T) r)(hg:Gl X x)(hm:X.mg x=none)(hv:bootBuiltins x=some (.type T))(ha:PA X (e::es) t)(hn:x≠"__name__":=by decide)(hdb:(x==("__debug__":Str))=false:=by decide)
  (he:starEach (e::es) X.env=(false,eval e X.env)::starEach es X.env:=by rfl) (hpl:(backTo pos (starEach es X.env)).any (·.1)=false:=by rfl):PE X (.Call (.Name x p) (e::es) [] pos) (fN r t):=by
 intro pins s σ H Q I h
 refine wpAny_Call_Name_kw (mY I hg hm hv ?_ hn hdb)
 exact dr (gZ (ha pos pins s σ H _ I h) λus s1 ⟨vs,H1,I1,r1,q1⟩=>hc pins s1 σ H1 vs us Q I1 r1 q1) he hpl
end
end L2
namespace HT
open PySem PyProof.Rows
section
open PySem.SeqAt
open PySem.AutoSeq1 (wpAny_loadPart')
open PySem.MeetsSeq PySem.MeetsSeq2 PySem.MeetsSeq3
end
section
variable{prog:Program}{w:World}{A:Around}{E:Value->Shared->Prop}{s:Shared}
theorem cat_tup{t b:Addr}{vs ws:List Value}{Q:Value->Shared->Prop}(ht:IsTup s.heap t vs.toArray)(hb:IsTup s.heap b ws.toArray)(hv:vs≠[])
  (h1:ws=[]->Q (.ref t) s) (h2:ws≠[]->Q (.ref s.heap.objs.size) {s with heap:=s.heap.push {cls:=.type "tuple",data:=.seq (vs++ws).toArray}})
  (hsz:vs.length+ws.length<=sizeLine):wpAny (model prog w) A (binaryOp .Add (.ref t) (.ref b)) Q E s:=by
 obtain⟨⟨cls,dd,data,sl⟩,ho,hc,n,hd⟩:=id ht
 obtain⟨⟨cls2,dd2,data2,sl2⟩,ho2,hc2,n2,hd2⟩:=id hb
 simp only at hc hd hc2 hd2
 subst hc hd hc2 hd2
 have e:vs.toArray++ws.toArray=(vs++ws).toArray:=by simp
 by_cases hw:ws=[]
 ·exact concat_meets ⟨_,ho,rfl⟩ ⟨_,ho2,rfl⟩ noFill_tuple_add seq_tuple_add jA jj (iU _ _)
   (tuple_addW1 t b vs.toArray ws.toArray n n2 dd dd2 sl sl2 (by simpa using hv) (by simp[hw])) ⟨ho,ho2,h1 hw⟩
 ·refine concat_meets ⟨_,ho,rfl⟩ ⟨_,ho2,rfl⟩ noFill_tuple_add seq_tuple_add jA jj (iU _ _)
   (tuple_addW2 t b vs.toArray ws.toArray n n2 dd dd2 sl sl2 (by simpa using hv) (by simpa using hw) (by rw[ax,ax];exact hsz)) ⟨ho,ho2,?_⟩
  rw[e]
  exact h2 hw
def sIx(n d:Nat):Option Int->Nat
 |none=>d
 |some v=>if v<0 then(v+(n:Int)).toNat else min v.toNat n
theorem sIx_none(n d:Nat):sIx n d none=d:=rfl
theorem sIx_nat(n d k:Nat):sIx n d (some (k:Int))=min k n:=by
 show(if(k:Int)<0 then((k:Int)+(n:Int)).toNat else min (k:Int).toNat n)=min k n
 rw[if_neg (by lia),fQ]
theorem NF(n d:Nat)(hd:d<=n)(o:Option Int):sIx n d o<=n:=by
 cases o with
 |none=>exact hd
 |some v=>
  show(if v<0 then(v+(n:Int)).toNat else min v.toNat n)<=n
  by_cases hv:v<0
  ·rw[if_pos hv];lia
  ·rw[if_neg hv];exact Nat.min_le_right _ _
theorem D4(v:Int)(n d:Nat):(if v<0 then max (v+(n:Int)) 0 else min v (n:Int))=((sIx n d (some v):Nat):Int):=by
 show(if v<0 then max (v+(n:Int)) 0 else min v (n:Int))=(((if v<0 then(v+(n:Int)).toNat else min v.toNat n):Nat):Int)
 by_cases hv:v<0
 ·simp only[if_pos hv];lia
 ·simp only[if_neg hv];lia
theorem CB(lo hi:Option Int)(n:Nat):Builtin.Slice.sliceAdjust lo hi 1 (n:Int)=(((sIx n 0 lo:Nat):Int),((sIx n n hi:Nat):Int)):=by
 have h1:¬((1:Int)<0):=by lia
 unfold Builtin.Slice.sliceAdjust
 simp only[h1,if_false]
 refine Prod.ext ?_ ?_
 ·cases lo with
  |none=>rfl
  |some v=>exact D4 v n 0
 ·cases hi with
  |none=>rfl
  |some v=>exact D4 v n n
theorem Do(i j:Nat):Builtin.Slice.slicePlaces (i:Int) (j:Int) 1=j-i:=by
 unfold Builtin.Slice.slicePlaces
 have h1:(1:Int)>0:=by lia
 simp only[h1,if_true,Int.ediv_one]
 split<;>lia
theorem wR{v:Value}{o:Option Int}{Q:Option Int->Shared->Prop}(p:IsPart v o)(h:Q o s):wpAny (model prog w) A (Builtin.Slice.slicePartIndex v) Q E s:=by
 cases p with
 |none=>exact slicePart_none h
 |int i t=>exact slicePart_int h
theorem nI{sl:Addr}{vl vu:Value}{lo hi:Option Int}{n:Nat}{Q:Int×Int×Nat->Shared->Prop}(hs:s.heap.IsSliceOf sl vl vu .none)(pl:IsPart vl lo)(pu:IsPart vu hi)
  (h:Q (((sIx n 0 lo:Nat):Int),1,sIx n n hi-sIx n 0 lo) s):wpAny (model prog w) A (Builtin.Slice.sliceApplied (.ref sl) (pure (n:Int))) Q E s:=by
 obtain⟨os,hos,hcs,hds⟩:=id hs
 unfold Builtin.Slice.sliceApplied Builtin.Slice.sliceFields
 refine wpAny_bind (wpAny_bind (wpAny_field hos hds (x:=vl) rfl (wpAny_bind (wpAny_field hos hds (x:=vu) rfl (wpAny_bind (wpAny_field hos hds (x:=.none) rfl (wpAny_pure ?_)))))))
 refine wpAny_bind (slicePart_none ?_)
 show wpAny _ _ (if((1:Int)==0)=true then _ else _) _ _ s
 rw[if_neg (by decide)]
 refine wpAny_bind (wR pl (wpAny_bind (wR pu (wpAny_bind (wpAny_pure ?_)))))
 show wpAny _ _ (match Builtin.Slice.sliceAdjust lo hi 1 (n:Int) with|(lo,hi)=>pure (lo,(1:Int),Builtin.Slice.slicePlaces lo hi 1)) _ _ s
 rw[CB lo hi n]
 show wpAny _ _ (pure (((sIx n 0 lo:Nat):Int),(1:Int),Builtin.Slice.slicePlaces ((sIx n 0 lo:Nat):Int) ((sIx n n hi:Nat):Int) 1)) _ _ s
 rw[Do]
 exact wpAny_pure h
theorem HX(xs:Array Value)(i k:Nat):((cw k).filterMap λ(m:Nat)=>xs[((i:Int)+(m:Int)*1).toNat]?).toArray=((xs.toList.drop i).take k).toArray:=by
 have e:(λ(m:Nat)=>xs[((i:Int)+(m:Int)*1).toNat]?)=λm=>xs[i+m]?:=by
  funext m
  have:((i:Int)+(m:Int)*1).toNat=i+m:=by lia
  rw[this]
 rw[e]
 have:=pick_run xs i k
 rw[List.filterMap_map] at this
 have e2:((λx=>xs[x]?) ∘ λx=>i+x)=λm=>xs[i+m]?:=rfl
 rw[e2] at this
 rw[this]
theorem getItem_tuple_cut{t sl:Addr}{items:Array Value}{vl vu:Value}{lo hi:Option Int}{Q:Value->Shared->Prop}(ht:IsTup s.heap t items)(hs:s.heap.IsSliceOf sl vl vu .none)(pl:IsPart vl lo)(pu:IsPart vu hi)
  (hw:¬(sIx items.size 0 lo=0/\sIx items.size items.size hi=items.size))
  (h:Q (.ref s.heap.objs.size) {s with heap:=s.heap.push {cls:=.type "tuple",data:=.seq ((items.toList.drop (sIx items.size 0 lo)).take (sIx items.size items.size hi-sIx items.size 0 lo)).toArray}})
  (hsz:items.size<=sizeLine):wpAny (model prog w) A (getItem (.ref t) (.ref sl)) Q E s:=by
 have htake:sizeOk (.seq ((items.toList.drop (sIx items.size 0 lo)).take (sIx items.size items.size hi-sIx items.size 0 lo)).toArray):=by
  show((items.toList.drop (sIx items.size 0 lo)).take (sIx items.size items.size hi-sIx items.size 0 lo)).toArray.size<=sizeLine
  rw[ax,aY,dU,cc]
  lia
 have hj:sIx items.size items.size hi<=items.size:=NF _ _ (aD _) hi
 obtain⟨os,hos,hcs,hds⟩:=id hs
 have hTs:s.TypeIs (.ref sl) "slice":=⟨os,hos,hcs⟩
 unfold getItem
 try with_reducible refine wpAny_holding ?_
 first|refine wpAny_bind (wpAny_pure ?_)|skip
 refine wpAny_bind (wpAny_sequenceKey ht.typeIs (by decide) ?_)
 refine wpAny_bind (wpAny_callSpecial?_slot (name:=Str.ofString "__getitem__") ht.typeIs d9
  (wpAny_call_entry d9 ht.typeIs entry_tuple_getitem ?_ (args_tuple_getitem _ _)))
 show wpAny _ _ (Builtin.Tuple.tupleItemsOf (.ref t) >>= _) _ _ s
 refine wpAny_bind (tupleItemsOf_ ht ?_)
 refine wpAny_bind (wpAny_typeOf hTs ?_)
 rw[if_pos (by decide)]
 refine wpAny_bind (nI hs pl pu ?_)
 have hno:¬((((sIx items.size 0 lo:Nat):Int)==0&&(1:Int)==1&&(sIx items.size items.size hi-sIx items.size 0 lo)==items.size)=true):=by
  intro q
  rw[Bool.and_eq_true,Bool.and_eq_true] at q
  have q1:((sIx items.size 0 lo:Nat):Int)=0:=eq_of_beq q.1.1
  have q2:sIx items.size items.size hi-sIx items.size 0 lo=items.size:=eq_of_beq q.2
  exact hw ⟨by lia,by lia⟩
 show wpAny _ _ (if(((sIx items.size 0 lo:Nat):Int)==0&&(1:Int)==1&&(sIx items.size items.size hi-sIx items.size 0 lo)==items.size)=true then _ else _) _ _ s
 rw[if_neg hno,HX]
 first
  |exact wpAny_bind (m:=Builtin.Tuple.tupleExact _) (wpAny_newObj_type (wpAny_pure ⟨_,rfl,wpAny_pure h⟩) htake)
  |exact wpAny_bind (m:=Builtin.Tuple.tupleExact _) (wpAny_newObj_type (wpAny_bind (wpAny_pure (wpAny_pure ⟨_,rfl,wpAny_pure h⟩))) htake)
  |exact wpAny_bind (wpAny_bind (m:=Builtin.Tuple.tupleExact _) (wpAny_newObj_type (wpAny_pure (wpAny_pure ⟨_,rfl,wpAny_pure h⟩)) htake))
  |exact wpAny_bind (wpAny_bind (m:=Builtin.Tuple.tupleExact _) (wpAny_newObj_type (wpAny_pure ⟨_,rfl,wpAny_pure h⟩) htake))
end
end HT
namespace L2
open PySem PySem.Spec PyProof.Rows
abbrev TO:=St->Hp->(Option Int->Hp->Prop)->Prop
def PO(X:Cx)(e:Option Expr)(t:TO):Prop:=
 ∀(pins:List (Addr×Obj)) (s:Shared) (σ:St) (H:Hp) (Q:Option Int->Hp->Prop),bW X pins σ H s->t σ H Q->
  wpAny (model X.prog X.w) X.A (evalPart e X.env) (λu s'=>∃o H',bW X pins σ H' s'/\IsPart u o/\Q o H') X.xe s
def gC:TO:=λ_ H Q=>Q none H
def kP(t:TE):TO:=λσ H Q=>t σ H λx H1=>∃i,x=.int i/\Q (some i) H1
section
variable{X:Cx}{e:Expr}{te:TE}{lo hi:Option Expr}{tl th:TO}{pos p2:Pos}
theorem KI:PO X none gC:=by
 intro pins s σ H Q I h
 rw[evalPart_none]
 exact wpAny_pure ⟨none,H,I,.none,h⟩
theorem KL(h:PE X e te):PO X (some e) (kP te):=by
 intro pins s σ H Q I hw
 rw[evalPart_some]
 refine gZ (h pins s σ H _ I hw) λu s1 ⟨x,H1,I1,r1,q1⟩=>?_
 obtain⟨i,rfl,q⟩:=q1
 obtain⟨t,rfl⟩:=r1
 exact⟨some i,H1,I1,.int i t,q⟩
def GL(X:Cx)(r:V->Option Int->Option Int->Hp->VK->Prop):Prop:=
 ∀(pins:List (Addr×Obj)) (s:Shared) (σ:St) (H:Hp) (x:V) (v vl vu:Value) (lo hi:Option Int) (sl:Addr) (Q:VK),bW X pins σ H s->dy x v->s.heap.IsSliceOf sl vl vu .none->IsPart vl lo->IsPart vu hi->r x lo hi H Q->
  ∃T id,typeLookup (.type T) "__getitem__"=pure (some (.builtin id))/\s.TypeIs v T/\wpAny (model X.prog X.w) X.A (getItem v (.ref sl)) (EP X pins σ Q) X.xe s
theorem GL.or{r r':V->Option Int->Option Int->Hp->VK->Prop}(h:GL X r)(h':GL X r'):GL X (λx lo hi H Q=>r x lo hi H Q\/r' x lo hi H Q):=by
 intro pins s σ H x v vl vu lo hi sl Q I rx hs pl pu q
 rcases q with q|q
 ·exact h pins s σ H x v vl vu lo hi sl Q I rx hs pl pu q
 ·exact h' pins s σ H x v vl vu lo hi sl Q I rx hs pl pu q
def Co(r:V->Option Int->Option Int->Hp->VK->Prop)(te:TE)(tl th:TO):TE:=λσ H Q=>te σ H λx H1=>tl σ H1 λl H2=>th σ H2 λu H3=>r x l u H3 Q
theorem HU{r:V->Option Int->Option Int->Hp->VK->Prop}(hr:GL X r)(he:PE X e te)(hl:PO X lo tl)(hu:PO X hi th):PE X (.Subscript e (.Slice lo hi none p2) pos) (Co r te tl th):=by
 intro pins s σ H Q I h
 refine Subscript_ (gZ (he pins s σ H _ I h) λv s1 ⟨x,H1,I1,r1,q1⟩=>?_)
 refine wpAny_Slice (gZ (hl pins s1 σ H1 _ I1 q1) λvl s2 ⟨l,H2,I2,pl,q2⟩=>gZ (hu pins s2 σ H2 _ I2 q2) λvu s3 ⟨u,H3,I3,pu,q3⟩=>?_)
 rw[evalPart_none]
 refine wpAny_pure ?_
 have I4:bW X pins σ H3 {s3 with heap:=s3.heap.push {cls:=.type "slice",data:=.fields #[vl,vu,.none]}}:=I3.kept (t':=s3.toks) λb ob q=>az _ q
 obtain⟨T,id,hT,ht,hg⟩:=hr pins {s3 with heap:=s3.heap.push {cls:=.type "slice",data:=.fields #[vl,vu,.none]}} σ H3 x v vl vu l u s3.heap.objs.size Q I4 r1 (Heap.IsSliceOf.new ..) pl pu q3
 show wpAny (model X.prog X.w) X.A (subscriptTail e (.Slice lo hi none p2) v (.ref s3.heap.objs.size)) (EP X pins σ Q) X.xe {s3 with heap:=s3.heap.push {cls:=.type "slice",data:=.fields #[vl,vu,.none]}}
 exact tail_any (ops:=[.ref s3.heap.objs.size,v]) ht hT hg (by with_unfolding_all rfl)
def qF(xs:List V)(lo hi:Option Int):List V:=(xs.drop (HT.sIx xs.length 0 lo)).take (HT.sIx xs.length xs.length hi-HT.sIx xs.length 0 lo)
theorem ur(xs:List V)(lo hi:Option Int):(qF xs lo hi).length<=xs.length:=by
 unfold qF
 rw[aY,dU]
 lia
def OB(K:Fg):V->Option Int->Option Int->Hp->VK->Prop:=λx lo hi H Q=>∃a xs,x=.ref a/\cY K H a xs/\
 ¬(HT.sIx xs.length 0 lo=0/\HT.sIx xs.length xs.length hi=xs.length)/\∀p,H p=none->Q (.ref p) (upd H p (.tup (qF xs lo hi)))
theorem NH:GL X (OB X.K):=by
 intro pins s σ H x v vl vu lo hi sl Q I rx hs pl pu h
 obtain⟨a,xs,rfl,hx,hw,q⟩:=h
 cases rx
 obtain⟨its,r,ht,hz⟩:=I.tuple hx
 have hlen:its.toArray.size=xs.length:=by rw[ax];exact r.length.symm
 refine⟨"tuple",_,d9.lookup,ht.typeIs,?_⟩
 refine HT.getItem_tuple_cut ht hs pl pu (by rw[hlen];exact hw) ?_ (by rw[hlen];exact hz)
 rw[hlen]
 refine⟨.ref s.heap.objs.size,_,I.laid (t':=s.toks) (o:=.tup (qF xs lo hi)) (λb ob q=>az _ q) (aD _) ?_,rfl,q _ (I.hok.fresh (aD _))⟩
 exact⟨cq (ur xs lo hi) hz,_,(r.drop (HT.sIx xs.length 0 lo)).take (HT.sIx xs.length xs.length hi-HT.sIx xs.length 0 lo),mV.new _ _⟩
def LS(K:Fg):R2:=λx y H Q=>∃a b xs ys,x=.ref a/\y=.ref b/\cY K H a xs/\cY K H b ys/\xs≠[]/\xs.length+ys.length<=sizeLine/\
 (ys=[]->Q (.ref a) H)/\(ys≠[]->∀p,H p=none->Q (.ref p) (upd H p (.tup (xs++ys))))
theorem cT.nil_iff{xs:List V}{us:List Value}(r:cT xs us):us=[]↔xs=[]:=by
 cases r with
 |nil=>simp
 |cons _ _=>simp
theorem Km:kq X (binaryOp .Add) (LS X.K):=by
 intro pins s σ H x y v u Q I rx ry h
 obtain⟨a,b,xs,ys,rfl,rfl,ha,hb,hx,hz,q1,q2⟩:=h
 cases rx
 cases ry
 obtain⟨its,r1,p1,_⟩:=I.tuple ha
 obtain⟨its2,r2,p2,_⟩:=I.tuple hb
 refine HT.cat_tup p1 p2 (λz=>hx (r1.nil_iff.mp z)) (λz=>⟨.ref a,H,I,rfl,q1 (r2.nil_iff.mp z)⟩) (λz=>?_) (by rw[<-r1.length,<-r2.length];exact hz)
 refine⟨.ref s.heap.objs.size,_,I.laid (t':=s.toks) (o:=.tup (xs++ys)) (λb ob q=>az _ q) (aD _) ?_,rfl,q2 (λw=>z (r2.nil_iff.mpr w)) _ (I.hok.fresh (aD _))⟩
 exact⟨by rw[aN];exact hz,_,r1.append r2,mV.new _ _⟩
end
def LP(n:Nat)(i:Int):Option Nat:=if 0<=i then(if i<n then some i.toNat else none) else if -(n:Int)<=i then some (i+n).toNat else none
def JG{α:Type}(xs:List α)(i:Int):Option α:=(LP xs.length i).bind λj=>xs[j]?
theorem Ef{n:Nat}{i:Int}{j:Nat}(h:LP n i=some j):seqIndex? i n=some j/\j<n/\-(n:Int)<=i/\i<n:=by
 unfold LP at h
 by_cases h0:0<=i
 ·rw[if_pos h0] at h
  by_cases h1:i<n
  ·rw[if_pos h1] at h
   have e:i.toNat=j:=Option.some.inj h
   exact⟨by rw[seqIndex_of h0 h1,e],by lia,by lia,h1⟩
  ·rw[if_neg h1] at h;cases h
 ·rw[if_neg h0] at h
  by_cases h1:-(n:Int)<=i
  ·rw[if_pos h1] at h
   have e:(i+n).toNat=j:=Option.some.inj h
   exact⟨by rw[seqIndex_neg (by lia) h1,e],by lia,h1,by lia⟩
  ·rw[if_neg h1] at h;cases h
theorem zv{α:Type}{xs:List α}{i:Int}{v:α}(h:JG xs i=some v):∃j,seqIndex? i xs.length=some j/\xs[j]?=some v/\j<xs.length/\-(xs.length:Int)<=i/\i<xs.length:=by
 unfold JG at h
 cases e:LP xs.length i with
 |none=>rw[e] at h;cases h
 |some j=>
  rw[e] at h
  obtain⟨h1,h2,h3,h4⟩:=Ef e
  exact⟨j,h1,h,h2,h3,h4⟩
def DX(b:Expr):Prop:=∀o i,subscripted b false o i=operate [o,i] (getItem o i)
def Ju(X:Cx)(r:R2):Prop:=
 ∀(value slice:Expr) (pins:List (Addr×Obj)) (s:Shared) (σ:St) (H:Hp) (x y:V) (v u:Value) (Q:VK),bW X pins σ H s->dy x v->dy y u->r x y H Q->
  subscripted slice false v u=operate [v,u] (getItem v u)->wpAny (model X.prog X.w) X.A (subscriptTail value slice v u) (EP X pins σ Q) X.xe s
def NM(X:Cx)(id:String)(r:V->List V->Hp->VK->Prop):Prop:=
 ∀(pins:List (Addr×Obj)) (s:Shared) (σ:St) (H:Hp) (x:V) (xs:List V) (v:Value) (us:List Value) (Q:VK),bW X pins σ H s->dy x v->cT xs us->r x xs H Q->
  wpAny (model X.prog X.w) X.A (call (.builtin id) (v::us)) (EP X pins σ Q) X.xe s
section
variable{X:Cx}{a b:Expr}{ta tb:TE}{pos:Pos}
theorem Ju.or{r r':R2}(h:Ju X r)(h':Ju X r'):Ju X (λx y H Q=>r x y H Q\/r' x y H Q):=by
 intro value slice pins s σ H x y v u Q I rx ry q hs
 rcases q with q|q
 ·exact h value slice pins s σ H x y v u Q I rx ry q hs
 ·exact h' value slice pins s σ H x y v u Q I rx ry q hs
theorem Ol{r:R2}(hr:Ju X r)(ha:PE X a ta)(hb:PE X b tb)(hs:DX b):PE X (.Subscript a b pos) (bb r ta tb):=by
 intro pins s σ H Q I h
 exact Subscript_ (Md ha hb I h λv u s2 x y H2 I2 rx ry q=>hr a b pins s2 σ H2 x y v u Q I2 rx ry q (hs _ _))
def Ov(K:Fg):R2:=λx y H Q=>∃p xs i v,x=.ref p/\y=.int i/\cA K H p xs/\JG xs i=some v/\Q v H
def Ox(K:Fg):R2:=λx y H Q=>∃p xs i v,x=.ref p/\y=.int i/\cY K H p xs/\JG xs i=some v/\Q v H
def Ow:R2:=λx y H Q=>∃z i c,x=.str z/\y=.int i/\z.length<=sizeLine/\JG z.cps.toList i=some c/\Q (.str ⟨#[c]⟩) H
theorem JZ:Ju X (Ov X.K):=by
 intro value slice pins s σ H x y v u Q I rx ry h hs
 obtain⟨p,xs,i,z,rfl,rfl,hq,he,q⟩:=h
 cases rx
 obtain⟨t,rfl⟩:=ry
 obtain⟨its,r,pl,hz⟩:=I.list hq
 obtain⟨j,h1,h2,h3,h4,h5⟩:=zv he
 obtain⟨w,ew,rw'⟩:=r.get h2
 have hl:=r.length
 have hn:=tX
 have fin:EP X pins σ Q w s:=⟨z,H,I,rw',q⟩
 by_cases h0:0<=i
 ·have hj:i.toNat=j:=by
   rw[seqIndex_of h0 h5] at h1
   exact Option.some.inj h1
  exact item_listR pl.isList h0 (by lia) (by rw[hj];simpa using ew) fin hs
 ·have hj:(i+(its.toArray.size:Int)).toNat=j:=by
   rw[seqIndex_neg (by lia) h4] at h1
   rw[ax,<-hl]
   exact Option.some.inj h1
  exact subscriptTail_builtinR (x:=w) pl.isList.typeIs slot_list_getitem.lookup
   (wpAny_getItem_list_neg (Q:=λr s'=>r=w/\EP X pins σ Q r s') pl.isList (by lia) (by rw[ax]<;>lia) (by lia) (by rw[hj];simpa using ew) ⟨rfl,fin⟩) hs
theorem Ms:Ju X (Ox X.K):=by
 intro value slice pins s σ H x y v u Q I rx ry h hs
 obtain⟨p,xs,i,z,rfl,rfl,hq,he,q⟩:=h
 cases rx
 obtain⟨t,rfl⟩:=ry
 obtain⟨its,r,pl,hz⟩:=I.tuple hq
 obtain⟨j,h1,h2,h3,h4,h5⟩:=zv he
 obtain⟨w,ew,rw'⟩:=r.get h2
 have hl:=r.length
 have hn:=tX
 have fin:EP X pins σ Q w s:=⟨z,H,I,rw',q⟩
 exact subscriptTail_builtinR (x:=w) pl.typeIs slot_tuple_getitem.lookup
  (getItem_tuple (j:=j) (Q:=λr s'=>r=w/\EP X pins σ Q r s') pl (by lia) (by lia) (by rw[ax,<-hl];exact h1) (by simpa using ew) ⟨rfl,fin⟩) hs
theorem Mr:Ju X Ow:=by
 intro value slice pins s σ H x y v u Q I rx ry h hs
 obtain⟨z,i,c,rfl,rfl,hz,he,q⟩:=h
 obtain⟨t,rfl⟩:=rx
 obtain⟨t',rfl⟩:=ry
 obtain⟨j,h1,h2,h3,h4,h5⟩:=zv he
 have hl:z.cps.toList.length=z.length:=by simp[Str.length]
 rw[hl] at h1 h4 h5
 have hn:=tX
 exact tail_any (typeIs_str s z t) slot_str_getitem.lookup (getItem_str (c:=c) (by
  have e1:decide (i < -(2 ^ 63:Int))=false:=decide_eq_false (by lia)
  have e2:decide (i >= 2 ^ 63)=false:=decide_eq_false (by lia)
  rw[e1,e2,Bool.or_false]) (by rw[h1];simpa using h2) ⟨.str ⟨#[c]⟩,H,I.tok _,⟨_,rfl⟩,q⟩) hs
def cS(K:Fg):R2:=λx y H Q=>Ov K x y H Q\/Ox K x y H Q\/Ow x y H Q
theorem aG:Ju X (cS X.K):=JZ.or (Ms.or Mr)
theorem C8(its:List Value)(n j:Nat)(u:Value):Obj.mapSeq (·.setIfInBounds j u) {cls:=.type "list",data:=.seq its.toArray n}={cls:=.type "list",data:=.seq (its.set j u).toArray n}:=by
 simp[Obj.mapSeq]
theorem bW.lst{pins:List (Addr×Obj)}{σ:St}{H:Hp}{s:Shared}{p:Addr}{xs:List V}(I:bW X pins σ H s)(h:H p=some (.lst xs)) :
  ∃(its:List Value) (n:Nat),cT xs its/\s.heap.get? p=some {cls:=.type "list",data:=.seq its.toArray n}/\xs.length<=sizeLine:=by
 obtain⟨z,its,n,r,e⟩:=I.hok p _ h
 exact⟨its,n,r,e,z⟩
theorem bW.lstUpd{pins:List (Addr×Obj)}{σ:St}{H:Hp}{s:Shared}{p:Addr}{xs ys:List V}{its its':List Value}{n n':Nat}{f:Obj->Obj}(I:bW X pins σ H s)(h:H p=some (.lst xs))
  (ho:s.heap.get? p=some {cls:=.type "list",data:=.seq its.toArray n}) (hf:f {cls:=.type "list",data:=.seq its.toArray n}={cls:=.type "list",data:=.seq its'.toArray n'}) (r:cT ys its') (hz:ys.length<=sizeLine) (t:Nat) :
  bW X pins σ (upd H p (.lst ys)) {s with heap:=s.heap.update p f,toks:=t}:=by
 have e:(s.heap.update p f).get? p=some {cls:=.type "list",data:=.seq its'.toArray n'}:=by
  rw[dk f ho (by rw[hf]<;>rfl),hf]
 refine I.write (x:=p) (e:=p) (by rw[h];trivial) (.inl rfl) (λb u hb q=>(cf _ _ (Ne.symm hb)).trans q) ⟨_,e⟩ ?_
 exact⟨hz,its',n',r,e⟩
def jt:V->V->V->Hp->(Hp->Prop)->Prop:=λo i v H Q=>∃p xs k j,o=.ref p/\i=.int k/\H p=some (.lst xs)/\LP xs.length k=some j/\Q (upd H p (.lst (xs.set j v)))
theorem eU:JB X jt:=by
 intro pins s σ H o i v ov iv u Q I ro ri rv h
 obtain⟨p,xs,k,j,rfl,rfl,hp,hj,q⟩:=h
 cases ro
 obtain⟨t,rfl⟩:=ri
 obtain⟨its,n,r,ho,hz⟩:=I.lst hp
 obtain⟨h1,h2,h3,h4⟩:=Ef hj
 have hl:=r.length
 have hn:=tX
 have I':bW X pins σ (upd H p (.lst (xs.set j v))) {s with heap:=s.heap.update p (Obj.mapSeq (·.setIfInBounds j u))}:=
  I.lstUpd hp ho (C8 its n j u) (r.set rv j) (by rw[dC];exact hz) s.toks
 by_cases h0:0<=k
 ·have hk:k.toNat=j:=by
   rw[seqIndex_of h0 h4] at h1
   exact Option.some.inj h1
  exact PySem.W.ki_setAt ho h0 (by lia) (by rw[ax,<-hl];exact h4) (by rw[hk];exact⟨_,I',q⟩)
 ·have hk:(k+(its.toArray.size:Int)).toNat=j:=by
   rw[seqIndex_neg (by lia) h3] at h1
   rw[ax,<-hl]
   exact Option.some.inj h1
  exact PySem.W.ki_setBack ho (by lia) (by rw[ax,<-hl];exact h3) (by lia) (by rw[hk];exact⟨_,I',q⟩)
theorem As(lo hi:Option Int)(n:Nat):(sliceBounds lo hi none n).1=((HT.sIx n 0 lo:Nat):Int)/\(sliceBounds lo hi none n).2.1=((HT.sIx n n hi:Nat):Int)/\(sliceBounds lo hi none n).2.2=1:=by
 refine⟨?_,?_,rfl⟩
 ·cases lo with
  |none=>simp[sliceBounds,HT.sIx]
  |some i=>
   simp only[sliceBounds,HT.sIx,ni,show(1:Int)>0 by decide,if_true]
   by_cases h:i<0
   ·simp only[h,if_true]<;>lia
   ·simp only[h,if_false]<;>lia
 ·cases hi with
  |none=>simp[sliceBounds,HT.sIx]
  |some i=>
   simp only[sliceBounds,HT.sIx,ni,show(1:Int)>0 by decide,if_true]
   by_cases h:i<0
   ·simp only[h,if_true]<;>lia
   ·simp only[h,if_false]<;>lia
theorem x6(its:List Value)(lo hi:Option Int):slicePick its.toArray lo hi none=((its.drop (HT.sIx its.length 0 lo)).take (HT.sIx its.length its.length hi-HT.sIx its.length 0 lo)).toArray:=by
 obtain⟨h1,h2,h3⟩:=As lo hi its.toArray.size
 unfold slicePick
 rw[h1,h2,h3]
 simp only[sliceRange_one,pick_run,ax]<;>rfl
def OA(K:Fg):V->Option Int->Option Int->Hp->VK->Prop:=λx lo hi H Q=>∃a xs,x=.ref a/\cA K H a xs/\∀p,H p=none->Q (.ref p) (upd H p (.lst (qF xs lo hi)))
theorem Lp:GL X (OA X.K):=by
 intro pins s σ H x v vl vu lo hi sl Q I rx hs pl pu h
 obtain⟨a,xs,rfl,hx,q⟩:=h
 cases rx
 obtain⟨its,r,ht,hz⟩:=I.list hx
 have hlen:=r.length
 refine⟨"list",_,slot_list_getitem.lookup,ht.isList.typeIs,?_⟩
 refine wpAny_getItem_list_slice ht.isList hs pl pu .none (by simp) ?_ (by rw[ax]<;>lia)
 rw[x6,<-hlen]
 refine⟨.ref s.heap.objs.size,_,I.laid (t':=s.toks) (o:=.lst (qF xs lo hi)) (λb ob q=>az _ q) (aD _) ?_,rfl,q _ (I.hok.fresh (aD _))⟩
 exact⟨cq (ur xs lo hi) hz,_,0,(r.drop (HT.sIx xs.length 0 lo)).take (HT.sIx xs.length xs.length hi-HT.sIx xs.length 0 lo),aZ _ rfl⟩
def jO:V->Bool
 |.non=>true
 |.bl _=>true
 |.int _=>true
 |.str _=>true
 |_=>false
def AB:V->V->Bool
 |.non,.non=>true
 |.bl a,.bl b=>a==b
 |.bl a,.int b=>(if a then 1 else 0)==b
 |.int a,.bl b=>a==(if b then 1 else 0)
 |.int a,.int b=>a==b
 |.str a,.str b=>a==b
 |_,_=>false
theorem CK{A:Around}{s:Shared}{y x:V}{u v:Value}(ry:dy y u)(rx:dy x v)(fy:jO y=true)(fx:jO x=true):SeqAt.EqAt A s u v (AB y x):=by
 cases y with
 |non=>
  cases ry
  cases x with
  |non=>cases rx;exact SeqAt.EqAt.same _
  |bl b=>cases rx;exact SeqAt.EqAt.none_bool b
  |int b=>obtain⟨t,rfl⟩:=rx;exact SeqAt.EqAt.none_int b t
  |str b=>obtain⟨t,rfl⟩:=rx;exact SeqAt.EqAt.none_str b t
  |_=>exact absurd (show false=true from fx) Bool.false_ne_true
 |bl a=>
  cases ry
  cases x with
  |non=>cases rx;exact SeqAt.EqAt.bool_none a
  |bl b=>cases rx;exact SeqAt.EqAt.bool_bool a b
  |int b=>obtain⟨t,rfl⟩:=rx;exact SeqAt.EqAt.bool_int a b t
  |str b=>obtain⟨t,rfl⟩:=rx;exact SeqAt.EqAt.bool_str a b t
  |_=>exact absurd (show false=true from fx) Bool.false_ne_true
 |int a=>
  obtain⟨t',rfl⟩:=ry
  cases x with
  |non=>cases rx;exact SeqAt.EqAt.int_none a t'
  |bl b=>cases rx;exact SeqAt.EqAt.int_bool a t' b
  |int b=>obtain⟨t,rfl⟩:=rx;exact SeqAt.EqAt.int_int a t' b t
  |str b=>obtain⟨t,rfl⟩:=rx;exact SeqAt.EqAt.int_str a t' b t
  |_=>exact absurd (show false=true from fx) Bool.false_ne_true
 |str a=>
  obtain⟨t',rfl⟩:=ry
  cases x with
  |non=>cases rx;exact SeqAt.EqAt.str_none a t'
  |bl b=>cases rx;exact SeqAt.EqAt.str_bool a t' b
  |int b=>obtain⟨t,rfl⟩:=rx;exact SeqAt.EqAt.str_int a t' b t
  |str b=>obtain⟨t,rfl⟩:=rx;exact SeqAt.EqAt.str_str a t' b t
  |_=>exact absurd (show false=true from fx) Bool.false_ne_true
 |_=>exact absurd (show false=true from fy) Bool.false_ne_true
def CL(x:V)(u:Value):Bool:=match u with
 |.none=>AB .non x
 |.bool b=>AB (.bl b) x
 |.int i _=>AB (.int i) x
 |.str z _=>AB (.str z) x
 |_=>false
theorem G0{x y:V}{u:Value}(r:dy y u)(f:jO y=true):CL x u=AB y x:=by
 cases y with
 |non=>cases r;rfl
 |bl b=>cases r;rfl
 |int i=>obtain⟨t,rfl⟩:=r;rfl
 |str z=>obtain⟨t,rfl⟩:=r;rfl
 |_=>exact absurd (show false=true from f) Bool.false_ne_true
theorem sd{x:V}:∀{xs:List V} {us:List Value},cT xs us->xs.all jO=true->us.any (CL x)=xs.any λy=>AB y x
 |_,_,.nil,_=>rfl
 |y::xs,u::us,.cons r t,f=>by
  rw[List.all_cons,Bool.and_eq_true] at f
  rw[j6,j6,G0 r f.1,sd t f.2]
theorem pH{A:Around}{s:Shared}{x:V}{v:Value}(rx:dy x v)(fx:jO x=true):∀{xs:List V} {us:List Value},cT xs us->xs.all jO=true->∀u∈us,SeqAt.EqAt A s u v (CL x u)
 |_,_,.nil,_=>λu hu=>by cases hu
 |y::xs,u::us,.cons r t,f=>λu' hu=>by
  rw[List.all_cons,Bool.and_eq_true] at f
  rcases aV.mp hu with rfl|hu
  ·rw[G0 r f.1];exact CK r rx f.1 fx
  ·exact pH rx fx t f.2 u' hu
def kD(x:V)(xs:List V):Bool:=xs.any λy=>AB y x
def Ah(K:Fg)(neg:Bool):R2:=λx y H Q=>∃p xs,y=.ref p/\(cA K H p xs\/cY K H p xs)/\jO x=true/\xs.all jO=true/\Q (.bl (if neg then !kD x xs else kD x xs)) H
theorem hW:kq X (compareOp .In) (Ah X.K false):=by
 intro pins s σ H x y v u Q I rx ry h
 obtain⟨p,xs,rfl,hq,fx,fs,q⟩:=h
 cases ry
 rcases hq with hq|hq
 ·obtain⟨its,r,pl,hz⟩:=I.list hq
  refine SeqAt.in_listAt (CL x) pl.isList (λw hw=>pH rx fx r fs w (by simpa using hw)) ⟨.bl _,H,I,rfl,?_⟩
  rw[show its.toArray.any (CL x)=its.any (CL x) by simp,sd r fs]
  exact q
 ·obtain⟨its,r,pl,hz⟩:=I.tuple hq
  refine SeqAt.in_tupleAt (CL x) pl (λw hw=>pH rx fx r fs w (by simpa using hw)) ⟨.bl _,H,I,rfl,?_⟩
  rw[show its.toArray.any (CL x)=its.any (CL x) by simp,sd r fs]
  exact q
theorem gR:kq X (compareOp .NotIn) (Ah X.K true):=by
 intro pins s σ H x y v u Q I rx ry h
 obtain⟨p,xs,rfl,hq,fx,fs,q⟩:=h
 cases ry
 rcases hq with hq|hq
 ·obtain⟨its,r,pl,hz⟩:=I.list hq
  refine SeqAt.notIn_listAt (CL x) pl.isList (λw hw=>pH rx fx r fs w (by simpa using hw)) ⟨.bl _,H,I,rfl,?_⟩
  rw[show its.toArray.any (CL x)=its.any (CL x) by simp,sd r fs]
  exact q
 ·obtain⟨its,r,pl,hz⟩:=I.tuple hq
  refine SeqAt.notIn_tupleAt (CL x) pl (λw hw=>pH rx fx r fs w (by simpa using hw)) ⟨.bl _,H,I,rfl,?_⟩
  rw[show its.toArray.any (CL x)=its.any (CL x) by simp,sd r fs]
  exact q
theorem lp:kj X (.type "list") (λxs H Q=>∃p ys,xs=[.ref p]/\(cA X.K H p ys\/cY X.K H p ys)/\∀l,H l=none->Q (.ref l) (upd H l (.lst ys))):=by
 intro pins s σ H xs us Q I r h
 obtain⟨p,ys,rfl,hq,q⟩:=h
 obtain⟨u,rfl,rx⟩:=qo r
 cases rx
 have fin:∀(its:List Value),cT ys its->ys.length<=sizeLine->∀(h':Heap) (c':Nat),(∀b o',s.heap.get? b=some o'->h'.get? b=some o')->
   h'.get? s.heap.objs.size=some {cls:=.type "list",dict:=none,data:=.seq its.toArray c',slots:=#[]}->EP X pins σ Q (.ref s.heap.objs.size) {s with heap:=h'}:=λits r' hz h' c' kp e=>
  ⟨.ref s.heap.objs.size,_,I.laid (t':=s.toks) kp (aD _) (show eR X.prog X.w _ h' _ (.lst ys) from⟨hz,its,c',r',e⟩),rfl,q _ (I.hok.fresh (aD _))⟩
 rcases hq with hq|hq
 ·obtain⟨its,r',pl,hz⟩:=I.list hq
  have hlen:=r'.length
  obtain⟨o,ho,hc,n,hd⟩:=pl.isList
  exact call_list_seq p (.inl rfl) ho hc hd (λh' c' kp e=>fin its r' hz h' c' kp e) (by simp only[ax]<;>lia)
 ·obtain⟨its,r',pl,hz⟩:=I.tuple hq
  have hlen:=r'.length
  obtain⟨o,ho,hc,n,hd⟩:=pl
  exact call_list_seq p (.inr rfl) ho hc hd (λh' c' kp e=>fin its r' hz h' c' kp e) (by simp only[ax]<;>lia)
theorem gq:kj X (.type "tuple") (λxs H Q=>∃p ys,xs=[.ref p]/\((cA X.K H p ys/\∀l,H l=none->Q (.ref l) (upd H l (.tup ys)))\/(cY X.K H p ys/\Q (.ref p) H))):=by
 intro pins s σ H xs us Q I r h
 obtain⟨p,ys,rfl,h⟩:=h
 obtain⟨u,rfl,rx⟩:=qo r
 cases rx
 rcases h with⟨hq,q⟩|⟨hq,q⟩
 ·obtain⟨its,r',pl,hz⟩:=I.list hq
  have hlen:=r'.length
  refine call_tuple_list pl.isList (λh' kp=>?_) (by simp only[ax]<;>lia)
  have I1:bW X pins σ H {s with heap:=h'}:=I.kept (t':=s.toks) kp
  have I2:bW X pins σ (upd H h'.objs.size (.tup ys)) {s with heap:=h'.push {cls:=.type "tuple",data:=.seq its.toArray}}:=
   I1.laid (t':=s.toks) (λb o e=>az _ e) (aD _) (show eR X.prog X.w _ _ _ (.tup ys) from⟨hz,its,r',mV.new _ _⟩)
  exact⟨.ref h'.objs.size,_,I2,rfl,q _ (I1.hok.fresh (aD _))⟩
 ·obtain⟨its,r',pl,hz⟩:=I.tuple hq
  exact call_tuple_same pl ⟨.ref p,H,I,rfl,q⟩
def O8(K:Fg)(T:String)(x:V)(H:Hp):Prop:=match x with
 |.str _=>T="str"
 |.int _=>T="int"
 |.ref p=>(T="list"/\∃xs,cA K H p xs)\/(T="tuple"/\∃o,K.lookup p=some o/\o.cls=.type "tuple"/\o.dict=none)\/
   (T="dict"/\((∃kvs,H p=some (.dK kvs))\/∃kvs,H p=some (.dT kvs)))\/(T="set"/\∃S n,H p=some (.set S n))
 |_=>False
theorem Jl{pins:List (Addr×Obj)}{σ:St}{H:Hp}{s:Shared}{T:String}{x:V}{v:Value}(I:bW X pins σ H s)(r:dy x v)(ty:O8 X.K T x H) :
  s.TypeIs v T/\∀a,v=.ref a->∃ob,s.heap.get? a=some ob/\ob.dict=none:=by
 cases x with
 |str z=>
  obtain⟨t,rfl⟩:=r
  cases(show T="str" from ty)
  exact⟨typeIs_str s z t,λ_ e=>nomatch e⟩
 |int i=>
  obtain⟨t,rfl⟩:=r
  cases(show T="int" from ty)
  exact⟨typeIs_int s i t,λ_ e=>nomatch e⟩
 |ref p=>
  cases r
  rcases ty with⟨rfl,xs,hq⟩|⟨rfl,o,hk,hc,hd⟩|⟨rfl,hk⟩|⟨rfl,S,n,hk⟩
  ·obtain⟨its,_,pl,_⟩:=I.list hq
   refine⟨pl.isList.typeIs,λa e=>?_⟩
   cases e
   obtain⟨o,n,e,c,hd,_⟩:=pl
   exact⟨o,e,hd⟩
  ·refine⟨⟨o,I.kIn p o hk,hc⟩,λa e=>?_⟩
   cases e
   exact⟨o,I.kIn _ o hk,hd⟩
  ·have z:∃o,s.heap.get? p=some o/\o.ExactDict:=by
    rcases hk with⟨kvs,hk⟩|⟨kvs,hk⟩
    ·obtain⟨_,_,_,_,o,_,_,e,ex,_⟩:=I.hok p _ hk
     exact⟨o,e,ex⟩
    ·obtain⟨_,_,_,_,o,_,_,e,ex,_⟩:=I.hok p _ hk
     exact⟨o,e,ex⟩
   obtain⟨o,e,ex⟩:=z
   refine⟨⟨o,e,ex.1⟩,λa e2=>?_⟩
   cases e2
   exact⟨o,e,ex.2.1⟩
  ·obtain⟨o,_,_,_,e,ex,_⟩:=I.hok p _ hk
   refine⟨⟨o,e,ex.1⟩,λa e2=>?_⟩
   cases e2
   exact⟨o,e,ex.2.1⟩
 |_=>exact False.elim ty
def Ls(K:Fg)(T:String)(r:V->List V->Hp->VK->Prop)(to:TE):TE:=λσ H Q=>to σ H λx H1=>O8 K T x H1/\r x [] H1 Q
def IL(K:Fg)(T:String)(r:V->List V->Hp->VK->Prop)(to:TE)(t:TA):TE:=λσ H Q=>to σ H λx H1=>O8 K T x H1/\t σ H1 λxs H2=>r x xs H2 Q
variable{o e:Expr}{es:List Expr}{to:TE}{t:TA}{name:Str}{apos cpos:Pos}{T id:String}{r:V->List V->Hp->VK->Prop}
theorem MV(pa:PlainAttrs T)(slot:Slot T name id)(hty:typeOf (.builtin id)=pure (.type "method_descriptor"))(hm:NM X id r)(ho:PE X o to)
  (hbase:attributeBase o name X.env (eval o X.env)=eval o X.env:=by rfl) (hline:(apos.endLine==cpos.line)=true:=by rfl):PE X (.Call (.Attribute o name apos) [] [] cpos) (Ls X.K T r to):=by
 intro pins s σ H Q I h
 refine wpAny_Call_method0_late hbase hline (gZ (ho pins s σ H _ I h) λv s1 ⟨x,H1,I1,r1,ty,q1⟩=>?_)
 obtain⟨h1,h2⟩:=Jl I1 r1 ty
 exact⟨T,id,pa,slot,hty,h1,h2,Calls.callWith_builtin rfl (PySem.evalArgs_none (hm pins s1 σ H1 x [] v [] Q I1 r1 .nil q1))⟩
theorem Oi(pa:PlainAttrs T)(slot:Slot T name id)(hty:typeOf (.builtin id)=pure (.type "method_descriptor"))(hm:NM X id r)(ho:PE X o to)(ha:PA X (e::es) t)
  (hbase:attributeBase o name X.env (eval o X.env)=eval o X.env:=by rfl)
  (hfew:((backTo cpos (starEach (e::es) X.env)).all (λx=>!x.1)&&(backToKw cpos (keywordEach [] X.env)).all (λx=>x.1.isSome)
   && decide ((e::es).length+([]:List Keyword).length+(if([]:List Keyword).isEmpty then 0 else 1)<30))=true:=by rfl)
  (hline:(apos.endLine==cpos.line)=true:=by rfl) (hs:starEach (e::es) X.env=(false,eval e X.env)::starEach es X.env:=by rfl) (hplain:(backTo cpos (starEach es X.env)).any (·.1)=false:=by rfl) :
  PE X (.Call (.Attribute o name apos) (e::es) [] cpos) (IL X.K T r to t):=by
 intro pins s σ H Q I h
 refine wpAny_Call_method_late hbase hfew hline rfl (gZ (ho pins s σ H _ I h) λv s1 ⟨x,H1,I1,r1,ty,q1⟩=>?_)
 obtain⟨h1,h2⟩:=Jl I1 r1 ty
 refine⟨T,id,pa,slot,hty,h1,h2,?_⟩
 have hA:=ha cpos pins s1 σ H1 _ I1 q1
 rw[hs] at hA ⊢
 refine Calls.callWith_builtin (by show(false || (backTo cpos (starEach es X.env)).any (·.1))=false;rw[hplain]<;>rfl) (Calls.evalArgs_plain ?_)
 exact gZ hA λus s2 ⟨vs,H2,I2,r2,q2⟩=>hm pins s2 σ H2 x vs v us Q I2 r1 r2 q2
/- xs.append(e),list.index on a module's tuple .. are NM facts of 06m -/
end
def OQ(X:Cx)(id:String)(r:V->List V->Hp->VK->Prop):Prop:=
 ∀(pins:List (Addr×Obj)) (s:Shared) (σ:St) (H:Hp) (x:V) (xs:List V) (v:Value) (us:List Value) (Q:VK),bW X pins σ H s->dy x v->cT xs us->r x xs H Q->
  wpAny (model X.prog X.w) X.A (call (.builtin id) (v::us)) (EP X pins σ Q) X.xe s
theorem cT.one:∀{x:V} {us:List Value},cT [x] us->∃u,us=[u]/\dy x u
 |_,_,.cons r .nil=>⟨_,rfl,r⟩
theorem cT.zero:∀{us:List Value},cT [] us->us=[]
 |_,.nil=>rfl
theorem cT.dropLast{xs:List V}{us:List Value}(h:cT xs us):cT xs.dropLast us.dropLast:=by
 induction h with
 |nil=>exact .nil
 |cons r t ih=>
  cases t with
  |nil=>exact .nil
  |cons q t'=>exact .cons r ih
theorem cT.rep{xs:List V}{us:List Value}(h:cT xs us):∀k:Nat,cT (bh k xs).flatten (bh k us).flatten
 |0=>.nil
 |k+1=>by
  rw[di,di,fS,fS]
  exact cT.append h (cT.rep h k)
theorem CM{α:Type}(l:List α):l.eraseIdx (l.length-1)=l.dropLast:=by
 induction l with
 |nil=>rfl
 |cons a r ih=>
  cases r with
  |nil=>rfl
  |cons b r=>
   have e:(a::b::r).length-1=((b::r).length-1)+1:=by
    have h1:(a::b::r).length=r.length+2:=rfl
    have h2:(b::r).length=r.length+1:=rfl
    lia
   rw[e,List.eraseIdx_cons_succ,ih]
   all_goals rfl
theorem yy(its:List Value):∀(k:Nat) (acc:List Value),
  vF (λx1 x2=>x1++x2) acc.toArray (bh k its.toArray)=(acc++(bh k its).flatten).toArray
 |0,acc=>by simp
 |k+1,acc=>by
  have e:acc.toArray++its.toArray=(acc++its).toArray:=by simp
  have e2:(acc++its)++(bh k its).flatten=acc++(bh (k+1) its).flatten:=by
   rw[di,fS,my]
  rw[<-e2,<-yy its k (acc++its),<-e,di,oK]
section
variable{X:Cx}{pins:List (Addr×Obj)}{σ:St}{H:Hp}{s:Shared}{l b:Addr}{xs ys zs:List V}
theorem bW.lset{its its':List Value}{n:Nat}{f:Array Value->Array Value}{t':Nat}(I:bW X pins σ H s)(hH:H l=some (.lst xs))
  (e:s.heap.get? l=some {cls:=.type "list",data:=.seq its.toArray n}) (hf:f its.toArray=its'.toArray) (hv:cT ys its') (hz:ys.length<=sizeLine) :
  bW X pins σ (upd H l (.lst ys)) {s with heap:=s.heap.update l (Obj.mapSeq f),toks:=t'}:=by
 have q:=PySem.IsL.update e f
 rw[hf] at q
 refine I.write (x:=l) (e:=l) (by rw[hH];exact trivial) (.inl rfl) (λb' u hb hu=>(cf s.heap (Obj.mapSeq f) (Ne.symm hb)).trans hu) ⟨_,q⟩ ?_
 exact⟨hz,its',_,hv,q⟩
theorem bW.lnew{its:List Value}{t':Nat}(I:bW X pins σ H s)(hv:cT ys its)(hz:ys.length<=sizeLine) :
  bW X pins σ (upd H s.heap.objs.size (.lst ys)) {s with heap:=s.heap.push {cls:=.type "list",data:=.seq its.toArray},toks:=t'}:=
 I.laid (λ_ _ q=>az _ q) (aD _) ⟨hz,its,0,hv,aZ _ rfl⟩
theorem bW.fresh(I:bW X pins σ H s):H s.heap.objs.size=none:=I.hok.fresh (aD _)
theorem bW.lstM(I:bW X pins σ H s)(hH:H l=some (.lst xs)):xs.length<=sizeLine/\∃(its:List Value) (n:Nat),cT xs its/\xs.length=its.length/\s.heap.get? l=some {cls:=.type "list",data:=.seq its.toArray n}:=by
 obtain⟨z,its,n,r,e⟩:=I.hok l _ hH
 exact⟨z,its,n,r,r.length,e⟩
theorem HD{n:Nat}(h:n<=sizeLine):Builtin.List.listTooLong n=false:=by
 unfold Builtin.List.listTooLong
 exact decide_eq_false (by lia)
end
section
variable{X:Cx}
def lq:V->List V->Hp->VK->Prop:=λx vs H Q=>∃l xs y,x=.ref l/\vs=[y]/\H l=some (.lst xs)/\xs.length<sizeLine/\Q .non (upd H l (.lst (xs++[y])))
theorem jq:OQ X "list.append" lq:=by
 intro pins s σ H x vs v us Q I rx rv h
 obtain⟨l,xs,y,rfl,rfl,hH,hz,q⟩:=h
 cases rx
 obtain⟨u,rfl,ru⟩:=rv.one
 obtain⟨z,its,n,r,hl,e⟩:=I.lstM hH
 refine call_meets F.slot_list_append ⟨_,e,rfl⟩ F.entry_list_append (F.args_list_append_2 _ _) (PySem.list_append l its.toArray n u (by rw[ax];lia)) ⟨e,?_⟩
 refine⟨.non,_,I.lset (its':=its++[u]) hH e (by simp) (r.append (.cons ru .nil)) ?_,rfl,q⟩
 rw[aN,bF]
 lia
def Eo:V->List V->Hp->VK->Prop:=λx vs H Q=>∃l b xs zs,x=.ref l/\vs=[.ref b]/\H l=some (.lst xs)/\H b=some (.lst zs)/\xs.length+zs.length<=sizeLine/\Q .non (upd H l (.lst (xs++zs)))
theorem FD:OQ X "list.extend" Eo:=by
 intro pins s σ H x vs v us Q I rx rv h
 obtain⟨l,b,xs,zs,rfl,rfl,hH,hB,hz,q⟩:=h
 cases rx
 obtain⟨u,rfl,ru⟩:=rv.one
 cases ru
 obtain⟨z,its,n,r,hl,e⟩:=I.lstM hH
 obtain⟨z2,its2,n2,r2,hl2,e2⟩:=I.lstM hB
 have hsz:its.toArray.size+its2.toArray.size<=sizeLine:=by rw[ax,ax];lia
 have hlong:¬(!its.toArray.isEmpty&&Builtin.List.listTooLong (its.toArray.size+its2.toArray.size))=true:=by
  rw[HD hsz,Bool.and_false]
  exact Bool.false_ne_true
 refine call_meets F.slot_list_extend ⟨_,e,rfl⟩ F.entry_list_extend (F.args_list_extend_2 _ _)
  (AutoSeq1.list_extend_list_list_0 l its.toArray n b its2.toArray n2 hlong (by rw[ax];lia) (by lia)) ⟨e,e2,?_⟩
 refine⟨.non,_,I.lset (its':=its++its2) hH e (by simp) (r.append r2) ?_,rfl,q⟩
 rw[aN]
 lia
def Nw:V->List V->Hp->VK->Prop:=λx vs H Q=>∃l xs y,x=.ref l/\vs=[]/\H l=some (.lst xs)/\xs[xs.length-1]?=some y/\Q y (upd H l (.lst xs.dropLast))
theorem HC:OQ X "list.pop" Nw:=by
 intro pins s σ H x vs v us Q I rx rv h
 obtain⟨l,xs,y,rfl,rfl,hH,hy,q⟩:=h
 cases rx
 have hus:=rv.zero
 subst hus
 obtain⟨z,its,n,r,hl,e⟩:=I.lstM hH
 obtain⟨u,hu,ru⟩:=r.get hy
 have hy':its.toArray[its.toArray.size-1]?=some u:=by
  show its.toArray[its.length-1]?=some u
  rw[<-ee,<-hl]
  exact hu
 refine call_meets F.slot_list_pop ⟨_,e,rfl⟩ F.entry_list_pop (F.args_list_pop_1 _) (MeetsSeq.list_pop_last l its.toArray n u hy' (by rw[ax];lia)) ⟨e,?_⟩
 refine⟨y,_,I.lset (its':=its.dropLast) hH e ?_ r.dropLast ?_,ru,q⟩
 ·show its.toArray.eraseIdxIfInBounds (its.toArray.size-1)=its.dropLast.toArray
  rw[ax,List.eraseIdxIfInBounds_toArray,CM]
 ·rw[List.length_dropLast]
  lia
def Ot:R2:=λx y H Q=>∃l b xs zs,x=.ref l/\y=.ref b/\H l=some (.lst xs)/\H b=some (.lst zs)/\xs.length+zs.length<=sizeLine/\∀p,H p=none->Q (.ref p) (upd H p (.lst (xs++zs)))
theorem MH:kq X (binaryOp .Add) Ot:=by
 intro pins s σ H x y v u Q I rx ry h
 obtain⟨l,b,xs,zs,rfl,rfl,hH,hB,hz,q⟩:=h
 cases rx
 cases ry
 obtain⟨z,its,n,r,hl,e⟩:=I.lstM hH
 obtain⟨z2,its2,n2,r2,hl2,e2⟩:=I.lstM hB
 refine PySem.P.add_list e e2 ?_ (by rw[ax,ax];lia)
 have ea:its.toArray++its2.toArray=(its++its2).toArray:=by simp
 rw[ea]
 exact⟨.ref _,_,I.lnew (t':=s.toks) (r.append r2) (by rw[aN];lia),rfl,q _ I.fresh⟩
theorem Kb{α:Type}(xs:List α)(k:Nat):(bh k xs).flatten.length=k*xs.length:=by
 induction k with
 |zero=>simp
 |succ k ih=>rw[di,fS,aN,ih,Nat.succ_mul,Nat.add_comm]
end
section
variable{prog:Program}{w:World}{A:Around}{E:Value->Shared->Prop}{s:Shared}
set_option maxRecDepth 100000 in
end
section
variable{X:Cx}
end
end L2
namespace Att
open PySem PySem.W PySem.Calls PyProof.Rows
theorem uY{P:Params}{h:Heap}:∀(ns:List Int) (vs:List Value),WellAll P h vs (ns.map WData.int)->IntsAre vs ns:=by
 intro ns
 induction ns with
 |nil=>
  intro vs w
  rw[bV] at w
  cases w
  exact .nil
 |cons n ns ih=>
  intro vs w
  rw[ba] at w
  cases w with
  |cons a b=>
   cases a
   exact .cons _ _ (ih _ b)
theorem Gh{l:OpenLaw}{n:Nat}(hn:l.most=some n){P:Params}{h:Heap}{args:List WData}{vals:List Value}
  (hpre:l.row.toRowW.claim.pre args=true) (hwl:WellAll P h vals args) :
  ∃a vs ns,vals=[Value.ref a]/\args=[WData.list (ns.map WData.int)]/\h.get? a=some {cls:=.type "list",data:=.seq vs.toArray}/\IntsAre vs ns/\ns.length<=n:=by
 have hsh:WShape.hasAll [] args [.list .int]=true:=(pre_splitW hpre).1
 have hc:l.pre.holds [] {args:=args}=true:=(pre_splitW hpre).2
 obtain⟨d,r,rfl,h1,h2⟩:=hasAllW_cons hsh
 obtain rfl:=hasAllW_nil h2
 obtain⟨xs,rfl,h3⟩:=hasW_list h1
 obtain⟨ns,rfl⟩:=items_int h3
 have hlen:ns.length<=n:=by
  unfold OpenLaw.pre at hc
  have h4:(WTm.not (.lt (.lit (.int (n:Int))) (.len (.arg 0)))).holds [] {args:=[.list (ns.map .int)]}=true:=by
   have h4:=(holds_andW hc).1
   rw[hn] at h4
   exact h4
  have h5:=condW_of h4 (w_not (w_lt w_lit (w_len_list (w_arg rfl))))
  rw[ai] at h5
  refine Nat.le_of_not_lt λq=>?_
  have q':(n:Int)<((ns.length:Nat):Int):=by lia
  first
   |(rw[decide_eq_true q'] at h5;exact absurd h5 (by decide))
   |(simp at h5;lia)
 cases hwl with
 |cons w1 w2=>
  cases w2
  cases w1 with
  |list ho hall=>exact⟨_,_,ns,rfl,rfl,ho,uY ns _ hall,hlen⟩
theorem FT(l:OpenLaw)(args:List WData):l.row.toRowW.claim.post args (.bool true) args=true:=
 postW_of (r:=l.row.toRowW) (X:=(true==true))
  (show WShape.has [] (.bool true) .bool=true by first|rfl|decide|simp[WShape.has,WShape.arms,WShape.armsAll])
  (show(WTm.eq .res (.lit (.bool true))).value [] {args:=args,res:=some (.bool true),after:=args}=some (.bool (true==true)) from w_eq_bool (w_res rfl) w_lit) rfl
theorem attach_call{l:OpenLaw}{n:Nat}{q:Program}{loose:List Str}{XP:(Str->Option Value)->Heap->Prop}{YP:World->Heap->Prop}{d:DefRec}
  (hn:l.most=some n) (hdf:d.params.defaults=[])
  (call:∀(w:World) (s₀ s₁:Shared) (mg mb:Str->Option Value) (fa:Addr) (o:Obj) (pm cd doc:Value) (a:Addr) (vs:List Value) (ns:List Int),
   Ground q loose [] XP w s₀ mg mb s₁.heap->YP w s₁.heap->
   s₁.heap.get? fa=some o->o.data=.func (docDef d.name d.params d.body d.scope pm cd doc)->s₁.heap.CodeRec cd d.name->mg d.name=some (.ref fa)->
   s₁.heap.get? a=some {cls:=.type "list",data:=.seq vs.toArray}->IntsAre vs ns->ns.length<=n->s₁.gens=#[]->
   codeAny (model l.prog w) callerA (.call (.ref fa) ⟨[.ref a],[]⟩) (λr s'=>r=.ok (.ret (.bool true))/\OldK s₁.heap s'.heap/\s'.os=s₁.os/\AllBare s'.gens) s₁) :
  WalkO q loose XP YP l.row.toRowW d [] (λf vs=>vH f vs):=by
 intro w s₀ s₁ mg mb G Y fa o pm cd doc dV kV ho hd hcd hD hmg hg args vals as hpre hlay hrd hwl hlo
 obtain rfl:dV=.none:=Dflts.none hD hdf
 obtain rfl:kV=.none:=Dflts.noKw hD
 obtain⟨a,vs,ns,rfl,rfl,hobj,hints,hlen⟩:=Gh hn hpre hwl
 refine enter_call (codeAny_mono (call w s₀ s₁ mg mb fa o pm cd doc a vs ns G Y ho (fd_plain hd) hcd hmg hobj hints hlen hg) λr s' hq=>?_)
 obtain⟨rfl,h2,h3,h4⟩:=hq
 exact⟨.inl ⟨.bool true,.bool true,[],rfl,λ_=>rfl,.bool true,FT l _,λ_=>⟨List.Pairwise.nil,λ_ hm=>(nomatch hm)⟩⟩,h2,h3,h4⟩
section
variable{prog:Program}{w:World}{A:Around}{E:Value->Shared->Prop}{s:Shared}{K:Frag}
end
end Att
namespace L2
open PySem PySem.Spec PyProof.Rows
theorem zc:∀{vs:List Value} {ns:List Int},IntsAre vs ns->cT (ns.map V.int) vs
 |_,_,.nil=>.nil
 |_,_,.cons n t h=>.cons ⟨t,rfl⟩ (zc h)
def JA(H:Hp):Prop:=∀b,H b=none\/∃o xs,H b=some (.frz o (.lst xs))
theorem Ho{P:Program}{w:World}{K:Fg}{mg mb:Str->Option Value}{CX:GC}{k:Nat}{fa a:Addr}{fd:FuncData}{x:Str}{sp:Sp}{s₁:Shared}{vs:List Value}{ns:List Int}
  (KX:K.In s₁.heap) (hns:s₁.heap.Ns mainGlobals mg) (hb:s₁.heap.Ns builtinsNs mb) (hbb:∀x:Str,x≠"__name__"->mb x=bootBuiltins x) (hlim:s₁.heap.NoLimit) (hg:s₁.gens=#[])
  (ha:s₁.heap.get? a=some {cls:=.type "list",data:=.seq vs.toArray}) (hi:IntsAre vs ns) (hl:ns.length<=sizeLine) (hr:dm k callerA)
  (F:∀base:Heap,K.In base->base.Ns mainGlobals mg->dY P w K mg base CX k fa fd [x] sp) (hbind:∀(s:Shared) (u:Value),BindsTo s fd ⟨[u],[]⟩ [(x,u)])
  (hsp:∀H:Hp,JA H->cA K H a (ns.map V.int)->sp [.ref a] H (λv _=>v=.bl true) λ_ _ _=>False)
  (hCX:∀H e s',CX [] H s₁ (λ_ _ _=>False) e s'->False) :
  codeAny (model P w) callerA (.call (.ref fa) ⟨[.ref a],[]⟩) (λr s'=>r=.ok (.ret (.bool true))/\OldK s₁.heap s'.heap/\s'.os=s₁.os/\AllBare s'.gens) s₁:=by
 have rv:=zc hi
 have lenV:=hi.length
 have core:∀H:Hp,JA H->cA K H a (ns.map V.int)->pd P w H s₁.heap->(∀b,H b≠none->b=a)->(H a≠none->K.lookup a=none)->
   codeAny (model P w) callerA (.call (.ref fa) ⟨[.ref a],[]⟩) (λr s'=>r=.ok (.ret (.bool true))/\OldK s₁.heap s'.heap/\s'.os=s₁.os/\AllBare s'.gens) s₁:=by
  intro H hO hS hok hA hK
  have base_of:∀{b:Addr} {o:Obj},s₁.heap.get? b=some o->H b=none->(zN s₁.heap H).get? b=some o:=λe n=>Hc e n
  have noA:∀{b:Addr} {o:Obj} {es:Array DictEntry} {ep:Nat},s₁.heap.get? b=some o->o.data=.dict es ep->H b=none:=λ{b o es ep} e d=>by
   cases q:H b with
   |none=>rfl
   |some u=>
    have e':b=a:=hA b (by rw[q];simp)
    subst e'
    rw[ha] at e;cases e
    have d':Data.seq vs.toArray _=Data.dict es ep:=d
    cases d'
  have nsK:∀{b:Addr} {m:Str->Option Value},s₁.heap.Ns b m->(zN s₁.heap H).Ns b m:=λ{b m} ⟨o,es,ep,e,d,r⟩=>⟨o,es,ep,base_of e (noA e d),d,r⟩
  have hKb:K.In (zN s₁.heap H):=λb o e=>base_of (KX b o e) (by
   cases q:H b with
   |none=>rfl
   |some u=>
    have e':b=a:=hA b (by rw[q];simp)
    subst e'
    rw[hK (by rw[q];simp)] at e;cases e)
  have hM:Mod K mg (zN s₁.heap H):=⟨hKb,nsK hns,⟨mb,nsK hb,hbb⟩,let⟨mc,h1,h2⟩:=hlim;⟨mc,nsK h1,h2⟩⟩
  have e0:Cq P w K mg (zN s₁.heap H) callerA [] s₁ H:=⟨rfl,hM,λb o e=>Kg e,rP (Ff _ _),trivial,λb hb=>absurd (show b∈([]:List Addr) from hb) (by simp),hok,.of_eq hg⟩
  refine codeAny_mono ((F _ hKb (nsK hns)).run callerA [] s₁ H ⟨[.ref a],[]⟩ [.ref a] [.ref a] _ _ hr e0 (hbind s₁ (.ref a)) (.cons rfl .nil) (hsp H hO hS)) λr s' h=>?_
  cases r with
  |error e=>exact(hCX H e s' h).elim
  |ok fl=>
   cases fl with
   |next=>exact False.elim h
   |brk=>exact False.elim h
   |cont=>exact False.elim h
   |ret u=>
    obtain⟨v,H',os,bare,un,hok',r',q⟩:=h
    have q':v=.bl true:=q
    subst q'
    obtain rfl:u=Value.bool true:=r'
    refine⟨rfl,OldK.of_keep λb o e=>?_,os,bare⟩
    cases q:H b with
    |none=>exact un.keep b o e q (by intro z;exact absurd (show b∈([]:List Addr) from z) (by simp)) (by simp)
    |some u=>
     rcases hO b with z|⟨ob,xs,z⟩
     ·rw[q] at z;cases z
     ·have z2:=un.frzs b ob _ z
      obtain⟨e1,_⟩:=hok b _ z
      obtain⟨e2,_⟩:=hok' b _ z2
      rw[e] at e1;cases e1
      exact e2
 cases hk:K.lookup a with
 |some o=>
  have e:=KX a o hk
  rw[ha] at e
  cases e
  refine core (λ_=>none) (λ_=>.inl rfl) (.inr ⟨_,vs.toArray,_,hk,rfl,rfl,rfl,by rw[ax,lenV];exact hl,by simpa using rv⟩) (λb u z=>by have z':(none:Option HO)=some u:=z;cases z') (λb z=>absurd rfl z) λz=>absurd rfl z
 |none=>
  refine core (λb=>if b=a then some (.frz {cls:=.type "list",data:=.seq vs.toArray} (.lst (ns.map V.int))) else none) (λb=>?_) (.inl (.inr ⟨{cls:=.type "list",data:=.seq vs.toArray},if_pos rfl⟩)) (λb u z=>?_) (λb z=>?_) λ_=>hk
  ·by_cases hb:b=a
   ·exact .inr ⟨_,_,if_pos hb⟩
   ·exact .inl (if_neg hb)
  ·by_cases hb:b=a
   ·have z':=(if_pos hb).symm.trans z
    cases z'
    subst hb
    exact⟨ha,by rw[ai];exact hl,vs,_,rv,ha⟩
   ·have z':=(if_neg hb).symm.trans z
    cases z'
  ·by_cases hb:b=a
   ·exact hb
   ·exact absurd (if_neg hb) z
theorem walk_of{l:PySem.W.OpenLaw}{n k:Nat}{q:Program}{loose:List Str}{XP:(Str->Option Value)->Heap->Prop}{YP:World->Heap->Prop}{d:DefRec}{K:Params->Fg}{CX:World->GC}{sp:World->Sp}{x:Str}
  (hn:l.most=some n) (hn2:n<=sizeLine) (hdf:d.params.defaults=[]) (hr:dm k callerA)
  (hY:∀(w:World) (h:Heap),YP w h->(K w.params).In h)
  (F:∀(w:World) (mg:Str->Option Value) (fa:Addr) (h:Heap),(K w.params).In h->h.Ns mainGlobals mg->mg d.name=some (.ref fa)->
   ∃fd:FuncData,(∀(s:Shared) (u:Value),BindsTo s fd ⟨[u],[]⟩ [(x,u)])/\
    ∀base:Heap,(K w.params).In base->base.Ns mainGlobals mg->dY l.prog w (K w.params) mg base (CX w) k fa fd [x] (sp w))
  (hsp:∀(w:World) (H:Hp) (a:Addr) (ns:List Int),ns.length<=n->JA H->cA (K w.params) H a (ns.map V.int)->sp w [.ref a] H (λv _=>v=.bl true) λ_ _ _=>False)
  (hCX:∀(w:World) (H:Hp) (s:Shared) (e:Value) (s':Shared),CX w [] H s (λ_ _ _=>False) e s'->False) :
  PySem.W.WalkO q loose XP YP l.row.toRowW d [] (λf vs=>vH f vs):=by
 refine Att.attach_call hn hdf λw s₀ s₁ mg mb fa o pm cd doc a vs ns G Y ho hd hcd hmg hobj hints hlen hg=>?_
 have KX:=hY w _ Y
 obtain⟨fd,hb,hF⟩:=F w mg fa _ KX G.T.g hmg
 exact Ho KX G.T.g G.T.b G.T.builtins G.T.nolimit hg hobj hints (cq hlen hn2) hr hF hb (λH hO hS=>hsp w H a ns hlen hO hS) λH e s'=>hCX w H s₁ e s'
end L2
/- THE LAST THEOREM (shape;LID,My.* are yours):
  My.Adr: a structure of the addresses that your layer names (classes,functions);My.Txt K t: a structure (Prop) of the equations over K;
  My.txt_mk:{K} {implicit addresses ..} (e1:nsIn K mainGlobals "law"=some (some (.ref f))) (e2:K.lookup f=some ⟨oc,od,.func (fnOf "law" "law" params body scope dV kV doc pm an cdv ct),sl⟩) (e3:codeIn K cdv "law"=true) ..:∃t,My.Txt K t
set_option maxRecDepth 100000 in
set_option maxHeartbeats 0 in
theorem PySem.Challenge.cw_LID_holds : PySem.Challenge.rw_LID.Holds := by
 w_on;o_law;k_head;(case hw=>w_witness2)
 k_fill
 refine L2.walk_of (l:=PySem.Challenge.rw_LID) (n:=63) (k:=40) (x:="script") (CX:=λw=>..) (sp:=λ_=>My.sp_law) rfl (by decide) rfl ⟨rfl,by decide,by decide⟩ (λw h Y=>PySem.W.kIn_of Y) ?F ?S ?C
 case F=>
  intro w mg fa h KX G hmg
  have T:∃t,My.Txt (L2.KOf KX) t:=by
   dsimp only[L2.KOf] -- K must stand as «<heap const> w.params» for k_is
   refine' My.txt_mk ?e1 ?e2 ?e3 ..
   (case e1=>PySem.W.k_is) -- in the order: a name -> its address -> its object -> its parts
   (case e2=>PySem.W.k_is)
   ..
  obtain⟨t,T⟩:=T
  have e0:=hmg.symm.trans (aM KX G T.law)
  cases e0 -- fa is the law's own address
  exact⟨_,λs u=>.of_eq rfl,λbase kb nb=>My.law_fn T kb nb⟩ -- if «.of_eq rfl» comes too early: refine' ⟨_,?b,λbase kb nb=>My.law_fn T kb nb⟩;exact λs u=>.of_eq rfl
 case S=>exact λw H a ns hl hO hS=>..
 case C=>exact ..
(the tactic k_is has no namespace: write k_is) -/
namespace L2
open PySem PySem.Spec PyProof.Rows
def bL(s:Stmt):Arguments:=match s with
 |.FunctionDef _ a _ _ _ _ _ _ _ _=>a
 |_=>{posonlyargs:=[],args:=[],vararg:=none,kwonlyargs:=[],kw_defaults:=[],kwarg:=none,defaults:=[]}
def aP(s:Stmt):List Stmt:=match s with
 |.FunctionDef _ _ b _ _ _ _ _ _ _=>b
 |_=>[]
def aq(s:Stmt):Scope:=match s with
 |.FunctionDef _ _ _ _ _ _ sc _ _ _=>sc
 |_=>{kind:=.function,names:=[],isGenerator:=false,isCoroutine:=false}
abbrev fB:GC:=λ_ _ _ _ _ _=>False
abbrev E0:XK:=λ_ _ _=>False
theorem Og{X:Cx}:pD fB X E0:=λ_ _ _ _ _ _ _ h=>h.elim
structure kS(K:Fg)(x qual:Str)(st:Stmt)(f:Addr)(fd:FuncData):Prop where
 ex:∃(oc:Value) (od:Option Addr) (kV doc pm:Value) (an:Option Addr) (cdv ct:Value) (osl:Array (Option Value)),
  fd=aL x qual (bL st) (aP st) (aq st) .none kV doc pm an cdv ct/\K.lookup f=some ⟨oc,od,.func fd,osl⟩/\aI K cdv qual=true
 kp:aF K (.ref f)=true
section
variable{P:Program}{w:World}{K:Fg}{mg:Str->Option Value}{base:Heap}
theorem kS.ok{x qual:Str}{st:Stmt}{f:Addr}{fd:FuncData}{N ps:List Str}{k:Nat}{sp:Sp}(F:kS K x qual st f fd)(S:bT N ps (aq st))(len:∀vs H Q E,sp vs H Q E->vs.length=ps.length)
  (hbody:∀(cdv:Value) (A:Around) (outer:List Env) (s:Shared) (H:Hp) (vs:List V) (Q:VK) (E:XK),dm k (A.deeper (envOfC qual (aq st) s.heap.objs.size f cdv))->sp vs H Q E->
   ∃t,jv (eE fB P w K mg base N qual (aq st) f cdv A outer s H E).nox (aP st) t/\t {nx:=λ_ H'=>Q .non H',rt:=Q} (cU N vs) H):dY P w K mg base fB (k+1) f fd ps sp:=by
 obtain⟨oc,od,kV,doc,pm,an,cdv,ct,osl,rfl,lk,hcd⟩:=F.ex
 refine G8 lk hcd S len λA outer s H vs Q E hr hsp=>?_
 obtain⟨t,h,q⟩:=hbody cdv A outer s H vs Q E hr hsp
 exact⟨t,h.nox,q⟩
theorem kS.binds{x qual:Str}{st:Stmt}{f:Addr}{fd:FuncData}{ps:List Str}(F:kS K x qual st f fd)
  (h:∀(kV doc pm:Value) (an:Option Addr) (cdv ct:Value) (us:List Value),us.length=ps.length->bindArgs (aL x qual (bL st) (aP st) (aq st) .none kV doc pm an cdv ct) ⟨us,[]⟩=pure (ps.zip us)):px K fd ps []:=by
 obtain⟨oc,od,kV,doc,pm,an,cdv,ct,osl,rfl,lk,hcd⟩:=F.ex
 exact .all (h kV doc pm an cdv ct)
theorem cN{x qual:Str}{st:Stmt}{f:Addr}{oc:Value}{od an:Option Addr}{osl:Array (Option Value)}{kV doc pm cdv ct:Value}(l:K.lookup f=some ⟨oc,od,.func (aL x qual (bL st) (aP st) (aq st) .none kV doc pm an cdv ct),osl⟩)
  (c:aI K cdv qual=true) (k:aF K (.ref f)=true):kS K x qual st f (aL x qual (bL st) (aP st) (aq st) .none kV doc pm an cdv ct):=⟨⟨oc,od,kV,doc,pm,an,cdv,ct,osl,rfl,l,c⟩,k⟩
end
theorem dJ{A:Around}{k:Nat}(hr:dm k A):A.units+1<cLine:=i7 (Nat.add_le_add_left (by decide:1<=64) _) hr.units
section
variable{X:Cx}
theorem pv(i:Nat){x:Str}{pos:Pos}(hN:X.N[i]?=some x:=by rfl)(hv:OK X.env.scope x:=by first|exact Or.inl rfl|exact Or.inr (Or.inl rfl)|exact Or.inr (Or.inr rfl))(hd:(x==("__debug__":Str))=false:=by decide)
  (hcd:(x==("__classdict__":Str))=false:=by decide):PE X (.Name x pos) (aj i):=Nb hN hv hd hcd
end
theorem iW{A B:Prop}(h:B):if false=true then A else B:=by
 rw[if_neg Bool.false_ne_true]
 exact h
theorem qG{A B:Prop}(h:A):if true=true then A else B:=by
 rw[if_pos rfl]
 exact h
theorem LO{c A B:Prop}[Decidable c](hc:c)(h:B):if(!decide c)=true then A else B:=by
 rw[decide_eq_true hc]
 exact iW h
def aS(H H':Hp):Prop:=∀b o,H b=some o->H' b=some o
theorem aS.refl(H:Hp):aS H H:=λ_ _ h=>h
theorem aS.trans{H H1 H2:Hp}(a:aS H H1)(b:aS H1 H2):aS H H2:=λc o h=>b c o (a c o h)
theorem aS.free{H H':Hp}(e:aS H H'){l:Addr}(h:H' l=Option.none):H l=Option.none:=by
 cases q:H l with
 |none=>rfl
 |some o=>
  rw[e l o q] at h
  cases h
section
variable{κ:Type}[DecidableEq κ]
def mx(kvs:List (κ×V))(k:κ):Option V:=(kvs.find? λkv=>decide (kv.1=k)).map (·.2)
def m5(kvs:List (κ×V))(k:κ)(v:V):List (κ×V):=
 if(kvs.any λkv=>decide (kv.1=k))=true then kvs.map (λkv=>if kv.1=k then(kv.1,v) else kv) else kvs++[(k,v)]
theorem Jn{k:κ}:mx ([]:List (κ×V)) k=none:=rfl
theorem xD{p:κ×V}{r:List (κ×V)}{k:κ}(e:p.1=k):mx (p::r) k=some p.2:=by simp[mx,fO,e]
theorem xC{p:κ×V}{r:List (κ×V)}{k:κ}(e:¬p.1=k):mx (p::r) k=mx r k:=by simp[mx,fO,e]
theorem xB(k:κ):∀kvs:List (κ×V),(kvs.any λkv=>decide (kv.1=k))=(mx kvs k).isSome
 |[]=>rfl
 |p::r=>by
  rw[j6]
  by_cases e:p.1=k
  ·simp only[xD e,decide_eq_true e,Bool.true_or,Option.isSome_some]
  ·rw[xC e,decide_eq_false e,Bool.false_or];exact xB k r
theorem pF(kvs:List (κ×V))(k:κ)(v:V):(m5 kvs k v).length<=kvs.length+1:=by
 unfold m5
 split
 ·rw[ai];lia
 ·rw[aN,bK,kE];lia
theorem Bl{kvs:List (κ×V)}{k:κ}(v:V)(h:mx kvs k=none):m5 kvs k v=kvs++[(k,v)]:=by
 unfold m5
 rw[xB,h]
 exact if_neg (by decide)
theorem rA.isSome_eq{o:Option V}{u:Option Value}(r:rA o u):o.isSome=u.isSome:=by
 cases o with
 |none=>cases u with
  |none=>rfl
  |some _=>exact(show False from r).elim
 |some _=>cases u with
  |none=>exact(show False from r).elim
  |some _=>rfl
theorem KV.val{kvs:List (κ×V)}{vs:List (κ×Value)}(r:KV kvs vs)(k:κ):rA (mx kvs k) (valueAt vs k):=by
 unfold KV at r
 induction r with
 |nil=>exact True.intro
 |@cons p q ps qs h t ih=>
  obtain⟨h1,h2⟩:=h
  by_cases e:p.1=k
  ·have e':q.1=k:=h1.symm.trans e
   have b:valueAt (q::qs) k=some q.2:=by simp[valueAt,fO,e']
   rw[xD e,b];exact h2
  ·have e':¬q.1=k:=λz=>e (h1.trans z)
   have b:valueAt (q::qs) k=valueAt qs k:=by simp[valueAt,fO,e']
   rw[xC e,b];exact ih
theorem KV.any{kvs:List (κ×V)}{vs:List (κ×Value)}(r:KV kvs vs)(k:κ):(kvs.any λkv=>decide (kv.1=k))=vs.any λkv=>decide (kv.1=k):=by
 unfold KV at r
 induction r with
 |nil=>rfl
 |cons h t ih=>rw[j6,j6,ih,h.1]
theorem KV.repl{kvs:List (κ×V)}{vs:List (κ×Value)}(r:KV kvs vs)(k:κ){y:V}{u:Value}(ry:dy y u) :
  KV (kvs.map λkv=>if kv.1=k then(kv.1,y) else kv) (vs.map λkv=>if kv.1=k then(kv.1,u) else kv):=by
 unfold KV at r ⊢
 induction r with
 |nil=>exact .nil
 |@cons p q ps qs h t ih=>
  rw[ba,ba]
  refine .cons ?_ ih
  obtain⟨h1,h2⟩:=h
  by_cases e:p.1=k
  ·rw[if_pos e,if_pos (h1.symm.trans e)];exact⟨h1,ry⟩
  ·rw[if_neg e,if_neg (λz=>e (h1.trans z))];exact⟨h1,h2⟩
theorem KV.put{kvs:List (κ×V)}{vs:List (κ×Value)}(r:KV kvs vs)(k:κ){y:V}{u:Value}(ry:dy y u):KV (m5 kvs k y) (stored vs k u):=by
 unfold m5 stored
 rw[r.any k]
 by_cases e:(vs.any λkv=>decide (kv.1=k))=true
 ·rw[if_pos e,if_pos e];exact r.repl k ry
 ·rw[if_neg e,if_neg e];exact Paired.snoc r ⟨rfl,ry⟩
theorem KV.keys{kvs:List (κ×V)}{vs:List (κ×Value)}(r:KV kvs vs):kvs.map (·.1)=vs.map (·.1):=by
 unfold KV at r
 induction r with
 |nil=>rfl
 |cons h t ih=>rw[ba,ba,ih,h.1]
theorem KV.length{kvs:List (κ×V)}{vs:List (κ×Value)}(r:KV kvs vs):kvs.length=vs.length:=Paired.length r
end
theorem AW{P:Program}{w:World}{k:hV}{u:Value}(r:dy (kV k) u):(ff P w).is k u=true:=by
 cases k with
 |inl i=>obtain⟨t,e⟩:=(show ∃t,u=Value.int i t from r);subst e;exact Bb P w i t
 |inr x=>obtain⟨t,e⟩:=(show ∃t,u=Value.str x t from r);subst e;exact Bc P w x t
theorem yC{P:Program}{w:World}:∀{ks:List hV} {us:List Value},cT (ks.map kV) us->ItemsAre (ff P w) ks us
 |[],_,r=>by rw[bV] at r;cases r;exact .nil
 |k::ks,_,r=>by
  rw[ba] at r
  cases r with
  |cons h t=>exact .cons (AW h) (yC t)
abbrev KT(H:Hp):List (List hV×V)->List (List hV×Addr×Value)->Prop:=Paired λp q=>p.1=q.1/\H q.2.1=some (.tup (p.1.map kV))/\dy p.2 q.2.2
theorem KT.val{H:Hp}{kvs:List (List hV×V)}{xs:List (List hV×Addr×Value)}(r:KT H kvs xs)(k:List hV):rA (mx kvs k) ((atKey xs k).map (·.2)):=by
 induction r with
 |nil=>exact True.intro
 |@cons p q ps qs h t ih=>
  obtain⟨h1,_,h2⟩:=h
  by_cases e:p.1=k
  ·have e':q.1=k:=h1.symm.trans e
   have b:atKey (q::qs) k=some q.2:=by simp[atKey,fO,e']
   rw[xD e,b];exact h2
  ·have e':¬q.1=k:=λz=>e (h1.trans z)
   have b:atKey (q::qs) k=atKey qs k:=by simp[atKey,fO,e']
   rw[xC e,b];exact ih
theorem KT.repl{H:Hp}{kvs:List (List hV×V)}{xs:List (List hV×Addr×Value)}(r:KT H kvs xs)(k:List hV){y:V}{u:Value}(ry:dy y u) :
  KT H (kvs.map λkv=>if kv.1=k then(kv.1,y) else kv) (xs.map (putAt k u)):=by
 induction r with
 |nil=>exact .nil
 |@cons p q ps qs h t ih=>
  rw[ba,ba]
  refine .cons ?_ ih
  obtain⟨h1,h2,h3⟩:=h
  unfold putAt
  by_cases e:p.1=k
  ·rw[if_pos e,if_pos (h1.symm.trans e)];exact⟨h1,h2,ry⟩
  ·rw[if_neg e,if_neg (λz=>e (h1.trans z))];exact⟨h1,h2,h3⟩
theorem KT.put{H:Hp}{kvs:List (List hV×V)}{xs:List (List hV×Addr×Value)}(r:KT H kvs xs)(k:List hV){b:Addr}{y:V}{u:Value}(hb:H b=some (.tup (k.map kV)))(ry:dy y u) :
  KT H (m5 kvs k y) (storedH xs k b u):=by
 have e:(kvs.any λkv=>decide (kv.1=k))=(atKey xs k).isSome:=by
  rw[xB,(r.val k).isSome_eq,mD]
 unfold m5 storedH
 rw[e]
 by_cases q:(atKey xs k).isSome=true
 ·rw[if_pos q,if_pos q];exact r.repl k ry
 ·rw[if_neg q,if_neg q];exact Paired.snoc r ⟨rfl,hb,ry⟩
theorem KT.keeps{H H':Hp}{kvs:List (List hV×V)}{xs:List (List hV×Addr×Value)}(r:KT H kvs xs)(ht:∀b ys,H b=some (.tup ys)->H' b=some (.tup ys)):KT H' kvs xs:=
 Paired.mapP r λ_ _ z=>⟨z.1,ht _ _ z.2.1,z.2.2⟩
section
variable{P:Program}{w:World}{H:Hp}{h:Heap}{a:Addr}
theorem L4{u:HO}(ok:pd P w H h)(e:Rd H a u):eR P w H h a u:=e.ok ok
theorem D9{kvs:List (hV×V)}(ok:pd P w H h)(e:Rd H a (.dK kvs)):kvs.length<=sizeLine/\(a==sysModules)=false/\∃vs,KV kvs vs/\h.DictOf (ff P w) a vs:=
 show eR P w H h a (.dK kvs) from L4 ok e
theorem v5{kvs:List (hV×V)}(ok:pd P w H h)(e:H a=some (.dK kvs)):kvs.length<=sizeLine/\(a==sysModules)=false/\∃vs,KV kvs vs/\h.DictOf (ff P w) a vs:=D9 ok (.inl e)
theorem zU{ks:List hV}(ok:pd P w H h)(e:H a=some (.tup (ks.map kV))):(tupleKind (ff P w)).is h ks a:=by
 obtain⟨_,its,r,o,h1,h2,n,h3⟩:=(show eR P w H h a (.tup (ks.map kV)) from ok a _ e)
 exact⟨o,its.toArray,n,h1,h2.1,h3,by simpa using yC r⟩
theorem GZ{kvs:List (List hV×V)}(ok:pd P w H h)(e:Rd H a (.dT kvs)):kvs.length<=sizeLine/\(a==sysModules)=false/\
  ∃xs,KT H kvs xs/\h.DictOfH (tupleKind (ff P w)) a xs:=by
 obtain⟨z,y,xs,r,o,es,ep,h1,h2,h3,h4,h5⟩:=(show eR P w H h a (.dT kvs) from L4 ok e)
 refine⟨z,y,xs,r,o,es,ep,h1,h2,h3,h4,λx hx=>?_,h5⟩
 have all:∀{l:List (List hV×V)} {m:List (List hV×Addr×Value)},KT H l m->∀x∈m,(tupleKind (ff P w)).is h x.1 x.2.1:=by
  intro l m q
  induction q with
  |nil=>intro x hx;exact nomatch hx
  |@cons p q ps qs hq t ih=>
   intro x hx
   rcases aV.mp hx with e|hx
   ·subst e
    exact zU ok (by rw[<-hq.1];exact hq.2.1)
   ·exact ih x hx
 exact all r x hx
theorem N5{kvs:List (List hV×V)}(ok:pd P w H h)(e:H a=some (.dT kvs)):kvs.length<=sizeLine/\(a==sysModules)=false/\
  ∃xs,KT H kvs xs/\h.DictOfH (tupleKind (ff P w)) a xs:=GZ ok (.inl e)
end
def AE(H:Hp)(a:Addr)(y:V)(r:Option V):Prop:=
 (∃kvs k,Rd H a (.dK kvs)/\y=kV k/\r=mx kvs k)\/∃kvs k b,Rd H a (.dT kvs)/\y=.ref b/\H b=some (.tup (k.map kV))/\r=mx kvs k
def Cp(H:Hp)(a:Addr)(y v:V)(H':Hp):Prop:=
 (∃kvs k,H a=some (.dK kvs)/\y=kV k/\kvs.length<sizeLine/\H'=upd H a (.dK (m5 kvs k v)))\/
 ∃kvs k b,H a=some (.dT kvs)/\y=.ref b/\H b=some (.tup (k.map kV))/\kvs.length<sizeLine/\H'=upd H a (.dT (m5 kvs k v))
theorem AE.k{H:Hp}{a:Addr}{kvs:List (hV×V)}{k:hV}(e:H a=some (.dK kvs)):AE H a (kV k) (mx kvs k):=.inl ⟨kvs,k,.inl e,rfl,rfl⟩
theorem Cp.k{H:Hp}{a:Addr}{kvs:List (hV×V)}{k:hV}{v:V}(e:H a=some (.dK kvs))(hl:kvs.length<sizeLine):Cp H a (kV k) v (upd H a (.dK (m5 kvs k v))):=.inl ⟨kvs,k,e,rfl,hl,rfl⟩
section
variable{X:Cx}{pins:List (Addr×Obj)}{σ:St}{H:Hp}{s:Shared}{a:Addr}{y v:V}{u r:Value}{o:Option V}{A:Around}{E:Value->Shared->Prop}
theorem bW.big(I:bW X pins σ H s):sysModules<s.heap.objs.size:=by
 have h:mainGlobals<s.heap.objs.size:=(I.mod.glob.keeps I.bk).lt
 exact rQ (by decide) h
theorem OV{Q:Value->Shared->Prop}(hu:A.units+1<cLine)(I:bW X pins σ H s)(g:AE H a y o)(ry:dy y u)(h:∀s',bW X pins σ H s'->Q (.bool o.isSome) s') :
  wpAny (model X.prog X.w) A (compareOp .In u (.ref a)) Q E s:=by
 rcases g with⟨kvs,k,e,ey,l⟩|⟨kvs,k,b,e,ey,eb,l⟩
 ·subst ey
  obtain⟨z,hd,vs,rel,dd⟩:=D9 I.hok e
  refine wpAny_in_of (AW ry) hd dd.mapOf ?_
  rw[<-(rel.val k).isSome_eq,<-l]
  exact h _ (I.tok _)
 ·subst ey
  cases(show u=Value.ref b from ry)
  obtain⟨z,hd,xs,rel,dd⟩:=GZ I.hok e
  refine wpAny_in_heap (tupleKind_room_in1 hu) (zU I.hok eb) hd dd ?_
  have q:=(rel.val k).isSome_eq
  rw[mD] at q
  rw[<-q,<-l]
  exact h _ (I.tok _)
theorem JN{Q:Value->Shared->Prop}(hu:A.units+1<cLine)(I:bW X pins σ H s)(g:AE H a y o)(ry:dy y u)(h:∀s',bW X pins σ H s'->Q (.bool (!o.isSome)) s') :
  wpAny (model X.prog X.w) A (compareOp .NotIn u (.ref a)) Q E s:=by
 rcases g with⟨kvs,k,e,ey,l⟩|⟨kvs,k,b,e,ey,eb,l⟩
 ·subst ey
  obtain⟨z,hd,vs,rel,dd⟩:=D9 I.hok e
  refine wpAny_notIn_of (AW ry) hd dd.mapOf ?_
  rw[<-(rel.val k).isSome_eq,<-l]
  exact h _ (I.tok _)
 ·subst ey
  cases(show u=Value.ref b from ry)
  obtain⟨z,hd,xs,rel,dd⟩:=GZ I.hok e
  refine wpAny_notIn_heap (tupleKind_room_in1 hu) (zU I.hok eb) hd dd ?_
  have q:=(rel.val k).isSome_eq
  rw[mD] at q
  rw[<-q,<-l]
  exact h _ (I.tok _)
theorem zI{h':Heap}{t':Nat}{ob:HO}(I:bW X pins σ H s)(mu:NU (H a))(hs:Heap.SameBut a s.heap h')(he:∃q,h'.get? a=some q)(new:eR X.prog X.w (upd H a ob) h' a ob) :
  bW X pins σ (upd H a ob) {s with heap:=h',toks:=t'}:=
 I.write (x:=a) (e:=a) mu (.inl rfl) (λb q hb z=>(hs.2 b hb).trans z) he new
theorem GY{P:Program}{w:World}{H':Hp}{h':Heap}{kvs:List (hV×V)}{vs:List (hV×Value)}(z:kvs.length<=sizeLine)(hd:(a==sysModules)=false)(rel:KV kvs vs)(dd:h'.DictOf (ff P w) a vs) :
  eR P w H' h' a (.dK kvs):=⟨z,hd,vs,rel,dd⟩
theorem E7{H':Hp}{Q:Unit->Shared->Prop}(hu:A.units+1<cLine)(I:bW X pins σ H s)(g:Cp H a y v H')(ry:dy y u)(rv:dy v r)(h:∀s',bW X pins σ H' s'->Q () s') :
  wpAny (model X.prog X.w) A (setItem (.ref a) u r) Q E s:=by
 rcases g with⟨kvs,k,e,ey,l,eH⟩|⟨kvs,k,b,e,ey,eb,l,eH⟩
 ·subst ey eH
  obtain⟨z,hd,vs,rel,dd⟩:=v5 I.hok e
  have hz:vs.length<=sizeLine:=by rw[<-rel.length];exact z
  have hl:(m5 kvs k v).length<=sizeLine:=by have:=pF kvs k v;lia
  refine wpAny_setItem_pairs (hsz:=hz) (AW ry) dd λh' dd' hs=>h _ ?_
  have he:∃q,h'.get? a=some q:=let⟨q,_,_,hq,_⟩:=dd';⟨q,hq⟩
  exact zI I (by rw[e];exact True.intro) hs he (GY hl hd (rel.put k rv) dd')
 ·subst ey eH
  cases(show u=Value.ref b from ry)
  obtain⟨z,hd,xs,rel,dd⟩:=N5 I.hok e
  have hz:xs.length<=sizeLine:=by rw[<-Paired.length rel];exact z
  have hl:(m5 kvs k v).length<=sizeLine:=by have:=pF kvs k v;lia
  refine wpAny_setItem_heap (hsz:=hz) (tupleKind_room_in1 hu) (zU I.hok eb) dd λh' dd' hs=>h _ ?_
  obtain⟨q,es,ep,hq,h2,h3,h4,_,h5⟩:=dd'
  refine zI I (by rw[e];exact True.intro) hs ⟨q,hq⟩ ⟨hl,hd,_,(rel.put k eb rv).keeps λc ys ec=>?_,q,es,ep,hq,h2,h3,h4,h5⟩
  rw[aB (LR ec e (λz=>nomatch z))]
  exact ec
end
section
variable{X:Cx}{pins:List (Addr×Obj)}{σ:St}{H:Hp}{s:Shared}{a:Addr}{kvs:List (hV×V)}{k:hV}{u:Value}{A:Around}{E:Value->Shared->Prop}
end
section
variable{X:Cx}{o i e value:Expr}{pos pos' tpos:Pos}{td ty tv:TE}
end
theorem AR{P:Program}{w:World}{H:Hp}(h:Heap)(hb:sysModules<h.objs.size):eR P w H (h.push {cls:=.type "dict",data:=.dict #[]}) h.objs.size (.dK []):=
 ⟨dA _,beq_eq_false_iff_ne.mpr (Ne.symm (bj hb)),[],.nil,Heap.DictOf.new h⟩
def Av:TE:=λ_ H Q=>∀p,H p=none->Q (.ref p) (upd H p (.dK []))
section
variable{X:Cx}{pos:Pos}
theorem HQ:PE X (.Dict [] [] pos) Av:=λpins s σ H Q I h=>
 wpAny_Dict_empty ⟨.ref s.heap.objs.size,_,I.laid (a:=s.heap.objs.size) (o:=.dK []) (t':=s.toks) (λ_ _ q=>az _ q) (aD _) (AR s.heap I.big),rfl,h _ (I.hok.fresh (aD _))⟩
end
def DA:List (TE×TE)->St->Hp->(List (V×V)->Hp->Prop)->Prop
 |[],_,H,Q=>Q [] H
 |(tk,tv)::r,σ,H,Q=>tk σ H λx H1=>tv σ H1 λy H2=>DA r σ H2 λps H3=>Q ((x,y)::ps) H3
abbrev VV:List (V×V)->List (Value×Value)->Prop:=Paired λp q=>dy p.1 q.1/\dy p.2 q.2
def NW(X:Cx)(pos:Pos)(keys:List (Option Expr))(values:List Expr)(trs:List (TE×TE)):Prop:=
 ∀(pins:List (Addr×Obj)) (s:Shared) (σ:St) (H:Hp) (Q:List (V×V)->Hp->Prop),bW X pins σ H s->DA trs σ H Q->
  wpAny (model X.prog X.w) X.A (evalPairs (pairTrees keys values X.env pos)) (λvs s'=>∃ps H',bW X pins σ H' s'/\VV ps vs/\Q ps H') X.xe s
theorem KM{X:Cx}{pos:Pos}:NW X pos [] [] []:=λpins s σ H Q I h=>pairTrees_nil_walk ⟨[],H,I,.nil,h⟩
theorem HY{X:Cx}{pos:Pos}{k v:Expr}{ks:List (Option Expr)}{vs:List Expr}{tk tv:TE}{trs:List (TE×TE)}(hk:PE X k tk)(hv:PE X v tv)(hr:NW X pos ks vs trs) :
  NW X pos (some k::ks) (v::vs) ((tk,tv)::trs):=λpins s σ H Q I h=>
 pairTrees_cons_walk (gZ (hk pins s σ H _ I h) λu s1 ⟨x,H1,I1,rx,q1⟩=>gZ (hv pins s1 σ H1 _ I1 q1) λw2 s2 ⟨y,H2,I2,ry,q2⟩=>
  gZ (hr pins s2 σ H2 _ I2 q2) λws s3 ⟨ps,H3,I3,rel,q3⟩=>⟨(x,y)::ps,H3,I3,.cons ⟨rx,ry⟩ rel,q3⟩)
def pI(kvs more:List (hV×V)):List (hV×V):=more.foldl (λacc kv=>m5 acc kv.1 kv.2) kvs
theorem KV.merge:∀{more:List (hV×V)} {rs:List (hV×Value)} {kvs:List (hV×V)} {vs:List (hV×Value)},KV more rs->KV kvs vs->KV (pI kvs more) (merged vs rs):=by
 intro more rs kvs vs r
 unfold KV at r
 induction r generalizing kvs vs with
 |nil=>intro q;exact q
 |@cons p q ps qs h t ih=>
  intro r0
  have e:KV (m5 kvs p.1 p.2) (stored vs q.1 q.2):=by
   have:=r0.put p.1 h.2
   rw[<-h.1];exact this
  exact ih e
theorem qM:∀(more kvs:List (hV×V)),(pI kvs more).length<=kvs.length+more.length
 |[],kvs=>by show kvs.length<=kvs.length+0;lia
 |p::r,kvs=>by
  have h1:=qM r (m5 kvs p.1 p.2)
  have h2:=pF kvs p.1 p.2
  show(pI (m5 kvs p.1 p.2) r).length<=_
  rw[bK];lia
theorem vT{P:Program}{w:World}:∀{kvs:List (hV×V)} {ws:List (Value×Value)},VV (kvs.map λkv=>(kV kv.1,kv.2)) ws->∃rs,Carries (ff P w) ws rs/\KV kvs rs
 |[],_,r=>by rw[bV] at r;cases r;exact⟨[],True.intro,.nil⟩
 |p::kvs,_,r=>by
  rw[ba] at r
  cases r with
  |@cons a b as bs h t=>
   obtain⟨rs,c,q⟩:=vT (P:=P) (w:=w) t
   obtain⟨b1,b2⟩:=b
   exact⟨(p.1,b2)::rs,⟨AW h.1,rfl,c⟩,.cons ⟨rfl,h.2⟩ q⟩
def IM(trs:List (TE×TE)):TE:=λσ H Q=>∀p,H p=none->DA trs σ (upd H p (.dK [])) λps H2=>H2 p=some (.dK [])/\∃kvs:List (hV×V),ps=kvs.map (λkv=>(kV kv.1,kv.2))/\kvs.length<=15/\Q (.ref p) (upd H2 p (.dK (pI [] kvs)))
theorem Kw{X:Cx}{pos:Pos}{keys:List (Option Expr)}{values:List Expr}{trs:List (TE×TE)}(h:NW X pos keys values trs)(hall:keys.all (·.isSome)=true)(hl:keys.length=values.length)(h0:keys≠[])
  (h15:keys.length<=15):PE X (.Dict keys values pos) (IM trs):=by
 intro pins s σ H Q I q
 have hn:=I.hok.fresh (aD s.heap.objs.size)
 have I1:=I.laid (a:=s.heap.objs.size) (o:=.dK []) (h':=s.heap.push {cls:=.type "dict",data:=.dict #[]}) (t':=s.toks) (λ_ _ q=>az _ q) (aD _) (AR s.heap I.big)
 refine wpAny_Dict_walk (knd:=ff X.prog X.w) hall hl h0 h15 (gZ (h pins _ σ _ _ I1 (q _ hn)) λws s2 ⟨ps,H2,I2,rel,e,kvs,ep,lk,q2⟩=>?_)
 subst ep
 obtain⟨rs,c,rk⟩:=vT (P:=X.prog) (w:=X.w) rel
 obtain⟨z,hd,vs0,r0,dd⟩:=v5 I2.hok e
 cases r0
 refine⟨rs,c,dd,λh' dd' hs=>⟨.ref s.heap.objs.size,_,?_,rfl,q2⟩⟩
 have hz:(pI [] kvs).length<=sizeLine:=by
  have h1:=qM kvs []
  rw[kE] at h1
  rw[sizeLine_eq];lia
 have he:∃q,h'.get? s.heap.objs.size=some q:=let⟨q,_,_,hq,_⟩:=dd';⟨q,hq⟩
 exact zI I2 (by rw[e];exact True.intro) hs he (GY hz hd (rk.merge .nil) dd')
section
variable{X:Cx}{pins:List (Addr×Obj)}{σ:St}{H:Hp}{s:Shared}{a:Addr}{y d:V}{u r:Value}{o:Option V}{A:Around}{E:Value->Shared->Prop}
end
section
variable{X:Cx}{o e f:Expr}{apos cpos:Pos}{td ty tx:TE}
end
section
variable{X:Cx}{pins:List (Addr×Obj)}{σ:St}{H:Hp}{s:Shared}{a:Addr}{kvs:List (hV×V)}{A:Around}{E:Value->Shared->Prop}
end
section
variable{X:Cx}{pins:List (Addr×Obj)}{σ:St}{H:Hp}{s:Shared}{a:Addr}{y:V}{u:Value}{A:Around}{E:Value->Shared->Prop}
end
section
variable{X:Cx}
end
section
variable{κ:Type}[DecidableEq κ]
theorem sy:∀{l:List κ} {k:κ},l.Nodup->¬k∈l->(l++[k]).Nodup
 |[],k,_,_=>by simp
 |a::r,k,h,hk=>by
  obtain⟨h1,h2⟩:=dO.mp h
  show(a::(r++[k])).Nodup
  refine dO.mpr ⟨λm=>?_,sy h2 λm=>hk (aV.mpr (Or.inr m))⟩
  rcases bu.mp m with q|q
  ·exact h1 q
  ·exact hk (aV.mpr (Or.inl (av.mp q).symm))
end
structure L9(fs:List Addr)(e T:Addr)(fl:Value)(T':Addr)(h h':Heap):Prop where
 keep:∀b o,h.get? b=some o->b≠e->b≠T->b∉fs->h'.get? b=some o
 slot:∀b o,h.get? b=some o->b≠e->b≠T->∃sl,h'.get? b=some {o with slots:=sl}
 exc:∀o,h.get? e=some o->h'.get? e=some (Obj.mapFields (·.setIfInBounds 1 (.ref T')) o)
 old:T≠e->∀o,h.get? T=some o->∃o' us,h'.get? T=some o'/\o'.data=.fields us/\us[3]?=some .none
 new:h.objs.size<=T'
 tb:∃oT ts,h'.get? T'=some oT/\oT.data=.fields ts/\ts[3]?=some fl
section
variable{M:Model}{A:Around}{E:Value->Shared->Prop}{s:Shared}{base:Heap}{env:Env}{outer:List Env}{L e T:Addr}{oe:Obj}{vs:Array Value}
theorem Cg{head:Value}{hn:Bool}{Q:Unit->Shared->Prop}(hfr:A.frames=some (env::outer))(hl:s.heap.FunFrames base (env::outer))(hf:env.frame=some L)
  (he:s.heap.get? e=some oe) (hd:oe.data=.fields vs) (hz:1<vs.size) (h:∀h' T',L9 (AC (env::outer)) e e (rawInt L) T' s.heap h'->Q () {s with heap:=h'}) :
  wpAny M A (frameOf env >>= λa=>entryPlaceOf L hn >>= λpl=>EntryCells.newEntry head a .none (rawInt L) .none pl >>= λb=>setField (.ref e) 1 b) Q E s:=by
 have nf:e∉AC (env::outer):=λz=>by
  obtain⟨_,o,q,k⟩:=hl.mem z
  rw[he] at q;cases q;exact k vs hd
 refine wpAny_bind (wpAny_frameOf_fun hfr hl hf λh1 s1=>wpAny_bind (wpAny_entryPlaceOf λpl ip=>?_))
 unfold EntryCells.newEntry newFields
 refine wpAny_bind (wpAny_newObj_type ?_ (ip.sizeOk5 _ _ _ _ _))
 have e1:h1.get? e=some oe:=(s1.2.1 e nf).trans he
 refine wpAny_setField (az _ e1) hd hz (h _ h1.objs.size ?_)
 have te:h1.objs.size≠e:=jz (aJ e1)
 have dd:=Obj.data_mapFields hd (·.setIfInBounds 1 (Value.ref h1.objs.size))
 have kk:∀(on:Obj) b o,b≠e->h1.get? b=some o->((h1.push on).update e (Obj.mapFields (·.setIfInBounds 1 (Value.ref h1.objs.size)))).get? b=some o:=λon b o n q=>by
  rw[cf _ _ (Ne.symm n)];exact az _ q
 refine⟨λb o q n _ nb=>kk _ b o n ((s1.2.1 b nb).trans q),λb o q n _=>?_,λo q=>?_,λn=>absurd rfl n,rP s1.1.symm,?_⟩
 ·obtain⟨sl,z⟩:=s1.2.2 b o q
  exact⟨sl,kk _ b _ n z⟩
 ·rw[he] at q;cases q
  exact dk _ (az _ e1) (Obj.isFreed_of_fields dd)
 ·refine⟨_,_,(cf _ _ (Ne.symm te)).trans (aZ h1 rfl),rfl,?_⟩
  rcases ip with rfl|⟨_,_,_,_,_,_,_,rfl⟩<;>simp
theorem Dd{Q:Unit->Shared->Prop}(hfr:A.frames=some (env::outer))(hl:s.heap.FunFrames base (env::outer))(hf:env.frame=some L)
  (he:s.heap.get? e=some oe) (hd:oe.data=.fields vs) (h1:vs[1]?=some .none) (h:∀h' T',L9 (AC (env::outer)) e e (rawInt L) T' s.heap h'->Q () {s with heap:=h'}) :
  wpAny M A (noteFrame (.ref e) env) Q E s:=by
 unfold noteFrame
 simp only[hf]
 refine wpAny_bind (wpAny_field he hd h1 ?_)
 rw[if_neg (by decide)]
 exact Cg hfr hl hf he hd (bM.mp h1).1 h
theorem FH{oT:Obj}{ts:Array Value}{Q:Unit->Shared->Prop}(hfr:A.frames=some (env::outer))(hl:s.heap.FunFrames base (env::outer))(hf:env.frame=some L)
  (he:s.heap.get? e=some oe) (hd:oe.data=.fields vs) (h1:vs[1]?=some (.ref T)) (hT:s.heap.get? T=some oT) (hdT:oT.data=.fields ts) (h3:ts[3]?=some .none) (hne:T≠e)
  (h:∀h' T',L9 (AC (env::outer)) e T (rawInt L) T' s.heap h'->Q () {s with heap:=h'}):wpAny M A (noteFrame (.ref e) env) Q E s:=by
 unfold noteFrame
 simp only[hf]
 refine wpAny_bind (wpAny_field he hd h1 ?_)
 rw[if_pos (show(Value.ref T != Value.none)=true from by simp)]
 refine wpAny_bind (wpAny_field hT hdT h3 ?_)
 rw[if_neg (show ¬((Value.none==rawInt L)=true) from by simp[rawInt])]
 refine wpAny_bind (wpAny_setField hT hdT (bM.mp h3).1 ?_)
 have ot:∀b,b≠T->(s.heap.update T (Obj.mapFields (·.setIfInBounds 3 Value.none))).get? b=s.heap.get? b:=λb n=>cf _ _ (Ne.symm n)
 have nT:∀b o,s.heap.get? b=some o->(∀ws,o.data≠.fields ws)->b≠T:=λb o q k z=>by
  rw[z,hT] at q;cases q;exact k ts hdT
 have dT:=Obj.data_mapFields hdT (·.setIfInBounds 3 Value.none)
 have gT:=dk (Obj.mapFields (·.setIfInBounds 3 Value.none)) hT (Obj.isFreed_of_fields dT)
 refine Cg (s:={s with heap:=s.heap.update T (Obj.mapFields (·.setIfInBounds 3 Value.none))}) hfr (hl.of_keeps λb o q k=>⟨o,(ot b (nT b o q k)).trans q,rfl⟩) hf ((ot e (Ne.symm hne)).trans he) hd
  (bM.mp h1).1 λh' T' x=>h h' T' ⟨λb o q n m nb=>?_,λb o q n m=>?_,λo q=>?_,λ_ o q=>?_,?_,x.tb⟩
 ·exact x.keep b o ((ot b m).trans q) n n nb
 ·exact x.slot b o ((ot b m).trans q) n n
 ·exact x.exc o ((ot e (Ne.symm hne)).trans q)
 ·obtain⟨sl,z⟩:=x.slot T _ gT hne hne
  exact⟨_,_,z,dT,by simp[(bM.mp h3).1]⟩
 ·have:=x.new
  rwa [show(s.heap.update T (Obj.mapFields (·.setIfInBounds 3 Value.none))).objs.size=s.heap.objs.size from Heap.size_after_update ..] at this
theorem zL{oT:Obj}{ts:Array Value}{Q:Unit->Shared->Prop}(he:s.heap.get? e=some oe)(hd:oe.data=.fields vs)(h1:vs[1]?=some (.ref T))(hT:s.heap.get? T=some oT)(hdT:oT.data=.fields ts)(h3:3<ts.size)
  (h:∀h',(∀b,b≠T->h'.get? b=s.heap.get? b)->h'.objs.size=s.heap.objs.size->(∃o us,h'.get? T=some o/\o.data=.fields us/\us[3]?=some .none)->Q () {s with heap:=h'}):wpAny M A (setFlight (.ref e) none) Q E s:=by
 refine wpAny_setFlight_none he hd h1 hT hdT h3 (h _ (λb n=>cf _ _ (Ne.symm n)) (Heap.size_after_update ..) ?_)
 have dT:=Obj.data_mapFields hdT (·.setIfInBounds 3 Value.none)
 exact⟨_,_,dk _ hT (Obj.isFreed_of_fields dT),dT,by simp[h3]⟩
theorem L9.land{fs:List Addr}{fl:Value}{T':Addr}{h h1 h2:Heap}(x:L9 fs e T fl T' h h1)(hT:∃o,h.get? T=some o)(he:∃o,h.get? e=some o)(k:∀b,b≠T'->h2.get? b=h1.get? b)(t:∃o us,h2.get? T'=some o/\o.data=.fields us/\us[3]?=some .none):L9 fs e T .none T' h h2:=by
 have lt:∀b o,h.get? b=some o->b≠T':=λb o q z=>by
  have:=aJ q
  have:=x.new
  rw[z] at *
  exact absurd (aX ‹T'<_› ‹_›) (cK _)
 refine⟨λb o q n m f=>(k b (lt b o q)).trans (x.keep b o q n m f),λb o q n m=>?_,λo q=>(k e (lt e o q)).trans (x.exc o q),λn o q=>?_,x.new,t⟩
 ·obtain⟨sl,z⟩:=x.slot b o q n m
  exact⟨sl,(k b (lt b o q)).trans z⟩
 ·obtain⟨o',us,z,y⟩:=x.old n o q
  exact⟨o',us,(k T (lt T o q)).trans z,y⟩
end
open Builtin Builtin.ObjectAttr
abbrev CC:List Value:=[.type "ValueError",.type "Exception",.type "BaseException",.type "object"]
section
variable{prog:Program}{w:World}{A:Around}{E:Value->Shared->Prop}{h:Heap}{g:Array GenState}{d:Drawn}{t:Nat}{os:OsState}
variable{nm q:Str}{C N B:Addr}{bs:List Value}{hdct:Bool}{sn:List Str}{sub:List Value}{ab:Bool}{col:Option Bool}{dd:Option Addr}{k0 k1 k2 k3 k5:Option Value}
abbrev Ci(nm q:Str)(C N B:Addr)(bs:List Value)(hdct:Bool)(sn:List Str)(sub:List Value)(ab:Bool)(col:Option Bool)(dd:Option Addr)(k0 k1 k2 k3 k5:Option Value):Obj:=
 excClassObj nm q C N bs (.ref B::CC) hdct sn sub ab col dd k0 k1 k2 k3 k5 "ValueError.__new__"
theorem DP(v:Value)(hv:CC.contains v=true):(Value.ref C::Value.ref B::CC).contains v=true:=by
 rw[gL,gL,hv,Bool.or_true,Bool.or_true]
theorem Jo(T:String)(hv:CC.contains (.type T)=false):(Value.ref C::Value.ref B::CC).contains (.type T)=false:=by
 rw[gL,gL,hv];rfl
theorem Jt{M:Model}{rest:List Value}{Q:Unit->Shared->Prop}(hC:h.get? C=some (Ci nm q C N B bs hdct sn sub ab col dd k0 k1 k2 k3 k5))(hq:Q () ⟨h,g,d,t,os⟩) :
  wpAny M A (checkBuiltinCall "ValueError.__new__" ⟨.ref C::rest,[]⟩) Q E ⟨h,g,d,t,os⟩:=by
 have F:=ix
 have c1:=DP (C:=C) (B:=B) (.type "ValueError") rfl
 have st:=F.noStar
 simp only[checkBuiltinCall,F.newKind,F.newSplit,F.newRow]
 repeat (first|refine wpAny_loadPart_at hC ?_|(refine wpAny_isSubtype_exc hC ?_;rw[c1])|refine wpAny_staticBase_exc hC ?_|refine wpAny_madeBy_exc hC ?_|simp only[bne_self_eq_false,Bool.false_eq_true,if_false]|wp_step)
 exact hq
theorem NL{R:Result->Shared->Prop}{rest:List Value}(hC:h.get? C=some (Ci nm q C N B bs hdct sn sub ab col dd k0 k1 k2 k3 k5))(hz:rest.length<=sizeLine)
  (hq:R (.ok (.ret (.ref (h.objs.size+1)))) ⟨(h.push {cls:=.type "tuple",data:=.seq rest.toArray}).push {cls:=.ref C,data:=.fields #[.ref h.objs.size,.none,.none,.none,.bool false,.none]},g,d,t,os⟩) :
  codeAny (model prog w) A (.builtin "ValueError.__new__" ⟨.ref C::rest,[]⟩) R ⟨h,g,d,t,os⟩:=by
 have F:=ix
 have en:=F.ends
 have c1:=DP (C:=C) (B:=B) (.type "ValueError") rfl
 have c2:=Jo (C:=C) (B:=B) "AttributeError" rfl
 have c3:=Jo (C:=C) (B:=B) "NameError" rfl
 refine codeAny_builtinAt F.entry ?_
 unfold Builtin.«BaseException.__new__»
 refine PySem.wpAt_bind ?_
 show PySem.wpAt _ _ _ (stack >>= _) _ _ _
 refine PySem.wpAt_bind (PySem.wpAt_stack λp below=>PySem.wpAt_of_wpAny ?_)
 wp_walk
 refine PySem.wpAt_of_wpAny ?_
 rw[F.owner]
 repeat (first|with_reducible refine wpAny_madeHere_exc F.canon hC ?_|with_reducible refine wpAny_loadPart_at hC ?_|(with_reducible refine wpAny_isSubtype_exc hC ?_;first|rw[c1]|rw[c2]|rw[c3])|wp_step)
 show R _ _
 rw[dG]
 exact hq
abbrev DO(C t:Addr):Obj:={cls:=.ref C,data:=.fields #[.ref t,.none,.none,.none,.bool false,.none]}
theorem LB{rest:List Value}{fI:Addr}{oI:Obj}{Q:Value->Shared->Prop}(hC:h.get? C=some (Ci nm q C N B bs hdct sn sub ab col dd k0 k1 k2 k3 k5))
  (hi:∀h',(∀b o,h.get? b=some o->h'.get? b=some o)->PySem.W.Looks (model prog w) h' (typeLookup (.ref C) "__init__") (some (.ref fI))) (hf:h.get? fI=some oI) (hfc:oI.cls=.type "function") (hz:rest.length<=sizeLine)
  (hq:wpAny (model prog w) (A.under (.builtin "type.__call__" ⟨.ref C::rest,[]⟩)) (call (.ref fI) (.ref (h.objs.size+1)::rest)) (λr s'=>r=.none/\Q (.ref (h.objs.size+1)) s') E
   ⟨(h.push {cls:=.type "tuple",data:=.seq rest.toArray}).push (DO C h.objs.size),g,d,t,os⟩) :
  wpAny (model prog w) A (call (.ref C) rest) Q E ⟨h,g,d,t,os⟩:=by
 have F:=ix
 have f1:=tc_lookup
 have f2:=tc_bind (.ref C)
 have hT:(⟨h,g,d,t,os⟩:Shared).TypeIs (.ref C) "type":=⟨_,hC,rfl⟩
 refine wpAny_call (codeAny_of_tree ?_)
 show wpAny _ _ (callAny (.ref C) _) _ _ _
 repeat (any_goals (first|assumption|with_reducible refine wpAny_loadPart_at hC ?_|wp_step))
 refine⟨rfl,?_⟩
 refine codeAny_call_builtin_at (Code.quiet_builtin _ (by decide +kernel)) entry_typeCall (wpAny_check_type_call_sub hC ?_)
 repeat (first|with_reducible refine wpAny_loadPart_at hC ?_|with_reducible refine wpAny_madeBy_exc hC ?_|wp_step)
 refine codeAny_call_builtin_code (Code.quiet_builtin _ F.quiet) (Jt hC ?_)
 refine NL hC hz ?_
 show wpAny _ _ _ _ _ _
 have kp:∀b o,h.get? b=some o->((h.push {cls:=.type "tuple",data:=.seq rest.toArray}).push (DO C h.objs.size)).get? b=some o:=λb o e=>az _ (az _ e)
 have hC1:=kp _ _ hC
 have gx:((h.push {cls:=.type "tuple",data:=.seq rest.toArray}).push (DO C h.objs.size)).get? (h.objs.size+1)=some {cls:=.ref C,data:=.fields #[.ref h.objs.size,.none,.none,.none,.bool false,.none]}:=by heap_get
 have cC:(Value.ref C::Value.ref B::CC).contains (.ref C)=true:=by simp
 unfold isInstance
 repeat (first|with_reducible refine wpAny_loadPart_at gx ?_|wp_step)
 refine wpAny_isSubtype_exc hC1 ?_
 rw[cC]
 repeat wp_step
 show wpAny _ _ (typeLookup (.ref C) _) _ _ _
 refine(hi _ kp).here ?_
 refine wpAny_holding (wpAny_bind ?_)
 unfold bindSpecial
 refine wpAny_bind (wpAny_typeOf (T:="function") ⟨_,kp _ _ hf,hfc⟩ ?_)
 rw[if_pos (by decide)]
 refine wpAny_pure (wpAny_bind (wpAny_mono hq (λr s' hr=>?_) λ_ _ x=>x))
 obtain⟨rfl,hQ⟩:=hr
 wp_walk
 exact hQ
theorem Jp{M:Model}{env:Env}{s:Shared}{x:Sem Value}{Q:Flow->Shared->Prop}(hh:A.handled=none)
  (hx:wpAny M A x (λv s1=>∃(e:Addr) (od:Option Addr) (u:Addr) (sl:Array (Option Value)) (C:Addr) (nm q:Str) (N B:Addr) (bs:List Value) (hdct:Bool) (sn:List Str) (sub:List Value) (ab:Bool) (col:Option Bool) (dd:Option Addr) (k0 k1 k2 k3 k5:Option Value),v=.ref e/\s1.heap.get? C=some (Ci nm q C N B bs hdct sn sub ab col dd k0 k1 k2 k3 k5)/\
   s1.heap.get? e=some ⟨.ref C,od,.fields #[.ref u,.none,.none,.none,.bool false,.none],sl⟩/\E (.ref e) s1) E s):wpAny M A (raiseStmt env (some x) none) Q E s:=by
 unfold raiseStmt
 refine wpAny_bind (wpAny_mono hx (λv s1 h1=>?_) λ_ _ x=>x)
 obtain⟨e,od,u,sl,C,nm,q,N,B,bs,hdct,sn,sub,ab,col,dd,k0,k1,k2,k3,k5,rfl,hC,he,hE⟩:=h1
 have c1:=DP (C:=C) (B:=B) (.type "BaseException") rfl
 obtain⟨hp,g,d,tk,os⟩:=s1
 repeat (first|with_reducible refine wpAny_loadPart_at he ?_|with_reducible refine wpAny_loadPart_at hC ?_|(with_reducible refine wpAny_isSubtype_exc hC ?_;rw[c1])|wp_step)
 exact wpAny_raiseNew_none hh hE
end
end L2
end
section
namespace L2
open PySem PySem.Spec PyProof.Rows PySem.W
section
variable{prog:Program}{w:World}{A:Around}{E:Value->Shared->Prop}{s:Shared}{K:Fg}{x C D:Addr}{ox od:Obj}{odo:Option Obj}{name:Str}
abbrev Mn:Value:=.builtin "BaseException.__getattribute__"
theorem Gz{tk:Tok}{A:Around}{E:Value->Shared->Prop}{Q:Unit->Shared->Prop}(X:K.In s.heap)(I:InstAt s.heap x ox C odo)(hb:mroIn K C (.type "BaseException")=some true)(hq:Q () s) :
  wpAny (model prog w) A (checkBuiltinCall "BaseException.__getattribute__" ⟨[.ref x,.str name tk],[]⟩) Q E s:=by
 have L0:=I.type (M:=model prog w)
 have LI:Looks (model prog w) s.heap (isInstance (.ref x) (.type "BaseException")) true:=L0.andThen (looks_mroIn X hb)
 have hk:builtinKind "BaseException.__getattribute__"=some .slot:=by decide +kernel
 have hsplit:splitId "BaseException.__getattribute__"=some ("BaseException","__getattribute__"):=by decide +kernel
 have ha:=F.args_bexc_ga (.ref x) (.str name tk)
 simp only[checkBuiltinCall,hk,hsplit]
 refine wpAny_bind ?_
 refine LI.here ?_
 repeat (any_goals (first|assumption|wp_step))
theorem Jr{tk:Tok}{fill expr:Bool}{v:Value}{s2:Shared}{Q:Value->Shared->Prop}(X:K.In s.heap)(I:InstAt s.heap x ox C odo)(ga:findIn K (.ref C) "__getattribute__"=some (some Mn))(gh:findIn K (.ref C) "__getattr__"=some none)(hb:mroIn K C (.type "BaseException")=some true)
  (hv:handedIn v=true) (h:∀A',wpAny (model prog w) A' (Builtin.«object.__getattribute__» ⟨[.ref x,.str name tk],[]⟩) (λfin s'=>fin=.done (.ret v)/\s'=s2) (λ_ _=>False) s) (q:Q v s2) :
  wpAny (model prog w) A (getAttrBy (.ref x) (.str name tk) fill expr) Q E s:=by
 have L0:=I.type (M:=model prog w)
 have L1:=looks_findIn (M:=model prog w) X ga
 have L2:=looks_findIn (M:=model prog w) X gh
 have hx2:(Mn==Value.builtin "object.__getattribute__")=false:=by decide +kernel
 unfold getAttrBy
 refine wpAny_holding (wpAny_bind (L0.here (wpAny_bind (L1.here ?_))))
 show wpAny _ _ (if(onTheHeap (.ref C)&&(Mn==Value.builtin "object.__getattribute__"))=true then _ else _) _ _ _
 rw[if_neg (by rw[hx2,Bool.and_false];exact Bool.noConfusion)]
 unfold getAttrByItsOwn hookBefore callGetattribute boundAndCalled
 refine wpAny_bind ?_
 show wpAny _ _ (typeLookup (.ref C) "__getattr__") _ _ _
 refine L2.here ?_
 refine wpAny_bind (wpAny_attempt (wpAny_holding ?_))
 rw[if_neg (by cases expr<;>exact Bool.noConfusion)]
 refine wpAny_bind (wpAny_of_eq (F.attr_ValueError.ga.bind _) ?_)
 refine wpAny_mono (Q:=λu s'=>u=v/\s'=s2) (E:=λ_ _=>False) (wpAny_call (codeAny_call_builtin F.attr_ValueError.ga.plain F.entry_bexc_ga (Gz X I hb (wpAny_mono (h _) (λfin s' z=>?_) λ_ _ z=>z.elim)))) (λu s' z=>?_) λ_ _ z=>z.elim
 ·obtain⟨rfl,rfl⟩:=z
  exact⟨rfl,rfl⟩
 ·obtain⟨rfl,rfl⟩:=z
  show wpAny _ _ (handedOut u) _ _ _
  rw[handedOut_of hv];exact wpAny_pure q
theorem GA{tk:Tok}{v:Value}{A':Around}{E:Value->Shared->Prop}(X:K.In s.heap)(I:InstAt s.heap x ox C odo)(hf:findObj K C odo name=some (.value v)) :
  wpAny (model prog w) A' (Builtin.«object.__getattribute__» ⟨[.ref x,.str name tk],[]⟩) (λfin s'=>fin=.done (.ret v)/\s'=s) E s:=by
 have L0:=I.type (M:=model prog w)
 have L1:=looks_find (M:=model prog w) X I hf
 unfold Builtin.«object.__getattribute__»
 refine wpAny_bind (wpAny_of_eq (show slotArgs _ _ _=pure (.ref x,[.str name tk]) from rfl) ?_)
 refine wpAny_bind (wpAny_pure (wpAny_bind (L0.here (wpAny_bind (L1.here ?_)))))
 exact wpAny_pure ⟨rfl,rfl⟩
theorem DQ{v:Value}{expr:Bool}{Q:Value->Shared->Prop}(X:K.In s.heap)(I:InstAt s.heap x ox C odo)(ga:findIn K (.ref C) "__getattribute__"=some (some Mn))(gh:findIn K (.ref C) "__getattr__"=some none)(hb:mroIn K C (.type "BaseException")=some true)
  (hf:findObj K C odo name=some (.value v)) (hh:handedIn v=true) (h:Q v {s with toks:=s.toks+1}):wpAny (model prog w) A (getAttr (.ref x) name expr) Q E s:=by
 unfold getAttr
 refine wpAny_bind (wpAny_mkText ?_)
 exact Jr (s:={s with toks:=s.toks+1}) X I ga gh hb hh (λA'=>GA (s:={s with toks:=s.toks+1}) X I hf) h
theorem Jq{tk:Tok}{g a v:Value}{A':Around}{E:Value->Shared->Prop}(X:K.In s.heap)(I:InstAt s.heap x ox C odo)(hf:findObj K C odo name=some (.bind g a))
  (h:∀A',wpAny (model prog w) A' (call g [a,.ref x,.ref C]) (λu s'=>u=v/\s'=s) E s) :
  wpAny (model prog w) A' (Builtin.«object.__getattribute__» ⟨[.ref x,.str name tk],[]⟩) (λfin s'=>fin=.done (.ret v)/\s'=s) E s:=by
 have L0:=I.type (M:=model prog w)
 have L1:=looks_find (M:=model prog w) X I hf
 unfold Builtin.«object.__getattribute__»
 refine wpAny_bind (wpAny_of_eq (show slotArgs _ _ _=pure (.ref x,[.str name tk]) from rfl) ?_)
 refine wpAny_bind (wpAny_pure (wpAny_bind (L0.here (wpAny_bind (L1.here ?_)))))
 show wpAny _ _ (holding [a] (call g [a,.ref x,.ref C]) >>= ret) _ _ _
 exact wpAny_bind (wpAny_holding (wpAny_mono (h _) (λu s' z=>by obtain⟨rfl,rfl⟩:=z;exact wpAny_pure ⟨rfl,rfl⟩) λ_ _ z=>z))
theorem DR{Q:Option Value->Shared->Prop}(hdct:hasDictIn K D=true)(ha:findIn K (.ref D) "__class__"=some (some (.builtin "object.__class__")))
  (hn:specialIn K (.builtin "object.__class__") "__get__"=some (some (.builtin "getset_descriptor.__get__"))) (htk:takesIn K (.builtin "object.__class__")=some true) (hm:mroIn K D (.type "object")=some true)
  (ga:findIn K (.ref D) "__getattribute__"=some (some Mn)) (gh:findIn K (.ref D) "__getattr__"=some none) (hb:mroIn K D (.type "BaseException")=some true)
  (X:K.In s.heap) (I:InstAt s.heap x ox D (some od)) (h:Q (some (.ref D)) {s with toks:=s.toks+1}):wpAny (model prog w) A (getAttr? (.ref x) "__class__") Q E s:=by
 have hf:findObj K D (some od) "__class__"=some (.bind (.builtin "getset_descriptor.__get__") (.builtin "object.__class__")):=findObj_data (by obtain⟨cd,hc,_⟩:=any_some hdct;rw[hc];rfl) ha hn htk
 unfold getAttr? getAttrBy?
 refine wpAny_bind (wpAny_mkText (wpAny_bind (wpAny_attempt ?_)))
 refine wpAny_mono (Jr (Q:=λu s'=>u=.ref D/\s'={s with toks:=s.toks+1}) (E:=λ_ _=>False) (v:=.ref D) (s2:={s with toks:=s.toks+1}) (s:={s with toks:=s.toks+1}) X I ga gh hb rfl (λA'=>Jq (s:={s with toks:=s.toks+1}) X I hf λA''=>wpAny_call (class_get (s:={s with toks:=s.toks+1}) (ox:=ox) (od:=some od) X I hm ⟨rfl,rfl⟩)) ⟨rfl,rfl⟩) (λu s' z=>?_) λ_ _ z=>z.elim
 obtain⟨rfl,rfl⟩:=z
 exact wpAny_pure h
theorem Ck{c:Value}{dep:Int}{tk:Tok}{Q:PySem.Fin->Shared->Prop}(hdct:hasDictIn K D=true)(ha:findIn K (.ref D) "__class__"=some (some (.builtin "object.__class__")))
  (hn:specialIn K (.builtin "object.__class__") "__get__"=some (some (.builtin "getset_descriptor.__get__"))) (htk:takesIn K (.builtin "object.__class__")=some true) (hm:mroIn K D (.type "object")=some true)
  (ga:findIn K (.ref D) "__getattribute__"=some (some Mn)) (gh:findIn K (.ref D) "__getattr__"=some none) (hb:mroIn K D (.type "BaseException")=some true)
  (X:K.In s.heap) (I:InstAt s.heap x ox D (some od)) (hty:Looks (model prog w) s.heap (typeOf c) (.type "type")) (his:Looks (model prog w) s.heap (isType c) true)
  (hne:(Value.ref D==c)=false) (hsub:Looks (model prog w) s.heap (isSubtype (.ref D) c) false) (h:Q (.done (.ret (.bool false))) {s with toks:=s.toks+1}) :
  wpAny (model prog w) A (Builtin.«isinstance.nested» ⟨[.ref x,c,.int dep tk],[]⟩) Q E s:=by
 obtain⟨cdD,hcD,_⟩:=any_some hdct
 have typ:Looks (model prog w) s.heap (isType (.ref D)) true:=by
  unfold clsIn at hcD
  split at hcD
  ·rename_i ho
   intro A' Q' E' s' k q
   unfold isType loadHead
   exact wpAny_bind (wpAny_loadPart (k _ _ (X _ _ ho)) (wpAny_pure q))
  ·cases hcD
 obtain⟨h0,g,d,tt,os⟩:=s
 have L0:=I.type (M:=model prog w)
 have LI:Looks (model prog w) h0 (isInstance (.ref x) c) false:=L0.andThen hsub
 unfold Builtin.«isinstance.nested»
 refine wpAny_bind (L0.at ?_)
 rw[if_neg (λq=>by rw[hne] at q;exact Bool.noConfusion q)]
 refine wpAny_bind (hty.at ?_)
 rw[if_pos (by decide)]
 k_delta "plainIsInstance"
 refine wpAny_bind (wpAny_bind (his.at ?_))
 simp only[Bool.not_true,Bool.false_eq_true,if_false]
 refine wpAny_bind (LI.at ?_)
 simp only[Bool.false_eq_true,if_false]
 refine wpAny_bind (DR hdct ha hn htk hm ga gh hb X I ?_)
 refine wpAny_bind (typ.at ?_)
 simp only[Bool.not_true,Bool.false_eq_true,if_false]
 refine wpAny_bind (wpAny_rule ?_)
 refine hsub.at ?_
 first
  |exact wpAny_pure h
  |exact wpAny_pure (wpAny_pure h)
  |exact wpAny_bind (wpAny_pure (wpAny_pure h))
end
end L2
end
section
namespace L2
open PySem PySem.Spec PyProof.Rows
open Builtin Builtin.ObjectAttr
theorem ES{P:Program}{w:World}{fs:List Addr}{H H':Hp}{h h':Heap}(ws:List Addr)(hok:pd P w H h)(hw:∀b∈ws,∃φ,H b=some (.ext φ))(frf:∀b∈fs,H b=none)
  (keep:∀b u,b∉ws->b∉fs->h.get? b=some u->h'.get? b=some u) (slot:∀b u,b∉ws->b∈fs->h.get? b=some u->∃sl,h'.get? b=some {u with slots:=sl})
  (thr:∀b∈ws,∃u,h'.get? b=some u) (same:∀b,b<h.objs.size->b∉ws->H' b=H b) (new:∀b,(h.objs.size<=b\/b∈ws)->∀o,H' b=some o->eR P w H' h' b o) :
  Un fs [] H H' h h'/\pd P w H' h':=by
 have nw:∀b,H b=none->b∉ws:=λb n z=>by obtain⟨φ,e⟩:=hw b z;rw[n] at e;cases e
 have st:∀b o,H b=some o->(∀φ,o≠.ext φ)->H' b=some o/\b∉ws:=λb o e n=>by
  have nb:b∉ws:=λz=>by obtain⟨φ,q⟩:=hw b z;rw[e] at q;cases q;exact n φ rfl
  exact⟨(same b (hok.lt e) nb).trans e,nb⟩
 refine⟨⟨λb o q n f _=>keep b o (nw b n) f q,λb o q n f _=>slot b o (nw b n) f q,λb o q n _=>(same b (aJ q) (nw b n)).trans n,λb o q _=>?_,λb xs e=>(st b _ e λ_ z=>by cases z).1,λb o u e=>(st b _ e λ_ z=>by cases z).1,
  λb ps e=>⟨#[],by rw[Array.append_empty];exact(st b _ e λ_ z=>by cases z).1⟩⟩,λa o e=>?_⟩
 ·by_cases hb:b∈ws
  ·exact thr b hb
  ·by_cases hf:b∈fs
   ·obtain⟨sl,z⟩:=slot b o hb hf q;exact⟨_,z⟩
   ·exact⟨o,keep b o hb hf q⟩
 ·by_cases hz:h.objs.size<=a
  ·exact new a (.inl hz) o e
  ·by_cases hb:a∈ws
   ·exact new a (.inr hb) o e
   ·have e':H a=some o:=(same a (Nat.lt_of_not_le hz) hb).symm.trans e
    refine(hok a o e').stay (λc u hc q=>?_) (λc q=>(st c _ q λ_ z=>by cases z).1) λc xs q=>(st c _ q λ_ z=>by cases z).1
    rcases hc with rfl|hc
    ·exact keep c u hb (λz=>by rw[frf c z] at e';cases e') q
    ·exact keep c u (st c _ hc λ_ z=>by cases z).2 (λz=>by rw[frf c z] at hc;cases hc) q
theorem zK{P:Program}{w:World}{H:Hp}{h:Heap}{a:Addr}{o:Obj}{φ:Heap->Prop}(p:φ h)(e:h.get? a=some o)(st:∀h1 h2:Heap,φ h1->(∀o,h1.get? a=some o->h2.get? a=some o)->φ h2):eR P w H h a (.ext φ):=⟨p,⟨o,e⟩,st⟩
def XF(x C:Addr)(od:Option Addr):HO:=.ext λh=>∃u,h.get? x=some ⟨.ref C,od,.fields #[.ref u,.none,.none,.none,.bool false,.none],#[]⟩
def XL(x C:Addr)(od:Option Addr):HO:=.ext λh=>∃vs sl,h.get? x=some ⟨.ref C,od,.fields vs,sl⟩
def TB(T:Addr):HO:=.ext λh=>∃o ts,h.get? T=some o/\o.data=.fields ts/\ts[3]?=some .none
def XD(dx:Addr)(fs:List (Str×V)):HO:=.ext λh=>fs.length<=1000/\∃mA,h.Ns1 dx mA/\(∀f,rA (fs.lookup f) (mA f))/\PySem.Within mA (fs.map (·.1))
section
variable{P:Program}{w:World}{H:Hp}{h:Heap}{x C T dx:Addr}{od:Option Addr}{fs:List (Str×V)}
theorem XF.ok{u:Addr}(e:h.get? x=some ⟨.ref C,od,.fields #[.ref u,.none,.none,.none,.bool false,.none],#[]⟩):eR P w H h x (XF x C od):=
 zK ⟨u,e⟩ e λh1 h2 ⟨u,q⟩ k=>⟨u,k _ q⟩
theorem XL.ok{vs:Array Value}{sl:Array (Option Value)}(e:h.get? x=some ⟨.ref C,od,.fields vs,sl⟩):eR P w H h x (XL x C od):=
 zK ⟨vs,sl,e⟩ e λh1 h2 ⟨vs,sl,z⟩ k=>⟨vs,sl,k _ z⟩
theorem TB.ok{o:Obj}{ts:Array Value}(e:h.get? T=some o)(d:o.data=.fields ts)(q:ts[3]?=some .none):eR P w H h T (TB T):=
 zK ⟨o,ts,e,d,q⟩ e λh1 h2 ⟨o,ts,z,y⟩ k=>⟨o,ts,k _ z,y⟩
theorem XD.ok{mA:Str->Option Value}(z:fs.length<=1000)(n:h.Ns1 dx mA)(r:∀f,rA (fs.lookup f) (mA f))(wi:PySem.Within mA (fs.map (·.1))):eR P w H h dx (XD dx fs):=by
 obtain⟨o,es,ep,e,c⟩:=id n
 refine zK ⟨z,mA,n,r,wi⟩ e λh1 h2 ⟨z,mA,⟨o,es,ep,e,c⟩,r,wi⟩ k=>⟨z,mA,⟨o,es,ep,k _ e,c⟩,r,wi⟩
theorem XF.get(ok:pd P w H h)(e:H x=some (XF x C od)):∃u,h.get? x=some ⟨.ref C,od,.fields #[.ref u,.none,.none,.none,.bool false,.none],#[]⟩:=(show eR P w H h x (XF x C od) from ok x _ e).1
theorem XL.get(ok:pd P w H h)(e:H x=some (XL x C od)):∃vs sl,h.get? x=some ⟨.ref C,od,.fields vs,sl⟩:=(show eR P w H h x (XL x C od) from ok x _ e).1
def AF(h:Heap)(x C:Addr)(od:Option Addr)(T:Addr):Prop:=∃vs sl,h.get? x=some ⟨.ref C,od,.fields vs,sl⟩/\vs[1]?=some (.ref T)
theorem TB.get(ok:pd P w H h)(e:H T=some (TB T)):∃o ts,h.get? T=some o/\o.data=.fields ts/\ts[3]?=some .none:=(show eR P w H h T (TB T) from ok T _ e).1
theorem XD.get(ok:pd P w H h)(e:H dx=some (XD dx fs)):fs.length<=1000/\∃mA,h.Ns1 dx mA/\(∀f,rA (fs.lookup f) (mA f))/\PySem.Within mA (fs.map (·.1)):=(show eR P w H h dx (XD dx fs) from ok dx _ e).1
end
structure tG(K:Fg)(C:Addr):Prop where
 ex:∃(nm q:Str) (N B:Addr) (bs:List Value) (sn:List Str) (sub:List Value) (ab:Bool) (col:Option Bool) (dd:Option Addr) (k0 k1 k2 k3 k5:Option Value),K.lookup C=some (Ci nm q C N B bs true sn sub ab col dd k0 k1 k2 k3 k5)
 ga:bw K (.ref C) "__getattribute__"=some (some Mn)
 gh:bw K (.ref C) "__getattr__"=some none
 sa:bw K (.ref C) "__setattr__"=some (some (.builtin "object.__setattr__"))
section
variable{prog:Program}{w:World}{A:Around}{E:Value->Shared->Prop}{K:Fg}{C x:Addr}{s:Shared}{R:Result->Shared->Prop}
theorem tG.cls(c:tG K C):∃cd B,mU K C=some cd/\cd.mro=.ref C::.ref B::CC/\cd.hasDict=true:=by
 obtain⟨nm,q,N,B,bs,sn,sub,ab,col,dd,k0,k1,k2,k3,k5,e⟩:=c.ex
 exact⟨_,B,by unfold mU;rw[e],rfl,rfl⟩
theorem tG.base(c:tG K C):dh K C (.type "BaseException")=some true:=by
 obtain⟨cd,B,e,m,_⟩:=c.cls
 unfold dh
 rw[e,fv,m];rfl
theorem tG.hd(c:tG K C):PySem.W.hasDictIn K C=true:=by
 obtain⟨cd,B,e,_,d⟩:=c.cls
 unfold PySem.W.hasDictIn
 rw[e];exact d
theorem OH{ox:Obj}{od:Option Obj}{f:Str}{tk:Tok}{v:Value}(X:K.In s.heap)(J:PySem.W.InstAt s.heap x ox C od)(c:tG K C)(n:jC K C f)
  (h:∀b,wpAny (model prog w) A.in1 (storeInOwnDict (.ref x) (.ref C) (.str f tk) f v b) (λfin s'=>match fin with|.done f=>R (.ok f) s'|.again c'=>c'.quiet=true/\codeAny (model prog w) A c' R s') (λe s'=>R (.error e) s') s) :
  codeAny (model prog w) A (.call (.builtin "object.__setattr__") ⟨[.ref x,.str f tk,v],[]⟩) R s:=by
 obtain⟨cd,B,hc,hm,hdd⟩:=c.cls
 have SF:=PySem.F.store_object
 have VF:=PySem.F.store_ValueError
 have lm:PySem.W.Looks (model prog w) s.heap (mroOf (.ref C)) cd.mro:=(kO X hc).andThen .now
 have sb:PySem.W.Looks (model prog w) s.heap (isInstance (.ref x) (.type "object")) true:=J.type.andThen (PySem.W.looks_mroIn X (by unfold dh;rw[hc,fv,hm];rfl))
 refine codeAny_call_builtin SF.slot.plain SF.entry (@PySem.W.check_slot (model prog w) _ _ s "object.__setattr__" "object" "__setattr__" (.ref x) [.str f tk,v] [] _ SF.kind SF.split sb (SF.args (.ref x) (.str f tk) v) ?_)
 rw[PySem.W.osa_eq,refuse_eq]
 refine wpAny_bind (wpAny_bind (J.type.here (wpAny_bind (lm.here ?_))))
 rw[hm,refuseLoop_ref,refuseLoop_ref,VF.passes]
 refine wpAny_pure (wpAny_bind (J.type.here (wpAny_bind ((PySem.W.looks_findIn X n).here (wpAny_bind ?_)))))
 exact wpAny_pure (h _)
end
theorem Aa{H:Hp}{x:Addr}{φ:Heap->Prop}(e:H x=some (.ext φ)):∀b∈[x],∃φ,H b=some (.ext φ):=λb hb=>by
 cases av.mp hb
 exact⟨φ,e⟩
theorem Ab{h:Heap}{x:Addr}{o:Obj}(e:h.get? x=some o):∀b∈[x],∃u,h.get? b=some u:=λb hb=>by
 cases av.mp hb
 exact⟨o,e⟩
section
variable{X:Cx}{pins:List (Addr×Obj)}{σ:St}{H:Hp}{s:Shared}{x C dx:Addr}{fs:List (Str×V)}{f:Str}{v y:V}{u:Value}{A:Around}{E:Value->Shared->Prop}
theorem Bs{y:V}{u:Value}{fs:List (Str×V)}{mA:Str->Option Value}(f:Str)(ry:dy y u)(r:∀f,rA (fs.lookup f) (mA f)):∀g,rA ((mZ f y fs).lookup g) (if g=f then some u else mA g):=λg=>by
 rw[ux]
 by_cases q:g=f
 ·rw[if_pos q,if_pos q];exact ry
 ·rw[if_neg q,if_neg q];exact r g
theorem xF{y:V}{u:Value}{fs:List (Str×V)}{mA:Str->Option Value}(f:Str)(wi:PySem.Within mA (fs.map (·.1))):PySem.Within (λg=>if g=f then some u else mA g) ((mZ f y fs).map (·.1)):=λg hg=>by
 by_cases q:g=f
 ·rw[q];exact(tV f y fs).1
 ·refine(tV f y fs).2 g (wi g λz=>hg ?_)
  show(if g=f then some u else mA g)=none
  rw[if_neg q];exact z
theorem DS{Q:Unit->Shared->Prop}(I:bW X pins σ H s)(e:H x=some (XF x C none))(c:tG X.K C)(n:jC X.K C f)(ry:dy y u)
  (h:∀s' dx,H dx=none->dx≠x->bW X pins σ (upd (upd H dx (XD dx [(f,y)])) x (XF x C (some dx))) s'->Q () s'):wpAny (model X.prog X.w) A (setAttr (.ref x) f u) Q E s:=by
 obtain⟨a,hx⟩:=XF.get I.hok e
 obtain⟨cd,B,hc,hm,hdd⟩:=c.cls
 refine PySem.W.set_plain I.kIn (od:=none) ⟨hx,rfl,rfl,True.intro⟩ c.sa (OH (s:={s with toks:=s.toks+1}) (od:=none) I.kIn ⟨hx,rfl,rfl,True.intro⟩ c n λb=>?_)
 have ne:x≠s.heap.objs.size:=bj (aJ hx)
 refine wpAny_bind (wpAny_pure (wpAny_bind (wpAny_bind (wpAny_loadPart hx (wpAny_bind (PySem.W.Looks.here (s:={s with toks:=s.toks+1}) (kO I.kIn hc) ?_))))))
 rw[hdd]
 show wpAny _ _ (alloc eV >>= λd=>(update x λo=>{cls:=o.cls,dict:=some d,data:=o.data,slots:=o.slots}) >>= λ_=>dictMade (.ref C) x d) _ _ _
 have hx1:(s.heap.push eV).get? x=_:=az _ hx
 refine wpAny_bind (wpAny_alloc (wpAny_bind (wpAny_update hx1 ?_)))
 refine wpAny_pure ?_
 have gd:((s.heap.push eV).update x λo=>{cls:=o.cls,dict:=some s.heap.objs.size,data:=o.data,slots:=o.slots}).get? s.heap.objs.size=some eV:=
  (Heap.get?_update_ne _ _ _ _ (Ne.symm ne)).trans (Heap.get?_push_at rfl rfl)
 have gx:((s.heap.push eV).update x λo=>{cls:=o.cls,dict:=some s.heap.objs.size,data:=o.data,slots:=o.slots}).get? x=some ⟨.ref C,some s.heap.objs.size,.fields #[.ref a,.none,.none,.none,.bool false,.none],#[]⟩:=
  dk _ hx1 rfl
 have nd:((s.heap.push eV).update x λo=>{cls:=o.cls,dict:=some s.heap.objs.size,data:=o.data,slots:=o.slots}).Ns s.heap.objs.size (λ_=>none):=⟨_,#[],_,gd,rfl,(λe he=>absurd he (by simp)),λ_=>rfl⟩
 refine wpAny_bind (wpAny_pure (wpAny_bind ?_))
 refine wpAny_nsSet1 (s:={s with heap:=(s.heap.push eV).update x λo=>{cls:=o.cls,dict:=some s.heap.objs.size,data:=o.data,slots:=o.slots},toks:=s.toks+1}) (Heap.Ns1.of_empty nd) λh' hn2 hs2=>?_
 obtain⟨oD,esD,epD,hoD,hdD,hcD⟩:=hn2.count (PySem.Within.cons f u PySem.Within.nil)
 refine wpAny_bind (wpAny_lookBehind hoD (by rw[hdD];exact pastItsLine_dict (cq hcD (by rw[bK,kE,sizeLine_eq];lia))) ?_)
 have gx2:=(hs2.2 x ne).trans gx
 have fr:=I.hok.fresh (aD s.heap.objs.size)
 obtain⟨un,ok⟩:=ES (P:=X.prog) (w:=X.w) (fs:=[]) (H':=upd (upd H s.heap.objs.size (XD s.heap.objs.size [(f,y)])) x (XF x C (some s.heap.objs.size))) (h':=h') [x] I.hok (Aa e) (λb z=>absurd z (by simp))
  (λb v nb _ q=>by
   have lt:=aJ q
   rw[hs2.2 b (bj lt)]
   exact(Heap.get?_update_ne _ _ _ _ λz=>nb (av.mpr z)).trans (az _ q)) (λb u _ z=>absurd z (by simp)) (Ab gx2) (λb lt nb=>by
   rw[aB (λz=>nb (av.mpr z)),aB (bj lt)]) (λb hb o q=>by
   by_cases k:b=x
   ·subst k
    rw[ag] at q;cases q
    exact XF.ok gx2
   ·rw[aB k] at q
    by_cases k2:b=s.heap.objs.size
    ·subst k2
     rw[ag] at q;cases q
     exact XD.ok (fs:=[(f,y)]) (mA:=λg=>if g=f then some u else none) (by show 1<=1000;decide) hn2 (Bs (fs:=[]) (mA:=λ_=>none) f ry λ_=>True.intro) (xF (fs:=[]) (mA:=λ_=>none) f λg hg=>absurd rfl hg)
    ·rw[aB k2] at q
     rcases hb with hb|hb
     ·rw[I.hok.fresh hb] at q;cases q
     ·exact absurd (av.mp hb) k)
 exact wpAny_pure (h _ _ fr (Ne.symm ne) (I.un (t':=s.toks+1+1) (un.mono (λb z=>absurd z (by simp)) λb z=>z) ok))
theorem GB{Q:Unit->Shared->Prop}(I:bW X pins σ H s)(e:H x=some (XF x C (some dx)))(ne:dx≠x)(ed:H dx=some (XD dx fs))(c:tG X.K C)(n:jC X.K C f)(hl:fs.length<1000)(ry:dy y u)
  (h:∀s',bW X pins σ (upd H dx (XD dx (mZ f y fs))) s'->Q () s'):wpAny (model X.prog X.w) A (setAttr (.ref x) f u) Q E s:=by
 obtain⟨a,hx⟩:=XF.get I.hok e
 obtain⟨z,mA,ns,r,wi⟩:=XD.get I.hok ed
 obtain⟨od,ho,hlk⟩:=tY ns
 obtain⟨cd,B,hc,hm,hdd⟩:=c.cls
 refine PySem.W.set_plain I.kIn (od:=some od) ⟨hx,rfl,rfl,ho⟩ c.sa (OH (s:={s with toks:=s.toks+1}) (od:=some od) I.kIn ⟨hx,rfl,rfl,ho⟩ c n λb=>?_)
 refine wpAny_bind (wpAny_pure (wpAny_bind (wpAny_bind (wpAny_loadPart hx (wpAny_bind (PySem.W.Looks.here (s:={s with toks:=s.toks+1}) (kO I.kIn hc) ?_))))))
 rw[hdd]
 refine wpAny_pure (a:=some dx) (wpAny_bind (wpAny_pure (wpAny_bind ?_)))
 refine wpAny_nsSet1 (s:={s with toks:=s.toks+1}) ns λh' hn2 hs2=>?_
 obtain⟨oD,esD,epD,hoD,hdD,hcD⟩:=hn2.count (PySem.Within.cons f u wi)
 refine wpAny_bind (wpAny_lookBehind hoD (by rw[hdD];exact pastItsLine_dict (cq hcD (by rw[bK,ai,sizeLine_eq];lia))) ?_)
 obtain⟨un,ok⟩:=ES (P:=X.prog) (w:=X.w) (fs:=[]) (H':=upd H dx (XD dx (mZ f y fs))) (h':=h') [dx] I.hok (Aa ed) (λb z=>absurd z (by simp))
  (λb u nb _ q=>(hs2.2 b λz=>nb (av.mpr z)).trans q) (λb u _ z=>absurd z (by simp)) (Ab hoD) (λb _ nb=>aB λz=>nb (av.mpr z)) (λb hb o q=>by
   by_cases k:b=dx
   ·subst k
    rw[ag] at q;cases q
    exact XD.ok (by have:=uw f y fs;lia) hn2 (Bs f ry r) (xF f wi)
   ·rw[aB k] at q
    rcases hb with hb|hb
    ·rw[I.hok.fresh hb] at q;cases q
    ·exact absurd (av.mp hb) k)
 exact wpAny_pure (h _ (I.un (t':=s.toks+1+1) (un.mono (λb z=>absurd z (by simp)) λb z=>z) ok))
theorem Pb{b:Bool}{Q:Value->Shared->Prop}(I:bW X pins σ H s)(ea:H x=some (XF x C (some dx))\/H x=some (XL x C (some dx)))(ed:H dx=some (XD dx fs))(c:tG X.K C)(n:jC X.K C f)(l:fs.lookup f=some v)
  (h:∀u s',bW X pins σ H s'->dy v u->Q u s'):wpAny (model X.prog X.w) A (getAttr (.ref x) f b) Q E s:=by
 obtain⟨z,mA,ns,r,wi⟩:=XD.get I.hok ed
 obtain⟨od,ho,hlk⟩:=tY ns
 obtain⟨u,hu,ru⟩:=rA.some_of (v:=v) (o:=mA f) (by rw[<-l];exact r f)
 have J:∃ox,PySem.W.InstAt s.heap x ox C (some od):=by
  rcases ea with ea|ea
  ·obtain⟨a,hx⟩:=XF.get I.hok ea;exact⟨_,hx,rfl,rfl,ho⟩
  ·obtain⟨vs,sl,hx⟩:=XL.get I.hok ea;exact⟨_,hx,rfl,rfl,ho⟩
 obtain⟨ox,J⟩:=J
 exact DQ I.kIn J c.ga c.gh c.base (PySem.W.findObj_own c.hd n rfl (by rw[hlk,hu])) (Fe ru) (h u _ (I.tok _) ru)
end
def Cn(P:Program)(w:World):GC:=λouter H s E e s'=>∃x C od T H',e=.ref x/\s'.os=s.os/\AllBare s'.gens/\Un (AC outer) [] H H' s.heap s'.heap/\pd P w H' s'.heap/\
 H' x=some (XL x C od)/\H' T=some (TB T)/\AF s'.heap x C od T/\T≠x/\od≠some x/\E (.ref C) od H'
def sC(E:Addr->XK):XK:=λcls od H'=>∀x C T',cls=.ref C->H' x=some (XL x C od)->od≠some x->H' T'=none->T'≠x->E x cls od (upd H' T' (TB T'))
theorem Ly{H:Hp}{x:Addr}{o:HO}(h:H x=some o):upd H x o=H:=by
 funext b
 by_cases c:b=x
 ·rw[c,ag,h]
 ·rw[aB c]
section
variable{X:Cx}{pins:List (Addr×Obj)}{σ:St}{H:Hp}{s:Shared}{x C T T':Addr}{od:Option Addr}{M:Model}{E:Value->Shared->Prop}
theorem Eg{T0:Addr}{φ:Heap->Prop}{h':Heap}{vs:Array Value}{sl:Array (Option Value)}(I:bW X pins σ H s)(hx:H x=some (.ext φ))(hT:T0=x\/H T0=some (TB T0))(hg:s.heap.get? x=some ⟨.ref C,od,.fields vs,sl⟩)(hz:1<vs.size)
  (L:L9 (AC X.stack) x T0 .none T' s.heap h'):bW X pins σ (upd (upd H T' (TB T')) x (XL x C od)) {s with heap:=h'}/\AF h' x C od T':=by
 have nx:T'≠x:=λz=>by
  have:=aJ hg
  have:=L.new
  rw[z] at this
  exact absurd (aX ‹x<_› this) (cK _)
 have hT0:∃φ,H T0=some (.ext φ):=by
  rcases hT with rfl|z
  ·exact⟨φ,hx⟩
  ·exact⟨_,z⟩
 have me:∀b,b∈[x,T0]↔b=x\/b=T0:=λb=>by simp
 obtain⟨un,ok⟩:=ES (P:=X.prog) (w:=X.w) (fs:=AC X.stack) (H':=upd (upd H T' (TB T')) x (XL x C od)) (h':=h') [x,T0] I.hok (λb hb=>by
   rcases(me b).mp hb with rfl|rfl
   ·exact⟨φ,hx⟩
   ·exact hT0) I.stkFree (λb u nb nf q=>L.keep b u q (λz=>nb ((me b).mpr (.inl z))) (λz=>nb ((me b).mpr (.inr z))) nf)
  (λb u nb nf q=>L.slot b u q (λz=>nb ((me b).mpr (.inl z))) (λz=>nb ((me b).mpr (.inr z)))) (λb hb=>by
   rcases(me b).mp hb with rfl|rfl
   ·exact⟨_,L.exc _ hg⟩
   ·rcases hT with rfl|z
    ·exact⟨_,L.exc _ hg⟩
    ·by_cases c:b=x
     ·subst c;exact⟨_,L.exc _ hg⟩
     ·obtain⟨o,ts,q,_⟩:=TB.get I.hok z
      obtain⟨o',us,q',_⟩:=L.old c o q
      exact⟨o',q'⟩)
  (λb lt nb=>by
   rw[aB (λz=>nb ((me b).mpr (.inl z))),aB (λz=>by rw[z] at lt;exact absurd (aX lt L.new) (cK _))])
  (λb hb o e=>by
   by_cases c:b=x
   ·subst c
    rw[ag] at e;cases e
    exact XL.ok (vs:=vs.setIfInBounds 1 (.ref T')) (sl:=sl) (L.exc _ hg)
   ·rw[aB c] at e
    by_cases c2:b=T'
    ·subst c2
     rw[ag] at e;cases e
     obtain⟨oT,ts,e1,e2,e3⟩:=L.tb
     exact TB.ok e1 e2 e3
    ·rw[aB c2] at e
     rcases hb with hb|hb
     ·rw[I.hok.fresh hb] at e;cases e
     ·rcases(me b).mp hb with z|z
      ·exact absurd z c
      ·subst z
       rcases hT with z|z
       ·exact absurd z c
       ·rw[z] at e;cases e
        obtain⟨o,ts,q,_⟩:=TB.get I.hok z
        obtain⟨o',us,q',d',z'⟩:=L.old c o q
        exact TB.ok q' d' z')
 exact⟨I.call' (s':={s with heap:=h'}) (ch:=[]) rfl un ok I.bare (λb z=>absurd z (by simp)),vs.setIfInBounds 1 (.ref T'),sl,L.exc _ hg,by simp[hz]⟩
theorem FG{Q:Unit->Shared->Prop}(I:bW X pins σ H s)(hst:X.stack=X.env::X.outer)(hfm:X.env.frame=some X.env.locals)(hx:H x=some (XF x C od))
  (h:∀s' T',H T'=none->T'≠x->bW X pins σ (upd (upd H T' (TB T')) x (XL x C od)) s'->AF s'.heap x C od T'->Q () s') :
  wpAny M X.A (noteFrame (.ref x) X.env) (λ_ s2=>wpAny M X.A (setFlight (.ref x) none) Q E s2) E s:=by
 obtain⟨u,hg⟩:=XF.get I.hok hx
 have hfr:X.A.frames=some (X.env::X.outer):=by rw[I.ok.frames,hst]
 have hfu:s.heap.FunFrames X.base (X.env::X.outer):=by rw[<-hst];exact I.stack
 refine Dd hfr hfu hfm hg rfl rfl λh1 T' L=>?_
 have nx:T'≠x:=λz=>by
  have:=aJ hg
  have:=L.new
  rw[z] at this
  exact absurd (aX ‹x<_› this) (cK _)
 obtain⟨oT,ts,t1,t2,t3⟩:=L.tb
 refine zL (s:={s with heap:=h1}) (L.exc _ hg) rfl (T:=T') (by simp) t1 t2 (bM.mp t3).1 λh2 k _ t=>?_
 have L2:=L.land ⟨_,hg⟩ ⟨_,hg⟩ k t
 rw[<-hst] at L2
 have r:=Eg (s:=s) (h':=h2) I hx (.inl rfl) hg (by simp) L2
 exact h {s with heap:=h2} T' (I.hok.fresh L.new) nx r.1 r.2
theorem Bf{Q:Unit->Shared->Prop}(I:bW X pins σ H s)(hst:X.stack=X.env::X.outer)(hfm:X.env.frame=some X.env.locals)(hx:H x=some (XL x C od))(hT:H T=some (TB T))(hfl:AF s.heap x C od T)(ne:T≠x)
  (h:∀s' T',H T'=none->T'≠x->bW X pins σ (upd H T' (TB T')) s'->AF s'.heap x C od T'->Q () s') :
  wpAny M X.A (noteFrame (.ref x) X.env) (λ_ s2=>wpAny M X.A (setFlight (.ref x) none) Q E s2) E s:=by
 obtain⟨vs,sl,hg,h1⟩:=hfl
 obtain⟨oT,ts,q1,q2,q3⟩:=TB.get I.hok hT
 have hz:1<vs.size:=(bM.mp h1).1
 have hfr:X.A.frames=some (X.env::X.outer):=by rw[I.ok.frames,hst]
 have hfu:s.heap.FunFrames X.base (X.env::X.outer):=by rw[<-hst];exact I.stack
 refine FH hfr hfu hfm hg rfl h1 q1 q2 q3 ne λh1 T' L=>?_
 have nx:T'≠x:=λz=>by
  have:=aJ hg
  have:=L.new
  rw[z] at this
  exact absurd (aX ‹x<_› this) (cK _)
 obtain⟨oT,ts,t1,t2,t3⟩:=L.tb
 refine zL (s:={s with heap:=h1}) (L.exc _ hg) rfl (T:=T') (by simp[hz]) t1 t2 (bM.mp t3).1 λh2 k _ t=>?_
 have L2:=L.land ⟨_,q1⟩ ⟨_,hg⟩ k t
 rw[<-hst] at L2
 have r:=Eg (s:=s) (h':=h2) I hx (.inr hT) hg hz L2
 rw[Ly (show(upd H T' (TB T')) x=some (XL x C od) by rw[aB (Ne.symm nx)];exact hx)] at r
 exact h {s with heap:=h2} T' (I.hok.fresh L.new) nx r.1 r.2
end
section
variable{P:Program}{w:World}{K:Fg}{mg:Str->Option Value}{base:Heap}{N:List Str}{qual:Str}{scope:Scope}{f:Addr}{cd:Value}{A:Around}{outer:List Env}{s:Shared}{H:Hp}{E:XK}
theorem oo:pD (Cn P w) (eE (Cn P w) P w K mg base N qual scope f cd A outer s H E) (sC λ_=>E):=by
 rintro pins σ H1 s1 e s' I ⟨x,C,od,T,H',rfl,os,bare,un,hok,hx,hT,hfl,ne,ndx,q⟩
 have I1:=I.call' (ch:=[]) os un hok bare λb z=>absurd z (by simp)
 refine wpAny_bind (Bf I1 rfl rfl hx hT hfl ne λs2 T' nT nx I2 fl2=>?_)
 exact⟨x,C,od,T',_,rfl,I2.os,I2.bare,I2.base,I2.hok,by rw[aB (Ne.symm nx)];exact hx,ag,fl2,nx,ndx,q x C T' rfl hx ndx nT nx⟩
theorem CY{pins:List (Addr×Obj)}{σ:St}{H1:Hp}{s1:Shared}{x C:Addr}{od:Option Addr}(I:bW (eE (Cn P w) P w K mg base N qual scope f cd A outer s H E) pins σ H1 s1)(hx:H1 x=some (XF x C od))(ndx:od≠some x)
  (q:∀T',H1 T'=none->T'≠x->E (.ref C) od (upd (upd H1 T' (TB T')) x (XL x C od))):(eE (Cn P w) P w K mg base N qual scope f cd A outer s H E).xe (.ref x) s1:=by
 refine wpAny_bind (FG I rfl rfl hx λs2 T' nT nx I2 fl2=>?_)
 exact⟨x,C,od,T',_,rfl,I2.os,I2.bare,I2.base,I2.hok,ag,by rw[aB nx,ag],fl2,nx,ndx,q T' nT nx⟩
end
structure OP(K:Fg)(C f:Addr):Prop where
 cl:tG K C
 init:bw K (.ref C) "__init__"=some (some (.ref f))
 fn:nU K (.ref f)=true
 kp:aF K (.ref C)=true
def ui(C:Addr)(sp:Sp)(t:TA):TE:=λσ H Q=>t σ H λvs H1=>∀x,H1 x=none->sp (.ref x::vs) (upd H1 x (XF x C none)) (λv H2=>v=.non/\Q (.ref x) H2) E0
def qO(K:Fg)(ta tv:TE)(f:Str):TS:=λD σ H=>tv σ H λy H1=>ta σ H1 λx H2=>∃a C,x=.ref a/\tG K C/\jC K C f/\
 ((H2 a=some (XF a C none)/\∀dx,H2 dx=none->dx≠a->D.nx σ (upd (upd H2 dx (XD dx [(f,y)])) a (XF a C (some dx))))\/
  ∃dx fs,H2 a=some (XF a C (some dx))/\dx≠a/\H2 dx=some (XD dx fs)/\fs.length<1000/\D.nx σ (upd H2 dx (XD dx (mZ f y fs))))
def nJ(K:Fg)(ta:TE)(f:Str):TE:=λσ H Q=>ta σ H λx H1=>∃a C dx fs v,x=.ref a/\(H1 a=some (XF a C (some dx))\/H1 a=some (XL a C (some dx)))/\H1 dx=some (XD dx fs)/\tG K C/\jC K C f/\fs.lookup f=some v/\Q v H1
def DB(K:Fg)(E:XK)(te:TE):TS:=λ_ σ H=>te σ H λv H1=>∃x C od,v=.ref x/\tG K C/\H1 x=some (XF x C od)/\od≠some x/\∀T',H1 T'=none->T'≠x->E (.ref C) od (upd (upd H1 T' (TB T')) x (XL x C od))
def Cs(X:Cx)(E:XK):Prop:=∀(pins:List (Addr×Obj)) (σ:St) (H1:Hp) (s1:Shared) (x C:Addr) (od:Option Addr),bW X pins σ H1 s1->H1 x=some (XF x C od)->od≠some x->
 (∀T',H1 T'=none->T'≠x->E (.ref C) od (upd (upd H1 T' (TB T')) x (XL x C od)))->X.xe (.ref x) s1
section
variable{X:Cx}{k:Nat}{f C:Addr}{fd:FuncData}{ps:List Str}{sp:Sp}{x:Str}{p pos apos:Pos}{e o value:Expr}{es:List Expr}{ta tv:TE}{t:TA}
theorem Gg{pins:List (Addr×Obj)}{σ:St}{H:Hp}{s:Shared}{Q:VK}{us:List Value}{vs:List V}(M:OP X.K C f)(F:dY X.prog X.w X.K X.mg X.base fB k f fd ps sp)(hr:dm (k+1) X.A)(hb:px X.K fd ps [])(hz:ps.length<=1000)
  (I:bW X pins σ H s) (r:cT vs us) (h:∀x,H x=none->sp (.ref x::vs) (upd H x (XF x C none)) (λv H2=>v=.non/\Q (.ref x) H2) E0) :
  wpAny (model X.prog X.w) X.A (call (.ref C) us) (EP X pins σ Q) X.xe s:=by
 have hq:=h (s.heap.objs.size+1) (I.hok.fresh (mB _))
 obtain⟨nm,q,N,B,bs,sn,sub,ab,col,dd,k0,k1,k2,k3,k5,lk⟩:=M.cl.ex
 have lf:∃oI,s.heap.get? f=some oI/\oI.cls=.type "function":=by
  have:=beq_iff_eq.mp M.fn
  obtain⟨oI,e1,e2⟩:=cG.mp this
  exact⟨oI,I.kIn _ _ e1,e2⟩
 obtain⟨oI,lf1,lf2⟩:=lf
 have kp:∀b u,s.heap.get? b=some u->((s.heap.push {cls:=.type "tuple",data:=.seq us.toArray}).push (DO C s.heap.objs.size)).get? b=some u:=λb u q=>az _ (az _ q)
 have gx:((s.heap.push {cls:=.type "tuple",data:=.seq us.toArray}).push (DO C s.heap.objs.size)).get? (s.heap.objs.size+1)=some (DO C s.heap.objs.size):=by heap_get
 have I2:bW X pins σ (upd H (s.heap.objs.size+1) (XF (s.heap.objs.size+1) C none)) {s with heap:=(s.heap.push {cls:=.type "tuple",data:=.seq us.toArray}).push (DO C s.heap.objs.size)}:=
  I.laid (t':=s.toks) kp (mB _) (XF.ok gx)
 have r2:cT (V.ref (s.heap.objs.size+1)::vs) (Value.ref (s.heap.objs.size+1)::us):=.cons rfl r
 have hl:(Value.ref (s.heap.objs.size+1)::us).length=ps.length:=by
  have e:=r2.length
  rw[F.len _ _ _ _ hq] at e
  exact e.symm
 have hl2:us.length<=sizeLine:=by
  have:us.length+1=ps.length:=hl
  rw[sizeLine_eq];lia
 obtain⟨hh,g,d,tk,os⟩:=s
 refine LB (I.kIn _ _ lk) (λh' k'=>PySem.W.looks_findIn (λb o q=>k' b o (I.kIn b o q)) M.init) lf1 lf2 hl2 ?_
 have hbi:=hb ⟨_,g,d,tk,os⟩ (Value.ref (hh.objs.size+1)::us) I2.kIn (by rw[d7];exact hl)
 rw[d7] at hbi
 refine wpAny_call (codeAny_mono (F.run _ X.stack _ _ ⟨Value.ref (hh.objs.size+1)::us,[]⟩ (Value.ref (hh.objs.size+1)::us) _ _ E0 (hr.make C us []) (I2.env0.make C us []) hbi r2 hq) λr s' hq'=>?_)
 cases r with
 |error e=>exact False.elim hq'
 |ok fl=>
  cases fl with
  |ret u=>
   obtain⟨v,H',I3,rv,ev,q3⟩:=I2.after hq'
   subst ev
   exact⟨rv,⟨V.ref (hh.objs.size+1),H',I3,rfl,q3⟩⟩
  |next=>exact False.elim hq'
  |brk=>exact False.elim hq'
  |cont=>exact False.elim hq'
theorem HR(M:OP X.K C f)(F:dY X.prog X.w X.K X.mg X.base fB k f fd ps sp)(hr:dm (k+1) X.A)(hg:Gl X x)(hm:X.mg x=some (.ref C))(hb:px X.K fd ps [])(hz:ps.length<=1000)
  (ha:PA X (e::es) t) (hdb:(x==("__debug__":Str))=false:=by decide) (he:starEach (e::es) X.env=(false,eval e X.env)::starEach es X.env:=by rfl) (hpl:(backTo pos (starEach es X.env)).any (·.1)=false:=by rfl) :
  PE X (.Call (.Name x p) (e::es) [] pos) (ui C sp t):=by
 intro pins s σ H Q I h
 refine wpAny_Call_Name_kw (vz I hg hm ?_ hdb)
 refine PySem.W.callWith_K (h₀:=X.base) I.ok.mod.kin M.kp (gZ (ha pos pins s σ H _ I h) λus s1 ⟨vs,H1,I1,r,q⟩=>⟨I1.kIn,?_⟩) he hpl
 exact Gg M F hr hb hz I1 r q
theorem KP{fl:Str}{pos':Pos}(ha:PE X o ta)(hv:PE X value tv)(hs:swapsWith value (some (.Attribute o fl pos')) pos.line X.env=pure false):PS X (.Assign [.Attribute o fl pos'] value pos) (qO X.K ta tv fl):=by
 intro pins s σ H D I h
 refine plainObj_wpAny_Assign_Attribute (gZ (hv pins s σ H _ I h) λu s1 ⟨y,H1,I1,ry,q⟩=>gZ (ha pins s1 σ H1 _ I1 q) λov s2 ⟨x,H2,I2,rx,a,C,ex,c,n,q2⟩=>?_) hs
 subst ex
 obtain rfl:ov=Value.ref a:=rx
 rcases q2 with⟨ea,q2⟩|⟨dx,fs,ea,ne,ed,l,q2⟩
 ·exact DS I2 ea c n ry λs3 dx hd hn I3=>⟨σ,_,I3,q2 dx hd hn⟩
 ·exact GB I2 ea ne ed c n l ry λs3 I3=>⟨σ,_,I3,q2⟩
theorem Kx{fl:Str}(he:PE X e ta)(hb:attributeBase e fl X.env (eval e X.env)=eval e X.env):PE X (.Attribute e fl pos) (nJ X.K ta fl):=by
 intro pins s σ H Q I h
 refine JH hb (gZ (he pins s σ H _ I h) λu s1 ⟨x,H1,I1,rx,a,C,dx,fs,v,ex,ea,ed,c,n,l,q⟩=>?_)
 subst ex
 obtain rfl:u=Value.ref a:=rx
 exact Pb I1 ea ed c n l λu' s2 I2 ru=>⟨v,H1,I2,ru,q⟩
theorem HZ{E:XK}{te:TE}(hl:Cs X E)(hh:X.A.handled=none)(he:PE X e te):PS X (.Raise (some e) none pos) (DB X.K E te):=by
 intro pins s σ H D I h
 rw[arm_exec_Raise]
 refine wpAny_bind (wpAny_standAt ?_)
 refine Jp hh (wpAny_bind (gZ (he pins s σ H _ I h) λu s1 ⟨v,H1,I1,rv,x,C,od,ev,c,hx,ndx,q⟩=>wpAny_bind (wpAny_standAt (wpAny_pure ?_))))
 subst ev
 obtain rfl:u=Value.ref x:=rv
 obtain⟨nm,q',N,B,bs,sn,sub,ab,col,dd,k0,k1,k2,k3,k5,lk⟩:=c.ex
 obtain⟨w0,hg⟩:=XF.get I1.hok hx
 exact⟨x,od,w0,_,C,nm,q',N,B,bs,true,sn,sub,ab,col,dd,k0,k1,k2,k3,k5,rfl,I1.kIn _ _ lk,hg,hl pins σ H1 s1 x C od I1 hx ndx q⟩
end
abbrev Cx.tryIn(X:Cx)(pl:List (Addr×Obj))(E:Value->Shared->Prop):Cx:={X with pn:=X.pn++pl,xe:=E}
abbrev Cx.inSuite(X:Cx)(x:Addr):Cx:={X with A:=X.A.mark (some (.ref x)),calm:=false,xe:=λ_ _=>False}
section
variable{X:Cx}{pins pins':List (Addr×Obj)}{σ:St}{H:Hp}{s:Shared}{E:Value->Shared->Prop}{x:Addr}
theorem Cx.Ok.tryIn(ok:X.Ok)(pl:List (Addr×Obj))(E:Value->Shared->Prop):(X.tryIn pl E).Ok:=
 ⟨ok.mod,ok.kind,ok.glob,ok.blt,ok.above,ok.inj,ok.has,ok.cab,ok.hd,ok.frames,ok.stk,ok.exf,ok.bs,ok.bsz,ok.noex,ok.exfs,ok.funs,ok.frf⟩
theorem Cx.Ok.unTry{pl:List (Addr×Obj)}(ok:(X.tryIn pl E).Ok):X.Ok:=
 ⟨ok.mod,ok.kind,ok.glob,ok.blt,ok.above,ok.inj,ok.has,ok.cab,ok.hd,ok.frames,ok.stk,ok.exf,ok.bs,ok.bsz,ok.noex,ok.exfs,ok.funs,ok.frf⟩
theorem bW.tryIn(I:bW X pins σ H s)(E:Value->Shared->Prop):bW (X.tryIn pins E) [] σ H s:=
 ⟨I.ok.tryIn pins E,I.os,I.bare,I.base,I.loc,I.cell,I.free,I.freeC,λp hp=>I.pin p (by rw[d7] at hp;exact hp),I.hok,I.len⟩
theorem bW.unTry(I:bW (X.tryIn pins E) pins' σ H s):bW X pins σ H s:=
 ⟨I.ok.unTry,I.os,I.bare,I.base,I.loc,I.cell,I.free,I.freeC,λp hp=>I.pin p (ck _ hp),I.hok,I.len⟩
theorem SP.unTry{D:oZ}{f:Flow}{s':Shared}(h:SP (X.tryIn pins E) pins' D f s'):SP X pins D f s':=by
 cases f with
 |next=>obtain⟨σ',H',I,q⟩:=h;exact⟨σ',H',I.unTry,q⟩
 |brk=>obtain⟨σ',H',I,q⟩:=h;exact⟨σ',H',I.unTry,q⟩
 |cont=>obtain⟨σ',H',I,q⟩:=h;exact⟨σ',H',I.unTry,q⟩
 |ret u=>obtain⟨v,σ',H',I,r,q⟩:=h;exact⟨v,σ',H',I.unTry,r,q⟩
theorem bW.inSuite(I:bW X pins σ H s)(x:Addr):bW (X.inSuite x) pins σ H s:=
 ⟨⟨I.ok.mod,I.ok.kind,I.ok.glob,I.ok.blt,I.ok.above,I.ok.inj,I.ok.has,I.ok.cab,(λz=>by cases z),I.ok.frames,I.ok.stk,I.ok.exf,I.ok.bs,I.ok.bsz,I.ok.noex,I.ok.exfs,I.ok.funs,I.ok.frf⟩,
  I.os,I.bare,I.base,I.loc,I.cell,I.free,I.freeC,I.pin,I.hok,I.len⟩
theorem bW.unSuite(I:bW (X.inSuite x) pins σ H s)(hd:X.calm=true->X.A.handled=none):bW X pins σ H s:=
 ⟨⟨I.ok.mod,I.ok.kind,I.ok.glob,I.ok.blt,I.ok.above,I.ok.inj,I.ok.has,I.ok.cab,hd,I.ok.frames,I.ok.stk,I.ok.exf,I.ok.bs,I.ok.bsz,I.ok.noex,I.ok.exfs,I.ok.funs,I.ok.frf⟩,
  I.os,I.bare,I.base,I.loc,I.cell,I.free,I.freeC,I.pin,I.hok,I.len⟩
theorem za{M:Model}{A:Around}{E:Value->Shared->Prop}{i:Nat}{n:Str}{pos:Pos}{Q:Unit->Shared->Prop}(I:bW X pins σ H s)(hN:X.N.Nodup)(hi:X.N[i]?=some n)(hk:X.env.kindOf n=some .local)
  (h:∀s',bW X pins (σ.set i none) H s'->Q () s'):wpAny M A (do bindName X.env n .none;unbindBehindTheSuite X.env n pos) Q E s:=by
 have hcls:(X.env.scope.kind==.class || (X.env.scope.kind==.module&&X.env.locals != X.env.globals))=false:=by rw[I.ok.kind];rfl
 refine wpAny_bind (wpAny_bindName (sN (v:=.non) I hN hi (.inl hk) rfl (λs1 I1=>?_) (.inr hk)))
 obtain⟨m,hn,hl⟩:=id I1.loc
 have hiσ:i<σ.length:=by rw[I.len];exact(ar.mp hi).1
 have hmn:m n=some .none:=by
  obtain⟨u,ru,q⟩:=hl i n .non hi (by rw[bB hiσ]) (.inl hk)
  obtain rfl:u=Value.none:=ru
  rcases q with⟨_,q⟩|⟨k,_⟩
  ·exact q
  ·rw[hk] at k;rcases k with k|k<;>cases k
 unfold unbindBehindTheSuite
 refine wpAny_onRaise ?_
 unfold unbindName
 refine wpAny_bind (wpAny_point (wpAny_bind ?_))
 unfold deleteName
 simp only[hk,hcls]
 rw[if_neg (by decide)]
 refine wpAny_bind (wpAny_nsDel_keeps hn λh2 v hn2 hs=>?_)
 rw[hmn]
 simp only[if_true,Option.isSome_some,Bool.not_true,Bool.false_eq_true,if_false]
 refine wpAny_pure (wpAny_point (h _ ?_))
 obtain⟨oL,_,_,hoL,_⟩:=id hn
 have hok:pd X.prog X.w H h2:=λb ob e=>by
  refine(I1.hok b ob e).stay (λc w' hc q=>(hs.2 c ?_).trans q) (λ_ q=>q) λ_ _ q=>q
  rintro rfl
  rcases hc with rfl|hc
  ·rw[I1.free] at e;cases e
  ·rw[I1.free] at hc;cases hc
 have neL:∀b o,X.s₀.heap.get? b=some o->b≠X.env.locals:=λb o e=>bj (aX (aJ e) I1.ok.above)
 refine⟨I1.ok,I1.os,I1.bare,⟨λb o e nn hb hx=>?_,λb o e nn hb hx=>?_,I1.base.free,λb o e hx=>?_,I1.base.tups,I1.base.frzs,I1.base.tbls⟩,⟨_,hn2,λj y v' e1 e2 e3=>?_⟩,λy c e=>?_,I1.free,I1.freeC,λp hp=>?_,hok,by simpa using I.len⟩
 ·exact(hs.2 b (neL b o e)).trans (I1.base.keep b o e nn hb hx)
 ·obtain⟨sl,e1⟩:=I1.base.slot b o e nn hb hx
  exact⟨sl,(hs.2 b (neL b o e)).trans e1⟩
 ·obtain⟨o',e1⟩:=I1.base.there b o e hx
  exact⟨o',(hs.2 b (neL b o e)).trans e1⟩
 ·have hj:j≠i:=λz=>by
   subst z
   rw[bB hiσ] at e2;cases e2
  rw[bP (Ne.symm hj)] at e2
  obtain⟨u',r',q⟩:=hl j y v' e1 (by rw[bP (Ne.symm hj)];exact e2) e3
  refine⟨u',r',?_⟩
  rcases q with⟨k,e⟩|⟨k,c,e,z⟩
  ·refine .inl ⟨k,?_⟩
   have:y≠n:=λe=>hj (wx hN e1 (e ▸ hi))
   simp[this,e]
  ·exact .inr ⟨k,c,e,z.sameBut hs (I1.cne y c e)⟩
 ·obtain⟨w',z⟩:=I1.cell y c e
  exact⟨w',z.sameBut hs (I1.cne y c e)⟩
 ·obtain⟨e,nn,ne,nf,d⟩:=I1.pin p hp
  exact⟨(hs.2 p.1 ne).trans e,nn,ne,nf,d⟩
end
structure Mc(K:Fg)(C0:Addr):Prop where
 ex:∃(nm q:Str) (N:Addr) (bs bm:List Value) (hdct:Bool) (sn:List Str) (sub:List Value) (ab:Bool) (col:Option Bool) (dd:Option Addr) (k0 k1 k2 k3 k5:Option Value) (nid:String),K.lookup C0=some (excClassObj nm q C0 N bs bm hdct sn sub ab col dd k0 k1 k2 k3 k5 nid)
 exc:dh K C0 (.type "BaseException")=some true
structure GM(K:Fg)(C C0:Addr):Prop where
 cl:tG K C
 er:Mc K C0
 sub:dh K C (.ref C0)=some true
def yu(n:Nat):St:=bh n none
def Lu(K:Fg)(C0:Addr)(n i:Nat)(tb:XK->TS)(th:TS):TS:=λD σ H=>
 tb (sC λx cls od H2=>∃C,cls=.ref C/\GM K C C0/\th {nx:=λσ2 H3=>D.nx (σ2.set i none) H3,rt:=D.rt} ((yu n).set i (some (.ref x))) H2) D σ H
section
variable{X:Cx}
theorem Eh{K:Fg}{C:Addr}{o:Obj}{cd:ClassData}{v:Value}{b:Bool}(lk:K.lookup C=some o)(ho:o.data=.cls cd)(e:dh K C v=some b):cd.mro.contains v=b:=by
 unfold dh mU at e
 rw[lk] at e
 obtain⟨oc,od,dt,sl⟩:=o
 cases ho
 rw[fv] at e
 split at e
 ·cases e
 ·exact Option.some.inj e
theorem LD{C C0 N N0 x:Addr}{nm q nm0 q0:Str}{bs bm bs0 bm0:List Value}{hdct hdct0:Bool}{sn sn0:List Str}{sub sub0:List Value}{ab ab0:Bool}{col col0:Option Bool}{dd dd0:Option Addr}{k0 k1 k2 k3 k5 j0 j1 j2 j3 j5:Option Value}{nid nid0:String}{M:Model}{A:Around}{E:Value->Shared->Prop}{h:Heap}{g:Array GenState}{d:Drawn}{t:Nat}{os:OsState}{o:Obj}{Q:Bool->Shared->Prop}
  (hC:h.get? C=some (excClassObj nm q C N bs bm hdct sn sub ab col dd k0 k1 k2 k3 k5 nid)) (hC0:h.get? C0=some (excClassObj nm0 q0 C0 N0 bs0 bm0 hdct0 sn0 sub0 ab0 col0 dd0 j0 j1 j2 j3 j5 nid0))
  (c1:(Value.ref C0::bm0).contains (.type "BaseException")=true) (c2:(Value.ref C::bm).contains (.ref C0)=true) (hx:h.get? x=some o) (hc:o.cls=.ref C) (hq:Q true ⟨h,g,d,t,os⟩):wpAny M A (excMatches (.ref x) (.ref C0)) Q E ⟨h,g,d,t,os⟩:=by
 have f:=tc_notTuple
 unfold excMatches
 repeat (first|(with_reducible refine wpAny_loadPart_at hx ?_;rw[hc])|with_reducible refine wpAny_loadPart_at hC0 ?_|(with_reducible refine wpAny_isSubtype_exc hC0 ?_;rw[c1])|(with_reducible refine wpAny_isSubtype_exc hC ?_;rw[c2])|wp_step)
 exact hq
theorem NK{K:Fg}{C C0 x:Addr}{M:Model}{A:Around}{E:Value->Shared->Prop}{s:Shared}{o:Obj}{Q:Bool->Shared->Prop}(KX:K.In s.heap)(m:GM K C C0)(hx:s.heap.get? x=some o)(hc:o.cls=.ref C)(q:Q true s):wpAny M A (excMatches (.ref x) (.ref C0)) Q E s:=by
 obtain⟨nm,q',N,B,bs,sn,sub,ab,col,dd,k0,k1,k2,k3,k5,lk⟩:=m.cl.ex
 obtain⟨nm0,q0,N0,bs0,bm0,hd0,sn0,sub0,ab0,col0,dd0,j0,j1,j2,j3,j5,nid0,lk0⟩:=m.er.ex
 have c1:=Eh lk0 rfl m.er.exc
 have c2:=Eh lk rfl m.sub
 obtain⟨h,g,d,t,os⟩:=s
 exact LD (KX _ _ lk) (KX _ _ lk0) c1 c2 hx hc q
theorem Np{body suite:List Stmt}{b0:Stmt}{cn n:Str}{np hpos pos:Pos}{C0:Addr}{i:Nat}{tb:XK->TS}{th:TS}(hc:X.calm=true)(hst:X.stack=X.env::X.outer)(hfm:X.env.frame=some X.env.locals)(hg:Gl X cn)(hm:X.mg cn=some (.ref C0))
  (hN:X.N.Nodup) (hi:X.N[i]?=some n) (hk:X.env.kindOf n=some .local) (hb:∀pl E' Ein,pD (Cn X.prog X.w) (X.tryIn pl E') Ein->jv (X.tryIn pl E') body (tb Ein)) (hs:∀x,jv (X.inSuite x) (b0::suite) th)
  (hdb:(cn==("__debug__":Str))=false:=by decide):PS X (.Try body [.ExceptHandler (some (.Name cn np)) (some n) (b0::suite) hpos] [] [] pos) (Lu X.K C0 X.N.length i tb th):=by
 intro pins s σ H D I h
 refine wpAny_Try_except ?_
 have hd:X.A.handled=none:=I.ok.hd hc
 have ps:pD (Cn X.prog X.w) (X.tryIn pins (λe s1=>wpAny (model X.prog X.w) X.A (noteFrame e X.env) (λ_ s2=>wpAny (model X.prog X.w) X.A (setFlight e none) (λ_ s3=>wpAny (model X.prog X.w) X.A (handleBy e X.env [.ExceptHandler (some (.Name cn np)) (some n) (b0::suite) hpos]) (SP X pins D) X.xe s3) X.xe s2) X.xe s1))
   (sC λx cls od H2=>∃C,cls=.ref C/\GM X.K C C0/\th {nx:=λσ2 H3=>D.nx (σ2.set i none) H3,rt:=D.rt} ((yu X.N.length).set i (some (.ref x))) H2):=by
  rintro pl σ1 H1 s1 e s' I1 ⟨x,C,od,T,H',rfl,os,bare,un,hok,hx,hT,hfl,ne,ndx,q⟩
  have I2:=(I1.call' (ch:=[]) os un hok bare λb z=>absurd z (by simp)).unTry
  refine Bf I2 hst hfm hx hT hfl ne λs2 T' nT nx I3 fl3=>?_
  obtain⟨C',ec,m,q2⟩:=q x C T' rfl hx ndx nT nx
  cases ec
  obtain⟨vs,sl,hg3,h13⟩:=fl3
  refine wpAny_handleBy_cons (codeAny_handlers_test (vz (X:=X.inSuite x) (I3.inSuite x) hg hm ?_ hdb)) (by intro z;cases z)
  refine NK I3.kIn m hg3 rfl (codeAny_handlers_suite_as ?_)
  have I4:bW X pins (yu X.N.length) (upd H' T' (TB T')) s2:=I3.weak (by unfold yu;rw[cv,I3.len]) λj v e=>by
   unfold yu at e
   rw[jh] at e
   split at e<;>cases e
  obtain⟨oT,ts,t1,t2,t3⟩:=TB.get I3.hok ag
  refine zL (s:=s2) hg3 rfl h13 t1 t2 (bM.mp t3).1 λh5 k5 z5 t5=>?_
  have I5:bW X pins (yu X.N.length) (upd H' T' (TB T')) {s2 with heap:=h5}:=by
   have hTT:(upd H' T' (TB T')) T'=some (TB T'):=ag
   obtain⟨un5,ok5⟩:=ES (P:=X.prog) (w:=X.w) (fs:=[]) (H':=upd H' T' (TB T')) (h':=h5) [T'] I4.hok (Aa hTT) (λb z=>absurd z (by simp))
    (λb u nb _ q=>(k5 b λz=>nb (av.mpr z)).trans q) (λb u _ z=>absurd z (by simp)) (let⟨_,_,e,_⟩:=t5;Ab e) (λb _ _=>rfl) (λb hb o e=>by
     rcases hb with hb|hb
     ·rw[I4.hok.fresh hb] at e;cases e
     ·rw[av.mp hb] at e ⊢
      rw[hTT] at e;cases e
      obtain⟨o,us,e1,e2,e3⟩:=t5
      exact TB.ok e1 e2 e3)
   exact I4.un (t':=s2.toks) (un5.mono (λb z=>absurd z (by simp)) λb z=>z) ok5
  refine sN (X:=X) (v:=.ref x) I5 hN hi (.inl hk) rfl (λs6 I6=>?_) (.inr hk)
  refine wpAny_mono (hs x pins s6 _ _ _ (I6.inSuite x) q2) (λf s7 h7=>?_) λ_ _ z=>False.elim z
  have hd':X.calm=true->X.A.handled=none:=λ_=>hd
  cases f with
  |next=>
   obtain⟨σ',H7,I7,q7⟩:=h7
   exact za (X:=X) (I7.unSuite hd') hN hi hk λs8 I8=>⟨_,_,I8,q7⟩
  |ret u=>
   obtain⟨v,σ',H7,I7,r7,q7⟩:=h7
   exact za (X:=X) (I7.unSuite hd') hN hi hk λs8 I8=>⟨v,_,_,I8,r7,q7⟩
  |brk=>obtain⟨_,_,_,q7⟩:=h7;exact False.elim q7
  |cont=>obtain⟨_,_,_,q7⟩:=h7;exact False.elim q7
 refine wpAny_mono (hb pins _ _ ps [] s σ H D (I.tryIn _) h) (λf s1 h1=>?_) λ_ _ z=>z
 have h2:=SP.unTry h1
 cases f with
 |next=>exact wpAny_pure h2
 |_=>exact h2
end
def lQ(K:Fg)(C D:Addr):Bool->Prop
 |true=>iH K (.ref C) D=true
 |false=>C≠D/\eZ K D=true/\eQ K (.ref D)=some (.type "type")/\hU K (.ref C) (.ref D)=some false
def Cz(K:Fg)(C:Addr):Prop:=bw K (.ref C) "__class__"=some (some (.builtin "object.__class__"))
section
variable{prog:Program}{w:World}{A:Around}{E:Value->Shared->Prop}{s:Shared}{K:Fg}{x C D:Addr}{ox od:Obj}
theorem Lz:mF K (.builtin "object.__class__") "__get__"=some (some (.builtin "getset_descriptor.__get__")):=by unfold mF eQ;kernel_rfl
theorem LA:PySem.W.takesIn K (.builtin "object.__class__")=some true:=by unfold PySem.W.takesIn mF eQ;kernel_rfl
theorem tG.obj(c:tG K C):dh K C (.type "object")=some true:=by
 obtain⟨cd,B,e,m,_⟩:=c.cls
 unfold dh
 rw[e,fv,m];rfl
theorem Cj{dep:Int}{tk:Tok}{b:Bool}{Q:PySem.Fin->Shared->Prop}(X:K.In s.heap)(J:PySem.W.InstAt s.heap x ox C (some od))(c:tG K C)(wy:Cz K C)(i:lQ K C D b)(h:∀t,Q (.done (.ret (.bool b))) {s with toks:=t}) :
  wpAny (model prog w) A (Builtin.«isinstance.nested» ⟨[.ref x,.ref D,.int dep tk],[]⟩) Q E s:=by
 cases b with
 |true=>exact PySem.W.isi_nested X J.type i (h s.toks)
 |false=>
  obtain⟨ne,cl,ty,sb⟩:=i
  refine Ck c.hd wy Lz LA c.obj c.ga c.gh c.base X J (PySem.W.looks_typeIn X ty) ?_ (by rw[beq_eq_false_iff_ne];intro z;cases z;exact ne rfl) (PySem.W.looks_subIn X sb) (h _)
  unfold eZ mU at cl
  split at cl
  ·rename_i ho
   intro A' Q' E' s' k q
   unfold isType loadHead
   exact wpAny_bind (wpAny_loadPart (k _ _ (X _ _ ho)) (wpAny_pure q))
  ·cases cl
theorem O9:typeOf (.type "ValueError")=pure (.type "type"):=by kernel_rfl
theorem LC{dep:Int}{tk:Tok}{Q:PySem.Fin->Shared->Prop}(X:K.In s.heap)(J:PySem.W.InstAt s.heap x ox C (some od))(c:tG K C)(h:∀t,Q (.done (.ret (.bool true))) {s with toks:=t}) :
  wpAny (model prog w) A (Builtin.«isinstance.nested» ⟨[.ref x,.type "ValueError",.int dep tk],[]⟩) Q E s:=by
 have L0:=J.type (M:=model prog w)
 have L3:PySem.W.Looks (model prog w) s.heap (isInstance (.ref x) (.type "ValueError")) true:=L0.andThen (PySem.W.looks_mroIn X (by
  obtain⟨cd,B,e,m,_⟩:=c.cls
  unfold dh
  rw[e,fv,m];rfl))
 obtain⟨hh,g,d,t,os⟩:=s
 unfold Builtin.«isinstance.nested»
 refine wpAny_bind (L0.at ?_)
 rw[if_neg (λq=>by cases beq_iff_eq.mp q),O9]
 refine wpAny_bind (wpAny_pure ?_)
 rw[if_pos (by decide)]
 k_delta "plainIsInstance"
 refine wpAny_bind (wpAny_bind (wpAny_pure ?_))
 simp only[Bool.not_true,Bool.false_eq_true,if_false]
 refine wpAny_bind (L3.at ?_)
 simp only[if_true]
 exact wpAny_pure (wpAny_pure (h t))
theorem Js{tp:Addr}{ot:Obj}{D1 D2:Addr}{n:Nat}{tk:Tok}{b1 b2:Bool}{Q:PySem.Fin->Shared->Prop}(X:K.In s.heap)(J:PySem.W.InstAt s.heap x ox C (some od))(c:tG K C)(wy:Cz K C)(i1:lQ K C D1 b1)(i2:lQ K C D2 b2)(ne:C≠tp)
  (ht:s.heap.get? tp=some ot) (hc:ot.cls=.type "tuple") (hd:ot.data=.seq #[.ref D1,.ref D2] n) (h:∀t,Q (.done (.ret (.bool (b1 || b2)))) {s with toks:=t}) :
  wpAny (model prog w) A (Builtin.«isinstance.nested» ⟨[.ref x,.ref tp,.int 0 tk],[]⟩) Q E s:=by
 have L0:=J.type (M:=model prog w)
 have an:∀{D b},lQ K C D b->Answers (λs=>K.In s.heap/\PySem.W.InstAt s.heap x ox C (some od)) (.ref x) (.ref D) b:=λ{D b} i dep tk=>λ_ _ _ _ s hs=>Cj hs.1.1 hs.1.2 c wy i hs.2
 obtain⟨hh,g,d,t,os⟩:=s
 have hT2:(⟨hh,g,d,t,os⟩:Shared).TypeIs (.ref tp) "tuple":=⟨_,ht,hc⟩
 have f1:=F.isi_sub_tuple
 unfold Builtin.«isinstance.nested»
 refine wpAny_bind (L0.at ?_)
 rw[if_neg (λq=>by cases beq_iff_eq.mp q;exact ne rfl)]
 repeat (any_goals (first|assumption|wp_step))
 rw[hd]
 refine wpAny_pure (wpAny_bind ?_)
 show wpAny _ _ (forIn (#[Value.ref D1,Value.ref D2]:Array Value) _ _) _ _ _
 rw[<-Array.forIn_toList]
 refine isinstance_items (P:=λs=>K.In s.heap/\PySem.W.InstAt s.heap x ox C (some od)) (dep:=0) (λs tk h=>h) [.ref D1,.ref D2] [b1,b2] _ _ ⟨an i1,an i2,True.intro⟩ ⟨X,J⟩ λtk'=>?_
 have e:[b1,b2].any id=(b1 || b2):=by simp
 have h':=h tk'
 rw[<-e] at h'
 cases hv:[b1,b2].any id with
 |true=>
  simp only[if_true]
  rw[hv] at h'
  repeat (any_goals (first|assumption|wp_step))
 |false=>
  simp only[Bool.false_eq_true,if_false]
  rw[hv] at h'
  repeat (any_goals (first|assumption|wp_step))
end
section
variable{prog:Program}{w:World}{A:Around}{R:Result->Shared->Prop}{s:Shared}
theorem zB{elt target iter:Expr}{ifs:List Expr}{scope:Scope}{pos:Pos}{it acc:Value}{env:Env}(I:Nat->Shared->Prop)
  (turn:∀n s,I n s->wpAny (model prog w) A (pyNext it) (λr s₁=>match r with
   |none=>R (.ok .next) s₁
   |some v=>wpAny (model prog w) A (letOwnedTupleGo target it v) (λ_ s₁=>wpAny (model prog w) A (assign target env v) (λ_ s₂=>
     wpAny (model prog w) A (forIn ifs true λc r=>if r=true then do let ok <-isTrue c env (eval c env);pure (ForInStep.yield ok) else pure (ForInStep.yield r)) (λok s₃=>
      if ok=true then wpAny (model prog w) A (eval elt env) (λx s₄=>
       wpAny (model prog w) A (call (.builtin "list.append") [acc,x]) (λ_ s₅=>∃m,m<n/\I m s₅) (λ_ _=>False) s₄) (λ_ _=>False) s₃
      else ∃m,m<n/\I m s₃) (λ_ _=>False) s₂) (λ_ _=>False) s₁) (λ_ _=>False) s₁) (λ_ _=>False) s)
  (n:Nat) (h:I n s) :
  codeAny (model prog w) A (.compLoop (.ListComp elt [⟨target,iter,ifs,0⟩] scope pos) 0 it acc env) R s:=by
 refine codeAny_loop rfl I (λn s hI=>?_) n h
 show wpAny _ A ((compTurn (.ListComp elt [⟨target,iter,ifs,0⟩] scope pos) 0 it acc env).onRaise (λx=>do noteFrame x env;theTreesLotGoes x)) _ _ s
 refine wpAny_noted ?_
 rw[compTurn_list]
 refine wpAny_bind (wpAny_standAt (wpAny_bind (wpAny_mono (turn n s hI) (λr s₁ h₁=>?_) λ_ _ h'=>h'.elim)))
 cases r with
 |none=>exact wpAny_pure h₁
 |some v=>
  refine wpAny_bind (wpAny_mono h₁ (λ_ s₁' h₁'=>?_) λ_ _ h'=>h'.elim)
  refine wpAny_bind (wpAny_mono h₁' (λ_ s₂ h₂=>wpAny_bind (wpAny_mono h₂ (λok s₃ h₃=>?_) λ_ _ h'=>h'.elim)) λ_ _ h'=>h'.elim)
  cases ok with
  |false=>exact wpAny_pure ⟨rfl,h₃⟩
  |true=>
   exact wpAny_bind (wpAny_bind (wpAny_mono h₃ (λx s₄ h₄=>wpAny_bind (wpAny_mono h₄ (λ_ s₅ h₅=>wpAny_pure (wpAny_pure ⟨rfl,h₅⟩)) λ_ _ h'=>h'.elim)) λ_ _ h'=>h'.elim))
end
theorem rC{env:Env}{f:Str×NameKind->List (Str×Addr)->Sem (ForInStep (List (Str×Addr)))}
  (hf:∀n k cs,f (n,k) cs=if(k==NameKind.free)=true then(do let c <-cellOf env n;pure (.yield ((n,c)::cs))) else pure (.yield cs)) :
  ∀(names:List (Str×NameKind)) (cs:List (Str×Addr)),(∀x∈names,x.2=NameKind.free->∃c,env.cells.lookup x.1=some c)->(∀n c,cs.lookup n=some c->env.cells.lookup n=some c)->
   ∃cl,(forIn names cs f:Sem (List (Str×Addr)))=pure cl/\(∀n c,cl.lookup n=some c->env.cells.lookup n=some c)/\(∀n,(cs.lookup n).isSome=true->(cl.lookup n).isSome=true)/\∀x∈names,x.2=NameKind.free->(cl.lookup x.1).isSome=true
 |[],cs,_,h2=>⟨cs,rfl,h2,λ_ h=>h,λ_ h=>nomatch h⟩
 |(n,k)::r,cs,h1,h2=>by
  have h1r:∀x∈r,x.2=NameKind.free->∃c,env.cells.lookup x.1=some c:=λx hx=>h1 x (cX _ hx)
  rw[List.forIn_cons,hf]
  by_cases hk:k=NameKind.free
  ·subst hk
   obtain⟨c,hc⟩:=h1 (n,NameKind.free) cJ rfl
   have h2':∀m d,((n,c)::cs).lookup m=some d->env.cells.lookup m=some d:=λm d hd=>by
    rw[fq] at hd
    cases e:(m==n) with
    |true=>
     rw[e] at hd
     have:m=n:=by simpa using e
     rw[this];cases hd;exact hc
    |false=>rw[e] at hd;exact h2 m d hd
   obtain⟨cl,e1,e2,e3,e4⟩:=rC hf r ((n,c)::cs) h1r h2'
   refine⟨cl,?_,e2,λm hm=>e3 m ?_,λx hx hk=>?_⟩
   ·rw[<-e1]
    have ec:cellOf env n=pure c:=by unfold cellOf;rw[hc]
    rw[ec]
    rfl
   ·rw[fq]
    cases e:(m==n) with
    |true=>rfl
    |false=>exact hm
   ·rcases aV.mp hx with rfl|hx
    ·exact e3 n (by rw[fq,beq_self_eq_true];rfl)
    ·exact e4 x hx hk
  ·have hb:(k==NameKind.free)=false:=by simpa using hk
   obtain⟨cl,e1,e2,e3,e4⟩:=rC hf r cs h1r h2
   refine⟨cl,?_,e2,e3,λx hx hk'=>?_⟩
   ·rw[<-e1,hb]
    rfl
   ·rcases aV.mp hx with rfl|hx
    ·exact absurd hk' hk
    ·exact e4 x hx hk'
theorem vU{scope:Scope}{env:Env}(h1:∀x∈scope.names,x.2=NameKind.free->∃c,env.cells.lookup x.1=some c) :
  ∃cl,closureFor scope env=pure cl/\(∀n c,cl.lookup n=some c->env.cells.lookup n=some c)/\∀x∈scope.names,x.2=NameKind.free->(cl.lookup x.1).isSome=true:=by
 obtain⟨cl,e1,e2,_,e4⟩:=rC (env:=env) (f:=λ(x:Str×NameKind) cs=>if(x.2==NameKind.free)=true then(do let c <-cellOf env x.1;pure (.yield ((x.1,c)::cs))) else pure (.yield cs)) (λ_ _ _=>rfl) scope.names [] h1 (λ_ _ h=>nomatch h)
 refine⟨cl,Eq.trans (show closureFor scope env=((forIn scope.names ([]:List (Str×Addr)) λ(x:Str×NameKind) cs=>if(x.2==NameKind.free)=true then(do let c <-cellOf env x.1;pure (.yield ((x.1,c)::cs))) else pure (.yield cs)) >>= λcs=>pure cs) from rfl) ?_,e2,e4⟩
 rw[e1]
 all_goals rfl
theorem jG{env:Env}{x:Str}:∀(names:List (Str×NameKind)),
  (names.map λ(n,k)=>if(k==NameKind.free&&env.scope.kind==.function&&env.kindOf n==some .cell) then(n,NameKind.cell) else(n,k)).lookup x =
   (names.lookup x).map λk=>if(k==NameKind.free&&env.scope.kind==.function&&env.kindOf x==some .cell) then NameKind.cell else k
 |[]=>rfl
 |(n,k)::r=>by
  have ih:=jG (env:=env) (x:=x) r
  show iq x ((if(k==NameKind.free&&env.scope.kind==.function&&env.kindOf n==some .cell)=true then(n,NameKind.cell) else(n,k))::_)=_
  cases hx:x==n with
  |true=>
   have e:x=n:=by simpa using hx
   subst e
   by_cases hc:(k==NameKind.free&&env.scope.kind==.function&&env.kindOf x==some .cell)=true
   ·rw[if_pos hc];simp only[fq,hx,cR,if_pos hc]
   ·rw[if_neg hc];simp only[fq,hx,cR,if_neg hc]
  |false=>
   by_cases hc:(k==NameKind.free&&env.scope.kind==.function&&env.kindOf n==some .cell)=true
   ·rw[if_pos hc];simp only[fq,hx];exact ih
   ·rw[if_neg hc];simp only[fq,hx];exact ih
theorem IB{scope:Scope}{env:Env}{x:Str}(hcell:∀y∈scope.names,y.2≠NameKind.cell)(h:(relabel scope env).names.lookup x=some .cell\/(relabel scope env).names.lookup x=some .free):scope.names.lookup x=some .free:=by
 have e:(relabel scope env).names.lookup x=_:=jG (env:=env) (x:=x) scope.names
 rw[e] at h
 cases q:scope.names.lookup x with
 |none=>rw[q] at h;rcases h with h|h<;>cases h
 |some k=>
  rw[q] at h
  by_cases hk:k=NameKind.free
  ·rw[hk]
  ·have hb:(k==NameKind.free)=false:=by simpa using hk
   simp only[cR,hb,Bool.false_and,Bool.false_eq_true,if_false] at h
   rcases h with h|h
   ·cases h;exact absurd rfl (hcell _ (dj q))
   ·exact h
theorem Lj{scope:Scope}{env:Env}{x:Str}(h:(relabel scope env).names.lookup x≠none):scope.names.lookup x≠none:=by
 have e:(relabel scope env).names.lookup x=_:=jG (env:=env) (x:=x) scope.names
 intro q
 rw[e,q] at h
 exact h rfl
structure vK(sc:Scope)(N:List Str)(scope:Scope)(NY:List Str)(js:List Nat):Prop where
 kind:scope.kind=.function
 cell:∀y∈scope.names,y.2≠NameKind.cell
 names:∀x∈scope.names,x.2=NameKind.local->scope.names.lookup x.1=some .local
 free:∀x∈scope.names,x.2=NameKind.free->sc.names.lookup x.1=some .cell\/sc.names.lookup x.1=some .free
 pre:NY.take N.length=N
 cap:∀p∈N.zipIdx,js.contains p.2=true\/scope.names.lookup p.1=none\/scope.names.lookup p.1=some .free
def Ea(js:List Nat)(k:Nat)(σ:St):St:=js.foldl (λs j=>s.set j none) σ++bh k none
theorem qy:∀(js:List Nat) (σ:St),(js.foldl (λs j=>s.set j none) σ).length=σ.length
 |[],_=>rfl
 |j::r,σ=>by rw[oK,qy r,dC]
theorem yw:∀(js:List Nat) (σ:St) (i:Nat) (v:V),(js.foldl (λs j=>s.set j none) σ)[i]?=some (some v)->σ[i]?=some (some v)/\js.contains i=false
 |[],σ,i,v,h=>⟨h,rfl⟩
 |j::r,σ,i,v,h=>by
  rw[oK] at h
  obtain⟨h1,h2⟩:=yw r _ i v h
  by_cases e:j=i
  ·subst e
   by_cases hj:j<σ.length
   ·rw[bB hj] at h1;cases h1
   ·rw[cO (by rw[dC];lia)] at h1;cases h1
  ·rw[bP e] at h1
   refine⟨h1,?_⟩
   rw[gL,h2]
   have:(i==j)=false:=by simpa using λz=>e z.symm
   rw[this];rfl
theorem JR{js:List Nat}{k:Nat}{σ:St}{i:Nat}{v:V}(h:(Ea js k σ)[i]?=some (some v)):σ[i]?=some (some v)/\js.contains i=false:=by
 unfold Ea at h
 by_cases hi:i<σ.length
 ·rw[cZ (by rw[qy];exact hi)] at h
  exact yw js σ i v h
 ·rw[cg (by rw[qy];lia),jh] at h
  split at h<;>cases h
theorem JS{js:List Nat}{k:Nat}{σ:St}:(Ea js k σ).length=σ.length+k:=by
 unfold Ea
 rw[aN,qy,cv]
def fc(X:Cx)(NY:List Str)(scope:Scope)(cl:List (Str×Addr))(C:Addr)(s₀:Shared)(H₀:Hp)(fp:List Addr):Cx:=
 {X with N:=NY,s₀:=s₀,H₀:=H₀,env:=compEnvC scope cl C X.env,outer:=X.stack,ex:=fp,fn:=λ_=>false,pn:=[],xe:=λ_ _=>False}
def ET(X:Cx)(ifs:List Expr)(t:TT):Prop:=
 ∀(pins:List (Addr×Obj)) (s:Shared) (σ:St) (H:Hp) (Q:Bool->Hp->Prop),bW X pins σ H s->t σ H Q->
  wpAny (model X.prog X.w) X.A (forIn ifs true λc r=>if r=true then do let ok <-isTrue c X.env (eval c X.env);pure (ForInStep.yield ok) else pure (ForInStep.yield r)) (TP X pins σ Q) X.xe s
def rL:TT:=λ_ H Q=>Q true H
theorem KF{X:Cx}:ET X [] rL:=λ_ _ _ H _ I h=>wpAny_tests_nil ⟨H,I,h⟩
theorem KG{X:Cx}{c:Expr}{t:TT}(h:PT X c t):ET X [c] t:=λpins s σ H Q I q=>wpAny_tests_one (h pins s σ H Q I q)
def vg(D:Addr)(tc:TT)(te:TE):TS:=λE σ H=>tc σ H λb H1=>if b=true then te σ H1 λy H2=>∃ys,H2 D=some (.lst ys)/\ys.length<sizeLine/\E.nx σ (upd H2 D (.lst (ys++[y]))) else E.nx σ H1
def kC(js:List Nat)(k:Nat)(wi:TI)(g:TG)(tc:TT)(te:TE):TE:=λσ H Q=>wi σ H λJ H1=>∀D,H1 D=none->
 ∃W:Nat->Nat->St->Hp->Prop,(∃m,W 0 m (Ea js k σ) (upd H1 D (.lst [])))/\∀i m σ H,W i m σ H->
  (J.stop i H/\Q (.ref D) H)\/(J.go i H/\∃N:St->Hp->Prop,(∀σ' H',N σ' H'->∃m',m'<m/\W (i+1) m' σ' H')/\∀x H',J.yld i H x H'->g x σ H' λσ2 H2=>vg D tc te {nx:=N,rt:=λ_ _=>False,ct:=N,bk:=λ_ H'=>Q (.ref D) H'} σ2 H2)
section
variable{X:Cx}{pins:List (Addr×Obj)}{σ:St}{H2:Hp}{s₂:Shared}{N NY:List Str}{sc scope:Scope}{cl:List (Str×Addr)}{C:Addr}{fp:List Addr}{js:List Nat}{k:Nat}
theorem JJ(I2:bW X pins σ H2 s₂)(hf:∀b∈fp,rR X pins H2 b)(hfl:∀b∈fp,∃o,s₂.heap.get? b=some o)(hkind:scope.kind=.function)(hcell:∀y∈scope.names,y.2≠NameKind.cell)
  (hcl1:∀n c,cl.lookup n=some c->X.env.cells.lookup n=some c) (hcl2:∀x∈scope.names,x.2=NameKind.free->(cl.lookup x.1).isSome=true) (hC:s₂.heap.objs.size<=C) :
  (fc X NY scope cl C s₂ H2 fp).Ok where
 mod:=I2.ok.mod
 kind:=hkind
 glob:=I2.ok.glob
 blt:=I2.ok.blt
 above:=hC
 inj:=λx y c h1 h2=>I2.ok.inj x y c (hcl1 x c h1) (hcl1 y c h2)
 has:=λx hx=>by
  have e:scope.names.lookup x=some .free:=IB (env:=X.env) hcell hx
  exact iT.mp (hcl2 (x,.free) (dj e) rfl)
 cab:=λ_ _ h _=>nomatch h
 hd:=I2.ok.hd
 frames:=I2.ok.frames
 stk:=.inl rfl
 exf:=λb hb=>by
  obtain⟨o,ho⟩:=hfl b hb
  exact⟨bj (aX (aJ ho) hC),λx c h=>(hf b hb).2.2.2.2.1 x c (hcl1 x c h)⟩
 bs:=I2.bs
 bsz:=cq I2.ok.bsz I2.sz
 noex:=λb o e hb=>by
  rcases(hf b hb).2.2.2.1 with z|z
  ·exact I2.ok.noex b o e z
  ·exact absurd (aX (aJ e) (cq I2.ok.bsz z)) (cK _)
 exfs:=λb hb z=>by
  rcases aV.mp (I2.stkSub b z) with e|e
  ·exact(hf b hb).2.1 e
  ·exact(hf b hb).2.2.1 e
 funs:=I2.stack
 frf:=I2.stkFree
variable{elt iter target:Expr}{ifs:List Expr}{pos:Pos}{it:Addr}{tn:Nat->Heap->Prop}{J:It}{g:TG}{tc:TT}{te:TE}{Q:VK}{RR:Value->Addr->Result->Shared->Prop}{E:Value->Shared->Prop}
theorem vV(ok:vK sc N scope NY js)(hsc:X.env.scope=sc)(hN:X.N=N)(hk:NY.length=N.length+k)(hc:X.calm=true)(I2:bW X pins σ H2 s₂)(T:AG X.prog X.w X.K target J fp it tn)(st2:tn 0 s₂.heap)(f2:∀b∈fp,rR X pins H2 b)
  (hcl1:∀n c,cl.lookup n=some c->X.env.cells.lookup n=some c) (hcl2:∀x∈scope.names,x.2=NameKind.free->(cl.lookup x.1).isSome=true)
  (hg:∀cl C s₀ H₀ fp,PG (fc X NY scope cl C s₀ H₀ fp) target g) (hi:∀cl C s₀ H₀ fp,ET (fc X NY scope cl C s₀ H₀ fp) ifs tc) (he:∀cl C s₀ H₀ fp,PE (fc X NY scope cl C s₀ H₀ fp) elt te)
  (loop:∀D,H2 D=none->
   ∃W:Nat->Nat->St->Hp->Prop,(∃m,W 0 m (Ea js k σ) (upd H2 D (.lst [])))/\∀i m σ H,W i m σ H->
    (J.stop i H/\Q (.ref D) H)\/(J.go i H/\∃N:St->Hp->Prop,(∀σ' H',N σ' H'->∃m',m'<m/\W (i+1) m' σ' H')/\∀x H',J.yld i H x H'->g x σ H' λσ2 H2=>vg D tc te {nx:=N,rt:=λ_ _=>False,ct:=N,bk:=λ_ H'=>Q (.ref D) H'} σ2 H2))
  (hRR:∀D C H' s' m,s'.heap.Ns C m->bW X pins σ H' s'->H' C=none->C≠X.env.locals->X.s₀.heap.objs.size<=C->(∀x c,X.env.cells.lookup x=some c->c≠C)->(∀p∈X.pn++pins,p.1≠C)->D≠C->Q (.ref D) H'->RR (.ref D) C (.ok .next) s') :
  wpAny (model X.prog X.w) X.A (newList []) (λacc s₃=>wpAny (model X.prog X.w) X.A (newFunctionEnv scope X.env.globals cl [] X.env.qual none .none (some X.env)) (λcenv s₄=>
   codeAny (model X.prog X.w) X.A (.compStart (.ListComp elt [⟨target,iter,ifs,0⟩] scope pos) 0 (.ref it) acc {cenv with scope:=relabel scope X.env}) (RR acc cenv.locals) s₄) E s₃) E s₂:=by
 refine wpAny_newObj_type (wpAny_newFunctionEnv ok.cell (by intro y hy;simp at hy) (λh₁ hns₁ hsb₁=>?_) ok.kind)
 dsimp only at hns₁ hsb₁ ⊢
 generalize hG:s₂.heap.push {cls:=.type "list",dict:=none,data:=.seq ([]:List Value).toArray}=G at hns₁ hsb₁ ⊢
 have hC:G.objs.size=s₂.heap.objs.size+1:=by rw[<-hG,dG]
 have hDC:s₂.heap.objs.size≠G.objs.size:=by rw[hC];exact bj (nh _)
 have hCle:s₂.heap.objs.size<=G.objs.size:=by rw[hC];exact mB _
 have below:∀b,b<s₂.heap.objs.size->b≠G.objs.size:=λb hb=>by rw[hC];exact bj (fU hb)
 have old:∀b o,s₂.heap.get? b=some o->h₁.get? b=some o:=λb o e=>hsb₁.extBut b o (below b (aJ e)) (az _ (hG ▸ az _ e))
 have hacc:h₁.get? s₂.heap.objs.size=some {cls:=.type "list",dict:=none,data:=.seq ([]:List Value).toArray}:=hsb₁.extBut _ _ hDC (az _ (hG ▸ aZ _ rfl))
 have hfl:∀b∈fp,∃o,s₂.heap.get? b=some o:=λb hb=>let⟨o,ho,_⟩:=T.obj 0 _ st2 b hb;⟨o,ho⟩
 have fD:H2 s₂.heap.objs.size=none:=I2.hok.fresh (aD _)
 have fC:H2 G.objs.size=none:=I2.hok.fresh hCle
 have I4:bW (fc X NY scope cl G.objs.size s₂ H2 fp) [] (Ea js k σ) (upd H2 s₂.heap.objs.size (.lst [])) {s₂ with heap:=h₁,toks:=s₂.toks+([]:List (Str×Value)).length}:=by
  refine⟨JJ I2 f2 hfl ok.kind ok.cell hcl1 hcl2 hCle,rfl,I2.bare,Un.laid old (aD _) fD,⟨_,hns₁,λi y v h1 h2 h3=>?_⟩,λx c h=>?_,?_,λx c h=>?_,λp hp=>absurd (show p∈([]:List (Addr×Obj)) from hp) (by simp),I2.hok.laid old (aD _) ⟨dA _,[],0,.nil,hacc⟩,?_⟩
  ·obtain⟨e1,e2⟩:=JR h2
   have hi:i<N.length:=by
    have:=(ar.mp e1).1
    rw[I2.len,hN] at this;exact this
   have hy:N[i]?=some y:=by
    rw[<-ok.pre,gf hi];exact h1
   have hz:(y,i)∈N.zipIdx:=by
    rw[List.mem_zipIdx_iff_getElem?];exact hy
   have nn:scope.names.lookup y≠none:=Lj (env:=X.env) (x:=y) (by
    rcases h3 with z|z|z
    ·intro q;rw[show(relabel scope X.env).names.lookup y=_ from z] at q;cases q
    ·intro q;rw[show(relabel scope X.env).names.lookup y=_ from z] at q;cases q
    ·intro q;rw[show(relabel scope X.env).names.lookup y=_ from z] at q;cases q)
   have hfr:scope.names.lookup y=some .free:=by
    rcases ok.cap (y,i) hz with z|z|z
    ·rw[e2] at z;cases z
    ·exact absurd z nn
    ·exact z
   have hX:=ok.free (y,.free) (dj hfr) rfl
   rw[<-hsc] at hX
   obtain⟨m,hn,hl⟩:=I2.loc
   obtain⟨u,ru,lk⟩:=hl i y v (by rw[hN];exact hy) e1 (by
    rcases hX with z|z
    ·exact .inr (.inl z)
    ·exact .inr (.inr z))
   refine⟨u,ru,?_⟩
   rcases lk with⟨lk,_⟩|⟨_,c,hc1,hc2⟩
   ·have lk:X.env.scope.names.lookup y=some .local:=lk
    rcases hX with z|z<;>· rw[z] at lk;cases lk
   ·have hs:=hcl2 (y,.free) (dj hfr) rfl
    obtain⟨c',hc'⟩:=iT.mp hs
    have e3:=hcl1 y c' hc'
    rw[hc1] at e3;cases e3
    refine .inr ⟨?_,c,hc',hc2.keeps old⟩
    show(relabel scope X.env).names.lookup y=some .cell\/(relabel scope X.env).names.lookup y=some .free
    have e:(relabel scope X.env).names.lookup y=_:=jG (env:=X.env) (x:=y) scope.names
    rw[e,hfr,cR]
    split
    ·exact .inl rfl
    ·exact .inr rfl
  ·obtain⟨v,q⟩:=I2.cell x c (hcl1 x c h)
   exact⟨v,q.keeps old⟩
  ·show upd H2 s₂.heap.objs.size (.lst []) G.objs.size=none
   rw[aB (Ne.symm hDC)];exact fC
  ·have q:=I2.freeC x c (hcl1 x c h)
   obtain⟨v,o,ho,_⟩:=I2.cell x c (hcl1 x c h)
   show upd H2 s₂.heap.objs.size (.lst []) c=none
   rw[aB (bj (aJ ho))];exact q
  ·show(Ea js k σ).length=NY.length
   rw[JS,I2.len,hN,hk]
 have st4:tn 0 h₁:=T.keep _ _ _ st2 λb _ o e=>old b o e
 obtain⟨W,⟨m0,w0⟩,turn⟩:=loop s₂.heap.objs.size fD
 have stat:∀{H':Hp},(∀b∈fp,H' b=none)->∀b∈fp,rR (fc X NY scope cl G.objs.size s₂ H2 fp) [] H' b:=λhn b hb=>by
  obtain⟨o,ho⟩:=hfl b hb
  refine⟨hn b hb,below b (aJ ho),λz=>?_,.inl hb,λx c h=>(f2 b hb).2.2.2.2.1 x c (hcl1 x c h),λp hp=>absurd (show p∈([]:List (Addr×Obj)) from hp) (by simp)⟩
  rcases aV.mp (I2.stkSub b z) with e|e
  ·exact(f2 b hb).2.1 e
  ·exact(f2 b hb).2.2.1 e
 have go:∀s₄:Shared,s₄={s₂ with heap:=h₁,toks:=s₂.toks+([]:List (Str×Value)).length}->
   codeAny (model X.prog X.w) X.A (.compLoop (.ListComp elt [⟨target,iter,ifs,0⟩] scope pos) 0 (.ref it) (.ref s₂.heap.objs.size) (compEnvC scope cl G.objs.size X.env)) (RR (.ref s₂.heap.objs.size) G.objs.size) s₄:=by
  rintro s₄ rfl
  refine zB (λn s'=>∃i σ' H',bW (fc X NY scope cl G.objs.size s₂ H2 fp) [] σ' H' s'/\tn i s'.heap/\(∀b∈fp,H' b=none)/\W i n σ' H') ?_ m0
   ⟨0,_,_,I4,st4,λb hb=>by
    obtain⟨o,ho⟩:=hfl b hb
    rw[aB (bj (aJ ho))];exact(f2 b hb).1,w0⟩
  rintro n s3 ⟨i,σ3,H3,I3,st3,fr3,w3⟩
  rcases turn i n σ3 H3 w3 with⟨stop,qn⟩|⟨go,Nx,hNx,step⟩
  ·refine gZ (T.done (fc X NY scope cl G.objs.size s₂ H2 fp) rfl rfl rfl hc i [] s3 σ3 H3 _ I3 (stat fr3) st3 stop) λr s5 ⟨hr,I5⟩=>?_
   subst hr
   have IX:bW X pins σ H3 s5:=I2.call' (ch:=fp) I5.os I5.base I5.hok I5.bare λb hb=>⟨(f2 b hb).2.2.2.1,(f2 b hb).2.1,(f2 b hb).2.2.2.2.1,(f2 b hb).2.2.2.2.2⟩
   obtain⟨m,hm,_⟩:=I5.loc
   refine hRR _ _ H3 s5 m hm IX I5.free (λz=>?_) (cq I2.sz hCle) (λx c h z=>?_) (λp hp z=>?_) hDC qn
   ·have:=I2.lt;rw[<-z] at this;exact cK _ (aX this hCle)
   ·obtain⟨v,o,ho,_⟩:=I2.cell x c h
    have:=aJ ho;rw[z] at this;exact cK _ (aX this hCle)
   ·have:=aJ (I2.pin p hp).1;rw[z] at this;exact cK _ (aX this hCle)
  ·refine gZ (T.item (fc X NY scope cl G.objs.size s₂ H2 fp) rfl rfl rfl hc i [] s3 σ3 H3 _ I3 (stat fr3) st3 go) λr s5 ⟨u,hr,h5⟩=>?_
   subst hr
   refine gZ h5 λ_ s6 ⟨x,H6,I6,r6,y6,st6,fr6⟩=>?_
   have I6':=I6.pinned (stat fr6) (T.obj _ _ st6)
   have again:∀{σ7:St} {H7:Hp} {s7:Shared},bW (fc X NY scope cl G.objs.size s₂ H2 fp) ([]++wF fp s6.heap) σ7 H7 s7->Nx σ7 H7->∃m,m<n/\∃i σ' H',bW (fc X NY scope cl G.objs.size s₂ H2 fp) [] σ' H' s7/\tn i s7.heap/\(∀b∈fp,H' b=none)/\W i m σ' H':=λ{σ7 H7 s7} I7 n7=>by
    obtain⟨m',hm,w7⟩:=hNx σ7 H7 n7
    refine⟨m',hm,i+1,σ7,H7,I7.unpinned,T.keep _ _ _ st6 λb hb o e=>(I7.pin (b,o) (bD _ (bD _ (oj hb e)))).1,λb hb=>?_,w7⟩
    obtain⟨o,e,d⟩:=T.obj _ _ st6 b hb
    exact(I7.pin (b,o) (bD _ (bD _ (oj hb e)))).2.1
   refine gZ (hg cl G.objs.size s₂ H2 fp _ s6 σ3 H6 x u _ I6' r6 (step x H6 y6)) λ_ s7 ⟨σ7,H7,I7,q7⟩=>?_
   refine gZ (hi cl G.objs.size s₂ H2 fp _ s7 σ7 H7 _ I7 q7) λok s8 ⟨H8,I8,q8⟩=>?_
   cases ok with
   |false=>
    rw[if_neg Bool.false_ne_true] at q8 ⊢
    exact again I8 q8
   |true=>
    rw[if_pos rfl] at q8 ⊢
    refine gZ (he cl G.objs.size s₂ H2 fp _ s8 σ7 H8 _ I8 q8) λy s9 ⟨z,H9,I9,r9,ys,hD,hz,n9⟩=>?_
    refine gZ (jq (X:=fc X NY scope cl G.objs.size s₂ H2 fp) _ s9 σ7 H9 (.ref s₂.heap.objs.size) [z] (.ref s₂.heap.objs.size) [y] (λ_ H'=>H'=upd H9 s₂.heap.objs.size (.lst (ys++[z]))) I9 rfl (.cons r9 .nil) ⟨_,ys,z,rfl,rfl,hD,hz,rfl⟩) λ_ s10 ⟨_,H10,I10,_,q10⟩=>?_
    subst q10
    exact again I10 n9
 exact codeAny_compStart_list (go _ rfl) (T.self _ 0 _ _ _ st4 (go _ rfl))
theorem Kv{wi:TI}(ok:vK sc N scope NY js)(hsc:X.env.scope=sc)(hN:X.N=N)(hk:NY.length=N.length+k)(hc:X.calm=true)(hit:PI X target iter wi)
  (hg:∀cl C s₀ H₀ fp,PG (fc X NY scope cl C s₀ H₀ fp) target g) (hi:∀cl C s₀ H₀ fp,ET (fc X NY scope cl C s₀ H₀ fp) ifs tc) (he:∀cl C s₀ H₀ fp,PE (fc X NY scope cl C s₀ H₀ fp) elt te)
  (hs:∀x,foldedSetIterable iter X.env x=pure x:=by intro _;rfl):PE X (.ListComp elt [⟨target,iter,ifs,0⟩] scope pos) (kC js k wi g tc te):=by
 intro pins s σ H Q I h
 obtain⟨cl,hclos,hcl1,hcl2⟩:=vU (scope:=scope) (env:=X.env) λx hx hf=>I.ok.has x.1 (by
  have:=ok.free x hx hf
  rw[<-hsc] at this
  exact this)
 rw[eval_ListComp]
 refine wpAny_comprehension_free (use:=none) rfl hs hclos ok.kind ok.names (gZ (hit pins s σ H _ I h) λxv s₁ h₁=>gZ h₁ λitv s₂ h₂=>?_)
 obtain⟨it,fp,tn,J,H2,rfl,I2,T,st2,f2,loop⟩:=h₂
 refine vV (RR:=λacc C=>compPost (model X.prog X.w) X.A X.xe none (EP X pins σ Q) acc C) (Q:=Q) ok hsc hN hk hc I2 T st2 f2 hcl1 hcl2 hg hi he loop ?_
 intro D C H' s' m hm IX fC c1 c2 c3 c4 _ q
 exact⟨m,hm,λh' hs'=>⟨.ref D,H',IX.turned (t':=s'.toks) (λb o hb e=>(hs'.2 b hb).trans e) fC c1 (.inr c2) c3 c4,rfl,q⟩⟩
theorem KN{wi:TI}{i:Nat}{y:Str}{py spos:Pos}(ok:vK sc N scope NY js)(hsc:X.env.scope=sc)(hN:X.N=N)(hk:NY.length=N.length+k)(hc:X.calm=true)(hit:PI X target iter wi)
  (hg:∀cl C s₀ H₀ fp,PG (fc X NY scope cl C s₀ H₀ fp) target g) (hi:∀cl C s₀ H₀ fp,ET (fc X NY scope cl C s₀ H₀ fp) ifs tc) (he:∀cl C s₀ H₀ fp,PE (fc X NY scope cl C s₀ H₀ fp) elt te)
  (nd:X.N.Nodup) (hy:X.N[i]?=some y) (hl:LK X.env.scope y) (hsw:swapsWith (.ListComp elt [⟨target,iter,ifs,0⟩] scope pos) (some (.Name y py)) spos.line X.env=pure true)
  (hs:∀x,foldedSetIterable iter X.env x=pure x:=by intro _;rfl) (hf:X.fn y=true\/X.env.scope.names.lookup y=some .local:=by first|exact .inl rfl|exact .inr rfl|assumption) :
  PS X (.Assign [.Name y py] (.ListComp elt [⟨target,iter,ifs,0⟩] scope pos) spos) (bR (kC js k wi g tc te) (aR i)):=by
 intro pins s σ H D I h
 obtain⟨cl,hclos,hcl1,hcl2⟩:=vU (scope:=scope) (env:=X.env) λx hx hf=>I.ok.has x.1 (by
  have:=ok.free x hx hf
  rw[<-hsc] at this
  exact this)
 rw[exec_Assign_Name_used _ _ _ _ hsw]
 refine wpAny_bind (wpAny_standAt (wpAny_bind ?_))
 show wpAny _ X.A (do let _ <-comprehension (.ListComp elt [⟨target,iter,ifs,0⟩] scope pos) scope X.env _ (newList []) false (eval iter X.env) (some (assign (.Name y py) X.env))) _ _ s
 refine wpAny_bind (wpAny_mono (wpAny_comprehension_free (use:=some (assign (.Name y py) X.env)) (Q:=λ_ s'=>SP X pins D .next s') rfl hs hclos ok.kind ok.names
  (gZ (hit pins s σ H _ I h) λxv s₁ h₁=>gZ h₁ λitv s₂ h₂=>?_)) (λ_ s' hq=>wpAny_pure (wpAny_pure hq)) λ_ _ e=>e)
 obtain⟨it,fp,tn,J,H2,rfl,I2,T,st2,f2,loop⟩:=h₂
 refine vV (RR:=λacc C=>compPost (model X.prog X.w) X.A X.xe (some (assign (.Name y py) X.env)) (λ_ s'=>SP X pins D .next s') acc C) (Q:=λx H1=>aR i x σ H1 D.nx) ok hsc hN hk hc I2 T st2 f2 hcl1 hcl2 hg hi he loop ?_
 intro Da C H' s' m hm IX fC c1 c2 c3 c4 _ q
 show wpAny _ X.A (assign (.Name y py) X.env (.ref Da)) _ _ _
 refine wpAny_assign_Name (yL IX nd hy hl (v:=.ref Da) rfl (λs2 IY ⟨a,sb,ha⟩=>?_) hf)
 have hne:C≠a:=by
  rcases ha with rfl|ha
  ·exact c1
  ·exact λz=>c3 y a ha z.symm
 exact⟨m,hm.sameBut sb hne,λh' hs'=>⟨_,H',IY.turned (t':=s2.toks) (λb o hb e=>(hs'.2 b hb).trans e) fC c1 (.inr c2) c3 c4,q⟩⟩
end
section
variable{X:Cx}{pins:List (Addr×Obj)}{σ:St}{H:Hp}{s:Shared}{h':Heap}
theorem bW.turnedL{t':Nat}{ch:List Addr}(I:bW X pins σ H s)(k:∀b o,b∉ch->s.heap.get? b=some o->h'.get? b=some o)(hf:∀b∈ch,rR X pins H b) :
  bW X pins σ H {s with heap:=h',toks:=t'}:=by
 have nit:∀b u,H b=some u->b∉ch:=λb u e z=>by rw[(hf b z).1] at e;cases e
 refine I.step (g':=s.gens) (d':=s.drawn) (ch:=ch) (λb hb=>⟨(hf b hb).2.2.2.1,(hf b hb).2.1,(hf b hb).2.2.2.2.1,(hf b hb).2.2.2.2.2⟩) (λb o _ _ hc e _=>k b o hc e) (λb o _ _ hc e _=>⟨o.slots,k b o hc e⟩) (λ_ _ _ _ n=>n)
  (λb o hc e=>⟨o,k b o hc e⟩) (λ_ _ e=>e) (λ_ _ _ e=>e) (λb ps e=>⟨#[],by rw[e];simp⟩) (λm hm=>?_) (λb u e=>?_) I.bare
 ·obtain⟨o,es,ep,ho,r⟩:=hm
  exact⟨o,es,ep,k _ o (λz=>(hf _ z).2.1 rfl) ho,r⟩
 ·refine(I.hok b u e).stay (λc v hc q=>k c v ?_ q) (λ_ q=>q) λ_ _ q=>q
  rcases hc with z|z
  ·rw[z];exact nit b u e
  ·exact nit c _ z
theorem bW.adopt{T:Addr}{o:HO}(I:bW X pins σ H s)(hf:rR X pins H T)(new:eR X.prog X.w (upd H T o) s.heap T o):bW X pins σ (upd H T o) s:=by
 have nT:∀b u,H b=some u->b≠T:=λb u e z=>by rw[z,hf.1] at e;cases e
 refine I.step (h':=s.heap) (H':=upd H T o) (g':=s.gens) (d':=s.drawn) (t':=s.toks) (ch:=[T]) (λb hb=>?_) (λb _ _ _ _ e _=>e) (λb ob _ _ _ e _=>⟨ob.slots,e⟩) (λb ob hb _ n=>?_)
  (λb ob _ e=>⟨ob,e⟩) (λb xs e=>?_) (λb ob u e=>?_) (λb ps e=>⟨#[],?_⟩) (λm hm=>hm) (λb u e=>?_) I.bare
 ·have e:b=T:=by simpa using hb
  subst e
  exact⟨hf.2.2.2.1,hf.2.1,hf.2.2.2.2.1,hf.2.2.2.2.2⟩
 ·rw[aB (λz=>hb (by simp[z]))];exact n
 ·rw[aB (nT b _ e)];exact e
 ·rw[aB (nT b _ e)];exact e
 ·rw[aB (nT b _ e),e];simp
 ·by_cases hb:b=T
  ·subst hb;rw[ag] at e;cases e;exact new
  ·rw[aB hb] at e
   exact(I.hok b u e).stay (λc v _ q=>q) (λc q=>by rw[aB (nT c _ q)];exact q) λc xs q=>by rw[aB (nT c _ q)];exact q
end
def NR(K:Fg)(a:Addr):It:=
 ⟨λi H=>∃xs x,cA K H a xs/\xs[i]?=some x,λi H x H'=>∃p v,H p=none/\x=.ref p/\H'=upd H p (.tup [.int (i:Nat),v])/\∀xs,cA K H a xs->xs[i]?=some v,λi H=>∃xs,cA K H a xs/\xs.length<=i⟩
def NS(K:Fg)(a b:Addr):It:=
 ⟨λi H=>∃xs x ys y,cA K H a xs/\xs[i]?=some x/\cA K H b ys/\ys[i]?=some y,
  λi H x H'=>∃p v u,H p=none/\x=.ref p/\H'=upd H p (.tup [v,u])/\(∀xs,cA K H a xs->xs[i]?=some v)/\∀ys,cA K H b ys->ys[i]?=some u,
  λi H=>∃xs ys,cA K H a xs/\cA K H b ys/\(xs.length<=i\/ys.length<=i)⟩
theorem Az{X:Cx}{H:Hp}{h:Heap}{T:Addr}{x y:V}{u v:Value}{n:Nat}(e:h.get? T=some {cls:=.type "tuple",data:=.seq #[u,v] n})(r1:dy x u)(r2:dy y v):eR X.prog X.w H h T (.tup [x,y]):=
 ⟨show 2<=sizeLine by decide,[u,v],.cons r1 (.cons r2 .nil),⟨_,e,⟨rfl,rfl⟩,_,rfl⟩⟩
theorem Ke{h:Heap}{it a:Addr}{i:Nat}{l:Addr}{items:Array Value}(p:h.IsList a items)(q:h.IsListIter it l i):a≠it:=by
 intro e;subst e
 obtain⟨o,e1,c1,_⟩:=p
 obtain⟨o',e2,c2,_⟩:=q
 rw[e1] at e2;cases e2;rw[c1] at c2
 injection c2 with c3
 exact absurd c3 (by decide)
theorem Gx{P:Program}{w:World}{K:Fg}{elts:List Expr}{k:Nat}{pos:Pos}(a e it:Addr)(hne:e≠it) :
  AG P w K (.Tuple elts k pos) (NR K a) [e,it] e (λi h=>(∃old,IsEnum h e it (i:Nat) old)/\h.IsListIter it a i) where
 mem:=by simp
 obj:=λi h st b hb=>by
  obtain⟨⟨old,he⟩,⟨o,ho,c,d⟩⟩:=st
  rcases aV.mp hb with rfl|hb
  ·exact⟨_,he,λv z=>by have z':Data.fields _=Data.cell v:=z;cases z'⟩
  ·rw[av.mp hb]
   exact⟨o,ho,λv z=>by rw[d] at z;cases z⟩
 keep:=λi h h' st k=>⟨let⟨old,he⟩:=st.1;⟨old,k e (by simp) _ he⟩,st.2.at λo q=>k it (by simp) o q⟩
 item:=by
  intro X hP hw hK hc i pins s σ H E I hf st hg
  subst hP hw hK
  obtain⟨⟨old,he⟩,hit⟩:=st
  obtain⟨xs,x,hq,hx⟩:=hg
  obtain⟨its,rv,p,hz⟩:=I.list hq
  obtain⟨u,hu,ru⟩:=rv.get hx
  have hlt:i<its.toArray.size:=by have:=(ar.mp hu).1;simpa using this
  have na:a≠it:=Ke p.isList hit
  have nb:e≠a:=by
   intro z;subst z
   obtain⟨o,n,e1,c1,_⟩:=p
   rw[he] at e1;cases e1
   injection c1 with c3
   exact absurd c3 (by decide)
  have Dw:=Draws.list (prog:=X.prog) (w:=X.w) (A:=X.A.in1) (show X.A.in1.handled=none from I.ok.hd hc) it a na its.toArray
  refine wpAny_pyNext_enum_itemD Dw he ⟨hit,p.isList⟩ hlt hne (by simp[hne,nb]) λy h1 tk hP ho st1 hT hsz hk=>?_
  have ey:y=u:=by
   have h1:its.toArray[i]?=some y:=hP
   have h2:its[i]?=some y:=by simpa using h1
   rw[hu] at h2;exact(Option.some.inj h2).symm
  subst ey
  refine⟨_,rfl,?_⟩
  have fT:rR X pins H s.heap.objs.size:=I.fpOk (aD _) (I.hok.fresh (aD _))
  refine wpAny_letOwnedTupleGo_enum ho λh2 he2 hs2=>?_
  have helt:e<s.heap.objs.size:=aJ he
  have I1:bW X pins σ H {s with heap:=h2,toks:=tk+1}:=I.turnedL (t':=tk+1) (ch:=[e,it]) (λb o hb q=>by
   have b1:b≠e:=λz=>hb (by simp[z])
   have b2:b≠it:=λz=>hb (by simp[z])
   exact(hs2.2 b b1).trans (hk b o b1 b2 q)) hf
  have gT:h2.get? s.heap.objs.size=some {cls:=.type "tuple",data:=.seq #[.int i tk,y]}:=(hs2.2 _ (jz helt)).trans hT
  have I2:=I1.adopt (T:=s.heap.objs.size) (o:=.tup [.int (i:Nat),x]) fT (Az (X:=X) gT ⟨tk,rfl⟩ ru)
  refine⟨.ref s.heap.objs.size,_,I2,rfl,⟨s.heap.objs.size,x,fT.1,rfl,rfl,λys hy=>by rw[I.list_inj hy hq];exact hx⟩,⟨⟨y,?_⟩,?_⟩,λb hb=>?_⟩
  ·have e2:(((i+1:Nat):Nat):Int)=(i:Int)+1:=by lia
   show IsEnum h2 e it (((i+1:Nat):Nat):Int) y
   rw[e2];exact he2
  ·obtain⟨o,q1,q2⟩:=st1.1
   exact⟨o,(hs2.2 it (Ne.symm hne)).trans q1,q2⟩
  ·have nT:b≠s.heap.objs.size:=by
    rcases aV.mp hb with rfl|hb
    ·exact bj helt
    ·rw[av.mp hb]
     obtain⟨o,ho,_⟩:=hit
     exact bj (aJ ho)
   rw[aB nT];exact(hf b hb).1
 done:=by
  intro X hP hw hK hc i pins s σ H E I hf st hg
  subst hP hw hK
  obtain⟨⟨old,he⟩,hit⟩:=st
  obtain⟨xs,hq,hx⟩:=hg
  obtain⟨its,rv,p,hz⟩:=I.list hq
  have hl:=rv.length
  have hT:s.TypeIs (.ref e) "enumerate":=⟨_,he,rfl⟩
  unfold pyNext
  refine wpAny_bind (wpAny_attempt (wpAny_callSpecial?_slot (name:=Str.ofString "__next__") hT F.slot_enumerate_next
   (wpAny_call_entry F.slot_enumerate_next hT F.entry_enumerate_next ?_ (F.args_enumerate_next_1 _))))
  show wpAny _ _ (field (.ref e) 2 >>= _) _ _ _
  refine wpAny_bind (wpAny_field he rfl (x:=.ref it) rfl ?_)
  refine wpAny_bind (wpAny_nextOf_list_end (show X.A.in1.handled=none from I.ok.hd hc) hit p.isList (by simp;lia) λh1 x1 eb hx1=>?_)
  obtain⟨o,ho,hcl⟩:=hx1
  refine wpAny_bind (wpAny_isInstance (T:="StopIteration") (b:=true) ⟨o,ho,hcl⟩ isSubtype_stop ?_)
  exact wpAny_pure ⟨rfl,I.turnedL (t':=s.toks) (ch:=[e,it]) (λb ob hb q=>eb b ob (λz=>hb (by simp[z])) q) hf⟩
 self:=λ_ _ _ _ _ st h=>let⟨_,he⟩:=st.1;wpAny_pyIter_enum he h
section
variable{X:Cx}{elts:List Expr}{k:Nat}{tpos:Pos}
def Hd(K:Fg)(tl:TA):TI:=λσ H R=>tl σ H λvs H1=>∃a,vs=[.ref a]/\(∃xs,cA K H1 a xs)/\R (NR K a) H1
theorem KC{a:Expr}{ta:TA}{p pos:Pos}(hg:Gl X "enumerate")(hm:X.mg "enumerate"=none)(ha:PA X [a] ta)(hs:starEach [a] X.env=[(false,eval a X.env)]:=by rfl) :
  PI X (.Tuple elts k tpos) (.Call (.Name "enumerate" p) [a] [] pos) (Hd X.K ta):=by
 intro pins s σ H R I h
 refine Call_ (mY I hg hm boot_enumerate (dr (gZ (ha pos pins s σ H _ I h) λus s1 ⟨vs,H1,I1,r1,q1⟩=>?_) hs rfl))
 obtain⟨l,e,⟨xs,hq⟩,q⟩:=q1
 subst e
 cases r1 with
 |cons r rr=>
  cases rr
  cases r
  obtain⟨its,rv,pl,hz⟩:=I1.list hq
  refine call_enumerate_list pl.isList λh1 he hit hsz hk=>?_
  refine wpAny_pyIter_enum he ?_
  have I2:bW X pins σ H1 {s1 with heap:=h1}:=I1.kept (t':=s1.toks) hk
  refine⟨s1.heap.objs.size+1,[s1.heap.objs.size+1,s1.heap.objs.size],_,_,H1,rfl,I2,Gx l _ _ (Nat.succ_ne_self _),⟨⟨.none,he⟩,hit⟩,λb hb=>?_,q⟩
  have hb':s1.heap.objs.size<=b:=by
   rcases aV.mp hb with rfl|hb
   ·lia
   ·rw[av.mp hb];exact aD _
  exact I1.fpOk hb' (I1.hok.fresh hb')
end
theorem Jk{P:Program}{w:World}{K:Fg}{elts:List Expr}{k:Nat}{pos:Pos}(z TI TO i1 i2 l1 l2:Addr)(D:ZipApart z TI TO i1 i2 l1 l2) :
  AG P w K (.Tuple elts k pos) (NS K l1 l2) [z,TI,TO,i1,i2] z (λi h=>IsZip h z TI TO .none/\IsPair h TI (.ref i1) (.ref i2)/\(∃a b,IsPair h TO a b)/\h.IsListIter i1 l1 i/\h.IsListIter i2 l2 i) where
 mem:=by simp
 obj:=λi h st b hb=>by
  obtain⟨hz,hTI,⟨a',b',hTO⟩,⟨o1,e1,c1,d1⟩,⟨o2,e2,c2,d2⟩⟩:=st
  simp only[aV,fu,or_false] at hb
  rcases hb with rfl|rfl|rfl|rfl|rfl
  ·exact⟨_,hz,λv q=>by have q':Data.fields _=Data.cell v:=q;cases q'⟩
  ·exact⟨_,hTI,λv q=>by have q':Data.seq _ _=Data.cell v:=q;cases q'⟩
  ·exact⟨_,hTO,λv q=>by have q':Data.seq _ _=Data.cell v:=q;cases q'⟩
  ·exact⟨o1,e1,λv q=>by rw[d1] at q;cases q⟩
  ·exact⟨o2,e2,λv q=>by rw[d2] at q;cases q⟩
 keep:=λi h h' st k=>by
  obtain⟨hz,hTI,⟨a',b',hTO⟩,h1,h2⟩:=st
  exact⟨k z (by simp) _ hz,k TI (by simp) _ hTI,⟨a',b',k TO (by simp) _ hTO⟩,h1.at λo q=>k i1 (by simp) o q,h2.at λo q=>k i2 (by simp) o q⟩
 item:=by
  intro X hP hw hK hc i pins s σ H E I hf st hg
  subst hP hw hK
  obtain⟨hz,hTI,⟨a',b',hTO⟩,h1,h2⟩:=st
  obtain⟨xs,x,ys,y,hq1,hx,hq2,hy⟩:=hg
  obtain⟨its1,rv1,p1,_⟩:=I.list hq1
  obtain⟨its2,rv2,p2,_⟩:=I.list hq2
  obtain⟨u,hu,ru⟩:=rv1.get hx
  obtain⟨v,hv,rv⟩:=rv2.get hy
  refine wpAny_pyNext_zip_item D hz hTI hTO h1 h2 p1.isList p2.isList (x:=u) (y:=v) (by simpa using hu) (by simpa using hv) λh3 a1 a2 a3 a4 a5 a6 hk=>?_
  refine⟨_,rfl,?_⟩
  have fT:rR X pins H s.heap.objs.size:=I.fpOk (aD _) (I.hok.fresh (aD _))
  have lt:∀{c o},s.heap.get? c=some o->c≠s.heap.objs.size:=λe=>bj (aJ e)
  refine wpAny_letOwnedTupleGo_zip a1 λh4 hz4 hs4=>?_
  have I1:bW X pins σ H {s with heap:=h4,toks:=s.toks}:=I.turnedL (t':=s.toks) (ch:=[z,TI,TO,i1,i2]) (λb o hb q=>by
   have b1:b≠z:=λe=>hb (by simp[e])
   exact(hs4.2 b b1).trans (hk b o b1 (λe=>hb (by simp[e])) (λe=>hb (by simp[e])) (λe=>hb (by simp[e])) q)) hf
  have gT:h4.get? s.heap.objs.size=some {cls:=.type "tuple",data:=.seq #[u,v]}:=(hs4.2 _ (Ne.symm (lt hz))).trans a5
  have I2:=I1.adopt (T:=s.heap.objs.size) (o:=.tup [x,y]) fT (Az (X:=X) gT ru rv)
  have ext:∀c o,c≠z->h3.get? c=some o->h4.get? c=some o:=λc o hc q=>(hs4.2 c hc).trans q
  refine⟨.ref s.heap.objs.size,_,I2,rfl,⟨s.heap.objs.size,x,y,fT.1,rfl,rfl,λzs hz=>by rw[I.list_inj hz hq1];exact hx,λzs hz=>by rw[I.list_inj hz hq2];exact hy⟩,
   ⟨hz4,ext _ _ D.TIz (hk _ _ D.TIz D.TITO D.TIi1 D.TIi2 hTI),⟨_,_,ext _ _ D.TOz a2⟩,a3.at λo q=>ext _ o D.i1z q,a4.at λo q=>ext _ o D.i2z q⟩,λb hb=>?_⟩
  have nT:b≠s.heap.objs.size:=by
   obtain⟨o1,e1,_⟩:=h1
   obtain⟨o2,e2,_⟩:=h2
   simp only[aV,fu,or_false] at hb
   rcases hb with rfl|rfl|rfl|rfl|rfl
   ·exact lt hz
   ·exact lt hTI
   ·exact lt hTO
   ·exact lt e1
   ·exact lt e2
  rw[aB nT];exact(hf b hb).1
 done:=by
  intro X hP hw hK hc i pins s σ H E I hf st hg
  subst hP hw hK
  obtain⟨hz,hTI,⟨a',b',hTO⟩,h1,h2⟩:=st
  obtain⟨xs,ys,hq1,hq2,hend⟩:=hg
  obtain⟨its1,rv1,p1,_⟩:=I.list hq1
  obtain⟨its2,rv2,p2,_⟩:=I.list hq2
  have l1':=rv1.length
  have l2':=rv2.length
  refine wpAny_pyNext_zip_end (I.ok.hd hc) D hz hTI hTO h1 h2 p1.isList p2.isList (hend.imp (λh=>by simp;lia) λh=>by simp;lia) λh3 hk=>⟨rfl,?_⟩
  exact I.turnedL (t':=s.toks) (ch:=[z,TI,TO,i1,i2]) (λb o hb q=>hk b o (λe=>hb (by simp[e])) (λe=>hb (by simp[e])) (λe=>hb (by simp[e])) (λe=>hb (by simp[e])) q) hf
 self:=λ_ _ _ _ _ st h=>wpAny_pyIter_zip st.1 h
section
variable{X:Cx}{elts:List Expr}{k:Nat}{tpos:Pos}
def Mo(K:Fg)(tl:TA):TI:=λσ H R=>tl σ H λvs H1=>∃a b,vs=[.ref a,.ref b]/\(∃xs,cA K H1 a xs)/\(∃xs,cA K H1 b xs)/\R (NS K a b) H1
theorem Nh{a b:Expr}{ta:TA}{p pos:Pos}(hg:Gl X "zip")(hm:X.mg "zip"=none)(ha:PA X [a,b] ta)(hs:starEach [a,b] X.env=[(false,eval a X.env),(false,eval b X.env)]:=by rfl)(hs2:starEach [b] X.env=[(false,eval b X.env)]:=by rfl) :
  PI X (.Tuple elts k tpos) (.Call (.Name "zip" p) [a,b] [] pos) (Mo X.K ta):=by
 intro pins s σ H R I h
 refine Call_ (mY I hg hm boot_zip (dr (gZ (ha pos pins s σ H _ I h) λus s1 ⟨vs,H1,I1,r1,q1⟩=>?_) (by rw[hs,hs2]) (by rw[hs2];rfl)))
 obtain⟨l1,l2,e,⟨xs,hq1⟩,⟨ys,hq2⟩,q⟩:=q1
 subst e
 cases r1 with
 |cons r rr=>
  cases rr with
  |cons r' rr=>
   cases rr
   cases r
   cases r'
   obtain⟨its1,rv1,p1,_⟩:=I1.list hq1
   obtain⟨its2,rv2,p2,_⟩:=I1.list hq2
   have b1:l1<s1.heap.objs.size:=by obtain⟨o,e,_⟩:=p1.isList;exact aJ e
   have b2:l2<s1.heap.objs.size:=by obtain⟨o,e,_⟩:=p2.isList;exact aJ e
   refine call_zip_2 p1.isList p2.isList λh1 hz hTI hTO hi1 hi2 hsz hk=>?_
   refine wpAny_pyIter_zip hz ?_
   have I2:bW X pins σ H1 {s1 with heap:=h1}:=I1.kept (t':=s1.toks) hk
   refine⟨_,_,_,_,H1,rfl,I2,Jk _ _ _ _ _ l1 l2 (zipApart_new b1 b2),⟨hz,hTI,⟨_,_,hTO⟩,hi1,hi2⟩,λb hb=>?_,q⟩
   have hb':s1.heap.objs.size<=b:=by
    simp only[aV,fu,or_false] at hb
    rcases hb with rfl|rfl|rfl|rfl|rfl<;>lia
   exact I1.fpOk hb' (I1.hok.fresh hb')
end
theorem G9{K:Fg}{a:Addr}{xs:List V}{g:TG}{tb:TS}{D:oZ}{σ:St}{H:Hp}(Pv:Nat->St->Hp->Prop)(h0:Pv 0 σ H)(hl:∀i σ H,i<=xs.length->Pv i σ H->cA K H a xs)
  (hs:∀i x σ H p,xs[i]?=some x->H p=none->Pv i σ H->g (.ref p) σ (upd H p (.tup [.int (i:Nat),x])) λσ2 H2=>tb {D with nx:=Pv (i+1),ct:=Pv (i+1),bk:=D.nx} σ2 H2) (hd:∀σ H,Pv xs.length σ H->D.nx σ H) :
  ∃W:Nat->Nat->St->Hp->Prop,(∃m,W 0 m σ H)/\∀i m σ H,W i m σ H->
   ((NR K a).stop i H/\D.nx σ H)\/((NR K a).go i H/\∃N:St->Hp->Prop,(∀σ' H',N σ' H'->∃m',m'<m/\W (i+1) m' σ' H')/\∀x H',(NR K a).yld i H x H'->g x σ H' λσ2 H2=>tb {D with nx:=N,ct:=N,bk:=D.nx} σ2 H2):=by
 refine⟨λi m σ H=>m=xs.length-i/\i<=xs.length/\Pv i σ H,⟨xs.length,by simp,dA _,h0⟩,?_⟩
 rintro i m σ H ⟨rfl,hi,p⟩
 have q:=hl i σ H hi p
 by_cases hlt:i<xs.length
 ·refine .inr ⟨⟨xs,xs[i],q,by simp[hlt]⟩,Pv (i+1),λσ' H' p'=>⟨xs.length-(i+1),by lia,rfl,hlt,p'⟩,λx H' y=>?_⟩
  obtain⟨pp,v,e1,rfl,rfl,y⟩:=y
  exact hs i v σ H pp (y xs q) e1 p
 ·have e:i=xs.length:=by lia
  subst e
  exact .inl ⟨⟨xs,q,aD _⟩,hd σ H p⟩
theorem JW{K:Fg}{a b:Addr}{xs ys:List V}{g:TG}{tb:TS}{D:oZ}{σ:St}{H:Hp}(el:xs.length=ys.length)(Pv:Nat->St->Hp->Prop)(h0:Pv 0 σ H)(hl:∀i σ H,i<=xs.length->Pv i σ H->cA K H a xs/\cA K H b ys)
  (hs:∀i x y σ H p,xs[i]?=some x->ys[i]?=some y->H p=none->Pv i σ H->g (.ref p) σ (upd H p (.tup [x,y])) λσ2 H2=>tb {D with nx:=Pv (i+1),ct:=Pv (i+1),bk:=D.nx} σ2 H2) (hd:∀σ H,Pv xs.length σ H->D.nx σ H) :
  ∃W:Nat->Nat->St->Hp->Prop,(∃m,W 0 m σ H)/\∀i m σ H,W i m σ H->
   ((NS K a b).stop i H/\D.nx σ H)\/((NS K a b).go i H/\∃N:St->Hp->Prop,(∀σ' H',N σ' H'->∃m',m'<m/\W (i+1) m' σ' H')/\∀x H',(NS K a b).yld i H x H'->g x σ H' λσ2 H2=>tb {D with nx:=N,ct:=N,bk:=D.nx} σ2 H2):=by
 refine⟨λi m σ H=>m=xs.length-i/\i<=xs.length/\Pv i σ H,⟨xs.length,by simp,dA _,h0⟩,?_⟩
 rintro i m σ H ⟨rfl,hi,p⟩
 obtain⟨q1,q2⟩:=hl i σ H hi p
 by_cases hlt:i<xs.length
 ·have hlt2:i<ys.length:=by lia
  refine .inr ⟨⟨xs,xs[i],ys,ys[i],q1,by simp[hlt],q2,by simp[hlt2]⟩,Pv (i+1),λσ' H' p'=>⟨xs.length-(i+1),by lia,rfl,hlt,p'⟩,λx H' y=>?_⟩
  obtain⟨pp,v,u,e1,rfl,rfl,y1,y2⟩:=y
  exact hs i v u σ H pp (y1 xs q1) (y2 ys q2) e1 p
 ·have e:i=xs.length:=by lia
  subst e
  exact .inl ⟨⟨xs,ys,q1,q2,.inl (aD _)⟩,hd σ H p⟩
end L2
namespace PySem
open Sem (wp)
open Builtin MeetsSeq MeetsSeq2 MeetsSeq3
theorem tZ:fillsNumberSlot (.type "tuple") "mul"=pure false:=
 fillsNumberSlot_seq (id:="tuple.__mul__") (r:=some (.builtin "tuple.__rmul__")) F.slot_tuple_mul.lookup (by decide +kernel) F.slot_tuple_rmul.lookup (by decide +kernel)
theorem Ao:seqRepeat? (.type "tuple")=pure (some (.builtin "tuple.__mul__")):=by
 unfold seqRepeat?
 rw[seqSlot_of (T:="tuple") (name:="__mul__") (id:="tuple.__mul__") F.slot_tuple_mul.lookup (by decide +kernel),seqSlot_of (T:="tuple") (name:="__rmul__") (id:="tuple.__rmul__") F.slot_tuple_rmul.lookup (by decide +kernel)]
 rfl
theorem wb(a:Int)(t:Tok)(l:Addr)(items:Array Value)(n:Nat)(dd:Option Addr)(sl:Array (Option Value)) :
  Meets (Builtin.«int.__rmul__» ⟨[.int a t,.ref l],[]⟩) (λ_ R s=>s.heap.get? l=some {cls:=.type "tuple",dict:=dd,data:=.seq items n,slots:=sl}/\R (.ok (.ret Value.notImplemented)) s):=
 .of_wp λprog w A R s h=>by obtain⟨hp,g,d,tk,os⟩:=s;obtain⟨hl,h⟩:=h;wp_walk;exact⟨_,rfl,h⟩
theorem xx(l:Addr)(items:Array Value)(n:Nat)(dd:Option Addr)(sl:Array (Option Value))(x:Int)(u:Tok)(hlo:-(2 ^ 63)<=x)(hhi:x<2 ^ 63)(he:items.isEmpty=false)(h1:¬x=1)(hp:0<x)(hsz:items.size*x.toNat<=sizeLine) :
  Meets (Builtin.«tuple.__mul__» ⟨[.ref l,.int x u],[]⟩) (λ_ R s=>s.heap.get? l=some {cls:=.type "tuple",dict:=dd,data:=.seq items n,slots:=sl}/\
   R (.ok (.ret (Value.ref s.heap.objs.size))) {s with heap:=s.heap.push {cls:=Value.type "tuple",data:=Data.seq (vF (λx1 x2=>x1++x2) #[] (bh x.toNat items))},toks:=s.toks}):=
 .of_wp λprog w A R s h=>by
  obtain⟨hp,g,d,tk,os⟩:=s;obtain⟨hl,h⟩:=h
  have z1:(decide (x < -(2 ^ 63)) || decide (x >= 2 ^ 63))=false:=by simp;lia
  have z2:(items.isEmpty || x==1)=false:=by simp[he,h1]
  have z3:(decide (x<=0) || items.isEmpty)=false:=by simp[he];lia
  have ex:(items.size:Int)*x=((items.size*x.toNat:Nat):Int):=by
   rw[Int.natCast_mul];congr 1;lia
  have z4:¬((items.size:Int)*x>(2 ^ 63-1) / 8):=by
   rw[ex]
   have:(sizeLine:Nat)<=(2 ^ 63-1) / 8:=by decide
   lia
  have z5:Tuple.tupleTooMany ((items.size:Int)*x)=false:=by
   unfold Tuple.tupleTooMany
   rw[ex]
   exact decide_eq_false (by lia)
  have z6:(vF (λ(x1 x2:Array Value)=>x1++x2) #[] (bh x.toNat items)).size<=sizeLine:=by
   have e:=AutoListH.size_joined items x.toNat #[]
   rw[e,Nat.mul_comm]
   simpa using hsz
  wp_walk
  refine wpAny_ite_false (by rw[z1];rfl) ?_
  wp_walk using AutoSeq1.wpAny_loadPart' hl
  refine wpAny_ite_false (decide_eq_false z4) ?_
  wp_walk
  refine wpAny_ite_false (by rw[z5];rfl) ?_
  wp_walk
  exact⟨_,rfl,h⟩
theorem yk(l:Addr)(items:Array Value)(n:Nat)(dd:Option Addr)(sl:Array (Option Value))(u:Tok) :
  Meets (Builtin.«tuple.__mul__» ⟨[.ref l,.int 1 u],[]⟩) (λ_ R s=>s.heap.get? l=some {cls:=.type "tuple",dict:=dd,data:=.seq items n,slots:=sl}/\R (.ok (.ret (Value.ref l))) s):=
 .of_wp λprog w A R s h=>by
  obtain⟨hp,g,d,tk,os⟩:=s;obtain⟨hl,h⟩:=h
  have z2:(items.isEmpty || (1:Int)==1)=true:=by simp
  wp_walk using AutoSeq1.wpAny_loadPart' hl
  first|exact⟨_,rfl,h⟩|trace_state
theorem xA(l:Addr)(items:Array Value)(n:Nat)(dd:Option Addr)(sl:Array (Option Value))(u:Tok)(he:items.isEmpty=false) :
  Meets (Builtin.«tuple.__mul__» ⟨[.ref l,.int 0 u],[]⟩) (λ_ R s=>s.heap.get? l=some {cls:=.type "tuple",dict:=dd,data:=.seq items n,slots:=sl}/\
   R (.ok (.ret (Value.ref s.heap.objs.size))) {s with heap:=s.heap.push {cls:=Value.type "tuple",data:=Data.seq #[]},toks:=s.toks}):=
 .of_wp λprog w A R s h=>by
  obtain⟨hp,g,d,tk,os⟩:=s;obtain⟨hl,h⟩:=h
  have z2:(items.isEmpty || (0:Int)==1)=false:=by simp[he]
  have z3:(decide ((0:Int)<=0) || items.isEmpty)=true:=by simp
  wp_walk using AutoSeq1.wpAny_loadPart' hl
  first|exact⟨_,rfl,h⟩|trace_state
end PySem
namespace L2
open PySem PySem.Spec PyProof.Rows
section
variable{X:Cx}
def LY(K:Fg):R2:=λx y H Q=>∃(l:Addr) (k:Nat) (xs:List V),x=.ref l/\y=.int (k:Nat)/\cY K H l xs/\xs≠[]/\xs.length*k<=sizeLine/\(k=1->Q (.ref l) H)/\
 (k≠1->∀p,H p=none->Q (.ref p) (upd H p (.tup (bh k xs).flatten)))
theorem Kr:kq X (binaryOp .Mult) (LY X.K):=by
 intro pins s σ H x y v u Q I rx ry h
 obtain⟨l,k,xs,rfl,rfl,hq,hne,hz,q1,q2⟩:=h
 cases rx
 obtain⟨t,rfl⟩:=ry
 obtain⟨its,r,⟨⟨cls,dd,data,sl⟩,e,hc,n,hd⟩,hl⟩:=I.tuple hq
 simp only at hc hd
 subst hc hd
 have hlen:=r.length
 have he:its.toArray.isEmpty=false:=by
  cases its with
  |nil=>simp at hlen;exact absurd hlen hne
  |cons a r'=>rfl
 have hs:its.toArray.size*k<=sizeLine:=by rw[ax,<-hlen];exact hz
 have road:wpAny (model X.prog X.w) X.A (call (.builtin "tuple.__mul__") [.ref l,.int (k:Nat) t]) (EP X pins σ Q) X.xe s->wpAny (model X.prog X.w) X.A (binaryOp .Mult (.ref l) (.int (k:Nat) t)) (EP X pins σ Q) X.xe s:=λhcall=>
  wpAny_binaryOp_repeat_ref (T:="tuple") (U:="int") (by decide) ⟨_,e,rfl⟩ (λs'=>typeIs_int s' k t) tZ F.fills_int_mul F.slot_int_rmul Ao F.slot_int_index.lookup
   (call_meets F.slot_int_rmul (typeIs_int s k t) F.entry_int_rmul (F.args_int_rmul_2 _ _) (wb k t l its.toArray n dd sl) ⟨e,rfl,⟨_,e,rfl⟩,hcall⟩)
 refine road ?_
 by_cases h1:k=1
 ·subst h1
  exact call_meets F.slot_tuple_mul ⟨_,e,rfl⟩ F.entry_tuple_mul (F.args_tuple_mul_2 _ _) (yk l its.toArray n dd sl t) ⟨e,⟨.ref l,H,I,rfl,q1 rfl⟩⟩
 ·have hn:H s.heap.objs.size=none:=I.hok.fresh (aD _)
  by_cases h0:k=0
  ·subst h0
   refine call_meets F.slot_tuple_mul ⟨_,e,rfl⟩ F.entry_tuple_mul (F.args_tuple_mul_2 _ _) (xA l its.toArray n dd sl t he) ⟨e,⟨.ref s.heap.objs.size,_,?_,rfl,q2 h1 _ hn⟩⟩
   exact I.laid (t':=s.toks) (λb o e=>az _ e) (aD _) ⟨dA _,[],.nil,⟨_,aZ _ rfl,⟨rfl,rfl⟩,_,rfl⟩⟩
  ·have hk64:(k:Int)<2 ^ 63:=by
    have h3:1<=its.toArray.size:=by
     cases its with
     |nil=>simp at he
     |cons a r'=>simp
    have h4:k<=its.toArray.size*k:=Nat.le_mul_of_pos_left k h3
    have h5:(sizeLine:Nat)<2 ^ 63:=by decide
    lia
   refine call_meets F.slot_tuple_mul ⟨_,e,rfl⟩ F.entry_tuple_mul (F.args_tuple_mul_2 _ _) (xx l its.toArray n dd sl k t (by lia) hk64 he (by lia) (by lia) (by simpa using hs)) ⟨e,?_⟩
   have f0:=yy its k []
   rw[List.nil_append] at f0
   have ek:((k:Nat):Int).toNat=k:=by simp
   rw[ek,f0]
   refine⟨.ref s.heap.objs.size,_,?_,rfl,q2 h1 _ hn⟩
   refine I.laid (t':=s.toks) (λb o e=>az _ e) (aD _) ⟨?_,(bh k its).flatten,r.rep k,⟨_,aZ _ rfl,⟨rfl,rfl⟩,_,rfl⟩⟩
   rw[Kb,Nat.mul_comm];exact hz
theorem zy:kj X (.builtin "divmod") (λxs H Q=>∃i j,xs=[.int i,.int j]/\(0<j/\j<2 ^ 64)/\∀p,H p=none->Q (.ref p) (upd H p (.tup [.int (i / j),.int (i % j)]))):=by
 intro pins s σ H xs us Q I r h
 obtain⟨i,j,rfl,⟨h1,h2⟩,q⟩:=h
 obtain⟨u,w',rfl,⟨t,rfl⟩,⟨t',rfl⟩⟩:=xE r
 have hb:j.natAbs.log2<9000:=by
  have h3:j.natAbs.log2<64:=(Nat.log2_lt (by lia)).mpr (by lia)
  lia
 refine divmod_int (by lia) ?_ (.inl (PyProof.noPylong_of_log2 hb))
 rw[Int.fdiv_eq_ediv_of_nonneg i (by lia),Int.fmod_eq_emod_of_nonneg i (by lia)]
 have hn:H s.heap.objs.size=none:=I.hok.fresh (aD _)
 refine⟨.ref s.heap.objs.size,_,?_,rfl,q _ hn⟩
 refine I.laid (λb o e=>az _ e) (aD _) ⟨by simp only[bK,kE];rw[sizeLine_eq];decide,[.int (i / j) s.toks,.int (i % j) (s.toks+1)],.cons ⟨_,rfl⟩ (.cons ⟨_,rfl⟩ .nil),?_⟩
 exact⟨_,aZ s.heap rfl,⟨rfl,rfl⟩,0,rfl⟩
inductive xH(K:Fg)(H:Hp):V->String->Bool->Prop where
 |int_int (i:Int):xH K H (.int i) "int" true
 |int_bool (i:Int):xH K H (.int i) "bool" false
 |int_tuple (i:Int):xH K H (.int i) "tuple" false
 |str_tuple (x:Str):xH K H (.str x) "tuple" false
 |tup_tuple {a:Addr} {xs:List V} (h:cY K H a xs):xH K H (.ref a) "tuple" true
 |lst_list {a:Addr} {xs:List V} (h:cA K H a xs):xH K H (.ref a) "list" true
 |str_str (x:Str):xH K H (.str x) "str" true
 |bl_bool (b:Bool):xH K H (.bl b) "bool" true
theorem GQ:kj X (.builtin "isinstance") (λxs H Q=>∃x T b,xs=[x,.ty T]/\xH X.K H x T b/\Q (.bl b) H):=by
 intro pins s σ H xs us Q I r h
 obtain⟨x,T,b,rfl,hi,q⟩:=h
 obtain⟨u,w',rfl,r1,r2⟩:=xE r
 cases r2
 cases hi with
 |int_int i=>obtain⟨t,rfl⟩:=r1;exact IsiPair.int_int ⟨.bl true,H,I,rfl,q⟩
 |int_bool i=>obtain⟨t,rfl⟩:=r1;exact IsiPair.int_bool ⟨.bl false,H,I.tok _,rfl,q⟩
 |int_tuple i=>obtain⟨t,rfl⟩:=r1;exact IsiPair.int_tuple ⟨.bl false,H,I.tok _,rfl,q⟩
 |str_tuple z=>obtain⟨t,rfl⟩:=r1;exact IsiPair.str_tuple ⟨.bl false,H,I.tok _,rfl,q⟩
 |tup_tuple hs=>
  cases r1
  obtain⟨its,rv,⟨o,e,hc,_⟩,hz⟩:=I.tuple hs
  exact IsiPair.tuple_tuple e hc ⟨.bl true,H,I,rfl,q⟩
 |lst_list hs=>
  cases r1
  obtain⟨its,rv,pl,hz⟩:=I.list hs
  obtain⟨o,e,hc,_⟩:=pl.isList
  exact IsiPair.list_list e hc ⟨.bl true,H,I,rfl,q⟩
 |str_str z=>obtain⟨t,rfl⟩:=r1;exact IsiPair.str_str ⟨.bl true,H,I,rfl,q⟩
 |bl_bool z=>cases r1;exact IsiPair.bool_bool ⟨.bl true,H,I,rfl,q⟩
theorem GN(bs:List Bool):(cw bs.length).all (λi=>(bs[i]?).getD false)=bs.all id:=by
 rw[Bool.eq_iff_iff,gE,gE]
 constructor
 ·intro h b hb
  obtain⟨i,hi,e⟩:=cF.mp hb
  have:=h i (iw.mpr hi)
  rw[ao hi,iG,e] at this
  exact this
 ·intro h i hi
  have hi:=iw.mp hi
  rw[ao hi,iG]
  exact h _ (fo hi)
theorem zA(hc:X.calm=true):kj X (.builtin "sum") (λxs H Q=>∃(p:Addr) (ns:List Int),xs=[.ref p]/\cA X.K H p (ns.map V.int)/\∀z:Int,Q (.int z) H):=by
 intro pins s σ H xs us Q I r h
 obtain⟨p,ns,rfl,hq,q⟩:=h
 obtain⟨u,rfl,rx⟩:=qo r
 cases rx
 obtain⟨its,rv,pl,hz⟩:=I.list hq
 have intsOf:∀(ns:List Int) (its:List Value),cT (ns.map V.int) its->∃xs:List (Int×Tok),its=xs.map λp=>Value.int p.1 p.2:=by
  intro ns
  induction ns with
  |nil=>intro its r;cases r;exact⟨[],rfl⟩
  |cons n ns ih=>
   intro its r
   cases r with
   |cons r rr=>
    obtain⟨xs,rfl⟩:=ih _ rr
    obtain⟨t,rfl⟩:=r
    exact⟨(n,t)::xs,rfl⟩
 obtain⟨xs,rfl⟩:=intsOf ns its rv
 refine sum_intListG (xs:=xs.toArray) (I.ok.hd hc) ?_ λh' tk t' hk=>⟨.int _,H,I.kept hk,⟨t',rfl⟩,q _⟩
 have e:=pl.isList
 simpa[intItems] using e
end
section
variable{X:Cx}
theorem wV:∀{ys:List Str} {us:List Value},cT (ys.map V.str) us->StrsAre us ys
 |[],_,r=>by cases r;exact .nil
 |y::ys,_,r=>by
  cases r with
  |cons r rr=>
   obtain⟨t,rfl⟩:=r
   exact .cons _ _ (wV rr)
def LW(K:Fg):V->List V->Hp->VK->Prop:=λx vs H Q=>∃(sep:Str) (p:Addr) (ys:List Str),x=.str sep/\vs=[.ref p]/\cA K H p (ys.map V.str)/\(ys.map (·.length)).sum+ys.length*sep.length<=16777216/\Q (.str (Txt.join sep ys)) H
theorem Kd:NM X "str.join" (LW X.K):=by
 intro pins s σ H x vs v us Q I rx rv h
 obtain⟨sep,p,ys,rfl,rfl,hq,hz,q⟩:=h
 obtain⟨t,rfl⟩:=rx
 obtain⟨u,rfl,ru⟩:=rv.one
 cases ru
 obtain⟨its,r,pl,_⟩:=I.list hq
 exact join_list pl.isList (by simpa using wV r) hz λt' k=>⟨.str _,H,I.tok k,⟨t',rfl⟩,q⟩
end
section
variable{X:Cx}
def mX(xs ys:List V):Bool:=(cw (min xs.length ys.length)).all (λj=>AB ((xs[j]?).getD .non) ((ys[j]?).getD .non))&&xs.length==ys.length
def La(K:Fg)(neg:Bool):R2:=λx y H Q=>∃p q xs ys,x=.ref p/\y=.ref q/\cY K H p xs/\cY K H q ys/\xs.all jO=true/\ys.all jO=true/\Q (.bl (if neg then !mX xs ys else mX xs ys)) H
theorem D0{A:Around}{s:Shared}{xs ys:List V}{us vs:List Value}(r1:cT xs us)(r2:cT ys vs)(f1:xs.all jO=true)(f2:ys.all jO=true) :
  ∀j (h1:j<us.toArray.size) (h2:j<vs.toArray.size),SeqAt.EqAt A s us.toArray[j] vs.toArray[j] (AB ((xs[j]?).getD .non) ((ys[j]?).getD .non)):=by
 intro j h1 h2
 have l1:=r1.length
 have l2:=r2.length
 rw[ax] at h1 h2
 have j1:j<xs.length:=by lia
 have j2:j<ys.length:=by lia
 obtain⟨u,hu,ru⟩:=r1.get (ao j1)
 obtain⟨v,hv,rv⟩:=r2.get (ao j2)
 have eu:us.toArray[j]=u:=by
  have:=ao h1
  rw[hu] at this
  simpa using(Option.some.inj this).symm
 have ev:vs.toArray[j]=v:=by
  have:=ao h2
  rw[hv] at this
  simpa using(Option.some.inj this).symm
 rw[eu,ev,ao j1,ao j2,iG,iG]
 exact CK ru rv (gE.mp f1 _ (fo j1)) (gE.mp f2 _ (fo j2))
theorem ML(hu:X.A.units<cLine):kq X (compareOp .Eq) (La X.K false):=by
 intro pins s σ H x y v u Q I rx ry h
 obtain⟨p,q,xs,ys,rfl,rfl,h1,h2,f1,f2,qq⟩:=h
 cases rx
 cases ry
 obtain⟨us,r1,t1,_⟩:=I.tuple h1
 obtain⟨vs,r2,t2,_⟩:=I.tuple h2
 refine SeqAt.eq_tupleAt (show s.heap.IsTuple p us.toArray from t1) (show s.heap.IsTuple q vs.toArray from t2) hu (D0 r1 r2 f1 f2) ⟨.bl (mX xs ys),H,I,?_,qq⟩
 show Value.bool _=Value.bool _
 unfold mX
 rw[ax,ax,r1.length,r2.length]
def LV(K:Fg):R2:=λx y H Q=>∃p xs z,x=.ref p/\y=.str z/\cY K H p xs/\Q (.bl false) H
theorem Kp(hu:X.A.units<cLine):kq X (compareOp .Eq) (LV X.K):=by
 intro pins s σ H x y v u Q I rx ry h
 obtain⟨p,xs,z,rfl,rfl,h1,qq⟩:=h
 cases rx
 obtain⟨t,rfl⟩:=ry
 obtain⟨us,r1,t1,_⟩:=I.tuple h1
 exact SeqAt.RcAt.tuple_str z t (show s.heap.IsTuple p us.toArray from t1) hu X.prog X.w X.xe _ ⟨.bl false,H,I,rfl,qq⟩
theorem MR(hu:X.A.units<cLine):kq X (compareOp .NotEq) (La X.K true):=by
 intro pins s σ H x y v u Q I rx ry h
 obtain⟨p,q,xs,ys,rfl,rfl,h1,h2,f1,f2,qq⟩:=h
 cases rx
 cases ry
 obtain⟨us,r1,t1,_⟩:=I.tuple h1
 obtain⟨vs,r2,t2,_⟩:=I.tuple h2
 refine SeqAt.RcNeAt.tuples (show s.heap.IsTuple p us.toArray from t1) (show s.heap.IsTuple q vs.toArray from t2) hu (D0 r1 r2 f1 f2) X.prog X.w X.xe _ ⟨.bl (!mX xs ys),H,I,?_,qq⟩
 show Value.bool _=Value.bool _
 unfold mX
 rw[ax,ax,r1.length,r2.length]
end
section
variable{X:Cx}
def K9(K:Fg)(neg:Bool):R2:=λx y H Q=>∃p q xs ys,x=.ref p/\y=.ref q/\cA K H p xs/\cA K H q ys/\xs.all jO=true/\ys.all jO=true/\Q (.bl (if neg then !mX xs ys else mX xs ys)) H
theorem AS{xs ys:List V}(h:xs.length=ys.length):mX xs ys=(cw xs.length).all (λj=>AB ((xs[j]?).getD .non) ((ys[j]?).getD .non)):=by
 unfold mX;rw[<-h,Nat.min_self];simp
theorem zJ{xs ys:List V}(h:¬xs.length=ys.length):mX xs ys=false:=by
 unfold mX;rw[Bool.and_eq_false_iff];right;simpa using h
theorem MI(hu:X.A.units<cLine):kq X (compareOp .Eq) (K9 X.K false):=by
 intro pins s σ H x y v u Q I rx ry h
 obtain⟨p,q,xs,ys,rfl,rfl,h1,h2,f1,f2,qq⟩:=h
 cases rx
 cases ry
 obtain⟨us,r1,t1,_⟩:=I.list h1
 obtain⟨vs,r2,t2,_⟩:=I.list h2
 have l1:=r1.length
 have l2:=r2.length
 by_cases c:xs.length=ys.length
 ·refine SeqAt.eq_listAt t1.isList t2.isList (by rw[ax,ax];lia) hu (D0 r1 r2 f1 f2) ⟨.bl (mX xs ys),H,I,?_,qq⟩
  show Value.bool _=Value.bool _
  rw[AS c,ax,l1]
 ·refine SeqAt.eq_list_lengthsAt t1.isList t2.isList (by rw[ax,ax];simp;lia) hu ⟨.bl (mX xs ys),H,I,?_,qq⟩
  show Value.bool _=Value.bool _
  rw[zJ c]
theorem MP(hu:X.A.units<cLine):kq X (compareOp .NotEq) (K9 X.K true):=by
 intro pins s σ H x y v u Q I rx ry h
 obtain⟨p,q,xs,ys,rfl,rfl,h1,h2,f1,f2,qq⟩:=h
 cases rx
 cases ry
 obtain⟨us,r1,t1,_⟩:=I.list h1
 obtain⟨vs,r2,t2,_⟩:=I.list h2
 have l1:=r1.length
 have l2:=r2.length
 by_cases c:xs.length=ys.length
 ·refine SeqAt.RcNeAt.lists t1.isList t2.isList (by rw[ax,ax];lia) hu (D0 r1 r2 f1 f2) X.prog X.w X.xe _ ⟨.bl (!mX xs ys),H,I,?_,qq⟩
  show Value.bool _=Value.bool _
  rw[AS c,ax,l1]
 ·refine SeqAt.RcNeAt.lists_lengths t1.isList t2.isList (by rw[ax,ax];simp;lia) hu X.prog X.w X.xe _ ⟨.bl (!mX xs ys),H,I,?_,qq⟩
  show Value.bool _=Value.bool _
  rw[zJ c];rfl
end
section
variable{prog:Program}{w:World}{A:Around}{E:Value->Shared->Prop}
theorem v7{it t:Addr}{items:Array Value}(hne:t≠it):∀(n i:Nat) (s:Shared) (Q:List Value->Shared->Prop),s.heap.IsListIter it t i->s.heap.IsList t items->i+n<=items.size->
  (∀h':Heap,h'.IsListIter it t (i+n)->Heap.SameBut it s.heap h'->Q ((items.toList.drop i).take n) {s with heap:=h'})->wpAny (model prog w) A (draw (.ref it) n) Q E s
 |0,i,s,Q,hit,_,_,hQ=>by
  show wpAny _ _ (pure []) Q E s
  exact wpAny_pure (by simpa using hQ s.heap hit (Heap.SameBut.refl ..))
 |n+1,i,s,Q,hit,ht,hle,hQ=>by
  have hlt:i<items.size:=by lia
  show wpAny _ _ (pyNext (.ref it) >>= _) Q E s
  refine wpAny_bind (wpAny_pyNext_list_item hit ht (x:=items[i]) (by simp[hlt]) λh₁ hit₁ hs₁=>?_)
  refine wpAny_bind (wpAny_holding (v7 hne n (i+1) _ _ hit₁ (ht.extBut hs₁.extBut hne) (by lia) λh₂ hit₂ hs₂=>wpAny_pure ?_))
  have hd:items.toList.drop i=items[i]::items.toList.drop (i+1):=by simp[List.drop_eq_getElem_cons,hlt]
  have:=hQ h₂ (by rw[show i+(n+1)=i+1+n by lia];exact hit₂) (hs₁.trans hs₂)
  rw[hd,List.take_succ_cons] at this
  exact this
theorem tF{s:Shared}{t:Addr}{items:Array Value}{Q:List Value->Shared->Prop}(hh:A.handled=none)(ht:s.heap.IsList t items)
  (hQ:∀h':Heap,Heap.ExtBut s.heap.objs.size s.heap h'->Q items.toList {s with heap:=h'}):wpAny (model prog w) A (unpackItems (.ref t) items.size none) Q E s:=by
 have hlt:t≠s.heap.objs.size:=by obtain⟨o,ho,_⟩:=ht;exact bj (aJ ho)
 unfold unpackItems
 refine wpAny_bind ?_
 ·unfold notIterableAtAll
  refine wpAny_bind (wpAny_specialOf ht.typeIs slot_list_iter.lookup ?_)
  refine wpAny_pure ?_
  simp only[Bool.false_eq_true,if_false]
  refine wpAny_bind (wpAny_holding (wpAny_pyIter_list ht ?_))
  refine wpAny_bind (wpAny_holding (v7 hlt items.size 0 _ _ ⟨_,aZ _ rfl,rfl,rfl⟩ (ht.push _) (by lia) λh₁ hit₁ hs₁=>?_))
  have hall:List.take items.size (List.drop 0 items.toList)=items.toList:=by
   rw[pj];exact cy (by simp)
  rw[hall]
  rw[if_neg (by simp)]
  have ht₁:h₁.IsList t items:=(ht.push _).extBut hs₁.extBut hlt
  refine wpAny_bind (wpAny_holding (wpAny_pyNext_list_end hh hit₁ ht₁ (by simp) λh₂ he₂=>?_))
  simp only[Option.isSome_none,Bool.false_eq_true,if_false]
  refine wpAny_pure (hQ h₂ λb o hb e=>he₂ b o hb (hs₁.extBut b o hb (az _ e)))
end
section
variable{X:Cx}{pos:Pos}
def Ha(K:Fg)(n:Nat)(t:EU):TG:=λv σ H Q=>∃a xs,v=.ref a/\cA K H a xs/\xs.length=n/\t xs σ H Q
theorem KA{es:List Expr}{k:Nat}{t:EU}{n:Nat}(hc:X.calm=true)(h:NN X es t)
  (hn:(assignEach es X.env).length=n:=by rfl) (hst:(assignEach es X.env).findIdx? (·.1)=none:=by rfl):PG X (.Tuple es k pos) (Ha X.K n t):=by
 intro pins s σ H v u Q I r hw
 obtain⟨a,xs,e1,hq,hl,hw⟩:=hw
 subst e1
 cases r
 obtain⟨its,rv,ht,hz⟩:=I.list hq
 rw[assign_Tuple]
 refine wpAny_bind (wpAny_standAt ?_)
 unfold unpack
 have e:(assignEach es X.env).length=its.toArray.size:=by simp[hn,<-hl,rv.length]
 rw[e,hst]
 refine wpAny_bind (wpAny_holding (tF (I.ok.hd hc) ht.isList λh' hx=>?_))
 have I1:bW X pins σ H {s with heap:=h'}:=I.kept (t':=s.toks) λb o e=>hx b o (bj (aJ e)) e
 exact h pins _ σ H xs _ Q I1 (by simpa using rv) hw
end
def OC:R2:=λx y H Q=>∃i j,x=.str i/\y=.str j/\i.length+j.length<=sizeLine/\Q (.str (i++j)) H
def eY(K:Fg):R2:=λx y H Q=>GE (λi j=>.int (i+j)) x y H Q\/(OC x y H Q\/(Ot x y H Q\/LS K x y H Q))
def uy:R2:=GE λi j=>.int (i-j)
def jV(K:Fg):R2:=λx y H Q=>rI Jw (λi j=>.int (i*j)) x y H Q\/LY K x y H Q
def mO:R2:=rI (λ_ j=>0<j) λi j=>.int (i % j)
def Dr:R2:=rI NP λi j=>.int (i / j)
def Ep:R2:=rI NQ λi j=>.int (i ^ j.toNat)
def fM(K:Fg):R2:=λx y H Q=>Pm x y H Q\/(La K false x y H Q\/(LV K x y H Q\/K9 K false x y H Q))
def vc(K:Fg):R2:=λx y H Q=>Pn x y H Q\/(La K true x y H Q\/K9 K true x y H Q)
def qH:R2:=GE λi j=>.bl (decide (i<j))
def FU:R2:=GE λi j=>.bl (decide (j<i))
def Lc:R2:=GE λi j=>.bl (decide (j<=i))
def Ou:R2:=λx y H Q=>y=.non/\Q (.bl (decide (x=.non))) H
def LX:R2:=λx y H Q=>y=.non/\Q (.bl (!decide (x=.non))) H
def wG:V->Hp->VK->Prop:=rU λi=>.int (-i)
def Es(K:Fg):V->Option Int->Option Int->Hp->VK->Prop:=λx lo hi H Q=>OA K x lo hi H Q\/OB K x lo hi H Q
def eA(K:Fg):List V->Hp->VK->Prop:=λxs H Q=>∃x n,xs=[x]/\NT K x H n/\Q (.int n) H
def K8:List V->Hp->VK->Prop:=λxs H Q=>∃i j,xs=[.int i,.int j]/\(0<j/\j<2 ^ 64)/\∀p,H p=none->Q (.ref p) (upd H p (.tup [.int (i / j),.int (i % j)]))
def Oy:List V->Hp->VK->Prop:=λxs H Q=>∃i j,xs=[.int i,.int j]/\Q (.int (if j>i then j else i)) H
def Oz:List V->Hp->VK->Prop:=λxs H Q=>∃i j,xs=[.int i,.int j]/\Q (.int (if j<i then j else i)) H
def O5(K:Fg):List V->Hp->VK->Prop:=λxs H Q=>∃(p:Addr) (ns:List Int),xs=[.ref p]/\cA K H p (ns.map V.int)/\∀z:Int,Q (.int z) H
def O4(K:Fg):List V->Hp->VK->Prop:=λxs H Q=>∃x T b,xs=[x,.ty T]/\xH K H x T b/\Q (.bl b) H
def Im:List V->Hp->VK->Prop:=λxs H Q=>(∃i,xs=[.int i]/\Q (.int i) H)\/∃k,xs=[.bl k]/\Q (.int (if k then 1 else 0)) H
def vB(K:Fg):List V->Hp->VK->Prop:=λxs H Q=>∃p ys,xs=[.ref p]/\(cA K H p ys\/cY K H p ys)/\∀l,H l=none->Q (.ref l) (upd H l (.lst ys))
def ma(K:Fg):List V->Hp->VK->Prop:=λxs H Q=>∃p ys,xs=[.ref p]/\((cA K H p ys/\∀l,H l=none->Q (.ref l) (upd H l (.tup ys)))\/(cY K H p ys/\Q (.ref p) H))
def lU(K:Fg)(tl:TE):TI:=λσ H R=>LN K tl σ H R\/N8 K tl σ H R
section
variable{X:Cx}
theorem cQ:kq X (binaryOp .Add) (eY X.K):=MG.or (Dl.or (MH.or Km))
theorem g8:kq X (binaryOp .Mult) (jV X.K):=MO.or Kr
theorem cH(hu:X.A.units<cLine):kq X (compareOp .Eq) (fM X.K):=Oe.or ((ML hu).or ((Kp hu).or (MI hu)))
theorem lY(hu:X.A.units<cLine):kq X (compareOp .NotEq) (vc X.K):=Of.or ((MR hu).or (MP hu))
theorem kL:GL X (Es X.K):=Lp.or NH
theorem Nf{tg l:Expr}{tl:TE}(hl:PE X l tl):PI X tg l (lU X.K tl):=by
 intro pins s σ H R I h
 rcases h with h|h
 ·exact KD hl pins s σ H R I h
 ·exact Ng hl pins s σ H R I h
end
structure aK(P:Program)(w:World)(K:Fg)(mg:Str->Option Value)(base:Heap)(x:Str)(ps:List Str)(k:Nat)(sp:Sp):Prop where
 ex:∃(f:Addr) (fd:FuncData),mg x=some (.ref f)/\aF K (.ref f)=true/\px K fd ps []/\dY P w K mg base fB k f fd ps sp
theorem Oj{X:Cx}{x:Str}{ps:List Str}{k:Nat}{sp:Sp}{e:Expr}{es:List Expr}{t:TA}{p pos:Pos}(c:aK X.prog X.w X.K X.mg X.base x ps k sp)(hr:dm k X.A)(hg:Gl X x)(ha:PA X (e::es) t)
  (hdb:(x==("__debug__":Str))=false:=by decide) (he:starEach (e::es) X.env=(false,eval e X.env)::starEach es X.env:=by rfl) (hpl:(backTo pos (starEach es X.env)).any (·.1)=false:=by rfl) :
  PE X (.Call (.Name x p) (e::es) [] pos) (bG sp [] E0 t):=by
 obtain⟨f,fd,hm,hk,hb,F⟩:=c.ex
 exact El F hr hg hm hk hb .nil Og ha hdb he hpl
structure gc(mg:Str->Option Value):Prop where
 len_:mg "len"=none
 range_:mg "range"=none
 divmod_:mg "divmod"=none
 max_:mg "max"=none
 min_:mg "min"=none
 sum_:mg "sum"=none
 all_:mg "all"=none
 isinstance_:mg "isinstance"=none
 int_:mg "int"=none
 bool_:mg "bool"=none
 list_:mg "list"=none
 tuple_:mg "tuple"=none
 enumerate_:mg "enumerate"=none
 zip_:mg "zip"=none
 sorted_:mg "sorted"=none
 set_:mg "set"=none
 dict_:mg "dict"=none
 str_:mg "str"=none
 any_:mg "any"=none
 reversed_:mg "reversed"=none
 abs_:mg "abs"=none
def gB(a:Addr)(H H':Hp):Prop:=∀b o,b≠a->H b=some o->H' b=some o
theorem gB.refl(a:Addr)(H:Hp):gB a H H:=λ_ _ _ h=>h
theorem gB.trans{a:Addr}{H H1 H2:Hp}(x:gB a H H1)(y:gB a H1 H2):gB a H H2:=λc o n h=>y c o n (x c o n h)
theorem aS.but{a:Addr}{H H':Hp}(x:aS H H'):gB a H H':=λb o _ h=>x b o h
theorem gB.upd_at{a:Addr}{H:Hp}{o:HO}:gB a H (upd H a o):=λb u n h=>by rw[aB n];exact h
theorem gB.new{a p:Addr}{H H1:Hp}{o:HO}(x:gB a H H1)(hp:H1 p=none):gB a H (upd H1 p o):=λb u n h=>by
 rw[aB (au (x b u n h) hp)];exact x b u n h
theorem aS.new{p:Addr}{H H1:Hp}{o:HO}(x:aS H H1)(hp:H1 p=none):aS H (upd H1 p o):=λb u h=>by
 rw[aB (au (x b u h) hp)];exact x b u h
theorem gB.free{a p:Addr}{H H':Hp}(x:gB a H H')(n:p≠a)(h:H' p=none):H p=none:=by
 cases q:H p with
 |none=>rfl
 |some o=>rw[x p o n q] at h;cases h
theorem lR{js:List Nat}{k:Nat}{lo:Int}{n:Nat}{g:TG}{tc:TT}{te:TE}{R:Hp->Prop}{σ:St}{H:Hp}{D:Addr}(Pv:Nat->St->Hp->Prop)(h0:Pv 0 (Ea js k σ) (upd H D (.lst [])))
  (hs:∀i σ H,i<n->Pv i σ H->g (.int (lo+i)) σ H λσ2 H2=>vg D tc te {nx:=Pv (i+1),rt:=λ_ _=>False,ct:=Pv (i+1),bk:=λ_ H'=>R H'} σ2 H2) (hd:∀σ H,Pv n σ H->R H) :
  ∃W:Nat->Nat->St->Hp->Prop,(∃m,W 0 m (Ea js k σ) (upd H D (.lst [])))/\∀i m σ H,W i m σ H->
   ((Jz lo n).stop i H/\R H)\/((Jz lo n).go i H/\∃N:St->Hp->Prop,(∀σ' H',N σ' H'->∃m',m'<m/\W (i+1) m' σ' H')/\∀x H',(Jz lo n).yld i H x H'->g x σ H' λσ2 H2=>vg D tc te {nx:=N,rt:=λ_ _=>False,ct:=N,bk:=λ_ H'=>R H'} σ2 H2):=
 gH (D:={nx:=λ_ H'=>R H',rt:=λ_ _=>False}) Pv h0 hs hd
theorem nu{js:List Nat}{k:Nat}{K:Fg}{a:Addr}{xs:List V}{g:TG}{tc:TT}{te:TE}{R:Hp->Prop}{σ:St}{H:Hp}{D:Addr}(Pv:Nat->St->Hp->Prop)(h0:Pv 0 (Ea js k σ) (upd H D (.lst [])))(hl:∀i σ H,i<=xs.length->Pv i σ H->cA K H a xs)
  (hs:∀i x σ H,xs[i]?=some x->Pv i σ H->g x σ H λσ2 H2=>vg D tc te {nx:=Pv (i+1),rt:=λ_ _=>False,ct:=Pv (i+1),bk:=λ_ H'=>R H'} σ2 H2) (hd:∀σ H,Pv xs.length σ H->R H) :
  ∃W:Nat->Nat->St->Hp->Prop,(∃m,W 0 m (Ea js k σ) (upd H D (.lst [])))/\∀i m σ H,W i m σ H->
   ((LG K a).stop i H/\R H)\/((LG K a).go i H/\∃N:St->Hp->Prop,(∀σ' H',N σ' H'->∃m',m'<m/\W (i+1) m' σ' H')/\∀x H',(LG K a).yld i H x H'->g x σ H' λσ2 H2=>vg D tc te {nx:=N,rt:=λ_ _=>False,ct:=N,bk:=λ_ H'=>R H'} σ2 H2):=
 nv (D:={nx:=λ_ H'=>R H',rt:=λ_ _=>False}) Pv h0 hl hs hd
theorem vW{js:List Nat}{k:Nat}{K:Fg}{a:Addr}{xs:List V}{g:TG}{tc:TT}{te:TE}{R:Hp->Prop}{σ:St}{H:Hp}{D:Addr}(Pv:Nat->St->Hp->Prop)(h0:Pv 0 (Ea js k σ) (upd H D (.lst [])))(hl:∀i σ H,i<=xs.length->Pv i σ H->cY K H a xs)
  (hs:∀i x σ H,xs[i]?=some x->Pv i σ H->g x σ H λσ2 H2=>vg D tc te {nx:=Pv (i+1),rt:=λ_ _=>False,ct:=Pv (i+1),bk:=λ_ H'=>R H'} σ2 H2) (hd:∀σ H,Pv xs.length σ H->R H) :
  ∃W:Nat->Nat->St->Hp->Prop,(∃m,W 0 m (Ea js k σ) (upd H D (.lst [])))/\∀i m σ H,W i m σ H->
   ((LH K a).stop i H/\R H)\/((LH K a).go i H/\∃N:St->Hp->Prop,(∀σ' H',N σ' H'->∃m',m'<m/\W (i+1) m' σ' H')/\∀x H',(LH K a).yld i H x H'->g x σ H' λσ2 H2=>vg D tc te {nx:=N,rt:=λ_ _=>False,ct:=N,bk:=λ_ H'=>R H'} σ2 H2):=
 qA (D:={nx:=λ_ H'=>R H',rt:=λ_ _=>False}) Pv h0 hl hs hd
theorem gB.through{a l:Addr}{H H1 H2:Hp}{o:HO}(x:gB a H H1)(hl:H1 l=none)(y:gB l (upd H1 l o) H2):gB a H H2:=λb u n h=>by
 have h1:=x b u n h
 have nl:b≠l:=au h1 hl
 exact y b u nl (by rw[aB nl];exact h1)
theorem aS.through{l:Addr}{H H1 H2:Hp}{o:HO}(x:aS H H1)(hl:H1 l=none)(y:gB l (upd H1 l o) H2):aS H H2:=λb u h=>by
 have h1:=x b u h
 have nl:b≠l:=au h1 hl
 exact y b u nl (by rw[aB nl];exact h1)
structure QE(X:Cx)(e:Expr)(t:TE):Prop where
 up:PE X e t
structure QT(X:Cx)(e:Expr)(t:TT):Prop where
 up:PT X e t
structure QW(X:Cx)(e:Expr)(t:TT):Prop where
 up:PW X e t
structure QA(X:Cx)(e:List Expr)(t:TA):Prop where
 up:PA X e t
structure QS(X:Cx)(e:Stmt)(t:TS):Prop where
 up:PS X e t
structure kr(X:Cx)(e:List Stmt)(t:TS):Prop where
 up:jv X e t
structure QG(X:Cx)(e:Expr)(t:TG):Prop where
 up:PG X e t
structure NX(X:Cx)(e:List Expr)(t:EU):Prop where
 up:NN X e t
structure QI(X:Cx)(a b:Expr)(t:TI):Prop where
 up:PI X a b t
structure QO(X:Cx)(e:Option Expr)(t:TO):Prop where
 up:PO X e t
structure JC(X:Cx)(e:List Expr)(t:TT):Prop where
 up:ET X e t
theorem qv(i:Nat){x:Str}{pos:Pos}(hN:X.N[i]?=some x:=by rfl)(hv:OK X.env.scope x:=by first|exact Or.inl rfl|exact Or.inr (Or.inl rfl)|exact Or.inr (Or.inr rfl))(hd:(x==("__debug__":Str))=false:=by decide)(hcd:(x==("__classdict__":Str))=false:=by decide):QE X (.Name x pos) (aj i):=
 ⟨pv i hN hv hd hcd⟩
theorem ay{i j pos}:QE X (.Constant (.int i) j pos) (tC (.int i)):=
 ⟨MX ⟩
theorem iC{b j pos}:QE X (.Constant (.bool b) j pos) (tC (.bl b)):=
 ⟨Oh ⟩
theorem ou{j pos}:QE X (.Constant .none j pos) (tC .non):=
 ⟨HS ⟩
theorem aU{x j pos}:QE X (.Constant (.str x) j pos) (tC (.str x)):=
 ⟨M5 ⟩
theorem bX{op:Operator}{r:R2}(ho:kq X (binaryOp op) r)(ha:QE X a ta)(hb:QE X b tb):QE X (.BinOp a op b pos) (bb r ta tb):=
 ⟨Om ho ha.up hb.up⟩
theorem pM{op:UnaryOp}{r:V->Hp->VK->Prop}(ho:OJ X (unaryOp op) r)(ha:QE X a ta):QE X (.UnaryOp op a pos) (Gi r ta):=
 ⟨Oo ho ha.up⟩
theorem eX{op:CmpOp}{r:R2}(ho:kq X (compareOp op) r)(ha:QE X a ta)(hb:QE X b tb)(hm:behindInMarks op b=false):QE X (.Compare a [op] [b] pos) (bb r ta tb):=
 ⟨Ku ho ha.up hb.up hm⟩
theorem Af{rest:List Expr}(ha:QE X a ta)(hb:QE X (.BoolOp .And (b::rest) pos) tb):QE X (.BoolOp .And (a::b::rest) pos) (yM ta tb):=
 ⟨MU ha.up hb.up⟩
theorem Ie{rest:List Expr}(ha:QE X a ta)(hb:QE X (.BoolOp .Or (b::rest) pos) tb):QE X (.BoolOp .Or (a::b::rest) pos) (IQ ta tb):=
 ⟨On ha.up hb.up⟩
theorem rG{op}{t:TE}(h:QE X a t):QE X (.BoolOp op [a] pos) t:=
 ⟨MZ h.up⟩
theorem fX{lo hi:Option Expr}{r:V->Option Int->Option Int->Hp->VK->Prop}(hr:GL X r)(he:QE X e te)(hl:QO X lo tl)(hu:QO X hi th):QE X (.Subscript e (.Slice lo hi none p2) pos) (Co r te tl th):=
 ⟨HU hr he.up hl.up hu.up⟩
theorem aQ{r:R2}(hr:Ju X r)(ha:QE X a ta)(hb:QE X b tb)(hs:DX b):QE X (.Subscript a b pos) (bb r ta tb):=
 ⟨Ol hr ha.up hb.up hs⟩
theorem bS{x1}(h:QA X es t):QE X (.Tuple es x1 pos) (dM t):=
 ⟨Na h.up⟩
theorem cI(h:QA X es t):QE X (.List es pos) (fL t):=
 ⟨MY h.up⟩
theorem sE{id:String}(pa:PlainAttrs T)(slot:Slot T name id)(hty:typeOf (.builtin id)=pure (.type "method_descriptor"))(hm:NM X id r)(ho:QE X o to)(ha:QA X (e::es) t)(hbase:attributeBase o name X.env (eval o X.env)=eval o X.env:=by rfl)(hfew:((backTo cpos (starEach (e::es) X.env)).all (λx=>!x.1)&&(backToKw cpos (keywordEach [] X.env)).all (λx=>x.1.isSome)
   && decide ((e::es).length+([]:List Keyword).length+(if([]:List Keyword).isEmpty then 0 else 1)<30))=true:=by rfl) (hline:(apos.endLine==cpos.line)=true:=by rfl) (hs:starEach (e::es) X.env=(false,eval e X.env)::starEach es X.env:=by rfl) (hplain:(backTo cpos (starEach es X.env)).any (·.1)=false:=by rfl):QE X (.Call (.Attribute o name apos) (e::es) [] cpos) (IL X.K T r to t):=
 ⟨Oi pa slot hty hm ho.up ha.up hbase hfew hline hs hplain⟩
theorem Ic{id:String}(pa:PlainAttrs T)(slot:Slot T name id)(hty:typeOf (.builtin id)=pure (.type "method_descriptor"))(hm:NM X id r)(ho:QE X o to)(hbase:attributeBase o name X.env (eval o X.env)=eval o X.env:=by rfl)(hline:(apos.endLine==cpos.line)=true:=by rfl):QE X (.Call (.Attribute o name apos) [] [] cpos) (Ls X.K T r to):=
 ⟨MV pa slot hty hm ho.up hbase hline⟩
theorem aW{id:String}(hc:kj X (.builtin id) r)(hg:Gl X x)(hm:X.mg x=none)(hv:bootBuiltins x=some (.builtin id))(ha:QA X (e::es) t)(hn:x≠"__name__":=by decide)(hdb:(x==("__debug__":Str))=false:=by decide)(he:starEach (e::es) X.env=(false,eval e X.env)::starEach es X.env:=by rfl)(hpl:(backTo pos (starEach es X.env)).any (·.1)=false:=by rfl):QE X (.Call (.Name x p) (e::es) [] pos) (fN r t):=
 ⟨HP hc hg hm hv ha.up hn hdb he hpl⟩
theorem eF(hc:kj X (.type T) r)(hg:Gl X x)(hm:X.mg x=none)(hv:bootBuiltins x=some (.type T))(ha:QA X (e::es) t)(hn:x≠"__name__":=by decide)(hdb:(x==("__debug__":Str))=false:=by decide)(he:starEach (e::es) X.env=(false,eval e X.env)::starEach es X.env:=by rfl)(hpl:(backTo pos (starEach es X.env)).any (·.1)=false:=by rfl):QE X (.Call (.Name x p) (e::es) [] pos) (fN r t):=
 ⟨FP hc hg hm hv ha.up hn hdb he hpl⟩
theorem bQ{X:Cx}{x:Str}{ps:List Str}{k:Nat}{sp:Sp}{e:Expr}{es:List Expr}{t:TA}{p pos:Pos}(c:aK X.prog X.w X.K X.mg X.base x ps k sp)(hr:dm k X.A)(hg:Gl X x)(ha:QA X (e::es) t)(hdb:(x==("__debug__":Str))=false:=by decide)(he:starEach (e::es) X.env=(false,eval e X.env)::starEach es X.env:=by rfl)(hpl:(backTo pos (starEach es X.env)).any (·.1)=false:=by rfl):QE X (.Call (.Name x p) (e::es) [] pos) (bG sp [] E0 t):=
 ⟨Oj c hr hg ha.up hdb he hpl⟩
theorem oq{wi:TI}(ok:vK sc N scope NY js)(hsc:X.env.scope=sc)(hN:X.N=N)(hk:NY.length=N.length+k)(hc:X.calm=true)(hit:QI X target iter wi)(hg:∀cl C s₀ H₀ fp,QG (fc X NY scope cl C s₀ H₀ fp) target g)(hi:∀cl C s₀ H₀ fp,JC (fc X NY scope cl C s₀ H₀ fp) ifs tc)(he:∀cl C s₀ H₀ fp,QE (fc X NY scope cl C s₀ H₀ fp) elt te)(hs:∀x,foldedSetIterable iter X.env x=pure x:=by intro _;rfl):QE X (.ListComp elt [⟨target,iter,ifs,0⟩] scope pos) (kC js k wi g tc te):=
 ⟨Kv ok hsc hN hk hc hit.up (λcl C s₀ H₀ fp=>(hg cl C s₀ H₀ fp).up) (λcl C s₀ H₀ fp=>(hi cl C s₀ H₀ fp).up) (λcl C s₀ H₀ fp=>(he cl C s₀ H₀ fp).up) hs⟩
theorem qB{wi:TI}{i:Nat}{y:Str}{py spos:Pos}(ok:vK sc N scope NY js)(hsc:X.env.scope=sc)(hN:X.N=N)(hk:NY.length=N.length+k)(hc:X.calm=true)(hit:QI X target iter wi)(hg:∀cl C s₀ H₀ fp,QG (fc X NY scope cl C s₀ H₀ fp) target g)(hi:∀cl C s₀ H₀ fp,JC (fc X NY scope cl C s₀ H₀ fp) ifs tc)(he:∀cl C s₀ H₀ fp,QE (fc X NY scope cl C s₀ H₀ fp) elt te)(nd:X.N.Nodup)(hy:X.N[i]?=some y)(hl:LK X.env.scope y)(hsw:swapsWith (.ListComp elt [⟨target,iter,ifs,0⟩] scope pos) (some (.Name y py)) spos.line X.env=pure true)(hs:∀x,foldedSetIterable iter X.env x=pure x:=by intro _;rfl)(hf:X.fn y=true\/X.env.scope.names.lookup y=some .local:=by first|exact .inl rfl|exact .inr rfl|assumption):QS X (.Assign [.Name y py] (.ListComp elt [⟨target,iter,ifs,0⟩] scope pos) spos) (bR (kC js k wi g tc te) (aR i)):=
 ⟨KN ok hsc hN hk hc hit.up (λcl C s₀ H₀ fp=>(hg cl C s₀ H₀ fp).up) (λcl C s₀ H₀ fp=>(hi cl C s₀ H₀ fp).up) (λcl C s₀ H₀ fp=>(he cl C s₀ H₀ fp).up) nd hy hl hsw hs hf⟩
theorem ig :QO X none gC:=
 ⟨KI ⟩
theorem ij(h:QE X e te):QO X (some e) (kP te):=
 ⟨KL h.up⟩
theorem ak :QA X [] aE:=
 ⟨MS ⟩
theorem ae(ha:QE X e te)(hr:QA X es t)(hs:starEach (e::es) X.env=(false,eval e X.env)::starEach es X.env:=by rfl):QA X (e::es) (af te t):=
 ⟨Ks ha.up hr.up hs⟩
theorem aT{op:CmpOp}{r:R2}(ho:kq X (compareOp op) r)(ha:QE X a ta)(hb:QE X b tb)(hm:behindInMarks op b=false):QT X (.Compare a [op] [b] pos) (bI (bb r ta tb)):=
 ⟨KS ho ha.up hb.up hm⟩
theorem uc(ha:QT X a tA):QT X (.UnaryOp .Not a pos) (BE tA):=
 ⟨Nq ha.up⟩
theorem oy{rest:List Expr}(ha:QT X a tA)(hb:QW X (.BoolOp .And (b::rest) pos) tB'):QW X (.BoolOp .And (a::b::rest) pos) (vh tA tB'):=
 ⟨Nt ha.up hb.up⟩
theorem mM(ha:QT X a tA):QW X (.BoolOp .And [a] pos) tA:=
 ⟨KU ha.up⟩
theorem nC{rest:List Expr}(ha:QT X a tA)(hb:QW X (.BoolOp .Or (b::rest) pos) tB'):QW X (.BoolOp .Or (a::b::rest) pos) (Dz tA tB'):=
 ⟨Os ha.up hb.up⟩
theorem lZ(ha:QT X a tA):QW X (.BoolOp .Or [a] pos) tA:=
 ⟨Nu ha.up⟩
theorem QW.pt{X:Cx}{e:Expr}{t:TT}(h:QW X e t):QT X e t:=
 ⟨PW.pt h.up⟩
theorem ie{e:Expr}{t:TE}(h:QE X e t)(he:∀whole,isTrue e X.env whole=(do let v <-whole;standAt e.pos;holding [v] (truthy v)):=by intro _;rfl):QT X e (tB t):=
 ⟨Nr h.up he⟩
theorem eG{a:Expr}{ta:TA}{p pos:Pos}(hg:Gl X "range")(hm:X.mg "range"=none)(ha:QA X [a] ta)(hs:starEach [a] X.env=[(false,eval a X.env)]:=by rfl):QI X tg (.Call (.Name "range" p) [a] [] pos) (ky ta):=
 ⟨FS hg hm ha.up hs⟩
theorem K6{a:Expr}{ta:TA}{p pos:Pos}(hg:Gl X "enumerate")(hm:X.mg "enumerate"=none)(ha:QA X [a] ta)(hs:starEach [a] X.env=[(false,eval a X.env)]:=by rfl):QI X (.Tuple elts k tpos) (.Call (.Name "enumerate" p) [a] [] pos) (Hd X.K ta):=
 ⟨KC hg hm ha.up hs⟩
theorem Nv{a b:Expr}{ta:TA}{p pos:Pos}(hg:Gl X "zip")(hm:X.mg "zip"=none)(ha:QA X [a,b] ta)(hs:starEach [a,b] X.env=[(false,eval a X.env),(false,eval b X.env)]:=by rfl)(hs2:starEach [b] X.env=[(false,eval b X.env)]:=by rfl):QI X (.Tuple elts k tpos) (.Call (.Name "zip" p) [a,b] [] pos) (Mo X.K ta):=
 ⟨Nh hg hm ha.up hs hs2⟩
theorem ic{tg l:Expr}{tl:TE}(hl:QE X l tl):QI X tg l (lU X.K tl):=
 ⟨Nf hl.up⟩
theorem bO{i:Nat}{x:Str}(hN:X.N.Nodup)(hi:X.N[i]?=some x)(hx:LK X.env.scope x)(hf:X.fn x=true\/X.env.scope.names.lookup x=some .local:=by first|exact .inl rfl|exact .inr rfl|assumption):QG X (.Name x pos) (aR i):=
 ⟨Kz hN hi hx hf⟩
theorem rH{es:List Expr}{k:Nat}{t:EU}{n:Nat}(hc:X.calm=true)(h:NX X es t)(hn:(assignEach es X.env).length=n:=by rfl)(hst:(assignEach es X.env).findIdx? (·.1)=none:=by rfl):QG X (.Tuple es k pos) (zM X.K n t):=
 ⟨Nd hc h.up hn hst⟩
theorem KZ{es:List Expr}{k:Nat}{t:EU}{n:Nat}(hc:X.calm=true)(h:NX X es t)(hn:(assignEach es X.env).length=n:=by rfl)(hst:(assignEach es X.env).findIdx? (·.1)=none:=by rfl):QG X (.Tuple es k pos) (Ha X.K n t):=
 ⟨KA hc h.up hn hst⟩
theorem mK :NX X [] xK:=
 ⟨KB ⟩
theorem eh{e:Expr}{es:List Expr}{t:TG}{u:EU}(h1:QG X e t)(h2:NX X es u)(hs:(assignEach (e::es) X.env).map (·.2)=assign e X.env::(assignEach es X.env).map (·.2):=by rfl):NX X (e::es) (jo t u):=
 ⟨HV h1.up h2.up hs⟩
theorem gI{o i:Expr}{to ti:TE}{t:JD}(ho:QE X o to)(hi:QE X i ti)(hs:JB X t)(ha:∀v,assign (.Subscript o i pos) X.env v=(do
   let ov <-holding [v] (eval o X.env)
   let iv <-holding [v,ov] (eval i X.env)
   standAt pos
   holding [v,ov,iv] (setItem ov iv v)
   release [v,ov,iv] []):=by intro _;rfl):QG X (.Subscript o i pos) (lS to ti t):=
 ⟨Nc ho.up hi.up hs ha⟩
theorem bx{i:Nat}{x:Str}{e:Expr}{te:TE}{pos':Pos}(hN:X.N.Nodup)(hi:X.N[i]?=some x)(hx:LK X.env.scope x)(he:QE X e te)(hs:swapsWith e (some (.Name x pos')) pos.line X.env=pure false:=by rfl)(hf:X.fn x=true\/X.env.scope.names.lookup x=some .local:=by first|exact .inl rfl|exact .inr rfl|assumption):QS X (.Assign [.Name x pos'] e pos) (bR te (aR i)):=
 ⟨Nn hN hi hx he.up hs hf⟩
theorem fG{tg e:Expr}{te:TE}{g:TG}(he:QE X e te)(hg:QG X tg g)(hs:swapsWithSole [tg] e pos.line X.env=pure false:=by rfl)(hw:swappedStores [tg] e X.env=pure none:=by rfl)(h1:(assignEach [tg] X.env).map (·.2)=[assign tg X.env]:=by rfl):QS X (.Assign [tg] e pos) (bR te g):=
 ⟨Nj he.up hg.up hs hw h1⟩
theorem iI(he:QE X e te)(hs:swapsWith e none pos.line X.env=pure false:=by rfl):QS X (.Expr e pos) (mq te):=
 ⟨KO he.up hs⟩
theorem bq(he:QE X e te):QS X (.Return (some e) pos) (cE te):=
 ⟨Nl he.up⟩
theorem bU{c:Expr}{a b:List Stmt}{tc:TT}(hc:QT X c tc)(ha:kr X a t)(hb:kr X b u):QS X (.If c a b pos) (cM tc t u):=
 ⟨Oq hc.up ha.up hb.up⟩
theorem sG{c:Expr}{body:List Stmt}{tc:TT}{tb:TS}(hp:PassesOwn (model X.prog X.w) X.A X.env X.xe)(hc:QT X c tc)(hb:kr X body tb):QS X (.While c body [] pos) (uj tc tb):=
 ⟨Ia hp hc.up hb.up⟩
theorem fg{iter:Expr}{body:List Stmt}{wi:TI}{g:TG}{tb:TS}{pos:Pos}(hp:PassesOwn (model X.prog X.w) X.A X.env X.xe)(hc:X.calm=true)(hi:QI X tg iter wi)(hg:QG X tg g)(hb:kr X body tb)(hs:∀x,foldedSetIterable iter X.env x=pure x:=by intro _;rfl):QS X (.For tg iter body [] pos) (jM wi g tb):=
 ⟨Nk hp hc hi.up hg.up hb.up hs⟩
theorem aw{st:Stmt}{rest:List Stmt}(h1:QS X st t)(h2:kr X rest u):kr X (st::rest) (bz t u):=
 ⟨Ib h1.up h2.up⟩
theorem aA{st:Stmt}(h1:QS X st t):kr X [st] t:=
 ⟨KR h1.up⟩
theorem bo :kr X [] bY:=
 ⟨KQ ⟩
theorem sD{x:Str}{v:V}{u:Value}{pos:Pos}(hg:Gl X x)(hm:X.mg x=none)(hv:bootBuiltins x=some u)(r:dy v u)(hn:x≠"__name__":=by decide)(hd:(x==("__debug__":Str))=false:=by decide):QE X (.Name x pos) (tC v):=
 ⟨Kt hg hm hv r hn hd⟩
theorem kg{X:Cx}:JC X [] rL:=
 ⟨KF ⟩
theorem Ag{X:Cx}{c:Expr}{t:TT}(h:QT X c t):JC X [c] t:=
 ⟨KG h.up⟩
def Il(neg:Bool):R2:=λx y H Q=>∃a o,y=.ref a/\AE H a x o/\Q (.bl (if neg then !o.isSome else o.isSome)) H
def Er:V->V->V->Hp->(Hp->Prop)->Prop:=λo i v H Q=>∃a H',o=.ref a/\Cp H a i v H'/\Q H'
section
variable{X:Cx}
theorem MN(hu:X.A.units+1<cLine):kq X (compareOp .In) (Il false):=by
 intro pins s σ H x y v u Q I rx ry h
 obtain⟨a,o,rfl,g,q⟩:=h
 cases ry
 exact OV hu I g rx λs' I'=>⟨.bl o.isSome,H,I',rfl,q⟩
theorem yF(hu:X.A.units+1<cLine):kq X (compareOp .NotIn) (Il true):=by
 intro pins s σ H x y v u Q I rx ry h
 obtain⟨a,o,rfl,g,q⟩:=h
 cases ry
 exact JN hu I g rx λs' I'=>⟨.bl (!o.isSome),H,I',rfl,q⟩
theorem wQ(hu:X.A.units+1<cLine):JB X Er:=by
 intro pins s σ H o i v ov iv u Q I ro ri rv h
 obtain⟨a,H',rfl,g,q⟩:=h
 cases ro
 exact E7 hu I g ri rv λs' I'=>⟨H',I',q⟩
theorem AA:∀{us:List Value} {ns:List Int},IntsAre us ns->cT (ns.map V.int) us:=by
 intro us ns h
 induction h with
 |nil=>exact .nil
 |cons n t _ ih=>exact .cons ⟨t,rfl⟩ ih
theorem we{prog:Program}{w:World}:∀{ns:List Int} {vs:List (hV×Value)} {us:List Value},vs.map (·.1)=ns.map Sum.inl->us.length=vs.length->(∀(j:Nat) v,us[j]?=some v->∃k x,vs[j]?=some (k,x)/\(ff prog w).is k v=true)->IntsAre us ns
 |[],vs,us,h1,h2,_=>by
  have:vs=[]:=by cases vs with|nil=>rfl|cons a r=>cases h1
  subst this
  have:us=[]:=cD.mp h2
  subst this
  exact .nil
 |n::ns,vs,us,h1,h2,h3=>by
  cases vs with
  |nil=>cases h1
  |cons a vs=>
   cases us with
   |nil=>cases h2
   |cons u us=>
    obtain⟨k,x,e,hk⟩:=h3 0 u rfl
    have e':a=(k,x):=Option.some.inj e
    subst e'
    injection h1 with h1 h1'
    have h1:k=Sum.inl n:=h1
    subst h1
    obtain⟨t,rfl⟩:=Value.isInt_shape (k:=n) (v:=u) hk
    refine .cons n t (we (prog:=prog) (w:=w) h1' (by simpa using h2) λj v e=>?_)
    exact h3 (j+1) v (by simpa using e)
def Iq:List V->Hp->VK->Prop:=λxs H Q=>∃(d:Addr) (kvs:List (hV×V)) (ns:List Int),xs=[.ref d]/\H d=some (.dK kvs)/\kvs.map (·.1)=ns.map Sum.inl/\ns.length<64/\∀(l:Addr) (ns':List Int),H l=none->ns'.Perm ns->ns'.Pairwise (·<=·)->Q (.ref l) (upd H l (.lst (ns'.map V.int)))
theorem CG(hc:X.calm=true):kj X (.builtin "sorted") Iq:=by
 intro pins s σ H xs us Q I r h
 obtain⟨d,kvs,ns,rfl,hd,hk,h64,q⟩:=h
 obtain⟨u,rfl,rx⟩:=qo r
 cases rx
 obtain⟨z,lo,vs,rel,dd⟩:=v5 I.hok hd
 obtain⟨ep,hat⟩:=dd.dictAt
 have hh:X.A.handled=none:=I.ok.hd hc
 have kl:=rel.length
 have hv:vs.map (·.1)=ns.map Sum.inl:=by rw[<-rel.keys];exact hk
 have vl:vs.length=ns.length:=by have:=congrArg pq hv;simpa using this
 refine Calls.call_function_entry kind_sorted plain_sorted entry_sorted (args_sorted1 _) ?_
 unfold Builtin.«sorted»
 refine wpAny_bind (m:=checkCount "sorted" 1 1 _) (wpAny_pure ?_)
 refine wpAny_bind (PySem.W.kdu_collect (A:=X.A.in1) (PySem.W.kdl_dict (knd:=ff X.prog X.w) (kvs:=vs) (ep:=ep) lo) hh hat (by rw[<-kl];exact z) λh' tk acc hkp hacc=>?_)
 have hl:acc.toList.length=vs.length:=by rw[cc];exact hacc.1
 have hI:IntsAre acc.toList ns:=we (prog:=X.prog) (w:=X.w) hv hl λj v e=>hacc.2 j v (by rw[<-ee];exact e)
 refine wpAny_bind (wpAny_newList ?_ (by rw[hl,<-kl];exact z))
 have hoL:(h'.push (seqObj "list" acc.toList.toArray 0)).get? h'.objs.size=some (seqObj "list" acc.toList.toArray 0):=aZ _ rfl
 show wpAny _ _ _ _ _ {s with heap:=h'.push (seqObj "list" acc.toList.toArray 0),toks:=tk}
 refine wpAny_bind (wpAny_holding (wpAny_call_entry slot_list_sort ⟨_,hoL,rfl⟩ entry_list_sort (list_sort_tree hoL hI (by rw[hl,vl];exact h64) λout ns' a1 a2 a3=>⟨_,rfl,?_⟩) (args_list_sort _)))
 refine wpAny_pure ⟨_,rfl,?_⟩
 obtain⟨e,he⟩:=sortedHeap_at (n:=0) (out:=out) hoL
 have hn:=AA a1
 have hlen:ns'.length=ns.length:=a2.length_eq
 have I1:bW X pins σ H {s with heap:=h',toks:=tk}:=I.kept hkp
 refine⟨.ref h'.objs.size,_,I1.laid (t':=tk) (λb u q1=>?_) (aD _) (show eR X.prog X.w _ _ _ (.lst (ns'.map V.int)) from⟨?_,out.toList,e,hn,?_⟩),rfl,q _ _ (I1.hok.fresh (aD _)) a2 a3⟩
 ·have lt:=aJ q1
  rw[sortedHeap_old (bj lt) (by rw[size_push'];exact fU lt)]
  exact az _ q1
 ·rw[ai,hlen];exact cq (jy h64) (by decide)
 ·rw[Array.toArray_toList];exact he
end
structure Jy(K:Fg)(x qual:Str)(st:Stmt)(dV:Value)(f:Addr)(fd:FuncData):Prop where
 ex:∃(oc:Value) (od:Option Addr) (kV doc pm:Value) (an:Option Addr) (cdv ct:Value) (osl:Array (Option Value)),
  fd=aL x qual (bL st) (aP st) (aq st) dV kV doc pm an cdv ct/\K.lookup f=some ⟨oc,od,.func fd,osl⟩/\aI K cdv qual=true
 kp:aF K (.ref f)=true
section
variable{P:Program}{w:World}{K:Fg}{mg:Str->Option Value}{base:Heap}
theorem Jy.ok{x qual:Str}{st:Stmt}{dV:Value}{f:Addr}{fd:FuncData}{N ps:List Str}{k:Nat}{sp:Sp}(F:Jy K x qual st dV f fd)(S:bT N ps (aq st))(len:∀vs H Q E,sp vs H Q E->vs.length=ps.length)
  (hbody:∀(cdv:Value) (A:Around) (outer:List Env) (s:Shared) (H:Hp) (vs:List V) (Q:VK) (E:XK),dm k (A.deeper (envOfC qual (aq st) s.heap.objs.size f cdv))->sp vs H Q E->
   ∃t,jv (eE fB P w K mg base N qual (aq st) f cdv A outer s H E).nox (aP st) t/\t {nx:=λ_ H'=>Q .non H',rt:=Q} (cU N vs) H):dY P w K mg base fB (k+1) f fd ps sp:=by
 obtain⟨oc,od,kV,doc,pm,an,cdv,ct,osl,rfl,lk,hcd⟩:=F.ex
 refine G8 lk hcd S len λA outer s H vs Q E hr hsp=>?_
 obtain⟨t,h,q⟩:=hbody cdv A outer s H vs Q E hr hsp
 exact⟨t,h.nox,q⟩
theorem JX{x qual:Str}{st:Stmt}{dV:Value}{f:Addr}{oc:Value}{od an:Option Addr}{osl:Array (Option Value)}{kV doc pm cdv ct:Value}(l:K.lookup f=some ⟨oc,od,.func (aL x qual (bL st) (aP st) (aq st) dV kV doc pm an cdv ct),osl⟩)
  (c:aI K cdv qual=true) (k:aF K (.ref f)=true):Jy K x qual st dV f (aL x qual (bL st) (aP st) (aq st) dV kV doc pm an cdv ct):=⟨⟨oc,od,kV,doc,pm,an,cdv,ct,osl,rfl,l,c⟩,k⟩
end
structure OI(X:Cx)(pos:Pos)(keys:List (Option Expr))(values:List Expr)(trs:List (TE×TE)):Prop where
 up:NW X pos keys values trs
theorem K7{X:Cx}{pos:Pos}:OI X pos [] [] []:=⟨KM⟩
theorem Ig{X:Cx}{pos:Pos}{k v:Expr}{ks:List (Option Expr)}{vs:List Expr}{tk tv:TE}{trs:List (TE×TE)}(hk:QE X k tk)(hv:QE X v tv)(hr:OI X pos ks vs trs):OI X pos (some k::ks) (v::vs) ((tk,tv)::trs):=⟨HY hk.up hv.up hr.up⟩
theorem KW{X:Cx}{pos:Pos}{keys:List (Option Expr)}{values:List Expr}{trs:List (TE×TE)}(h:OI X pos keys values trs)(hall:keys.all (·.isSome)=true)(hl:keys.length=values.length)(h0:keys≠[])(h15:keys.length<=15):QE X (.Dict keys values pos) (IM trs):=⟨Kw h.up hall hl h0 h15⟩
theorem Bm{X:Cx}{pos:Pos}:QE X (.Dict [] [] pos) Av:=⟨HQ⟩
end L2
end
section
namespace BgSet
open PySem
def Jv(ps:Array Nat):Prop:=ps.toList.Pairwise (·<·)
theorem Jv.at{ps:Array Nat}(hr:Jv ps){i j a b:Nat}(hij:i<j)(ha:ps[i]?=some a)(hb:ps[j]?=some b):a<b:=by
 rw[<-ee] at ha hb
 obtain⟨hi,rfl⟩:=ar.mp ha
 obtain⟨hj,rfl⟩:=ar.mp hb
 exact iP.mp hr i j hi hj hij
theorem GP{ps:Array Nat}{j:Nat}(hr:Jv ps):∀fl lo hi,hi-lo<=fl->hi<=ps.size->lo<=hi->
  (∀i a,i<lo->ps[i]?=some a->a<j)->(∀i a,hi<=i->ps[i]?=some a->j<=a)->
  SetTable.below.go ps j fl lo hi<=ps.size/\(∀i a,i<SetTable.below.go ps j fl lo hi->ps[i]?=some a->a<j)
   /\(∀i a,SetTable.below.go ps j fl lo hi<=i->ps[i]?=some a->j<=a):=by
 intro fl
 induction fl with
 |zero=>
  intro lo hi hf hs hl h1 h2
  have:lo=hi:=by lia
  subst this
  exact⟨hs,h1,h2⟩
 |succ fl ih=>
  intro lo hi hf hs hl h1 h2
  unfold SetTable.below.go
  by_cases hlt:lo<hi
  ·rw[if_pos hlt]
   have hm:(lo+hi) / 2<ps.size:=by lia
   have hg:ps[(lo+hi) / 2]?=some (ps.getD ((lo+hi) / 2) j):=by
    simp[Array.getD,hm]
   dsimp only
   by_cases hc:ps.getD ((lo+hi) / 2) j<j
   ·rw[if_pos hc]
    refine ih _ _ (by lia) hs (by lia) (λi a hi' ha=>?_) h2
    rcases nR i ((lo+hi) / 2) with hq|hq
    ·exact rQ (hr.at hq ha hg) hc
    ·have:i=(lo+hi) / 2:=by lia
     subst this;rw[hg] at ha;cases ha;exact hc
   ·rw[if_neg hc]
    refine ih _ _ (by lia) (by lia) (by lia) h1 (λi a hi' ha=>?_)
    rcases nR ((lo+hi) / 2) i with hq|hq
    ·exact jy (i7 (vG.mp hc) (hr.at hq hg ha))
    ·have:i=(lo+hi) / 2:=by lia
     subst this;rw[hg] at ha;cases ha;exact vG.mp hc
  ·rw[if_neg hlt]
   have:lo=hi:=by lia
   subst this
   exact⟨hs,h1,h2⟩
theorem AJ{ps:Array Nat}(hr:Jv ps)(j:Nat):SetTable.below ps j<=ps.size/\(∀i a,i<SetTable.below ps j->ps[i]?=some a->a<j)
  /\(∀i a,SetTable.below ps j<=i->ps[i]?=some a->j<=a):=by
 refine GP hr ps.size 0 ps.size (aD _) (aD _) (dA _) (λi a h=>absurd h (bN _)) (λi a h ha=>?_)
 rw[Array.getElem?_eq_none h] at ha;cases ha
theorem Dv{ps:Array Nat}(hr:Jv ps){j:Nat}(hn:∀i:Nat,ps[i]?≠some j):Jv (SetTable.insertAt ps (SetTable.below ps j) j):=by
 obtain⟨h1,h2,h3⟩:=AJ hr j
 unfold Jv
 rw[SetTable.toList_insertAt]
 have hlow:∀a∈ps.toList.take (SetTable.below ps j),a<j:=λa ha=>by
  obtain⟨i,hi⟩:=List.getElem?_of_mem ha
  rw[List.getElem?_take] at hi
  split at hi
  ·rename_i hlt;exact h2 i a hlt (by rw[<-ee];exact hi)
  ·cases hi
 have hhigh:∀a∈ps.toList.drop (SetTable.below ps j),j<a:=λa ha=>by
  obtain⟨i,hi⟩:=List.getElem?_of_mem ha
  rw[List.getElem?_drop,ee] at hi
  have:=h3 _ a (Nat.le_add_right _ _) hi
  rcases Nat.lt_or_eq_of_le this with h|h
  ·exact h
  ·subst h;exact absurd hi (hn _)
 refine ki.mpr ⟨hr.sublist (jx _ _),List.pairwise_cons.mpr ⟨hhigh,hr.sublist (List.drop_sublist _ _)⟩,λa ha b hb=>?_⟩
 rcases aV.mp hb with rfl|hb
 ·exact hlow a ha
 ·exact rQ (hlow a ha) (hhigh b hb)
structure tP(led:Bool)(t:SetTable):Prop where
 led:t.led=led
 dum:t.dummies=#[]
 ris:t.plain=true->Jv t.place
theorem tP.fresh(a b:Nat)(led:Bool):tP led (SetTable.fresh a b led):=⟨rfl,rfl,λ_=>List.Pairwise.nil⟩
theorem tP.standIn{led:Bool}{t:SetTable}(h:tP led t)(n:Nat):tP led (t.standIn n):=
 ⟨h.led,rfl,λhp=>by simp[SetTable.standIn] at hp⟩
theorem tP.orStandIn{led:Bool}{t:SetTable}(h:tP led t)(n:Nat):tP led (t.orStandIn n):=by
 unfold SetTable.orStandIn
 split
 ·exact h
 ·exact h.standIn n
theorem AV(j:Nat):SetTable.has #[] j=false:=by
 unfold SetTable.has;simp
theorem Dx{t:SetTable}(hd:t.dummies=#[]){j:Nat}:t.slot j≠.dummy:=by
 unfold SetTable.slot
 rw[hd,AV]
 dsimp only
 split<;>simp
theorem Dp{t:SetTable}(hd:t.dummies=#[]){f:Nat->Int}{h:Int}:∀fl (p:SetTable.Probe) (j:Nat) (d:Option Nat),p.dummy=none->
  SetTable.probe.go t f h fl p=some (.empty j d)->d=none/\t.slot j=.empty:=by
 intro fl
 induction fl with
 |zero=>intro p j d hp hq;unfold SetTable.probe.go at hq;cases hq
 |succ fl ih=>
  intro p j d hp hq
  unfold SetTable.probe.go at hq
  have hadv:(t.advance p).dummy=none:=by
   unfold SetTable.advance;split<;>exact hp
  cases hs:t.slot p.j with
  |empty=>rw[hs] at hq;simp only[Option.some.injEq,SetTable.Met.empty.injEq] at hq;obtain⟨rfl,rfl⟩:=hq;exact⟨hp,hs⟩
  |dummy=>exact absurd hs (Dx hd)
  |live i=>
   rw[hs] at hq
   simp only at hq
   split at hq
   ·cases hq
   ·exact ih _ j d hadv hq
theorem Fd{t:SetTable}(hd:t.dummies=#[]){h:Int}{sl:Nat}{wd:Bool}(hq:t.freeSlot h=some (sl,wd)):t.slot sl=.empty:=by
 unfold SetTable.freeSlot SetTable.probe at hq
 split at hq
 ·rename_i j d he
  obtain⟨rfl,hs⟩:=Dp hd _ _ j d rfl he
  simp only[ni,Option.some.injEq,Prod.mk.injEq] at hq
  rw[<-hq.1];exact hs
 ·cases hq
theorem IK{t:SetTable}(hr:Jv t.place){j:Nat}(hs:t.slot j=.empty):∀i:Nat,t.place[i]?≠some j:=by
 intro i hi
 obtain⟨h1,h2,h3⟩:=AJ hr j
 have hb:SetTable.below t.place j=i:=by
  rcases mC (SetTable.below t.place j) i with h|h|h
  ·have hlt:SetTable.below t.place j<t.place.size:=by
    have:=(bM.mp hi).1;lia
   have hq:=Array.getElem?_eq_getElem hlt
   have a1:=h3 _ _ (aD _) hq
   have a2:=hr.at h hq hi
   lia
  ·exact h
  ·exact absurd (h2 i j h hi) (cK _)
 unfold SetTable.slot at hs
 rw[hb] at hs
 dsimp only at hs
 rw[hi] at hs
 simp at hs
theorem tP.put{led:Bool}{t:SetTable}(h:tP led t){sl:Nat}(hs:t.slot sl=.empty):tP led (t.put sl).1:=by
 refine⟨h.led,?_,λhp=>?_⟩
 ·show(if SetTable.has t.dummies sl=true then _ else t.dummies)=#[]
  rw[h.dum,AV];rfl
 ·exact Dv (h.ris hp) (IK (h.ris hp) hs)
theorem tP.layNew{led:Bool}{t:SetTable}(h:tP led t)(es:Array (Int×Value))(hs:Int)(x:Value):tP led (layNew t es hs x).2.1:=by
 unfold PySem.layNew
 split
 ·rename_i sl wd hq
  exact(h.put (Fd h.dum hq)).orStandIn _
 ·exact h.standIn _
theorem tP.off{led:Bool}{t:SetTable}(h:tP led t):tP led {t with plain:=false}:=⟨h.led,h.dum,λhp=>by simp at hp⟩
theorem wu(g:Nat->Option Nat):∀l:List Nat,((l.filterMap λj=>(g j).map (j,·)).map (·.1)).Sublist l
 |[]=>List.Sublist.refl _
 |j::l=>by
  rw[iQ]
  cases hg:g j with
  |none=>simpa using(wu g l).cons j
  |some b=>simpa using(wu g l).cons_cons j
theorem tP.relaid{led:Bool}{t t':SetTable}{hs:Array Int}{n:Nat}{o:Array Nat}(h:tP led t)(hq:t.relaid hs n=some (t',o)):tP led t':=by
 unfold SetTable.relaid SetTable.laid at hq
 cases ho:SetTable.layClean (SetTable.sizeAbove n-1) hs with
 |none=>rw[ho] at hq;simp at hq
 |some ow=>
  rw[ho] at hq
  simp only[Option.bind_eq_bind,fv,Option.pure_def,Option.some.injEq,Prod.mk.injEq] at hq
  rw[<-hq.1]
  refine⟨h.led,rfl,λ_=>?_⟩
  unfold Jv
  rw[List.toList_toArray]
  exact(List.pairwise_lt_range).sublist (wu (λj=>ow.getD j none) _)
theorem tP.relay{led:Bool}{t:SetTable}(h:tP led t)(es:Array (Int×Value))(n:Nat):tP led (relayAll t es n).2.1:=by
 unfold relayAll
 split
 ·rename_i t' o hq
  dsimp only
  split
  ·exact h.relaid hq
  ·exact h.standIn _
 ·exact h.standIn _
theorem Bk{t:SetTable}(h:t.plain=false)(es:Array (Int×Value))(n:Nat):(relayAll t es n).2.1.plain=false:=by
 unfold relayAll
 split
 ·rename_i t' o hq
  dsimp only
  split
  ·unfold SetTable.relaid SetTable.laid at hq
   cases ho:SetTable.layClean (SetTable.sizeAbove n-1) (es.map (·.1)) with
   |none=>rw[ho] at hq;simp at hq
   |some ow=>
    rw[ho] at hq
    simp only[Option.bind_eq_bind,fv,Option.pure_def,Option.some.injEq,Prod.mk.injEq] at hq
    rw[<-hq.1];exact h
  ·rfl
 ·rfl
section
variable{prog:Program}{w:World}{K:Type}[DecidableEq K]
def vI(kd:KeyKind prog w K)(l:List (Int×Value)):Prop:=
 l.Pairwise λe e'=>∀k,kd.is k e.2=true->kd.is k e'.2=false
theorem vI.perm{kd:KeyKind prog w K}{l l':List (Int×Value)}(h:vI kd l)(p:l'.Perm l):vI kd l':=by
 refine(p.pairwise_iff (λ{x y} hxy k hk=>?_)).mpr h
 cases hx:kd.is k x.2 with
 |false=>rfl
 |true=>have:=hxy k hx;rw[hk] at this;cases this
def SetTb(kd:KeyKind prog w K)(h:Heap)(a:Addr)(S:K->Bool)(n:Nat)(led np:Bool):Prop:=
 ∃o es ep t,h.get? a=some o/\o.ExactSet/\o.data=.set es ep t/\ElemsOf kd es.toList/\(∀k,S k=true↔∃e∈es.toList,kd.is k e.2=true)
  /\es.size<scanBound/\t.fits es.size=true/\es.size=n/\tP led t/\(np=true->n≠0->t.plain=false)/\vI kd es.toList
variable{kd:KeyKind prog w K}{A:Around}{E:Value->Shared->Prop}{s:Shared}
theorem SetTb.congr{h:Heap}{a:Addr}{S S':K->Bool}{n n':Nat}{led np:Bool}(hS:SetTb kd h a S n led np)(e:∀k,S k=S' k)(en:n=n'):SetTb kd h a S' n' led np:=by
 cases(funext e:S=S');cases en;exact hS
theorem SetTb.keep{h h':Heap}{a:Addr}{S:K->Bool}{n:Nat}{led np:Bool}(hS:SetTb kd h a S n led np)(e:∀o,h.get? a=some o->h'.get? a=some o):SetTb kd h' a S n led np:=by
 obtain⟨o,es,ep,t,ho,r⟩:=hS
 exact⟨o,es,ep,t,e o ho,r⟩
theorem SetTb.fresh{h:Heap}{a:Addr}{led np:Bool}{x y:Nat}(hg:h.get? a=some {cls:=.type "set",dict:=none,data:=.set #[] 0 (.fresh x y led)}) :
  SetTb kd h a (λ_=>false) 0 led np:=
 ⟨_,#[],0,_,hg,⟨rfl,rfl,rfl⟩,rfl,λe he=>by simp at he,λk=>by simp,by decide,rfl,rfl,tP.fresh x y led,λ_ hn=>absurd rfl hn,List.Pairwise.nil⟩
structure Cr(kd:KeyKind prog w K)(S:K->Bool)(n:Nat)(led np:Bool)(es:Array (Int×Value))(t:SetTable):Prop where
 el:ElemsOf kd es.toList
 mem:∀k,S k=true↔∃e∈es.toList,kd.is k e.2=true
 few:es.size<scanBound
 fit:t.fits es.size=true
 many:es.size=n
 tab:tP led t
 off:np=true->t.plain=false
 apart:vI kd es.toList
theorem Cr.relay{S:K->Bool}{n:Nat}{led np:Bool}{es:Array (Int×Value)}{t:SetTable}(h:Cr kd S n led np es t)(wn:Nat) :
  Cr kd S n led np (relayAll t es wn).1 (relayAll t es wn).2.1:=by
 have hp:=relayAll_perm t es wn
 have hz:(relayAll t es wn).1.size=es.size:=by rw[<-cc,hp.length_eq,cc]
 exact⟨h.el.perm hp,λk=>(h.mem k).trans ⟨λ⟨e,he,q⟩=>⟨e,hp.mem_iff.mpr he,q⟩,λ⟨e,he,q⟩=>⟨e,hp.mem_iff.mp he,q⟩⟩,
  by rw[hz];exact h.few,relayAll_fits t es wn,by rw[hz];exact h.many,h.tab.relay es wn,λe=>Bk (h.off e) es wn,h.apart.perm hp⟩
theorem Cr.stored{S:K->Bool}{n:Nat}{led np:Bool}{es':Array (Int×Value)}{t':SetTable}(L:Cr kd S n led np es' t')
  {h:Heap} {a:Addr} {o:Obj} {es:Array (Int×Value)} {ep:Nat} {t:SetTable} (ho:h.get? a=some o) (hex:o.ExactSet) (hd:o.data=.set es ep t) :
  (h.update a (Obj.putSet es' t')).get? a=some {o with data:=.set es' (ep+1) t'}/\SetTb kd (h.update a (Obj.putSet es' t')) a S n led np:=by
 have hg:=(SetOf_store (knd:=kd) ho hex hd L.el L.mem L.few L.fit).1
 exact⟨hg,_,es',ep+1,t',hg,hex,rfl,L.el,L.mem,L.few,L.fit,L.many,L.tab,λe _=>L.off e,L.apart⟩
theorem AI{g:Bool->Sem Unit}(hg:∀(b:Bool) (s₁:Shared) (Q':Unit->Shared->Prop),Q' () s₁->wpAny (model prog w) A (g b) Q' E s₁)
  {a:Addr} {o:Obj} {es:Array (Int×Value)} {ep:Nat} {t:SetTable} (ho:s.heap.get? a=some o) (hex:o.ExactSet) (hd:o.data=.set es ep t)
  {es1:Array (Int×Value)} {t2:SetTable} {S:K->Bool} {n:Nat} {led np:Bool} (L:Cr kd S n led np es1 t2) {wd:Bool} {R:Option Bool->Shared->Prop}
  (hR:∀h',Heap.SameBut a s.heap h'->SetTb kd h' a S n led np->R (some true) {s with heap:=h'}) :
  wpAny (model prog w) A (do
    storeSet a es1 t2
    if(!wd&&t2.tooFull)=true then do
      g (relayAll t2 es1 (SetTable.grown es1.size)).2.2
      storeSet a (relayAll t2 es1 (SetTable.grown es1.size)).1 (relayAll t2 es1 (SetTable.grown es1.size)).2.1
      pure (some true)
     else pure (some true)) R E s:=by
 refine wpAny_bind (wpAny_storeSet_of ho hd ?_ (fits_of_scanBound L.few))
 obtain⟨g1,T1⟩:=L.stored ho hex hd
 have sb:=Heap.SameBut.update s.heap a (Obj.putSet es1 t2)
 split
 ·have L2:=L.relay (SetTable.grown es1.size)
  refine wpAny_bind (hg _ _ _ ?_)
  refine wpAny_bind (wpAny_storeSet_of g1 rfl ?_ (fits_of_scanBound L2.few))
  obtain⟨-,T2⟩:=L2.stored g1 hex rfl
  exact wpAny_pure (hR _ (sb.trans (Heap.SameBut.update _ a _)) T2)
 ·exact wpAny_pure (hR _ sb T1)
theorem Ll{a:Addr}{S:K->Bool}{n:Nat}{led np:Bool}{k:K}{x:Value}{Q:Bool->Shared->Prop}(hkey:kd.is k x=true)(hsc:x.scannable=true)
  (hnp:np=true->plainKind x=false) (hS:SetTb kd s.heap a S n led np) (hroom:n+1<scanBound)
  (hQ:∀h',Heap.SameBut a s.heap h'->SetTb kd h' a (λk'=>S k' || decide (k'=k)) (if S k then n else n+1) led np->Q (!S k) {s with heap:=h'}) :
  wpAny (model prog w) A (setAddHashed a x (kd.hash k)) Q E s:=by
 obtain⟨o,es,ep,t,ho,hex,hd,hel,hmem,hb,hf,hn,htab,hoff,hap⟩:=hS
 have hb1:es.size+1<scanBound:=by rw[hn];exact hroom
 unfold setAddHashed setAddHashedIn
 refine wpAny_holding (wpAny_bind (wpAny_setState_of ho hd hf ?_))
 dsimp only
 rw[byScan_of hsc hb hel]
 simp only[↓reduceIte]
 unfold setAddByScan
 refine wpAny_bind ?_
 refine wpAny_bind (wpAny_rule ?_)
 refine wpAny_bind (wpAny_setScan_of hkey ho hd hf hel ?_)
 cases hr:List.findIdx? (λe=>kd.is k e.2) es.toList with
 |some j=>
  dsimp only
  obtain⟨hj,hpj,-⟩:=List.findIdx?_eq_some_iff_getElem.mp hr
  have hk:S k=true:=(hmem k).mpr ⟨_,fo hj,hpj⟩
  refine wpAny_pure (wpAny_pure ?_)
  have es0:s={s with heap:=s.heap}:=by cases s;rfl
  have done:=hQ s.heap (Heap.SameBut.refl a s.heap) (SetTb.congr (S:=S) (n:=n) ⟨o,es,ep,t,ho,hex,hd,hel,hmem,hb,hf,hn,htab,hoff,hap⟩
   (λk'=>by by_cases e:k'=k<;>simp[e,hk]) (by rw[hk];rfl))
  rw[hk] at done;rw[es0];exact done
 |none=>
  dsimp only
  have hall:=List.findIdx?_eq_none_iff.mp hr
  have hk:S k=false:=by
   cases hk:S k with
   |false=>rfl
   |true=>obtain⟨e,he,hp⟩:=(hmem k).mp hk;rw[hall e he] at hp;cases hp
  have hper:=layNew_perm t es (kd.hash k) x
  have hfit:=layNew_fits t es (kd.hash k) x
  have htb:=htab.layNew es (kd.hash k) x
  generalize layNew t es (kd.hash k) x=L at hper hfit htb ⊢
  obtain⟨es1,t1,wd,gv⟩:=L
  dsimp only at hper hfit htb ⊢
  rw[Array.toList_push] at hper
  have hz:es1.size=n+1:=by rw[<-cc,hper.length_eq,aN,cc,hn];rfl
  have hap1:vI kd es1.toList:=by
   refine vI.perm (ki.mpr ⟨hap,List.pairwise_singleton _ _,λe he e' he' k' hk'=>?_⟩) hper
   rw[av] at he';subst he'
   cases hq:kd.is k' x with
   |false=>rfl
   |true=>cases kd.inj x k' k hq hkey;rw[hall e he] at hk';cases hk'
  have hL:∀t2:SetTable,t2.fits es1.size=true->tP led t2->(np=true->t2.plain=false)->Cr kd (λk'=>S k' || decide (k'=k)) (n+1) led np es1 t2:=
   λt2 f2 tb2 o2=>⟨(hel.push hkey hsc).perm hper,mem_push_iff hkey hmem hper,by rw[hz];exact hroom,f2,hz,tb2,o2,hap1⟩
  have hend:∀h',Heap.SameBut a s.heap h'->SetTb kd h' a (λk'=>S k' || decide (k'=k)) (n+1) led np->Q true {s with heap:=h'}:=by
   intro h' sb T;have q:=hQ h' sb;rw[hk] at q;exact q T
  have gw:∀(c:Bool) {s₁:Shared} {Q₁:Unit->Shared->Prop},Q₁ () s₁->
    wpAny (model prog w) A (match c with|true=>rule "set.scan.the-table-gave-way"|false=>pure ()) Q₁ E s₁:=λc s₁ Q₁ hq=>by
   cases c<;>first|exact wpAny_pure hq|exact wpAny_rule hq
  refine wpAny_bind (gw _ ?_)
  split
  ·refine wpAny_bind ?_
   rw[hashByValue_scannable 8 hsc]
   refine wpAny_pure ?_
   refine AI (n:=n+1) (led:=led) (np:=np) ?_ ho hex hd (hL _ ?_ ?_ ?_) ?_
   ·exact λb s₁ Q' hq=>gw b hq
   ·split
    ·exact hfit
    ·exact SetTable.fits_plain_off hfit
   ·split
    ·exact htb
    ·exact htb.off
   ·intro e;rw[hnp e];rfl
   ·intro h' sb T;dsimp only;exact wpAny_pure (hend h' sb T)
  ·rename_i hpl
   refine wpAny_bind (wpAny_pure ?_)
   simp only[↓reduceIte]
   refine AI (n:=n+1) (led:=led) (np:=np) ?_ ho hex hd (hL _ hfit htb (λ_=>by simpa using hpl)) ?_
   ·exact λb s₁ Q' hq=>gw b hq
   ·intro h' sb T;dsimp only;exact wpAny_pure (hend h' sb T)
end
def byText(w:World):Bool:=w.params.followText "set-order"
section
variable{prog:Program}{w:World}{A:Around}{E:Value->Shared->Prop}{s:Shared}
end
section
variable{prog:Program}{w:World}{A:Around}{E:Value->Shared->Prop}{s:Shared}{I a:Addr}{i n ep:Nat}{es:Array (Int×Value)}{t:SetTable}
end
end BgSet
end
section
namespace BgSet
open PySem PyProof.Rows
section
variable{prog:Program}{w:World}{A:Around}{R:Result->Shared->Prop}{I:Addr}{fp wr:List Addr}{G:Array GenState->Array GenState->Prop}{n:Nat}{P:Nat->Value->Prop}{St:Nat->Shared->Prop}
variable{K:Type}[DecidableEq K]{kd:KeyKind prog w K}
def met(val:Nat->K)(i:Nat)(k:K):Bool:=decide (k∈(cw i).map val)
theorem HB(val:Nat->K)(i:Nat)(k:K):(met val i k || decide (k=val i))=met val (i+1) k:=by
 unfold met
 rw[Bool.eq_iff_iff,Bool.or_eq_true,decide_eq_true_eq,decide_eq_true_eq,decide_eq_true_eq,fP,bg,bu]
 simp
theorem Bz(W:WalksS prog w A.in1 I fp wr G n P St)(S:Addr)(hSf:S∉fp)(val:Nat->K)(led np:Bool)
  (hval:∀i v,P i v->kd.is (val i) v=true/\v.scannable=true/\(np=true->plainKind v=false)) (hb:n+1<scanBound) :
  ∀(k i m:Nat) (s:Shared),n-i=k->i<=n->m<=i->St i s->SetTb kd s.heap S (met val i) m led np->
   (∀s' m',Moved (S::wr) G s s'->m'<=n->SetTb kd s'.heap S (met val n) m' led np->R (.ok (.ret .none)) s')->
   codeAny (model prog w) A (.builtin "set.update.loop" ⟨[.ref S,.ref I],[]⟩) R s:=by
 have hSw:S∉wr:=λh=>hSf (W.sub _ h)
 have more:∀b∈wr,b∈S::wr:=λb hb=>cX _ hb
 intro k
 induction k with
 |zero=>
  intro i m s hk hi hm st T hR
  cases(by lia:i=n)
  refine codeAny_builtin PyProof.Rows.F.entry_set_update_loop ?_
  rw[Around.under_plainId PyProof.Rows.F.plain_set_update_loop _]
  show wpAny _ A.in1 (pyNext (.ref I) >>= _) _ _ s
  refine wpAny_bind (W.done s _ _ st λs' mv=>?_)
  show wpAny _ A.in1 (ret Value.none) _ _ s'
  exact wpAny_pure (hR s' m (mv.mono more) hm (T.keep λo e=>mv.heap S _ hSw e))
 |succ k ih=>
  intro i m s hk hi hm st T hR
  have lt:i<n:=by lia
  refine codeAny_builtin PyProof.Rows.F.entry_set_update_loop ?_
  rw[Around.under_plainId PyProof.Rows.F.plain_set_update_loop _]
  show wpAny _ A.in1 (pyNext (.ref I) >>= _) _ _ s
  refine wpAny_bind (W.item i s _ _ lt st λv s' hP st' mv=>?_)
  obtain⟨h1,h2,h3⟩:=hval i v hP
  have T':=T.keep (h':=s'.heap) λo e=>mv.heap S _ hSw e
  show wpAny _ A.in1 (holding [v] (setAdd S v) >>= _) _ _ s'
  refine wpAny_bind (wpAny_holding ?_)
  unfold setAdd
  refine wpAny_holding ?_
  refine wpAny_bind (kd.pyHash (k:=val i) h1 ?_)
  refine Ll (s:={s' with toks:=s'.toks+1}) h1 h2 h3 T' (by lia) λh' sb T2=>?_
  have hm2:(if met val i (val i)=true then m else m+1)<=i+1:=by split<;>lia
  refine wpAny_pure ⟨plainId_quiet PyProof.Rows.F.plain_set_update_loop _,ih (i+1) _ _ (by lia) lt hm2 (W.frame _ s' _ _ st' (mB _) λb hb o e=>?_)
   (T2.congr (λk'=>HB val i k') rfl) λs'' m' mv2 hm' T3=>?_⟩
  ·rw[sb.2 b (λh:b=S=>hSf (by rw[<-h];exact hb))];exact e
  ·refine hR s'' m' (Moved.trans W.gtrans ((mv.mono more).then_heap (mB _) λb o hb e=>?_) mv2) hm' T3
   rw[sb.2 b (λh:b=S=>hb (by rw[h];exact cJ))];exact e
end
section
variable{prog:Program}{w:World}{A:Around}{E:Value->Shared->Prop}{s:Shared}{K:Type}[DecidableEq K]{kd:KeyKind prog w K}
def d5(w:World):Obj:={cls:=.type "set",dict:=none,data:=.set #[] 0 (.fresh 0 0 (!byText w))}
theorem Ez(v:Value){Q:Value->Shared->Prop}(h:Q (.ref s.heap.objs.size) {s with heap:=s.heap.push (d5 w)}) :
  codeAny (model prog w) A (.call (.builtin "set.__new__") ⟨[.type "set",v],[]⟩) (wants Q E) s:=by
 refine codeAny_of_tree ?_
 show wpAny _ A.in1 (checkBuiltinCall "set.__new__" ⟨[.type "set",v],[]⟩ >>= λ_=>again (.builtin "set.__new__" ⟨[.type "set",v],[]⟩)) _ _ s
 refine wpAny_bind (wpAny_of_eq (PySem.F.newCall_set_1 v) (wpAny_pure ⟨plainId_quiet PySem.F.plain_set_new _,codeAny_builtin PySem.F.entry_set_new ?_⟩))
 rw[Around.under_plainId PySem.F.plain_set_new _]
 unfold Builtin.«set.__new__» Builtin.Frozenset.newClass
 have hsub:=sub_set_self
 obtain⟨hp,g,d,tk,os⟩:=s
 dsimp only
 wp_walk
 refine wpAny_askSetting (wpAny_pure ?_)
 dsimp only
 simp only[newObj]
 refine wpAny_bind (wpAny_alloc (wpAny_pure ?_))
 exact wpAny_pure h
end
section
variable{prog:Program}{w:World}{A:Around}{E:Value->Shared->Prop}{s:Shared}{K:Type}[DecidableEq K][Inhabited K]{kd:KeyKind prog w K}
theorem set_of_list{l:Addr}{its:Array Value}(ks:List K)(np:Bool){Q:Value->Shared->Prop}(hh:A.handled=none)(hl:s.heap.IsList l its)(hk:ks.length=its.size)
  (hv:∀(i:Nat) k v,ks[i]?=some k->its[i]?=some v->kd.is k v=true/\v.scannable=true/\(np=true->plainKind v=false)) (hb:its.size+1<scanBound)
  (hQ:∀(h':Heap) (tk m:Nat),m<=its.size->SetTb kd h' s.heap.objs.size (λk=>decide (k∈ks)) m (!byText w) np->
   (∀b o,b<s.heap.objs.size->s.heap.get? b=some o->h'.get? b=some o)->Q (.ref s.heap.objs.size) {s with heap:=h',toks:=tk}) :
  wpAny (model prog w) A (call (.type "set") [.ref l]) Q E s:=by
 obtain⟨c,tl,mro⟩:=PySem.F.called_set.mro
 have made:=PySem.F.called_set.made
 have sub0:=PySem.F.called_set.sub
 refine wpAny_call (codeAny_of_tree ?_)
 show wpAny _ _ (callAny (.type "set") _) _ _ _
 refine wpAny_pure ⟨Code.quiet_builtin _ (by decide +kernel),codeAny_builtin PySem.F.entry_type_call ?_⟩
 rw[Around.under_plain (weight_type_call_type "set" [.ref l] []) rfl]
 have f1:=PySem.F.called_set.notType
 have f2:=PySem.F.called_set.canCreate
 have f3:=PySem.F.typeCall_set_1 (.ref l)
 repeat (any_goals (first|assumption|wp_step))
 refine codeAny_mono (Ez (.ref l) (E:=E) (Q:=λv s1=>v=.ref s.heap.objs.size/\s1={s with heap:=s.heap.push (d5 w)}) ⟨rfl,rfl⟩) λr s1 hr=>?_
 cases r with
 |error e=>exact hr
 |ok fl=>
  cases fl with
  |ret v=>
   obtain⟨rfl,rfl⟩:=hr
   have gS:(s.heap.push (d5 w)).get? s.heap.objs.size=some (d5 w):=aZ _ rfl
   have tS:Shared.TypeIs {s with heap:=s.heap.push (d5 w)} (.ref s.heap.objs.size) "set":=⟨_,gS,rfl⟩
   have li:=PySem.F.called_set.init.lookup
   have bi:=PySem.F.called_set.init.bind (.ref s.heap.objs.size)
   repeat (any_goals (first|assumption|wp_step))
   refine codeAny_mono (codeAny_call_builtin (R:=wants (λr s2=>r=.none/\∃h' tk m,s2={s with heap:=h',toks:=tk}/\m<=its.size/\
     SetTb kd h' s.heap.objs.size (λk=>decide (k∈ks)) m (!byText w) np/\(∀b o,b<s.heap.objs.size->s.heap.get? b=some o->h'.get? b=some o)) E)
     PySem.F.called_set.init.plain PySem.F.entry_set_init (check_set_init_1 tS ?_)) λr2 s2 hr2=>?_
   ·obtain⟨ol,gl,hcl,nl,hdl⟩:=hl
    obtain⟨ocls,odict,odata,oslots⟩:=ol
    simp only at hcl hdl
    subst hcl;subst hdl
    have gl2:(s.heap.push (d5 w)).get? l=some {cls:=.type "list",dict:=odict,data:=.seq its nl,slots:=oslots}:=az _ gl
    have u1:=PySem.F.sub_list_set
    have u2:=PySem.F.sub_list_frozenset
    have u3:(Value.type "list"==Value.type "dict")=false:=by decide
    have hl1:(s.heap.push (d5 w)).IsList l its:=⟨_,gl2,rfl,nl,rfl⟩
    unfold Builtin.«set.__init__» noKeywords Builtin.Frozenset.updateFrom
    generalize hPI:pyIter=PI
    wp_walk
    subst hPI
    refine wpAny_pyIter_list hl1 ?_
    refine wpAny_bind (wpAny_runValue ?_)
    have lt:l<s.heap.objs.size:=aJ gl
    have hh3:A.in1.in1.in1.handled=none:=by simp[hh]
    have ne:l≠(s.heap.push (d5 w)).objs.size:=by
     rw[dG];exact bj (fU lt)
    have nf:s.heap.objs.size∉[(s.heap.push (d5 w)).objs.size,l]:=by
     rw[dG]
     simp only[aV,fu,or_false,not_or]
     exact⟨bj (nh _),jz lt⟩
    have hval:∀(i:Nat) (v:Value),its[i]?=some v->kd.is (ks.getD i default) v=true/\v.scannable=true/\(np=true->plainKind v=false):=λi v hi=>by
     have hlt:i<ks.length:=by rw[hk];exact(bM.mp hi).1
     refine hv i _ v ?_ hi
     rw[fA,ao hlt];rfl
    refine Bz ((Walks.list hh3 _ l ne its).toS) s.heap.objs.size nf (λi=>ks.getD i default) (!byText w) np hval hb (its.size-0) 0 0 _ (by lia) (dA _) (aD _)
     ⟨⟨_,aZ _ rfl,rfl,rfl⟩,(hl1.push _)⟩ (SetTb.congr (SetTb.fresh (x:=0) (y:=0) (az _ gS)) (λk=>rfl) rfl) λs' m mv hm T=>?_
    obtain⟨h',g',d',tk',os'⟩:=s'
    have eg:g'=s.gens:=mv.gens
    have ed:d'=s.drawn:=mv.drawn
    have eo:os'=s.os:=mv.os
    subst eg;subst ed;subst eo
    show wpAny _ _ _ _ _ _
    refine wpAny_pure ?_
    show wpAny _ _ (ret Value.none) _ _ _
    refine wpAny_pure ⟨rfl,h',tk',m,rfl,hm,T.congr (λk=>?_) rfl,λb o hb e=>?_⟩
    ·unfold met
     rw[Bool.eq_iff_iff,decide_eq_true_eq,decide_eq_true_eq]
     have:(cw its.size).map (λi=>ks.getD i default)=ks:=by
      refine mz λi=>?_
      rw[aO]
      rcases nR i its.size with h|h
      ·rw[fb h,ao (by rw[hk];exact h)]
       simp[fA,hk,h]
      ·rw[cO (by simpa using h),cO (by rw[hk];exact h)];rfl
     rw[this]
    ·have n1:b≠s.heap.objs.size:=bj hb
     have n2:b≠(s.heap.push (d5 w)).objs.size:=by
      rw[dG];exact bj (fU hb)
     refine mv.heap b o ?_ (az _ (az _ e))
     simp only[aV,fu,or_false,not_or]
     exact⟨n1,n2⟩
   ·cases r2 with
    |error e=>exact hr2
    |ok fl2=>
     cases fl2 with
     |ret r=>
      obtain⟨rfl,h',tk,m,rfl,hm,T,kp⟩:=hr2
      repeat (any_goals (first|assumption|wp_step))
      exact hQ _ _ m hm T kp
     |_=>exact hr2.elim
  |_=>exact hr.elim
theorem set_of_tuple{l:Addr}{its:Array Value}(ks:List K)(np:Bool){Q:Value->Shared->Prop}(hh:A.handled=none)(hl:s.heap.IsTuple l its)(hk:ks.length=its.size)
  (hv:∀(i:Nat) k v,ks[i]?=some k->its[i]?=some v->kd.is k v=true/\v.scannable=true/\(np=true->plainKind v=false)) (hb:its.size+1<scanBound)
  (hQ:∀(h':Heap) (tk m:Nat),m<=its.size->SetTb kd h' s.heap.objs.size (λk=>decide (k∈ks)) m (!byText w) np->
   (∀b o,b<s.heap.objs.size->s.heap.get? b=some o->h'.get? b=some o)->Q (.ref s.heap.objs.size) {s with heap:=h',toks:=tk}) :
  wpAny (model prog w) A (call (.type "set") [.ref l]) Q E s:=by
 obtain⟨c,tl,mro⟩:=PySem.F.called_set.mro
 have made:=PySem.F.called_set.made
 have sub0:=PySem.F.called_set.sub
 refine wpAny_call (codeAny_of_tree ?_)
 show wpAny _ _ (callAny (.type "set") _) _ _ _
 refine wpAny_pure ⟨Code.quiet_builtin _ (by decide +kernel),codeAny_builtin PySem.F.entry_type_call ?_⟩
 rw[Around.under_plain (weight_type_call_type "set" [.ref l] []) rfl]
 have f1:=PySem.F.called_set.notType
 have f2:=PySem.F.called_set.canCreate
 have f3:=PySem.F.typeCall_set_1 (.ref l)
 repeat (any_goals (first|assumption|wp_step))
 refine codeAny_mono (Ez (.ref l) (E:=E) (Q:=λv s1=>v=.ref s.heap.objs.size/\s1={s with heap:=s.heap.push (d5 w)}) ⟨rfl,rfl⟩) λr s1 hr=>?_
 cases r with
 |error e=>exact hr
 |ok fl=>
  cases fl with
  |ret v=>
   obtain⟨rfl,rfl⟩:=hr
   have gS:(s.heap.push (d5 w)).get? s.heap.objs.size=some (d5 w):=aZ _ rfl
   have tS:Shared.TypeIs {s with heap:=s.heap.push (d5 w)} (.ref s.heap.objs.size) "set":=⟨_,gS,rfl⟩
   have li:=PySem.F.called_set.init.lookup
   have bi:=PySem.F.called_set.init.bind (.ref s.heap.objs.size)
   repeat (any_goals (first|assumption|wp_step))
   refine codeAny_mono (codeAny_call_builtin (R:=wants (λr s2=>r=.none/\∃h' tk m,s2={s with heap:=h',toks:=tk}/\m<=its.size/\
     SetTb kd h' s.heap.objs.size (λk=>decide (k∈ks)) m (!byText w) np/\(∀b o,b<s.heap.objs.size->s.heap.get? b=some o->h'.get? b=some o)) E)
     PySem.F.called_set.init.plain PySem.F.entry_set_init (check_set_init_1 tS ?_)) λr2 s2 hr2=>?_
   ·obtain⟨ol,gl,hcl,nl,hdl⟩:=hl
    obtain⟨ocls,odict,odata,oslots⟩:=ol
    simp only at hcl hdl
    subst hcl;subst hdl
    have gl2:(s.heap.push (d5 w)).get? l=some {cls:=.type "tuple",dict:=odict,data:=.seq its nl,slots:=oslots}:=az _ gl
    have u1:=PySem.F.sub_tuple_set
    have u2:=PySem.F.sub_tuple_frozenset
    have u3:(Value.type "tuple"==Value.type "dict")=false:=by decide
    have hl1:(s.heap.push (d5 w)).IsTuple l its:=⟨_,gl2,rfl,nl,rfl⟩
    unfold Builtin.«set.__init__» noKeywords Builtin.Frozenset.updateFrom
    generalize hPI:pyIter=PI
    wp_walk
    subst hPI
    refine wpAny_pyIter_tuple hl1 ?_
    refine wpAny_bind (wpAny_runValue ?_)
    have lt:l<s.heap.objs.size:=aJ gl
    have hh3:A.in1.in1.in1.handled=none:=by simp[hh]
    have ne:l≠(s.heap.push (d5 w)).objs.size:=by
     rw[dG];exact bj (fU lt)
    have nf:s.heap.objs.size∉[(s.heap.push (d5 w)).objs.size,l]:=by
     rw[dG]
     simp only[aV,fu,or_false,not_or]
     exact⟨bj (nh _),jz lt⟩
    have hval:∀(i:Nat) (v:Value),its[i]?=some v->kd.is (ks.getD i default) v=true/\v.scannable=true/\(np=true->plainKind v=false):=λi v hi=>by
     have hlt:i<ks.length:=by rw[hk];exact(bM.mp hi).1
     refine hv i _ v ?_ hi
     rw[fA,ao hlt];rfl
    refine Bz ((Walks.tuple hh3 _ l ne its).toS) s.heap.objs.size nf (λi=>ks.getD i default) (!byText w) np hval hb (its.size-0) 0 0 _ (by lia) (dA _) (aD _)
     ⟨⟨_,aZ _ rfl,rfl,rfl⟩,(hl1.push _)⟩ (SetTb.congr (SetTb.fresh (x:=0) (y:=0) (az _ gS)) (λk=>rfl) rfl) λs' m mv hm T=>?_
    obtain⟨h',g',d',tk',os'⟩:=s'
    have eg:g'=s.gens:=mv.gens
    have ed:d'=s.drawn:=mv.drawn
    have eo:os'=s.os:=mv.os
    subst eg;subst ed;subst eo
    show wpAny _ _ _ _ _ _
    refine wpAny_pure ?_
    show wpAny _ _ (ret Value.none) _ _ _
    refine wpAny_pure ⟨rfl,h',tk',m,rfl,hm,T.congr (λk=>?_) rfl,λb o hb e=>?_⟩
    ·unfold met
     rw[Bool.eq_iff_iff,decide_eq_true_eq,decide_eq_true_eq]
     have:(cw its.size).map (λi=>ks.getD i default)=ks:=by
      refine mz λi=>?_
      rw[aO]
      rcases nR i its.size with h|h
      ·rw[fb h,ao (by rw[hk];exact h)]
       simp[fA,hk,h]
      ·rw[cO (by simpa using h),cO (by rw[hk];exact h)];rfl
     rw[this]
    ·have n1:b≠s.heap.objs.size:=bj hb
     have n2:b≠(s.heap.push (d5 w)).objs.size:=by
      rw[dG];exact bj (fU hb)
     refine mv.heap b o ?_ (az _ (az _ e))
     simp only[aV,fu,or_false,not_or]
     exact⟨n1,n2⟩
   ·cases r2 with
    |error e=>exact hr2
    |ok fl2=>
     cases fl2 with
     |ret r=>
      obtain⟨rfl,h',tk,m,rfl,hm,T,kp⟩:=hr2
      repeat (any_goals (first|assumption|wp_step))
      exact hQ _ _ m hm T kp
     |_=>exact hr2.elim
  |_=>exact hr.elim
end
section
variable{prog:Program}{w:World}{A:Around}{E:Value->Shared->Prop}{s:Shared}{a:Addr}{es:Array (Int×Value)}{ep:Nat}{t:SetTable}
end
end BgSet
end
section
namespace PySem.W
open PySem PySem.Calls PyProof.Rows PyProof.V PySem.Spec
section
variable{prog:Program}{w:World}{A:Around}{E:Value->Shared->Prop}{s:Shared}{r l:Addr}
end
end PySem.W
namespace L2
open PySem PySem.Spec PyProof.Rows
section
variable{X:Cx}
end
end L2
end
section
namespace HT
open PySem PyProof.Rows
section
variable{prog:Program}{w:World}{A:Around}{E:Value->Shared->Prop}{s:Shared}
theorem cat_tup0{t b:Addr}{vs ws:List Value}{Q:Value->Shared->Prop}(ht:IsTup s.heap t vs.toArray)(hb:IsTup s.heap b ws.toArray)(hv:vs=[])(h:Q (.ref b) s):wpAny (model prog w) A (binaryOp .Add (.ref t) (.ref b)) Q E s:=by
 obtain⟨⟨cls,dd,data,sl⟩,ho,hc,n,hd⟩:=id ht
 obtain⟨⟨cls2,dd2,data2,sl2⟩,ho2,hc2,n2,hd2⟩:=id hb
 simp only at hc hd hc2 hd2
 subst hc hd hc2 hd2
 exact concat_meets ⟨_,ho,rfl⟩ ⟨_,ho2,rfl⟩ noFill_tuple_add seq_tuple_add jA jj (iU _ _)
   (tuple_addW0 t b vs.toArray ws.toArray n n2 dd dd2 sl sl2 (by simp[hv])) ⟨ho,ho2,h⟩
theorem getItem_tuple_all{t sl:Addr}{items:Array Value}{vl vu:Value}{lo hi:Option Int}{Q:Value->Shared->Prop}(ht:IsTup s.heap t items)(hs:s.heap.IsSliceOf sl vl vu .none)(pl:IsPart vl lo)(pu:IsPart vu hi)
  (hw:sIx items.size 0 lo=0/\sIx items.size items.size hi=items.size) (h:Q (.ref t) s):wpAny (model prog w) A (getItem (.ref t) (.ref sl)) Q E s:=by
 obtain⟨os,hos,hcs,hds⟩:=id hs
 have hTs:s.TypeIs (.ref sl) "slice":=⟨os,hos,hcs⟩
 unfold getItem
 try with_reducible refine wpAny_holding ?_
 first|refine wpAny_bind (wpAny_pure ?_)|skip
 refine wpAny_bind (wpAny_sequenceKey ht.typeIs (by decide) ?_)
 refine wpAny_bind (wpAny_callSpecial?_slot (name:=Str.ofString "__getitem__") ht.typeIs d9
  (wpAny_call_entry d9 ht.typeIs entry_tuple_getitem ?_ (args_tuple_getitem _ _)))
 show wpAny _ _ (Builtin.Tuple.tupleItemsOf (.ref t) >>= _) _ _ s
 refine wpAny_bind (tupleItemsOf_ ht ?_)
 refine wpAny_bind (wpAny_typeOf hTs ?_)
 rw[if_pos (by decide)]
 refine wpAny_bind (nI hs pl pu ?_)
 have hyes:(((sIx items.size 0 lo:Nat):Int)==0&&(1:Int)==1&&(sIx items.size items.size hi-sIx items.size 0 lo)==items.size)=true:=by
  rw[hw.1,hw.2];simp
 show wpAny _ _ (if(((sIx items.size 0 lo:Nat):Int)==0&&(1:Int)==1&&(sIx items.size items.size hi-sIx items.size 0 lo)==items.size)=true then _ else _) _ _ s
 rw[if_pos hyes]
 refine wpAny_bind (m:=Builtin.Tuple.tupleIsExact (.ref t)) ?_
 unfold Builtin.Tuple.tupleIsExact
 refine wpAny_bind (wpAny_typeOf ht.typeIs (wpAny_pure ?_))
 rw[if_pos (by decide)]
 exact wpAny_bind (wpAny_rule (wpAny_pure ⟨_,rfl,wpAny_pure h⟩))
end
end HT
namespace L2
open PySem PySem.Spec PyProof.Rows
section
variable{X:Cx}
def Ij(K:Fg):R2:=λx y H Q=>∃a b ys,x=.ref a/\y=.ref b/\cY K H a []/\cY K H b ys/\Q (.ref b) H
theorem HM:kq X (binaryOp .Add) (Ij X.K):=by
 intro pins s σ H x y v u Q I rx ry h
 obtain⟨a,b,ys,rfl,rfl,ha,hb,q⟩:=h
 cases rx
 cases ry
 obtain⟨its,r1,p1,_⟩:=I.tuple ha
 obtain⟨its2,r2,p2,_⟩:=I.tuple hb
 exact HT.cat_tup0 p1 p2 (r1.nil_iff.mpr rfl) ⟨.ref b,H,I,rfl,q⟩
def rJ(K:Fg):R2:=λx y H Q=>Ij K x y H Q\/eY K x y H Q
theorem pK:kq X (binaryOp .Add) (rJ X.K):=HM.or cQ
def LZ(K:Fg):V->Option Int->Option Int->Hp->VK->Prop:=λx lo hi H Q=>∃a xs,x=.ref a/\cY K H a xs/\(HT.sIx xs.length 0 lo=0/\HT.sIx xs.length xs.length hi=xs.length)/\Q (.ref a) H
theorem Lq:GL X (LZ X.K):=by
 intro pins s σ H x v vl vu lo hi sl Q I rx hs pl pu h
 obtain⟨a,xs,rfl,hx,hw,q⟩:=h
 cases rx
 obtain⟨its,r,ht,hz⟩:=I.tuple hx
 have hlen:its.toArray.size=xs.length:=by rw[ax];exact r.length.symm
 refine⟨"tuple",_,d9.lookup,ht.typeIs,?_⟩
 exact HT.getItem_tuple_all ht hs pl pu (by rw[hlen];exact hw) ⟨.ref a,H,I,rfl,q⟩
def FV(K:Fg):V->Option Int->Option Int->Hp->VK->Prop:=λx lo hi H Q=>LZ K x lo hi H Q\/Es K x lo hi H Q
theorem Ar:GL X (FV X.K):=Lq.or kL
def LU(K:Fg):R2:=λx y H Q=>∃p q xs,x=.ref p/\y=.ref q/\cY K H p xs/\cY K H q []/\Q (.bl (decide (xs=[]))) H
theorem Ko(hu:X.A.units<cLine):kq X (compareOp .Eq) (LU X.K):=by
 intro pins s σ H x y v u Q I rx ry h
 obtain⟨p,q,xs,rfl,rfl,h1,h2,qq⟩:=h
 cases rx
 cases ry
 obtain⟨us,r1,t1,_⟩:=I.tuple h1
 obtain⟨vs,r2,t2,_⟩:=I.tuple h2
 have ev:vs=[]:=r2.nil_iff.mpr rfl
 subst ev
 refine SeqAt.eq_tupleAt (e:=λ_=>true) (show s.heap.IsTuple p us.toArray from t1) (show s.heap.IsTuple q ([]:List Value).toArray from t2) hu (λj h1 h2=>absurd h2 (by simp)) ⟨.bl (decide (xs=[])),H,I,?_,qq⟩
 show Value.bool _=Value.bool _
 congr 1
 rw[ax,<-r1.length]
 cases xs<;>simp
def Dq(K:Fg):R2:=λx y H Q=>LU K x y H Q\/fM K x y H Q
theorem Ac(hu:X.A.units<cLine):kq X (compareOp .Eq) (Dq X.K):=(Ko hu).or (cH hu)
end
end L2
end
section
namespace PySem
open Sem (wp)
namespace F
end F
def Pp(tp:Bool)(h:Heap)(i l:Addr)(k:Nat):Prop:=match tp with
 |true=>h.IsTupleIter i l k
 |false=>h.IsListIter i l k
def NZ(tp:Bool)(h:Heap)(l:Addr)(xs:Array Value):Prop:=match tp with
 |true=>h.IsTuple l xs
 |false=>h.IsList l xs
section
variable{prog:Program}{w:World}{A:Around}{E:Value->Shared->Prop}{s:Shared}
end
section
variable{prog:Program}{w:World}{A:Around}{E:Value->Shared->Prop}{s:Shared}{t1 t2:Bool}
end
section
variable{prog:Program}{w:World}{A:Around}{E:Value->Shared->Prop}{s:Shared}{t1 t2:Bool}
end
section
variable{prog:Program}{w:World}{A:Around}{R:Result->Shared->Prop}{t1 t2:Bool}{K:Type}[DecidableEq K]{knd:KeyKind prog w K}
end
section
variable{prog:Program}{w:World}{A:Around}{E:Value->Shared->Prop}{s:Shared}{t1 t2:Bool}{K:Type}[DecidableEq K]{knd:KeyKind prog w K}
end
end PySem
namespace L2
open PySem PySem.Spec PyProof.Rows
section
variable{X:Cx}
end
def bA(K:Fg)(x:Str):Addr:=match aC K mainGlobals x with
 |some (some (.ref C))=>C
 |_=>0
theorem si{K:Fg}{x:Str}{C:Addr}(h:aC K mainGlobals x=some (some (.ref C))):bA K x=C:=by unfold bA;rw[h]
def He(s:Stmt)(i:Nat):Stmt:=match s with
 |.ClassDef _ _ _ b _ _ _ _ _ _ _=>b.getD i (.Pass ⟨0,0,0,0⟩)
 |_=>.Pass ⟨0,0,0,0⟩
section
variable{X:Cx}{C:Addr}{m x:Str}{ps:List Str}{k:Nat}{sp:Sp}{e o:Expr}{es:List Expr}{ta:TE}{t:TA}{p pos apos:Pos}
end
section
variable{X:Cx}
theorem vZ{es:List Bool}{us vs:List Value}(h1:us.length=es.length)(h2:vs.length=es.length):((cw (min us.toArray.size vs.toArray.size)).all (λj=>(es[j]?).getD false)&&us.toArray.size==vs.toArray.size)=es.all id:=by
 rw[ax,ax,h1,h2,Nat.min_self,GN]
 simp
end
inductive tH(K:Fg)(H:Hp):Nat->V->V->Bool->Prop where
 |flat {d:Nat} {x y:V} (hx:jO x=true) (hy:jO y=true):tH K H d x y (AB x y)
 |same {d:Nat} {a:Addr}:tH K H d (.ref a) (.ref a) true
 |lists {d:Nat} {a b:Addr} {us vs:List V} {es:List Bool} (n:a≠b) (ha:cA K H a us) (hb:cA K H b vs) (l1:us.length=vs.length) (l2:es.length=us.length) (h:∀(j:Nat) x y e,us[j]?=some x->vs[j]?=some y->es[j]?=some e->tH K H d x y e):tH K H (d+1) (.ref a) (.ref b) (es.all id)
 |listsL {d:Nat} {a b:Addr} {us vs:List V} (n:a≠b) (ha:cA K H a us) (hb:cA K H b vs) (l1:us.length≠vs.length):tH K H (d+1) (.ref a) (.ref b) false
 |tups {d:Nat} {a b:Addr} {us vs:List V} {es:List Bool} (n:a≠b) (ha:cY K H a us) (hb:cY K H b vs) (l1:us.length=vs.length) (l2:es.length=us.length) (h:∀(j:Nat) x y e,us[j]?=some x->vs[j]?=some y->es[j]?=some e->tH K H d x y e):tH K H (d+1) (.ref a) (.ref b) (es.all id)
section
variable{X:Cx}
theorem Ee{A:Around}{s:Shared}{kb:List (hV×V)}{vb:List (hV×Value)}(rb:KV kb vb){ka:List (hV×V)}{va:List (hV×Value)}(ra:KV ka va):∀(f:Nat->V),(∀(j:Nat) k v,ka[j]?=some (k,v)->mx kb k=some (f j))->(∀(j:Nat) k v u w,ka[j]?=some (k,v)->dy v u->dy (f j) w->SeqAt.EqAt A s u w true)->PySem.W.KeqHits A s vb va true:=by
 induction ra with
 |nil=>intro f _ _;exact .nil
 |@cons p q ps qs r _ ih=>
  intro f h1 h2
  obtain⟨k,v⟩:=p
  obtain⟨k',u⟩:=q
  obtain⟨e,rv⟩:=r
  have e':k=k':=e
  subst e'
  have hv:=h1 0 k v rfl
  have rel:=rb.val k
  rw[hv] at rel
  obtain⟨w,hw,rw'⟩:=rA.some_of rel
  have hh:=ih (λj=>f (j+1)) (λj k v e=>h1 (j+1) k v e) λj k v u w e=>h2 (j+1) k v u w e
  exact .hit hw (h2 0 k v u w rfl rv rw') hh
theorem qz{A:Around}{s:Shared}{xs ys:List V}{us vs:List Value}{es:List Bool}(r1:cT xs us)(r2:cT ys vs)(hl:xs.length=ys.length)(he:es.length=xs.length)
  (h:∀(j:Nat) a b e u v,xs[j]?=some a->ys[j]?=some b->es[j]?=some e->dy a u->dy b v->SeqAt.EqAt A s u v e) :
  ∀j (h1:j<us.toArray.size) (h2:j<vs.toArray.size),SeqAt.EqAt A s us.toArray[j] vs.toArray[j] ((es[j]?).getD false):=by
 intro j h1 h2
 have l1:=r1.length
 have l2:=r2.length
 rw[ax] at h1 h2
 have j1:j<xs.length:=by lia
 have j2:j<ys.length:=by lia
 have j3:j<es.length:=by lia
 obtain⟨u,hu',ru⟩:=r1.get (ao j1)
 obtain⟨v,hv,rv⟩:=r2.get (ao j2)
 have eu:us.toArray[j]=u:=by
  have:=ao h1
  rw[hu'] at this
  simpa using(Option.some.inj this).symm
 have ev:vs.toArray[j]=v:=by
  have:=ao h2
  rw[hv] at this
  simpa using(Option.some.inj this).symm
 rw[eu,ev,ao j3,iG]
 exact h j _ _ _ _ _ (ao j1) (ao j2) (ao j3) ru rv
theorem v8{es:List Bool}{us:List Value}(h1:us.length=es.length):(cw us.toArray.size).all (λj=>(es[j]?).getD false)=es.all id:=by
 rw[ax,h1,GN]
theorem tT{pins:List (Addr×Obj)}{σ:St}{H:Hp}{s:Shared}(I:bW X pins σ H s){d:Nat}{x y:V}{b:Bool}(h:tH X.K H d x y b):∀{A:Around} {u v:Value},A.units+d<cLine->dy x u->dy y v->SeqAt.EqAt A s u v b:=by
 induction h with
 |flat hx hy=>exact λ_ rx ry=>CK rx ry hx hy
 |same=>
  intro A u v _ rx ry
  cases rx
  cases ry
  exact SeqAt.EqAt.same _
 |@lists d a b us vs es n ha hb hl he h ih=>
  intro A u v hu rx ry
  cases rx
  cases ry
  obtain⟨us',r1,t1,_⟩:=I.list ha
  obtain⟨vs',r2,t2,_⟩:=I.list hb
  have l1:=r1.length
  have l2:=r2.length
  have:=SeqAt.EqAt.of_refs n (SeqAt.RcAt.lists (A:=A) t1.isList t2.isList (by rw[ax,ax];lia) (by lia) (qz (A:=A.in1) r1 r2 hl he λj a b e u v e1 e2 e3 ru rv=>ih j a b e e1 e2 e3 (by show A.units+1+d<cLine;lia) ru rv))
  rw[v8 (by lia)] at this
  exact this
 |@listsL d a b us vs n ha hb hl=>
  intro A u v hu rx ry
  cases rx
  cases ry
  obtain⟨us',r1,t1,_⟩:=I.list ha
  obtain⟨vs',r2,t2,_⟩:=I.list hb
  have l1:=r1.length
  have l2:=r2.length
  exact SeqAt.EqAt.of_refs n (SeqAt.RcAt.lists_lengths (A:=A) t1.isList t2.isList (by rw[ax,ax];simp;lia) (by lia))
 |@tups d a b us vs es n ha hb hl he h ih=>
  intro A u v hu rx ry
  cases rx
  cases ry
  obtain⟨us',r1,t1,_⟩:=I.tuple ha
  obtain⟨vs',r2,t2,_⟩:=I.tuple hb
  have l1:=r1.length
  have l2:=r2.length
  have:=SeqAt.EqAt.of_refs n (SeqAt.RcAt.tuples (A:=A) (show s.heap.IsTuple a us'.toArray from t1) (show s.heap.IsTuple b vs'.toArray from t2) (by lia) (qz (A:=A.in1) r1 r2 hl he λj a b e u v e1 e2 e3 ru rv=>ih j a b e e1 e2 e3 (by show A.units+1+d<cLine;lia) ru rv))
  rw[vZ (by lia) (by lia)] at this
  exact this
def Ik(K:Fg)(neg:Bool):R2:=λx y H Q=>∃(p q:Addr) (xs ys:List V),x=.ref p/\y=.ref q/\((cA K H p xs/\cA K H q ys)\/(cY K H p xs/\cY K H q ys/\xs.length=ys.length))/\
 ((xs.length≠ys.length/\Q (.bl neg) H)\/∃es:List Bool,xs.length=ys.length/\es.length=xs.length/\(∀(j:Nat) a b e,xs[j]?=some a->ys[j]?=some b->es[j]?=some e->tH K H 4 a b e)/\Q (.bl (if neg then !es.all id else es.all id)) H)
theorem MK(hu:X.A.units+5<cLine):kq X (compareOp .Eq) (Ik X.K false):=by
 intro pins s σ H x y v u Q I rx ry h
 obtain⟨p,q,xs,ys,rfl,rfl,hk,hc⟩:=h
 cases rx
 cases ry
 have hu':X.A.units<cLine:=by lia
 rcases hk with⟨h1,h2⟩|⟨h1,h2,hl0⟩
 ·obtain⟨us,r1,t1,_⟩:=I.list h1
  obtain⟨vs,r2,t2,_⟩:=I.list h2
  have l1:=r1.length
  have l2:=r2.length
  rcases hc with⟨hl,qq⟩|⟨es,hl,he,hE,qq⟩
  ·exact SeqAt.eq_list_lengthsAt t1.isList t2.isList (by rw[ax,ax];simp;lia) hu' ⟨.bl false,H,I,rfl,qq⟩
  ·refine SeqAt.eq_listAt t1.isList t2.isList (by rw[ax,ax];lia) hu' (qz (A:=X.A.in1) r1 r2 hl he λj a b e u v e1 e2 e3 ru rv=>tT I (hE j a b e e1 e2 e3) (by show X.A.units+1+4<cLine;lia) ru rv) ⟨.bl (es.all id),H,I,?_,qq⟩
   show Value.bool _=Value.bool _
   rw[v8 (by lia)]
 ·obtain⟨us,r1,t1,_⟩:=I.tuple h1
  obtain⟨vs,r2,t2,_⟩:=I.tuple h2
  have l1:=r1.length
  have l2:=r2.length
  rcases hc with⟨hl,_⟩|⟨es,hl,he,hE,qq⟩
  ·exact absurd hl0 hl
  ·refine SeqAt.eq_tupleAt (show s.heap.IsTuple p us.toArray from t1) (show s.heap.IsTuple q vs.toArray from t2) hu' (qz (A:=X.A.in1) r1 r2 hl he λj a b e u v e1 e2 e3 ru rv=>tT I (hE j a b e e1 e2 e3) (by show X.A.units+1+4<cLine;lia) ru rv) ⟨.bl (es.all id),H,I,?_,qq⟩
   show Value.bool _=Value.bool _
   rw[vZ (by lia) (by lia)]
theorem MQ(hu:X.A.units+5<cLine):kq X (compareOp .NotEq) (Ik X.K true):=by
 intro pins s σ H x y v u Q I rx ry h
 obtain⟨p,q,xs,ys,rfl,rfl,hk,hc⟩:=h
 cases rx
 cases ry
 have hu':X.A.units<cLine:=by lia
 rcases hk with⟨h1,h2⟩|⟨h1,h2,hl0⟩
 ·obtain⟨us,r1,t1,_⟩:=I.list h1
  obtain⟨vs,r2,t2,_⟩:=I.list h2
  have l1:=r1.length
  have l2:=r2.length
  rcases hc with⟨hl,qq⟩|⟨es,hl,he,hE,qq⟩
  ·exact SeqAt.RcNeAt.lists_lengths t1.isList t2.isList (by rw[ax,ax];simp;lia) hu' X.prog X.w X.xe _ ⟨.bl true,H,I,rfl,qq⟩
  ·refine SeqAt.RcNeAt.lists t1.isList t2.isList (by rw[ax,ax];lia) hu' (qz (A:=X.A.in1) r1 r2 hl he λj a b e u v e1 e2 e3 ru rv=>tT I (hE j a b e e1 e2 e3) (by show X.A.units+1+4<cLine;lia) ru rv) X.prog X.w X.xe _ ⟨.bl (!es.all id),H,I,?_,qq⟩
   show Value.bool _=Value.bool _
   rw[v8 (by lia)]
 ·obtain⟨us,r1,t1,_⟩:=I.tuple h1
  obtain⟨vs,r2,t2,_⟩:=I.tuple h2
  have l1:=r1.length
  have l2:=r2.length
  rcases hc with⟨hl,_⟩|⟨es,hl,he,hE,qq⟩
  ·exact absurd hl0 hl
  ·refine SeqAt.RcNeAt.tuples (show s.heap.IsTuple p us.toArray from t1) (show s.heap.IsTuple q vs.toArray from t2) hu' (qz (A:=X.A.in1) r1 r2 hl he λj a b e u v e1 e2 e3 ru rv=>tT I (hE j a b e e1 e2 e3) (by show X.A.units+1+4<cLine;lia) ru rv) X.prog X.w X.xe _ ⟨.bl (!es.all id),H,I,?_,qq⟩
   show Value.bool _=Value.bool _
   rw[vZ (by lia) (by lia)]
def En(K:Fg)(neg:Bool):R2:=λx y H Q=>∃(a b:Addr) (ka kb:List (hV×V)) (f:Nat->V),x=.ref a/\y=.ref b/\H a=some (.dK ka)/\H b=some (.dK kb)/\ka.length=kb.length/\(∀(j:Nat) k v,ka[j]?=some (k,v)->mx kb k=some (f j))/\(∀(j:Nat) k v,ka[j]?=some (k,v)->tH K H 4 v (f j) true)/\Q (.bl (!neg)) H
theorem Kn(hu:X.A.units+5<cLine):kq X (compareOp .Eq) (En X.K false):=by
 intro pins s σ H x y v u Q I rx ry h
 obtain⟨a,b,ka,kb,f,rfl,rfl,ha,hb,hl,hf,hE,qq⟩:=h
 cases rx
 cases ry
 obtain⟨_,la,va,ra,da⟩:=v5 I.hok ha
 obtain⟨_,lb,vb,rb,db⟩:=v5 I.hok hb
 refine PySem.W.keq_eq (r:=true) la lb da db (by lia) (λ_=>Ee rb ra f hf λj k v u w e ru rw'=>tT I (hE j k v e) (by show X.A.units+1+4<cLine;lia) ru rw') ⟨.bl true,H,I,?_,qq⟩
 show Value.bool _=Value.bool _
 rw[<-ra.length,<-rb.length,hl];simp
theorem Kq(hu:X.A.units+5<cLine):kq X (compareOp .NotEq) (En X.K true):=by
 intro pins s σ H x y v u Q I rx ry h
 obtain⟨a,b,ka,kb,f,rfl,rfl,ha,hb,hl,hf,hE,qq⟩:=h
 cases rx
 cases ry
 obtain⟨_,la,va,ra,da⟩:=v5 I.hok ha
 obtain⟨_,lb,vb,rb,db⟩:=v5 I.hok hb
 refine PySem.W.keq_ne (r:=true) la lb da db (by lia) (λ_=>Ee rb ra f hf λj k v u w e ru rw'=>tT I (hE j k v e) (by show X.A.units+1+4<cLine;lia) ru rw') ⟨.bl false,H,I,?_,qq⟩
 show Value.bool _=Value.bool _
 rw[<-ra.length,<-rb.length,hl];simp
def Lb(K:Fg):R2:=λx y H Q=>Ik K false x y H Q\/(En K false x y H Q\/fM K x y H Q)
def Ai(K:Fg):R2:=λx y H Q=>Ik K true x y H Q\/(En K true x y H Q\/vc K x y H Q)
theorem Dm(hu:X.A.units+5<cLine):kq X (compareOp .Eq) (Lb X.K):=(MK hu).or ((Kn hu).or (cH (by lia)))
theorem wD(hu:X.A.units+5<cLine):kq X (compareOp .NotEq) (Ai X.K):=(MQ hu).or ((Kq hu).or (lY (by lia)))
end
section
variable{X:Cx}{pins:List (Addr×Obj)}{σ:St}{H:Hp}{s:Shared}{d:Addr}{kvs:List (hV×V)}{u u':HO}
theorem J6{P:Program}{w:World}{k:hV}{u:Value}(h:(ff P w).is k u=true):dy (kV k) u:=by
 cases k with
 |inl i=>
  obtain⟨t,rfl⟩:=Value.isInt_shape (k:=i) (v:=u) h
  exact⟨t,rfl⟩
 |inr x=>
  obtain⟨t,rfl⟩:=Value.isStrOf_shape (x:=x) (v:=u) h
  exact⟨t,rfl⟩
end
section
variable{X:Cx}{tg:Expr}
end
end L2
end
section
namespace PySem
open Sem (wp)
section
variable{prog:Program}{w:World}{A:Around}{R:Result->Shared->Prop}{K:Type}[DecidableEq K]{knd:KeyKind prog w K}
end
section
variable{prog:Program}{w:World}{A:Around}{E:Value->Shared->Prop}{s:Shared}{K:Type}[DecidableEq K]{knd:KeyKind prog w K}
end
end PySem
end
section
namespace L2
open PySem PySem.Spec PyProof.Rows
section
variable{X:Cx}
theorem zb:∀{xs:List V} {us:List Value},us.length=xs.length->(∀(j:Nat) x u,xs[j]?=some x->us[j]?=some u->dy x u)->cT xs us
 |[],[],_,_=>.nil
 |x::xs,u::us,hl,h=>.cons (h 0 x u rfl rfl) (zb (Nat.succ.inj hl) λj x u e1 e2=>h (j+1) x u e1 e2)
def Ip:List V->Hp->VK->Prop:=λxs H Q=>∃(d:Addr) (kvs:List (hV×V)),xs=[.ref d]/\Rd H d (.dK kvs)/\∀l,H l=none->Q (.ref l) (upd H l (.lst (kvs.map λkv=>kV kv.1)))
theorem CF(hc:X.calm=true):kj X (.type "list") Ip:=by
 intro pins s σ H xs us Q I r h
 obtain⟨d,kvs,rfl,hd,q⟩:=h
 obtain⟨u,rfl,rx⟩:=qo r
 cases rx
 obtain⟨z,lo,vs,rel,dd⟩:=D9 I.hok hd
 obtain⟨ep,hat⟩:=dd.dictAt
 have kl:=rel.length
 refine PySem.W.kdl_call (PySem.W.kdl_dict (knd:=ff X.prog X.w) (kvs:=vs) (ep:=ep) lo) (I.ok.hd hc) hat (by rw[<-kl];exact z) λh' tk acc c hk hD hacc=>?_
 have hl:acc.toList.length=vs.length:=by rw[cc];exact hacc.1
 have hv:cT (kvs.map λkv=>kV kv.1) acc.toList:=zb (by rw[ai];lia) λj x v e1 e2=>by
  rw[aO] at e1
  cases ek:kvs[j]? with
  |none=>rw[ek] at e1;cases e1
  |some p=>
   rw[ek] at e1
   have e1':kV p.1=x:=Option.some.inj e1
   obtain⟨k,y,e3,his⟩:=hacc.2 j v (by rw[<-ee];exact e2)
   have:k=p.1:=by
    have a1:(vs.map (·.1))[j]?=some k:=by rw[aO,e3];rfl
    rw[<-rel.keys,aO,ek] at a1
    exact(Option.some.inj a1).symm
   subst this
   rw[<-e1']
   exact J6 his
 have hn:H s.heap.objs.size=none:=I.hok.fresh (aD _)
 refine⟨.ref s.heap.objs.size,_,I.laid (t':=tk) (o:=.lst (kvs.map λkv=>kV kv.1)) hk (aD _) ⟨by rw[ai];exact z,acc.toList,c,hv,?_⟩,rfl,q _ hn⟩
 rw[Array.toArray_toList];exact hD
end
section
variable{X:Cx}
end
section
variable{X:Cx}{tg:Expr}
end
section
variable{X:Cx}{tg l o e f:Expr}{tl td ty tx:TE}{apos cpos:Pos}
theorem CQ{A:Around}{k:Nat}(hr:dm k A):A.units+5<cLine:=i7 (Nat.add_le_add_left (by decide:5<=64) _) hr.units
end
def Pd(K:Fg)(tp:Bool)(H:Hp)(a:Addr)(xs:List V):Prop:=match tp with
 |true=>cY K H a xs
 |false=>cA K H a xs
theorem bW.seqB{X:Cx}{pins:List (Addr×Obj)}{σ:St}{H:Hp}{s:Shared}{tp:Bool}{a:Addr}{xs:List V}(I:bW X pins σ H s)(h:Pd X.K tp H a xs):∃its:List Value,cT xs its/\NZ tp s.heap a its.toArray:=by
 cases tp with
 |true=>obtain⟨its,r,p,_⟩:=I.tuple h;exact⟨its,r,p⟩
 |false=>obtain⟨its,r,p,_⟩:=I.list h;exact⟨its,r,p.isList⟩
section
variable{X:Cx}{elts:List Expr}{k:Nat}{tpos:Pos}
end
end L2
end
section
namespace PySem.SeqAt
open AutoSeq1 (wpAny_loadPart')
open MeetsSeq MeetsSeq2 MeetsSeq3 SeqRoads2
end PySem.SeqAt
namespace L2
open PySem PySem.Spec PyProof.Rows
section
variable{X:Cx}{o e:Expr}{es:List Expr}{to ta tb:TE}{t:TA}{apos cpos:Pos}
end
section
variable{X:Cx}{C:Addr}{m x:Str}{ps:List Str}{k:Nat}{sp:Sp}{e:Expr}{es:List Expr}{t:TA}{p pos apos:Pos}
end
end L2
end
section
namespace Bg
open PySem L2
inductive bJ where
 |num (x:Str) (z:Int)
 |op (x s a b:Str)
 |call (x:Str) (k:Nat) (as:List Str)
 |say (a:Str)
 |jump (to:Nat)
 |test (a:Str) (to:Nat)
 |give (a:Str)
structure d8 where
 name:Str
 params:List Str
 rows:List bJ
def qI:bJ->Str
 |.num _ _=>"num"|.op _ _ _ _=>"op"|.call _ _ _=>"call"|.say _=>"say"|.jump _=>"jump"|.test _ _=>"test"|.give _=>"give"
def dH(H:Hp)(v:V):bJ->Prop
 |.num x z=>∃p,v=.ref p/\H p=some (.tup [.str "num",.str x,.int z])
 |.op x s a b=>∃p,v=.ref p/\H p=some (.tup [.str "op",.str x,.str s,.str a,.str b])
 |.call x k as=>∃p q,v=.ref p/\H p=some (.tup [.str "call",.str x,.int (k:Nat),.ref q])/\H q=some (.tup (as.map V.str))
 |.say a=>∃p,v=.ref p/\H p=some (.tup [.str "say",.str a])
 |.jump to=>∃p,v=.ref p/\H p=some (.tup [.str "jump",.int (to:Nat)])
 |.test a to=>∃p,v=.ref p/\H p=some (.tup [.str "test",.str a,.int (to:Nat)])
 |.give a=>∃p,v=.ref p/\H p=some (.tup [.str "give",.str a])
def Tp(H H':Hp):Prop:=∀p xs,H p=some (.tup xs)->H' p=some (.tup xs)
theorem Tp.refl(H:Hp):Tp H H:=λ_ _ h=>h
theorem Tp.trans{H H1 H2:Hp}(x:Tp H H1)(y:Tp H1 H2):Tp H H2:=λp xs h=>y p xs (x p xs h)
theorem Tp.of_same{H H':Hp}(x:aS H H'):Tp H H':=λp xs h=>x p _ h
theorem Tp.of_but{a:Addr}{ys:List V}{H H':Hp}(x:gB a H H')(ha:H a=some (.lst ys)):Tp H H':=λp xs h=>x p _ (by rintro rfl;rw[h] at ha;cases ha) h
theorem Tp.new{p:Addr}{H H1:Hp}{o:HO}(x:Tp H H1)(hp:H1 p=none):Tp H (upd H1 p o):=λb xs h=>by
 rw[aB (au (x b xs h) hp)];exact x b xs h
theorem Tp.lst{p:Addr}{H H1:Hp}{ys:List V}{o:HO}(x:Tp H H1)(hp:H1 p=some (.lst ys)):Tp H (upd H1 p o):=λb xs h=>by
 have h1:=x b xs h
 rw[aB (by rintro rfl;rw[h1] at hp;cases hp)];exact h1
theorem dH.mono{H H':Hp}{v:V}{r:bJ}(h:dH H v r)(t:Tp H H'):dH H' v r:=by
 cases r with
 |num x z=>obtain⟨p,e,h⟩:=h;exact⟨p,e,t _ _ h⟩
 |op x s a b=>obtain⟨p,e,h⟩:=h;exact⟨p,e,t _ _ h⟩
 |call x k as=>obtain⟨p,q,e,h,h'⟩:=h;exact⟨p,q,e,t _ _ h,t _ _ h'⟩
 |say a=>obtain⟨p,e,h⟩:=h;exact⟨p,e,t _ _ h⟩
 |jump to=>obtain⟨p,e,h⟩:=h;exact⟨p,e,t _ _ h⟩
 |test a to=>obtain⟨p,e,h⟩:=h;exact⟨p,e,t _ _ h⟩
 |give a=>obtain⟨p,e,h⟩:=h;exact⟨p,e,t _ _ h⟩
theorem dH.ref{H:Hp}{v:V}{r:bJ}(h:dH H v r):∃p xs,v=.ref p/\H p=some (.tup (.str (qI r)::xs)):=by
 cases r with
 |num x z=>obtain⟨p,e,h⟩:=h;exact⟨p,_,e,h⟩
 |op x s a b=>obtain⟨p,e,h⟩:=h;exact⟨p,_,e,h⟩
 |call x k as=>obtain⟨p,q,e,h,h'⟩:=h;exact⟨p,_,e,h⟩
 |say a=>obtain⟨p,e,h⟩:=h;exact⟨p,_,e,h⟩
 |jump to=>obtain⟨p,e,h⟩:=h;exact⟨p,_,e,h⟩
 |test a to=>obtain⟨p,e,h⟩:=h;exact⟨p,_,e,h⟩
 |give a=>obtain⟨p,e,h⟩:=h;exact⟨p,_,e,h⟩
structure cL{α:Type}(R:V->α->Prop)(vs:List V)(rs:List α):Prop where
 len:vs.length=rs.length
 at_:∀(i:Nat) v r,vs[i]?=some v->rs[i]?=some r->R v r
theorem cL.nil{α:Type}{R:V->α->Prop}:cL R [] []:=⟨rfl,λi v r h=>by simp at h⟩
theorem cL.imp{α:Type}{R R':V->α->Prop}{vs:List V}{rs:List α}(h:cL R vs rs)(f:∀v r,R v r->R' v r):cL R' vs rs:=⟨h.len,λi v r a b=>f v r (h.at_ i v r a b)⟩
theorem cL.snoc{α:Type}{R:V->α->Prop}{vs:List V}{rs:List α}{v:V}{r:α}(h:cL R vs rs)(q:R v r):cL R (vs++[v]) (rs++[r]):=by
 refine⟨by simp[h.len],λi w t a b=>?_⟩
 by_cases hi:i<vs.length
 ·rw[cZ hi] at a
  rw[cZ (by rw[<-h.len];exact hi)] at b
  exact h.at_ i w t a b
 ·rw[cg (by omega)] at a
  rw[cg (by rw[<-h.len];omega)] at b
  have e:i-vs.length=0:=by
   have:=(ar.mp a).1
   simp at this;omega
  rw[e] at a
  rw[<-h.len,e] at b
  simp at a b
  rw[<-a,<-b];exact q
theorem cL.set{α:Type}{R:V->α->Prop}{vs:List V}{rs:List α}{j:Nat}{v:V}{r:α}(h:cL R vs rs)(q:R v r):cL R (vs.set j v) (rs.set j r):=by
 refine⟨by simp[h.len],λi w t a b=>?_⟩
 by_cases e:j=i
 ·subst e
  have hj:j<vs.length:=by have:=(ar.mp a).1;rw[dC] at this;exact this
  rw[bB hj] at a
  rw[bB (by rw[<-h.len];exact hj)] at b
  cases a;cases b;exact q
 ·rw[bP e] at a b
  exact h.at_ i w t a b
theorem cL.get{α:Type}{R:V->α->Prop}{vs:List V}{rs:List α}(h:cL R vs rs){i:Nat}(hi:i<rs.length):∃v r,vs[i]?=some v/\rs[i]?=some r/\R v r:=by
 have h1:i<vs.length:=by rw[h.len];exact hi
 exact⟨vs[i],rs[i],ao h1,ao hi,h.at_ i _ _ (ao h1) (ao hi)⟩
theorem cL.of_v{α:Type}{R:V->α->Prop}{vs:List V}{rs:List α}(h:cL R vs rs){i:Nat}{v:V}(e:vs[i]?=some v):∃r,rs[i]?=some r/\R v r:=by
 have h1:=(ar.mp e).1
 obtain⟨v',r,e1,e2,q⟩:=h.get (i:=i) (by rw[<-h.len];exact h1)
 rw[e] at e1;cases e1
 exact⟨r,e2,q⟩
def lP(H:Hp)(v:V)(b:d8):Prop:=∃p q r rs,v=.ref p/\H p=some (.tup [.str b.name,.ref q,.ref r])/\H q=some (.tup (b.params.map V.str))/\H r=some (.tup rs)/\cL (dH H) rs b.rows
theorem lP.mono{H H':Hp}{v:V}{b:d8}(h:lP H v b)(t:Tp H H'):lP H' v b:=by
 obtain⟨p,q,r,rs,e,h1,h2,h3,h4⟩:=h
 exact⟨p,q,r,rs,e,t _ _ h1,t _ _ h2,t _ _ h3,h4.imp λ_ _ z=>z.mono t⟩
def mJ(K:Fg)(H:Hp)(a:Addr)(ns:List Int):Prop:=
 (∃o,H a=some (.frz o (.lst (ns.map V.int))))\/∃(o:Obj) (its:Array Value) (n:Nat),K.lookup a=some o/\o.cls=.type "list"/\o.dict=none/\o.data=.seq its n/\its.size<=sizeLine/\cT (ns.map V.int) its.toList
theorem mJ.sq{K:Fg}{H:Hp}{a:Addr}{ns:List Int}(h:mJ K H a ns):cA K H a (ns.map V.int):=by
 rcases h with⟨o,h⟩|h
 ·exact .inl (.inr ⟨o,h⟩)
 ·exact .inr h
def Fz(H H':Hp):Prop:=∀p o u,H p=some (.frz o u)->H' p=some (.frz o u)
theorem Fz.of_but{a:Addr}{ys:List V}{H H':Hp}(x:gB a H H')(ha:H a=some (.lst ys)):Fz H H':=λp o u h=>x p _ (by rintro rfl;rw[h] at ha;cases ha) h
theorem Fz.of_same{H H':Hp}(x:aS H H'):Fz H H':=λp o u h=>x p _ h
theorem mJ.mono{K:Fg}{H H':Hp}{a:Addr}{ns:List Int}(h:mJ K H a ns)(f:Fz H H'):mJ K H' a ns:=by
 rcases h with⟨o,h⟩|h
 ·exact .inl ⟨o,f _ _ _ h⟩
 ·exact .inr h
def ke(K:Fg)(H:Hp)(st:Addr)(k:Nat):Prop:=∃scr ns c,H st=some (.lst [.ref scr,.int (k:Nat),.int c])/\mJ K H scr ns/\ns.length<=63
theorem ke.lst{K:Fg}{H:Hp}{st:Addr}{k:Nat}(h:ke K H st k):∃ys,H st=some (.lst ys):=by
 obtain⟨scr,ns,c,e,_⟩:=h;exact⟨_,e⟩
theorem ke.mono{K:Fg}{H H':Hp}{a st:Addr}{k:Nat}{ys:List V}(h:ke K H st k)(x:gB a H H')(ha:H a=some (.lst ys))(n:st≠a):ke K H' st k:=by
 obtain⟨scr,ns,c,e,q,l⟩:=h
 exact⟨scr,ns,c,x _ _ n e,q.mono (.of_but x ha),l⟩
theorem ke.same{K:Fg}{H H':Hp}{st:Addr}{k:Nat}(h:ke K H st k)(x:aS H H'):ke K H' st k:=by
 obtain⟨scr,ns,c,e,q,l⟩:=h
 exact⟨scr,ns,c,x _ _ e,q.mono (.of_same x),l⟩
theorem ke.new{K:Fg}{H:Hp}{st p:Addr}{o:HO}{k:Nat}(h:ke K H st k)(hp:H p=none):ke K (upd H p o) st k:=h.same ((aS.refl H).new hp)
def bC(K:Fg):Sp:=λvs H Q _=>∃(st:Addr) (m:Int) (k:Nat),vs=[.ref st,.int m]/\ke K H st k/\k<=1000000/\0<m/\m<2 ^ 64/\
 ∀(d:Int) (H':Hp),0<=d->d<m->ke K H' st (k+1)->gB st H H'->Q (.int d) H'
def IC:List Str:=["part","call","say","jump","test","give"]
structure Nm(y:Str):Prop where
 l1:1<=y.length
 l8:y.length<=8
 JF:∀c∈y.cps.toList,97<=c/\c<=122
 no:y∉IC
theorem Nm.ne{y:Str}(h:Nm y):y≠"":=by
 rintro rfl
 exact absurd h.l1 (by decide +kernel)
def kB(K:Fg):Sp:=λvs H Q _=>∃(st:Addr) (n k:Nat),vs=[.ref st,.int (n:Nat)]/\ke K H st k/\k<=900000/\n<=20/\
 ∀(l:Addr) (ys:List Str) (k':Nat) (H':Hp),H l=none->ys.length=n->ys.Nodup->(∀y∈ys,Nm y)->H' l=some (.lst (ys.map V.str))->ke K H' st k'->k'<=k+11->gB st H H'->Q (.ref l) H'
def mj(K:Fg):Sp:=λvs H Q _=>∃(st:Addr) (k:Nat),vs=[.ref st]/\ke K H st k/\k<=900000/\
 ∀(z:Int) (k':Nat) (H':Hp),0<=z->z<2 ^ 64->ke K H' st k'->k'<=k+4->gB st H H'->Q (.int z) H'
def EA:List Str:=["+","-","*","<","="]
def vR(ys:List Str)(cs:List Nat)(n:Nat):bJ->Prop
 |.num x z=>x∈ys/\0<=z/\z<2 ^ 64
 |.op x s a b=>x∈ys/\s∈EA/\a=""/\b=""
 |.call x k as=>x∈ys/\∃c,cs[k]?=some c/\as=bh c ("":Str)
 |.say a=>a=""
 |.jump to=>to<n
 |.test a to=>a=""/\to<n
 |.give a=>a=""
def bH(ns:List Nat):List V:=ns.map λn=>V.int (n:Nat)
def gX(K:Fg):Sp:=λvs H Q _=>∃(st nm cn:Addr) (n k:Nat) (ys:List Str) (cs:List Nat),vs=[.ref st,.ref nm,.int (n:Nat),.ref cn]/\ke K H st k/\k<=800000/\H nm=some (.lst (ys.map V.str))/\ys≠[]/\ys.length<=100/\
 1<=n/\n<=1000/\H cn=some (.lst (bH cs))/\cs≠[]/\cs.length<=100/\(∀c∈cs,c<=4)/\nm≠st/\cn≠st/\
 ∀(v:V) (r:bJ) (k':Nat) (H':Hp),dH H' v r->vR ys cs n r->ke K H' st k'->k'<=k+8->gB st H H'->Q v H'
def cW(n:Nat):bJ->List Nat
 |.jump to=>[to]
 |.test _ to=>[n+1,to]
 |.give _=>[]
 |_=>[n+1]
def md(K:Fg):Sp:=λvs H Q _=>∃(rl:Addr) (n:Nat) (rvs:List V) (v:V) (r:bJ),vs=[.ref rl,.int (n:Nat)]/\(H rl=some (.lst rvs)\/H rl=some (.tup rvs))/\rvs[n]?=some v/\dH H v r/\∀l,H l=none->Q (.ref l) (upd H l (.lst (bH (cW n r))))
def iS:bJ->V
 |.num x _=>.str x
 |.op x _ _ _=>.str x
 |.call x _ _=>.str x
 |_=>.non
def jF:bJ->Bool
 |.jump _=>true
 |.give _=>true
 |_=>false
def wc:bJ->Bool
 |.num _ _=>true
 |_=>false
structure vS(ys:List Str)(cs:List Nat)(rs:List bJ):Prop where
 pos:rs≠[]
 few:rs.length<=100
 rough:∀r∈rs,vR ys cs rs.length r
def stp(rs:List bJ)(n:Nat):Nat:=match rs[n]? with
 |some (.jump t)=>t
 |_=>n
def runJ(rs:List bJ):Nat->Nat->Nat
 |0,n=>n
 |k+1,n=>runJ rs k (stp rs n)
def h9:bJ->Bool
 |.jump _=>true
 |_=>false
def tN(rs:List bJ):Prop:=∀n,n<rs.length->∀r,rs[runJ rs rs.length n]?=some r->h9 r=false
def jX(K:Fg):Sp:=λvs H Q _=>∃(rl nm:Addr) (bare:Bool) (rvs:List V) (rs:List bJ) (ys:List Str) (R:bJ->Prop),vs=[.ref rl,.ref nm,.bl bare]/\H rl=some (.lst rvs)/\cL (dH H) rvs rs/\rs≠[]/\rs.length<=100/\(∀r∈rs,R r)/\R (.say "")/\R (.give "")/\(∀t,R (.jump t)->t<rs.length)/\H nm=some (.lst (ys.map V.str))/\ys≠[]/\(∀y∈ys,bare=true->R (.num y 3))/\nm≠rl/\
 (bare=true->2<=rs.length)/\∀(rvs':List V) (rs':List bJ) (H':Hp),H' rl=some (.lst rvs')->cL (dH H') rvs' rs'->rs'.length=rs.length->(∀r∈rs',R r)->(rs'.getLast?.map jF=some true)->(bare=true->rs'.head?.map wc=some true)->tN rs'->gB rl H H'->Q (.ref rl) H'
def zr(H:Hp)(v:V)(ks:List Str):Prop:=∃a,v=.ref a/\H a=some (.lst (ks.map V.str))
structure LJ(ps:List Str)(rs:List bJ)(kss:List (List Str)):Prop where
 zero:∀ks,kss[0]?=some ks->∀y∈ks,y∈ps
 on:∀(n m:Nat) r ks km,rs[n]?=some r->m∈cW n r->kss[n]?=some ks->kss[m]?=some km->∀y∈km,y∈ks\/iS r=.str y
def gY(K:Fg):Sp:=λvs H Q _=>∃(rl nm pr:Addr) (rvs:List V) (rs:List bJ) (ys ps:List Str) (cs:List Nat),vs=[.ref rl,.ref nm,.ref pr]/\H rl=some (.lst rvs)/\cL (dH H) rvs rs/\vS ys cs rs/\(rs.getLast?.map jF=some true)/\
 H nm=some (.lst (ys.map V.str))/\ys.length<=100/\H pr=some (.lst (ps.map V.str))/\ps.length<=100/\(∀y∈ps,y∈ys)/\(ps=[]->rs.head?.map wc=some true)/\
 ∀(kl:Addr) (refs:List V) (kss:List (List Str)) (H':Hp),H kl=none->H' kl=some (.lst refs)->cL (zr H') refs kss->kss.length=rs.length->(∀(i:Nat) ks,kss[i]?=some ks->ks.length<=100/\(∀y∈ks,y∈ys)/\(ks≠[]\/(i=0/\ps=[])))->LJ ps rs kss->aS H H'->Q (.ref kl) H'
def kF(ks:List Str):bJ->bJ->Prop
 |.num x z,r=>r=.num x z
 |.op x s _ _,r=>∃a b,r=.op x s a b/\a∈ks/\b∈ks
 |.call x k as,r=>∃bs:List Str,r=.call x k bs/\bs.length=as.length/\∀b∈bs,b∈ks
 |.say _,r=>∃a,r=.say a/\a∈ks
 |.jump to,r=>r=.jump to
 |.test _ to,r=>∃a,r=.test a to/\a∈ks
 |.give _,r=>∃a,r=.give a/\a∈ks
def jW(K:Fg):Sp:=λvs H Q _=>∃(st rl kl:Addr) (k:Nat) (rvs refs:List V) (rs:List bJ) (kss:List (List Str)) (ys:List Str) (cs:List Nat),vs=[.ref st,.ref rl,.ref kl]/\ke K H st k/\k<=700000/\H rl=some (.lst rvs)/\cL (dH H) rvs rs/\vS ys cs rs/\(∀y∈ys,y≠"")/\(∀c∈cs,c<=4)/\
 H kl=some (.lst refs)/\cL (zr H) refs kss/\kss.length=rs.length/\(∀(i:Nat) ks,kss[i]?=some ks->ks.length<=100)/\(∀(i:Nat) ks r,kss[i]?=some ks->rs[i]?=some r->ks≠[]\/wc r=true)/\(∀a∈refs,a≠.ref st)/\rl≠st/\kl≠st/\
 ∀(p:Addr) (rvs':List V) (rs':List bJ) (k':Nat) (H':Hp),H' p=some (.tup rvs')->cL (dH H') rvs' rs'->rs'.length=rs.length->(∀(i:Nat) ks r r',kss[i]?=some ks->rs[i]?=some r->rs'[i]?=some r'->kF ks r r')->ke K H' st k'->k'<=k+5*rs.length->gB st H H'->Q (.ref p) H'
def dP:bJ->List Str
 |.op _ _ a b=>[a,b]
 |.call _ _ as=>as
 |.say a=>[a]
 |.test a _=>[a]
 |.give a=>[a]
 |_=>[]
def GK(ys:List Str)(cs:List Nat)(n:Nat):bJ->Prop
 |.num x z=>x∈ys/\0<=z/\z<2 ^ 64
 |.op x s a b=>x∈ys/\s∈EA/\a∈ys/\b∈ys
 |.call x k as=>x∈ys/\cs[k]?=some as.length/\∀a∈as,a∈ys
 |.say a=>a∈ys
 |.jump to=>to<n
 |.test a to=>a∈ys/\to<n
 |.give a=>a∈ys
structure pC(ys:List Str)(cs:List Nat)(b:d8):Prop where
 pnd:b.params.Nodup
 pin:∀y∈b.params,y∈ys
 pos:b.rows≠[]
 few:b.rows.length<=60
 rows:∀r∈b.rows,GK ys cs b.rows.length r
 last:b.rows.getLast?.map jF=some true
 ring:tN b.rows
 known:∃kss,kss.length=b.rows.length/\LJ b.params b.rows kss/\∀(n:Nat) r ks,b.rows[n]?=some r->kss[n]?=some ks->∀y∈dP r,y∈ks
structure tO(ys:List Str)(cs:List Nat)(bs:List d8):Prop where
 ynd:ys.Nodup
 ynm:∀y∈ys,Nm y
 y2:2<=ys.length
 y6:ys.length<=6
 pos:1<=bs.length
 few:bs.length<=5
 nnd:(bs.map (·.name)).Nodup
 nnm:∀b∈bs,Nm b.name
 cnt:bs.map (·.params.length)=cs
 c4:∀c∈cs,c<=4
 part:∀b∈bs,pC ys cs b
def oE(K:Fg):Sp:=λvs H Q _=>∃(st nm pr cn:Addr) (wd:Str) (m k:Nat) (ys ps:List Str) (cs:List Nat),vs=[.ref st,.str wd,.ref nm,.ref pr,.ref cn,.int (m:Nat)]/\ke K H st k/\k<=600000/\H nm=some (.lst (ys.map V.str))/\ys≠[]/\ys.length<=100/\(∀y∈ys,y≠"")/\
 H pr=some (.lst (ps.map V.str))/\ps.length<=100/\ps.Nodup/\(∀y∈ps,y∈ys)/\H cn=some (.lst (bH cs))/\cs≠[]/\cs.length<=100/\(∀c∈cs,c<=4)/\1<=m/\m<=50/\nm≠st/\pr≠st/\cn≠st/\
 ∀(v:V) (b:d8) (k':Nat) (H':Hp),lP H' v b->b.name=wd->b.params=ps->pC ys cs b->b.rows.length<=m+1->ke K H' st k'->k'<=k+1000->gB st H H'->Q v H'
def jf(K:Fg):Sp:=λvs H Q _=>∃(st:Addr) (m k:Nat),vs=[.ref st,.int (m:Nat)]/\ke K H st k/\k<=500000/\1<=m/\m<=50/\
 ∀(p:Addr) (pvs:List V) (bs:List d8) (ys:List Str) (cs:List Nat) (k':Nat) (H':Hp),H' p=some (.tup pvs)->cL (lP H') pvs bs->tO ys cs bs->(∀b∈bs,b.rows.length<=m+1)->ke K H' st k'->k'<=k+10000->gB st H H'->Q (.ref p) H'
def lT:bJ->V
 |.jump to=>.int (to:Nat)
 |.test _ to=>.int (to:Nat)
 |_=>.non
def Lr:Sp:=λvs H Q _=>∃v r,vs=[v]/\dH H v r/\∀(p:Addr) (H':Hp),H' p=some (.tup ((dP r).map V.str))->aS H H'->Q (.ref p) H'
abbrev gz(_:Fg):Sp:=Lr
def jY(_:Fg):Sp:=λvs H Q _=>∃v r,vs=[v]/\dH H v r/\∀(H':Hp),aS H H'->Q (iS r) H'
def gK(_:Fg):Sp:=λvs H Q _=>∃v r,vs=[v]/\dH H v r/\Q (lT r) H
def NI:Sp:=λvs H Q _=>∃(rt:Addr) (n:Nat) (rvs:List V) (v:V) (r:bJ),vs=[.ref rt,.int (n:Nat)]/\H rt=some (.tup rvs)/\rvs[n]?=some v/\dH H v r/\∀(p:Addr) (H':Hp),H' p=some (.tup (bH (cW n r)))->aS H H'->Q (.ref p) H'
abbrev iD(_:Fg):Sp:=NI
def sp_law(K:Fg):Sp:=λvs H Q _=>∃(scr:Addr) (ns:List Int),vs=[.ref scr]/\mJ K H scr ns/\ns.length<=63/\∀H',Q (.bl true) H'
abbrev Mt:Nat:=0
abbrev gF:Nat:=1
abbrev J2:Nat:=1
abbrev vn:Nat:=2
abbrev J5:Nat:=1
abbrev vq:Nat:=2
abbrev AY:Nat:=2
abbrev mH:Nat:=3
abbrev J0:Nat:=0
abbrev vk:Nat:=1
abbrev Hh:Nat:=0
abbrev rT:Nat:=1
abbrev AZ:Nat:=1
abbrev mI:Nat:=2
abbrev Hg:Nat:=1
abbrev rS:Nat:=2
abbrev Mv:Nat:=3
abbrev zg:Nat:=4
abbrev Fo:Nat:=4
abbrev qu:Nat:=5
abbrev Fn:Nat:=0
abbrev lE:Nat:=1
abbrev Hj:Nat:=0
abbrev rV:Nat:=1
abbrev Hi:Nat:=0
abbrev iV:Nat:=1
abbrev Fm:Nat:=1
abbrev qt:Nat:=2
theorem bZ{c:Prop}[Decidable c]{A B:Prop}(h1:c->A)(h2:¬c->B):if decide c=true then A else B:=by
 by_cases h:c
 ·rw[decide_eq_true h];exact qG (h1 h)
 ·rw[decide_eq_false h];exact iW (h2 h)
theorem jE{c:Prop}[Decidable c]{A B:Prop}(h1:¬c->A)(h2:c->B):if(!decide c)=true then A else B:=by
 by_cases h:c
 ·rw[decide_eq_true h];exact iW (h2 h)
 ·rw[decide_eq_false h];exact qG (h1 h)
theorem ny{b:Bool}{A B:Prop}(h1:b=true->A)(h2:b=false->B):if b=true then A else B:=by
 cases b with
 |true=>exact qG (h1 rfl)
 |false=>exact iW (h2 rfl)
theorem zw{α:Type}{xs:List α}{i:Int}{v:α}(h0:0<=i)(e:xs[i.toNat]?=some v):JG xs i=some v:=by
 have h1:=(ar.mp e).1
 unfold JG LP
 rw[if_pos h0,if_pos (by lia)]
 exact e
theorem kz{K:Fg}{p:Addr}{xs:List V}{i:Int}{v:V}{H:Hp}{Q:VK}(h:cA K H p xs)(h0:0<=i)(e:xs[i.toNat]?=some v)(q:Q v H):cS K (.ref p) (.int i) H Q:=
 .inl ⟨p,xs,i,v,rfl,rfl,h,zw h0 e,q⟩
theorem cb{K:Fg}{p:Addr}{xs:List V}{i:Int}{v:V}{H:Hp}{Q:VK}(h:H p=some (.tup xs))(h0:0<=i)(e:xs[i.toNat]?=some v)(q:Q v H):cS K (.ref p) (.int i) H Q:=
 .inr (.inl ⟨p,xs,i,v,rfl,rfl,cY.of h,zw h0 e,q⟩)
theorem O1{K:Fg}{z:Str}{i:Int}{c:Nat}{H:Hp}{Q:VK}(hz:z.length<=sizeLine)(h0:0<=i)(e:z.cps.toList[i.toNat]?=some c)(q:Q (.str ⟨#[c]⟩) H):cS K (.str z) (.int i) H Q:=
 .inr (.inr ⟨z,i,c,rfl,rfl,hz,zw h0 e,q⟩)
theorem ph{p:Addr}{xs:List V}{i:Int}{v:V}{H:Hp}{Q:Hp->Prop}(h:H p=some (.lst xs))(h0:0<=i)(h1:i.toNat<xs.length)(q:Q (upd H p (.lst (xs.set i.toNat v)))):jt (.ref p) (.int i) v H Q:=by
 refine⟨p,xs,i,i.toNat,rfl,rfl,h,?_,q⟩
 unfold LP
 rw[if_pos h0,if_pos (by lia)]
theorem dW{n:Nat}(h:n<=100000):n<sizeLine:=i7 h (by decide)
theorem Fh{ns:List Nat}{i:Nat}{n:Nat}(h:ns[i]?=some n):(bH ns)[i]?=some (.int (n:Nat)):=by
 unfold bH;rw[aO,h];rfl
theorem dD(ns:List Nat):(bH ns).length=ns.length:=by unfold bH;rw[ai]
theorem BC{ys:List Str}{i:Nat}{y:Str}(h:ys[i]?=some y):(ys.map V.str)[i]?=some (.str y):=by rw[aO,h];rfl
theorem om{H:Hp}{a b:Addr}{xs ys:List V}(h:H a=some (.lst xs))(h':H b=some (.tup ys)):a≠b:=LR h h' (by intro z;cases z)
theorem kf{D:Addr}{te:TE}{E:oZ}{σ:St}{H:Hp}(h:te σ H λy H2=>∃ys,H2 D=some (.lst ys)/\ys.length<sizeLine/\E.nx σ (upd H2 D (.lst (ys++[y])))):vg D rL te E σ H:=by
 unfold vg rL
 dsimp only
 rw[if_pos rfl]
 exact h
theorem no{x y:V}{A B:Prop}(h:¬x=y)(q:B):if decide (x=y)=true then A else B:=bZ (λz=>absurd z h) λ_=>q
theorem Cm{x:V}{A B:Prop}(q:A):if decide (x=x)=true then A else B:=bZ (λ_=>q) λz=>absurd rfl z
theorem wa{b:Bool}{A B:Prop}(e:b=true)(q:A):if b=true then A else B:=by rw[e];exact qG q
theorem xM{b:Bool}{A B:Prop}(e:b=false)(q:B):if b=true then A else B:=by rw[e];exact iW q
theorem kx(xs:List V)(c:Nat):qF xs none (some (c:Int))=xs.take c:=by
 unfold qF
 rw[HT.sIx_none,HT.sIx_nat,pj,Nat.sub_zero,<-List.take_eq_take_min]
theorem vX(xs:List V)(c:Nat):qF xs (some (c:Int)) none=xs.drop c:=by
 unfold qF
 rw[HT.sIx_none,HT.sIx_nat]
 by_cases h:c<=xs.length
 ·rw[Nat.min_eq_left h];exact cy (by rw[dU];lia)
 ·rw[Nat.min_eq_right (by lia),List.drop_length,List.drop_of_length_le (by lia),List.take_nil]
theorem lF(ys:List Str):(ys.map V.str).all jO=true:=by
 rw[gE]
 intro v hv
 obtain⟨y,_,rfl⟩:=cB.mp hv
 rfl
theorem lV(y:Str)(ls:List Str):kD (.str y) (ls.map V.str)=decide (y∈ls):=by
 unfold kD
 rw[List.any_map,Bool.eq_iff_iff,List.any_eq_true,decide_eq_true_eq]
 constructor
 ·rintro⟨z,hz,e⟩
  have e':(z==y)=true:=e
  have:z=y:=by simpa using e'
  rw[<-this];exact hz
 ·intro h
  exact⟨y,h,by show(y==y)=true;simp⟩
theorem gB.past{a l:Addr}{H H1 H2:Hp}(x:gB a H H1)(hl:H l=none)(y:gB l H1 H2):gB a H H2:=λc u n h=>y c u (au h hl) (x c u n h)
end Bg
end
section
namespace Bg
open PySem PySem.Spec PyProof.Rows L2
abbrev dZ:List Str:=["_law_state","_law_many"]
abbrev Ct:List Str:=["_law_state","_law_many","_law_script","_law_k","_law_digit","_law_cell"]
def IS(K:Fg):TS:=(cE (bb (mO) (bb (mO) (bb (jV K) (aj 5) (aj 5)) (tC (.int 1999999973))) (aj 1)))
def IT(K:Fg):TS:=(bz (bR (bb (mO) (bb (jV K) (aj 5) (aj 5)) (tC (.int 2147483587))) (aR 5)) (IS K))
def BG(K:Fg):TS:=(bz (bR (bb (mO) (bb (jV K) (bb (mO) (aj 5) (tC (.int 2147483629))) (bb (eY K) (aj 3) (tC (.int 3)))) (tC (.int 2147483629))) (aR 5)) (IT K))
def IU(K:Fg):TS:=(bz (cM (bI (bb (FU) (fN (eA K) (af (aj 2) aE)) (tC (.int 0)))) (bR (bb (eY K) (aj 5) (bb (jV K) (bb (cS K) (aj 2) (bb (mO) (bb (jV K) (aj 3) (tC (.int 7))) (fN (eA K) (af (aj 2) aE)))) (bb (eY K) (tC (.int 48271)) (aj 3)))) (aR 5)) bY) (BG K))
def sP(K:Fg):TS:=(bz (bR (bb (eY K) (bb (jV K) (aj 3) (tC (.int 7919))) (tC (.int 5))) (aR 5)) (IU K))
def IV(K:Fg):TS:=(cE (aj 4))
def BI(K:Fg):TS:=(cM (bI (bb ((Ah K true)) (bb (cS K) (aj 0) (tC (.int 2))) (dM (af (tC (.int 0)) (af (Gi wG (tC (.int 1))) aE))))) (bz (bR (fN (K8) (af (bb (cS K) (aj 0) (tC (.int 2))) (af (aj 1) aE))) (zM K 2 (jo (lS (aj 0) (tC (.int 2)) jt) (jo (aR 4) xK)))) (IV K)) bY)
def BJ(K:Fg):TS:=(bz (cM (vh (bI (bb (qH) (bb (eY K) (bb (Dr) (aj 3) (tC (.int 12))) (tC (.int 1))) (fN (eA K) (af (aj 2) aE)))) (bI (bb (fM K) (bb (mO) (bb (cS K) (aj 2) (tC (.int 0))) (tC (.int 2))) (tC (.int 1))))) (bz (cM (bI (bb (fM K) (bb (mO) (aj 3) (tC (.int 12))) (tC (.int 0)))) (bR (bb (cS K) (aj 2) (bb (eY K) (bb (Dr) (aj 3) (tC (.int 12))) (tC (.int 1)))) (lS (aj 0) (tC (.int 2)) jt)) bY) (BI K)) (cM (bI (bb (qH) (aj 3) (fN (eA K) (af (aj 2) aE)))) (cE (bb (mO) (bb (cS K) (aj 2) (aj 3)) (aj 1))) bY)) (sP K))
def IW(K:Fg):TS:=(bz (bR (bb (eY K) (aj 3) (tC (.int 1))) (lS (aj 0) (tC (.int 1)) jt)) (BJ K))
def IR(K:Fg):TS:=(bz (bR (Co (Es K) (aj 0) gC (kP (tC (.int 2)))) (Ha K 2 (jo (aR 2) (jo (aR 3) xK)))) (IW K))
abbrev lL:List Str:=["_law_state","_law_many"]
abbrev vt:List Str:=["_law_state","_law_many","_law_letters","_law_size","_law_at","_law_first","_law_base","_law_found","_law_k","_law_some","_law_name"]
def yR(K:Fg):TS:=(cE (aj 7))
def yS(K:Fg):TS:=(mq (IL K "list" lq (aj 7) (af (aj 10) aE)))
def yT(K:Fg):TS:=(bz (cM (Dz (bI (bb ((Ah K false)) (aj 10) (dM (af (tC (.str "part")) (af (tC (.str "call")) (af (tC (.str "say")) (af (tC (.str "jump")) (af (tC (.str "test")) (af (tC (.str "give")) aE))))))))) (vh (bI (bb (qH) (aj 3) (tC (.int 8)))) (bI (bb (fM K) (bb (mO) (bb (eY K) (aj 3) (aj 8)) (tC (.int 3))) (tC (.int 1)))))) (bR (bb (eY K) (aj 10) (tC (.str "x"))) (aR 10)) bY) (yS K))
def Gn(K:Fg):TS:=(bz (bR (IL K "str" (LW K) (tC (.str "")) (af (aj 9) aE)) (aR 10)) (yT K))
def Gp(K:Fg):TS:=(bz (bR (bb (eY K) (bb (eY K) (Co (Es K) (aj 6) gC (kP (aj 4))) (fL (af (bb (cS K) (aj 2) (bb (mO) (bb (eY K) (aj 5) (bb (jV K) (tC (.int 5)) (aj 8))) (tC (.int 26)))) aE))) (Co (Es K) (aj 6) (kP (bb (eY K) (aj 4) (tC (.int 1)))) gC)) (aR 9)) (Gn K))
def yU(K:Fg):TS:=(bz (jM (ky (af (aj 1) aE)) (aR 8) (Gp K)) (yR K))
def Gq(K:Fg):TS:=(bz (bR (fL aE) (aR 7)) (yU K))
def Gr(K:Fg):TS:=(bz (bR (kC [] 1 (ky (af (aj 3) aE)) (aR 11) rL (bb (cS K) (aj 2) (bb (mO) (bb (eY K) (aj 5) (bb (jV K) (bb (jV K) (tC (.int 7)) (aj 11)) (bG (bC K) [] E0 (af (aj 0) (af (tC (.int 4)) aE))))) (tC (.int 26))))) (aR 6)) (Gq K))
def Gs(K:Fg):TS:=(bz (bR (bG (bC K) [] E0 (af (aj 0) (af (tC (.int 26)) aE))) (aR 5)) (Gr K))
def xh(K:Fg):TS:=(bz (bR (bG (bC K) [] E0 (af (aj 0) (af (aj 3) aE))) (aR 4)) (Gs K))
def DH(K:Fg):TS:=(bz (bR (bb (eY K) (tC (.int 1)) (bG (bC K) [] E0 (af (aj 0) (af (tC (.int 8)) aE)))) (aR 3)) (xh K))
def EL(K:Fg):TS:=(bz (bR (tC (.str "abcdefghijklmnopqrstuvwxyz")) (aR 2)) (DH K))
abbrev lO:List Str:=["_law_state"]
abbrev zp:List Str:=["_law_state"]
def Gw(K:Fg):TS:=(cE (bb (cS K) (fL (af (tC (.int 0)) (af (tC (.int 1)) (af (bb (uy) (bb (uy) (bb (Ep) (tC (.int 2)) (tC (.int 64))) (tC (.int 1))) (bG (bC K) [] E0 (af (aj 0) (af (tC (.int 3)) aE)))) (af (bG (bC K) [] E0 (af (aj 0) (af (tC (.int 12)) aE))) aE))))) (bG (bC K) [] E0 (af (aj 0) (af (tC (.int 4)) aE)))))
def EO(K:Fg):TS:=(bz (cM (bI (bb (fM K) (bG (bC K) [] E0 (af (aj 0) (af (tC (.int 2)) aE))) (tC (.int 0)))) (cE (bb (eY K) (bb (jV K) (bG (bC K) [] E0 (af (aj 0) (af (bb (Ep) (tC (.int 2)) (tC (.int 31))) aE))) (bb (Ep) (tC (.int 2)) (tC (.int 33)))) (bG (bC K) [] E0 (af (aj 0) (af (bb (Ep) (tC (.int 2)) (tC (.int 31))) aE))))) bY) (Gw K))
abbrev gP:List Str:=["_law_state","_law_names_here","_law_many","_law_counts"]
abbrev pB:List Str:=["_law_state","_law_names_here","_law_many","_law_counts","_law_x","_law_sort","_law_k"]
def x9(K:Fg):TS:=(cE (bb (cS K) (fL (af (dM (af (tC (.str "jump")) (af (bG (bC K) [] E0 (af (aj 0) (af (aj 2) aE))) aE))) (af (dM (af (tC (.str "give")) (af (tC (.str "")) aE))) aE))) (bb (uy) (aj 5) (tC (.int 10)))))
def ya(K:Fg):TS:=(bz (cM (bI (bb (qH) (aj 5) (tC (.int 10)))) (cE (dM (af (tC (.str "test")) (af (tC (.str "")) (af (bG (bC K) [] E0 (af (aj 0) (af (aj 2) aE))) aE))))) bY) (x9 K))
def yb(K:Fg):TS:=(bz (cM (bI (bb (qH) (aj 5) (tC (.int 8)))) (cE (dM (af (tC (.str "say")) (af (tC (.str "")) aE)))) bY) (ya K))
def yc(K:Fg):TS:=(cE (dM (af (tC (.str "call")) (af (aj 4) (af (aj 6) (af (bb (jV K) (dM (af (tC (.str "")) aE)) (bb (cS K) (aj 3) (aj 6))) aE))))))
def yd(K:Fg):TS:=(bz (cM (bI (bb (fM K) (aj 5) (tC (.int 6)))) (bz (bR (bG (bC K) [] E0 (af (aj 0) (af (fN (eA K) (af (aj 3) aE)) aE))) (aR 6)) (yc K)) bY) (yb K))
def ye(K:Fg):TS:=(bz (cM (bI (bb (qH) (aj 5) (tC (.int 6)))) (cE (dM (af (tC (.str "op")) (af (aj 4) (af (bb (cS K) (tC (.str "+-*<=")) (bG (bC K) [] E0 (af (aj 0) (af (tC (.int 5)) aE)))) (af (tC (.str "")) (af (tC (.str "")) aE))))))) bY) (yd K))
def yf(K:Fg):TS:=(bz (cM (bI (bb (qH) (aj 5) (tC (.int 2)))) (cE (dM (af (tC (.str "num")) (af (aj 4) (af (bG (mj K) [] E0 (af (aj 0) aE)) aE))))) bY) (ye K))
def yg(K:Fg):TS:=(bz (bR (bG (bC K) [] E0 (af (aj 0) (af (tC (.int 12)) aE))) (aR 5)) (yf K))
def uQ(K:Fg):TS:=(bz (bR (bb (cS K) (aj 1) (bG (bC K) [] E0 (af (aj 0) (af (fN (eA K) (af (aj 1) aE)) aE)))) (aR 4)) (yg K))
abbrev lJ:List Str:=["_law_rows","_law_n"]
abbrev zj:List Str:=["_law_rows","_law_n"]
def Gj(K:Fg):TS:=(cE (fL (af (bb (eY K) (aj 1) (tC (.int 1))) aE)))
def Gk(K:Fg):TS:=(bz (cM (bI (bb (fM K) (bb (cS K) (bb (cS K) (aj 0) (aj 1)) (tC (.int 0))) (tC (.str "give")))) (cE (fL aE)) bY) (Gj K))
def Gm(K:Fg):TS:=(bz (cM (bI (bb (fM K) (bb (cS K) (bb (cS K) (aj 0) (aj 1)) (tC (.int 0))) (tC (.str "test")))) (cE (fL (af (bb (eY K) (aj 1) (tC (.int 1))) (af (bb (cS K) (bb (cS K) (aj 0) (aj 1)) (tC (.int 2))) aE)))) bY) (Gk K))
def EJ(K:Fg):TS:=(bz (cM (bI (bb (fM K) (bb (cS K) (bb (cS K) (aj 0) (aj 1)) (tC (.int 0))) (tC (.str "jump")))) (cE (fL (af (bb (cS K) (bb (cS K) (aj 0) (aj 1)) (tC (.int 1))) aE))) bY) (Gm K))
abbrev jR:List Str:=["_law_rows","_law_names_here","_law_bare"]
abbrev vM:List Str:=["_law_rows","_law_names_here","_law_bare","_law_last","_law_n","_law_to","_law_turn"]
def DE(K:Fg):TS:=(cE (aj 0))
def DF(K:Fg):TS:=(cM (bI (bb (fM K) (bb (cS K) (bb (cS K) (aj 0) (aj 5)) (tC (.int 0))) (tC (.str "jump")))) (bR (bb (cS K) (fL (af (dM (af (tC (.str "say")) (af (tC (.str "")) aE))) (af (dM (af (tC (.str "give")) (af (tC (.str "")) aE))) aE))) (fN (Im) (af (bb (fM K) (aj 4) (aj 3)) aE))) (lS (aj 0) (aj 4) jt)) bY)
def DG(K:Fg):TS:=(cM (bI (bb (fM K) (bb (cS K) (bb (cS K) (aj 0) (aj 5)) (tC (.int 0))) (tC (.str "jump")))) (bR (bb (cS K) (bb (cS K) (aj 0) (aj 5)) (tC (.int 1))) (aR 5)) bY)
def xa(K:Fg):TS:=(bz (jM (lU K (aj 0)) (aR 6) (DG K)) (DF K))
def xb(K:Fg):TS:=(bz (bR (aj 4) (aR 5)) (xa K))
def xc(K:Fg):TS:=(bz (jM (ky (af (fN (eA K) (af (aj 0) aE)) aE)) (aR 4) (xb K)) (DE K))
def xf(K:Fg):TS:=(bz (cM (vh (tB (aj 2)) (vh (bI (bb (vc K) (bb (cS K) (bb (cS K) (aj 0) (tC (.int 0))) (tC (.int 0))) (tC (.str "num")))) (bI (bb (FU) (aj 3) (tC (.int 0)))))) (bR (dM (af (tC (.str "num")) (af (bb (cS K) (aj 1) (tC (.int 0))) (af (tC (.int 3)) aE)))) (lS (aj 0) (tC (.int 0)) jt)) bY) (xc K))
def xg(K:Fg):TS:=(bz (cM (bI (bb ((Ah K true)) (bb (cS K) (bb (cS K) (aj 0) (aj 3)) (tC (.int 0))) (dM (af (tC (.str "jump")) (af (tC (.str "give")) aE))))) (bR (dM (af (tC (.str "give")) (af (tC (.str "")) aE))) (lS (aj 0) (aj 3) jt)) bY) (xf K))
def BL(K:Fg):TS:=(bz (bR (bb (uy) (fN (eA K) (af (aj 0) aE)) (tC (.int 1))) (aR 3)) (xg K))
abbrev gQ:List Str:=["_law_rows","_law_names_here","_law_params"]
abbrev ko:List Str:=["_law_rows","_law_names_here","_law_params","_law_known","_law_more","_law_n","_law_left","_law_m","_law_kept"]
def yh(K:Fg):TS:=(cE (aj 3))
def yi(K:Fg):TS:=(bR (tC (.bl true)) (aR 4))
def q4(K:Fg):TS:=(cM (bI (bb (qH) (fN (eA K) (af (aj 8) aE)) (fN (eA K) (af (bb (cS K) (aj 3) (aj 7)) aE)))) (bz (bR (aj 8) (lS (aj 3) (aj 7) jt)) (yi K)) bY)
def q5(K:Fg):TS:=(bz (bR (kC [] 1 (lU K (bb (cS K) (aj 3) (aj 7))) (aR 9) (bI (bb ((Ah K false)) (aj 9) (aj 6))) (aj 9)) (aR 8)) (q4 K))
def q9(K:Fg):TS:=(jM (lU K (bG (md K) [] E0 (af (aj 0) (af (aj 5) aE)))) (aR 7) (q5 K))
def rf(K:Fg):TS:=(bz (cM (bI (bb ((Ah K false)) (bb (cS K) (bb (cS K) (aj 0) (aj 5)) (tC (.int 0))) (dM (af (tC (.str "num")) (af (tC (.str "op")) (af (tC (.str "call")) aE)))))) (bR (bb (eY K) (aj 6) (fL (af (bb (cS K) (bb (cS K) (aj 0) (aj 5)) (tC (.int 1))) aE))) (aR 6)) bY) (q9 K))
def m7(K:Fg):TS:=(bz (bR (bb (cS K) (aj 3) (aj 5)) (aR 6)) (rf K))
def rh(K:Fg):TS:=(jM (ky (af (fN (eA K) (af (aj 0) aE)) aE)) (aR 5) (m7 K))
def yj(K:Fg):TS:=(bz (bR (tC (.bl false)) (aR 4)) (rh K))
def qj(K:Fg):TS:=(bz (uj (tB (aj 4)) (yj K)) (yh K))
def qk(K:Fg):TS:=(bz (bR (tC (.bl true)) (aR 4)) (qj K))
def ql(K:Fg):TS:=(bz (bR (fN (vB K) (af (aj 2) aE)) (lS (aj 3) (tC (.int 0)) jt)) (qk K))
def uR(K:Fg):TS:=(bz (bR (kC [] 1 (lU K (aj 0)) (aR 9) rL (fN (vB K) (af (aj 1) aE))) (aR 3)) (ql K))
abbrev jQ:List Str:=["_law_state","_law_rows","_law_known"]
abbrev rY:List Str:=["_law_state","_law_rows","_law_known","_law_found","_law_n","_law_row","_law_some","_law_thing"]
def DC(K:Fg):TS:=(cE (fN (ma K) (af (aj 3) aE)))
def DD(K:Fg):TS:=(mq (IL K "list" lq (aj 3) (af (bb (eY K) (dM (af (bb (cS K) (aj 5) (tC (.int 0))) aE)) (fN (ma K) (af (aj 6) aE))) aE)))
def wZ(K:Fg):TS:=(mq (IL K "list" lq (aj 6) (af (aj 7) aE)))
def w4(K:Fg):TS:=(bz (cM (bI (bb (fM K) (aj 7) (tC (.str "")))) (bR (bb (cS K) (bb (cS K) (aj 2) (aj 4)) (bG (bC K) [] E0 (af (aj 0) (af (fN (eA K) (af (bb (cS K) (aj 2) (aj 4)) aE)) aE)))) (aR 7)) (cM (tB (fN (O4 K) (af (aj 7) (af (tC (.ty "tuple")) aE)))) (bR (fN (ma K) (af (kC [] 1 (lU K (aj 7)) (aR 8) rL (bb (cS K) (bb (cS K) (aj 2) (aj 4)) (bG (bC K) [] E0 (af (aj 0) (af (fN (eA K) (af (bb (cS K) (aj 2) (aj 4)) aE)) aE))))) aE)) (aR 7)) bY)) (wZ K))
def w5(K:Fg):TS:=(bz (jM (lU K (Co (Es K) (aj 5) (kP (tC (.int 1))) gC)) (aR 7) (w4 K)) (DD K))
def rO(K:Fg):TS:=(bz (bR (fL aE) (aR 6)) (w5 K))
def w6(K:Fg):TS:=(bz (jM (Hd K (af (aj 1) aE)) (zM K 2 (jo (aR 4) (jo (aR 5) xK))) (rO K)) (DC K))
def BK(K:Fg):TS:=(bz (bR (fL aE) (aR 3)) (w6 K))
abbrev og:List Str:=["_law_state","_law_word","_law_names_here","_law_params","_law_counts","_law_most"]
abbrev zl:List Str:=["_law_state","_law_word","_law_names_here","_law_params","_law_counts","_law_most","_law_many","_law_rows","_law_known"]
def BZ(K:Fg):TS:=(cE (dM (af (aj 1) (af (fN (ma K) (af (aj 3) aE)) (af (bG (jW K) [] E0 (af (aj 0) (af (aj 7) (af (aj 8) aE)))) aE)))))
def B0(K:Fg):TS:=(bz (bR (bG (gY K) [] E0 (af (aj 7) (af (aj 2) (af (aj 3) aE)))) (aR 8)) (BZ K))
def B9(K:Fg):TS:=(bz (bR (bG (jX K) [] E0 (af (aj 7) (af (aj 2) (af (bb (fM K) (fN (eA K) (af (aj 3) aE)) (tC (.int 0))) aE)))) (aR 7)) (B0 K))
def Ca(K:Fg):TS:=(bz (bR (kC [] 1 (ky (af (aj 6) aE)) (aR 9) rL (bG (gX K) [] E0 (af (aj 0) (af (aj 2) (af (aj 6) (af (aj 4) aE)))))) (aR 7)) (B9 K))
def Jc(K:Fg):TS:=(bz (bR (fN (Oy) (af (bb (eY K) (tC (.int 1)) (fN (Im) (af (bb (fM K) (fN (eA K) (af (aj 3) aE)) (tC (.int 0))) aE))) (af (bb (eY K) (tC (.int 1)) (bG (bC K) [] E0 (af (aj 0) (af (aj 5) aE)))) aE))) (aR 6)) (Ca K))
abbrev jb:List Str:=["_law_state","_law_most"]
abbrev qx:List Str:=["_law_state","_law_most","_law_five","_law_words","_law_names_here","_law_counts","_law_found","_law_word","_law_many","_law_turn","_law_params"]
def Cb(K:Fg):TS:=(cE (fN (ma K) (af (aj 6) aE)))
def uI(K:Fg):TS:=(mq (IL K "list" lq (aj 6) (af (bG (oE K) [] E0 (af (aj 0) (af (aj 7) (af (aj 4) (af (aj 10) (af (aj 5) (af (aj 1) aE))))))) aE)))
def uJ(K:Fg):TS:=(bz (bR (Co (Es K) (bb (eY K) (Co (Es K) (aj 4) (kP (aj 9)) gC) (Co (Es K) (aj 4) gC (kP (aj 9)))) gC (kP (aj 8))) (aR 10)) (uI K))
def uK(K:Fg):TS:=(bz (bR (bG (bC K) [] E0 (af (aj 0) (af (fN (eA K) (af (aj 4) aE)) aE))) (aR 9)) (uJ K))
def uL(K:Fg):TS:=(bz (jM (Mo K (af (aj 3) (af (aj 5) aE))) (zM K 2 (jo (aR 7) (jo (aR 8) xK))) (uK K)) (Cb K))
def uM(K:Fg):TS:=(bz (bR (fL aE) (aR 6)) (uL K))
def uN(K:Fg):TS:=(bz (bR (kC [7] 0 (lU K (aj 3)) (aR 7) rL (bG (bC K) [] E0 (af (aj 0) (af (bb (eY K) (fN (Oz) (af (tC (.int 4)) (af (fN (eA K) (af (aj 4) aE)) aE))) (tC (.int 1))) aE)))) (aR 5)) (uM K))
def uO(K:Fg):TS:=(bz (bR (bG (kB K) [] E0 (af (aj 0) (af (bb (eY K) (tC (.int 2)) (bG (bC K) [] E0 (af (aj 0) (af (tC (.int 5)) aE)))) aE))) (aR 4)) (uN K))
def uP(K:Fg):TS:=(bz (bR (Co (Es K) (bG (kB K) [] E0 (af (aj 0) (af (tC (.int 5)) aE))) gC (kP (bb (cS K) (fL (af (bb (eY K) (tC (.int 1)) (bG (bC K) [] E0 (af (aj 0) (af (tC (.int 3)) aE)))) (af (tC (.int 5)) aE))) (aj 2)))) (aR 3)) (uO K))
def yY(K:Fg):TS:=(bz (bR (fN (Im) (af (bb (fM K) (bb (mO) (bb (Dr) (fN (O5 K) (af (Co (Es K) (bb (cS K) (aj 0) (tC (.int 0))) gC (kP (tC (.int 1)))) aE)) (tC (.int 4))) (tC (.int 16))) (tC (.int 5))) aE)) (aR 2)) (uP K))
end Bg
end
section
namespace Bg
open PySem L2
abbrev JF:Str:="abcdefghijklmnopqrstuvwxyz"
theorem DZ:JF.length<=sizeLine:=by decide +kernel
def one(c:Nat):Str:=⟨#[c]⟩
theorem AL:∀cs:List Nat,(Txt.join "" (cs.map one)).cps.toList=cs
 |[]=>by decide +kernel
 |c::r=>by
  unfold Txt.join
  rw[StrLaws.glued_eq_join]
  induction r generalizing c with
  |nil=>rfl
  |cons d r ih=>
   show(one c++("":Str)++Str.join "" ((d::r).map one)).cps.toList=_
   have e:(one c++("":Str)++Str.join "" ((d::r).map one)).cps.toList=(one c).cps.toList++("":Str).cps.toList++(Str.join "" ((d::r).map one)).cps.toList:=by
    show((one c).cps++("":Str).cps++(Str.join "" ((d::r).map one)).cps).toList=_
    rw[kN,kN]
   rw[e,ih d]
   rfl
theorem nB(y:Str):y.length=y.cps.toList.length:=by
 show y.cps.size=_
 rw[cc]
theorem AH:∀j:Nat,j<26->JF.cps.toList[j]?=some (97+j):=by decide +kernel
theorem ID:∀y∈IC,y.length<=4:=by decide +kernel
theorem Ge:∀y∈IC,y.cps.toList.getLast?≠some 120:=by decide +kernel
theorem D5(y:Str):(y++"x").cps.toList=y.cps.toList++[120]:=by
 show(y.cps++("x":Str).cps).toList=_
 rw[kN]
 rfl
theorem Bd{y:Str}{cs:List Nat}(h:y.cps.toList=cs)(l1:1<=cs.length)(l8:cs.length<=8)(a:∀c∈cs,97<=c/\c<=122)(n:y∉IC):Nm y:=
 ⟨by rw[nB,h];exact l1,by rw[nB,h];exact l8,by rw[h];exact a,n⟩
theorem Oc{y:Str}{cs:List Nat}(h:y.cps.toList=cs)(l8:cs.length<=7)(a:∀c∈cs,97<=c/\c<=122):Nm (y++"x"):=by
 have e:=D5 y
 rw[h] at e
 refine⟨by rw[nB,e,aN];simp,by rw[nB,e,aN];simp;lia,λc hc=>?_,λhm=>?_⟩
 ·rw[e] at hc
  rcases bu.mp hc with z|z
  ·exact a c z
  ·rw[av.mp z];decide
 ·have:=Ge _ hm
  rw[e,List.getLast?_append] at this
  exact this rfl
def OR(st b l:Addr)(n sz at':Nat)(f:Int)(H4:Hp)(i:Nat):St->Hp->Prop:=λσ' H'=>∃(ys:List Str) (o1 o2 o3:Option V),σ'=[some (.ref st),some (.int (n:Nat)),some (.str JF),some (.int (sz:Nat)),some (.int (at':Nat)),some (.int f),some (.ref b),some (.ref l),o1,o2,o3]/\H' l=some (.lst (ys.map V.str))/\ys.length=i/\(∀y∈ys,Nm y)/\(∀(j:Nat) y,ys[j]?=some y->y.cps.toList[at']?=some (97+((f+5*(j:Int)) % 26).toNat))/\gB l (upd H4 l (.lst [])) H'
theorem Lf{K:Fg}{vs:List V}{H:Hp}{Q:VK}{E:XK}(h:kB K vs H Q E):EL K {nx:=λ_ H'=>Q .non H',rt:=Q} (cU vt vs) H:=by
 obtain⟨st,n,k,rfl,S,hk,hn,q⟩:=h
 refine⟨_,rfl,st,8,k,rfl,S,by lia,by decide,by decide,λd H1 d0 d1 S1 B1=>.inl ⟨_,_,rfl,rfl,?_⟩⟩
 obtain⟨sz,hsz,z1,z8⟩:∃sz:Nat,(1:Int)+d=(sz:Int)/\1<=sz/\sz<=8:=⟨(1+d).toNat,by lia,by lia,by lia⟩
 show xh K _ [some (.ref st),some (.int (n:Nat)),some (.str JF),some (.int ((1:Int)+d)),none,none,none,none,none,none,none] H1
 rw[hsz]
 refine⟨_,rfl,_,rfl,st,_,k+1,rfl,S1,by lia,by lia,by lia,λa H2 a0 a1 S2 B2'=>?_⟩
 obtain⟨at',rfl⟩:∃j:Nat,a=(j:Int):=⟨a.toNat,by lia⟩
 have B2:=B1.trans B2'
 refine⟨_,rfl,st,26,k+2,rfl,S2,by lia,by decide,by decide,λf H3 f0 f1 S3 B3'=>?_⟩
 have B3:=B2.trans B3'
 refine⟨_,rfl,_,rfl,by lia,by lia,λb hb=>?_⟩
 obtain⟨ys3,hs3⟩:=S3.lst
 have nb:b≠st:=λz=>by rw[z,hs3] at hb;cases hb
 refine lR (λi σ' H'=>∃(bc:List Nat) (kk:Nat) (o:Option V),σ'=[some (.ref st),some (.int (n:Nat)),some (.str JF),some (.int (sz:Nat)),some (.int (at':Nat)),some (.int f),none,none,none,none,none,o]/\
  H' b=some (.lst ((bc.map one).map V.str))/\bc.length=i/\(∀c∈bc,97<=c/\c<=122)/\ke K H' st kk/\kk<=k+3+i/\gB st H H') ?_ ?_ ?_
 ·exact⟨[],k+3,none,rfl,ag,rfl,by simp,S3.new hb,by lia,B3.new hb⟩
 ·rintro i σ' H' hi ⟨bs,kk,o,rfl,hbl,hlen,hone,S4,hkk,B4⟩
  have hi:i<sz:=by simpa using hi
  refine kf ?_
  refine⟨_,rfl,_,rfl,_,rfl,.inl ⟨_,_,rfl,rfl,.inl ⟨by decide,by decide⟩,_,rfl,st,4,kk,rfl,S4,by lia,by decide,by decide,λe H5 e0 e1 S5 B5=>.inl ⟨_,_,rfl,rfl,.inr ⟨by lia,by lia⟩,.inl ⟨_,_,rfl,rfl,_,_,rfl,rfl,(by show(0:Int)<26;decide),?_⟩⟩⟩⟩
  have x0:0<=(f+7*(0+(i:Int))*e) % 26:=dB _ (by decide)
  have x1:(f+7*(0+(i:Int))*e) % 26<26:=dz _ (by decide)
  refine O1 DZ x0 (AH _ (by lia)) ?_
  have x2:((f+7*(0+(i:Int))*e) % 26).toNat<26:=by lia
  generalize ((f+7*(0+(i:Int))*e) % 26).toNat=x at x2
  have h5:=B5 b _ nb hbl
  refine⟨_,h5,dW (by rw[ai,ai];lia),bs++[97+x],kk+1,_,rfl,?_,by simp[hlen],?_,?_,by lia,?_⟩
  ·rw[ag,bg,bg];rfl
  ·intro y hy
   rcases bu.mp hy with z|z
   ·exact hone y z
   ·rw[av.mp z];lia
  ·exact S5.mono .upd_at h5 (Ne.symm nb)
  ·exact λc' u n' h'=>by
    have w:=(B4.trans B5) c' u n' h'
    have ncb:c'≠b:=λz=>by
     have:H c'=none:=(B3.free (λz'=>n' z') (by rw[z];exact hb))
     rw[this] at h';cases h'
    rw[aB ncb];exact w
 ·rintro σ' H4 ⟨bs,kk,o,rfl,hbl,hlen,hone,S4,hkk,B4⟩
  have hlen:bs.length=sz:=by simpa using hlen
  have hkk:kk<=k+3+sz:=by simpa using hkk
  refine⟨(by show 0<=sizeLine;decide),λl hl=>?_⟩
  have nlb:b≠l:=au hbl hl
  obtain⟨ys4,hs4⟩:=S4.lst
  have nls:st≠l:=au hs4 hl
  have Hl:H l=none:=B4.free (Ne.symm nls) hl
  show yU K _ [some (.ref st),some (.int (n:Nat)),some (.str JF),some (.int (sz:Nat)),some (.int (at':Nat)),some (.int f),some (.ref b),some (.ref l),none,none,none] (upd H4 l (.lst []))
  refine⟨_,rfl,_,rfl,by lia,by lia,gH (OR st b l n sz at' f H4) ⟨[],none,none,none,rfl,ag,rfl,by simp,by simp,.refl _ _⟩ ?_ ?_⟩
  ·rintro i σ' H5 hi ⟨ys,o1,o2,o3,rfl,hyl,ylen,yok,ycd,B5⟩
   have hi:i<n:=by simpa using hi
   have hb5:H5 b=some (.lst ((bs.map one).map V.str)):=B5 b _ nlb (by rw[aB nlb];exact hbl)
   refine⟨_,rfl,_,rfl,_,rfl,.inl ⟨b,_,rfl,cA.of hb5,λp1 hp1=>?_⟩⟩
   rw[kx,<-gg,<-gg]
   have np1b:b≠p1:=au hb5 hp1
   have np1l:l≠p1:=au hyl hp1
   refine⟨_,rfl,_,rfl,_,rfl,.inl ⟨_,_,rfl,rfl,.inl ⟨by decide,by decide⟩,.inl ⟨_,_,rfl,rfl,_,_,rfl,rfl,(by show(0:Int)<26;decide),?_⟩⟩⟩
   have e00:(0:Int)+(i:Int)=(i:Int):=by lia
   rw[e00]
   have x0:0<=(f+5*(i:Int)) % 26:=dB _ (by decide)
   have x1:(f+5*(i:Int)) % 26<26:=dz _ (by decide)
   obtain⟨c,hc⟩:∃c,c=97+((f+5*(i:Int)) % 26).toNat:=⟨_,rfl⟩
   refine O1 DZ x0 (by rw[AH _ (by lia),<-hc]) ⟨(by show 1<=sizeLine;decide),λp2 hp2=>?_⟩
   have np12:p1≠p2:=au ag hp2
   have np2b:b≠p2:=au (by rw[aB np1b];exact hb5) hp2
   have np2l:l≠p2:=au (by rw[aB np1l];exact hyl) hp2
   refine .inr (.inr (.inl ⟨p1,p2,_,_,rfl,rfl,by rw[aB np12,ag],ag,?_,λp3 hp3=>?_⟩))
   ·have:=dW (n:=9) (by decide)
    rw[ai,ai,aY]
    show min at' bs.length+1<=sizeLine
    lia
   have np13:p1≠p3:=au (by rw[aB np12];exact ag) hp3
   have np3b:b≠p3:=au (by rw[aB np2b,aB np1b];exact hb5) hp3
   have np3l:l≠p3:=au (by rw[aB np2l,aB np1l];exact hyl) hp3
   refine⟨_,rfl,_,rfl,.inl ⟨_,_,rfl,rfl,_,rfl,.inl ⟨b,_,rfl,cA.of (by rw[aB np3b,aB np2b,aB np1b];exact hb5),λp4 hp4=>?_⟩⟩⟩
   rw[show((at':Int)+1)=((at'+1:Nat):Int) by lia,vX,<-qJ,<-qJ]
   have np34:p3≠p4:=au ag hp4
   have np4l:l≠p4:=au (by rw[aB np3l,aB np2l,aB np1l];exact hyl) hp4
   refine .inr (.inr (.inl ⟨p3,p4,_,_,rfl,rfl,by rw[aB np34,ag],ag,?_,λp5 hp5=>?_⟩))
   ·have:=dW (n:=100) (by decide)
    rw[aN,ai,ai,ai,ai,aY,dU]
    show min at' bs.length+1+(bs.length-(at'+1))<=sizeLine
    lia
   have np5l:l≠p5:=au (by rw[aB np4l,aB np3l,aB np2l,aB np1l];exact hyl) hp5
   have ew:((bs.take at').map one).map V.str++[V.str ⟨#[c]⟩]++((bs.drop (at'+1)).map one).map V.str=((bs.take at'++[c]++bs.drop (at'+1)).map one).map V.str:=by rw[bg,bg,bg,bg];rfl
   rw[ew]
   have wl:(bs.take at'++[c]++bs.drop (at'+1)).length=sz:=by rw[aN,aN,aY,dU,bF];lia
   have wone:∀y∈bs.take at'++[c]++bs.drop (at'+1),97<=y/\y<=122:=λy hy=>by
    rcases bu.mp hy with z|z
    ·rcases bu.mp z with z|z
     ·exact hone y (iu z)
     ·rw[av.mp z];lia
    ·exact hone y (List.mem_of_mem_drop z)
   have wat:(bs.take at'++[c]++bs.drop (at'+1))[at']?=some c:=by
    have tl:(bs.take at').length=at':=by rw[aY];lia
    rw[my,cg (by lia),tl,kQ]
    rfl
   generalize bs.take at'++[c]++bs.drop (at'+1)=w at wl wone wat ⊢
   have B6:=((((B5.new (o:=.lst (((bs.take at').map one).map V.str)) hp1).new (o:=.lst [V.str ⟨#[c]⟩]) hp2).new (o:=.lst (((bs.take at').map one).map V.str++[V.str ⟨#[c]⟩])) hp3).new (o:=.lst (((bs.drop (at'+1)).map one).map V.str)) hp4).new (o:=.lst ((w.map one).map V.str)) hp5
   have h6:(upd (upd (upd (upd (upd H5 p1 (.lst (((bs.take at').map one).map V.str))) p2 (.lst [V.str ⟨#[c]⟩])) p3 (.lst (((bs.take at').map one).map V.str++[V.str ⟨#[c]⟩]))) p4 (.lst (((bs.drop (at'+1)).map one).map V.str))) p5 (.lst ((w.map one).map V.str))) l=some (.lst (ys.map V.str)):=by
    rw[aB np5l,aB np4l,aB np3l,aB np2l,aB np1l];exact hyl
   have g6:(upd (upd (upd (upd (upd H5 p1 (.lst (((bs.take at').map one).map V.str))) p2 (.lst [V.str ⟨#[c]⟩])) p3 (.lst (((bs.take at').map one).map V.str++[V.str ⟨#[c]⟩]))) p4 (.lst (((bs.drop (at'+1)).map one).map V.str))) p5 (.lst ((w.map one).map V.str))) p5=some (.lst ((w.map one).map V.str)):=ag
   generalize (upd (upd (upd (upd (upd H5 p1 (.lst (((bs.take at').map one).map V.str))) p2 (.lst [V.str ⟨#[c]⟩])) p3 (.lst (((bs.take at').map one).map V.str++[V.str ⟨#[c]⟩]))) p4 (.lst (((bs.drop (at'+1)).map one).map V.str))) p5 (.lst ((w.map one).map V.str)))=H6 at B6 h6 g6 ⊢
   have wsum:((w.map one).map (·.length)).sum=w.length:=by
    rw[dN,show((λx:Str=>x.length) ∘ one)=λ_=>1 from rfl,List.map_const',List.sum_replicate_nat,Nat.mul_one]
   refine⟨rfl,_,rfl,"",p5,w.map one,rfl,rfl,cA.of g6,?_,?_⟩
   ·have e:("":Str).length=0:=by decide +kernel
    rw[wsum,e,Nat.mul_zero];lia
   have jl:=AL w
   generalize Txt.join "" (w.map one)=nmw at jl ⊢
   show yT K _ [some (.ref st),some (.int (n:Nat)),some (.str JF),some (.int (sz:Nat)),some (.int (at':Nat)),some (.int f),some (.ref b),some (.ref l),some (.int (i:Int)),some (.ref p5),some (.str nmw)] H6
   have nl:nmw.length=sz:=by rw[nB,jl,wl]
   have app:∀(nw:Str) (H7:Hp),Nm nw->nw.cps.toList[at']?=some c->gB l (upd H4 l (.lst [])) H7->H7 l=some (.lst (ys.map V.str))->yS K {nx:=OR st b l n sz at' f H4 (i+1),rt:=Q,ct:=OR st b l n sz at' f H4 (i+1),bk:=yR K {nx:=λ_ H'=>Q .non H',rt:=Q}} [some (.ref st),some (.int (n:Nat)),some (.str JF),some (.int (sz:Nat)),some (.int (at':Nat)),some (.int f),some (.ref b),some (.ref l),some (.int (i:Int)),some (.ref p5),some (.str nw)] H7:=λnw H7 w1 w2 B7 h7=>by
    refine⟨_,rfl,.inl ⟨rfl,_,cA.of h7⟩,_,rfl,l,_,_,rfl,rfl,h7,dW (by rw[ai];lia),?_⟩
    refine⟨ys++[nw],_,_,_,rfl,?_,by simp[ylen],?_,?_,B7.trans .upd_at⟩
    ·rw[ag,bg];rfl
    ·intro y hy
     rcases bu.mp hy with z|z
     ·exact yok y z
     ·rw[av.mp z];exact w1
    ·intro j y hy
     by_cases cj:j<ys.length
     ·rw[cZ cj] at hy;exact ycd j y hy
     ·have cj2:j=i:=by
       have:=(ar.mp hy).1
       rw[aN,bF] at this
       lia
      subst cj2
      rw[cg (by lia),ylen,kQ] at hy
      cases hy
      rw[<-hc];exact w2
   refine⟨_,rfl,(by show 6<=sizeLine;decide),λt ht=>⟨t,_,rfl,.inr (cY.of ag),rfl,rfl,_,rfl,?_⟩⟩
   have ntl:l≠t:=au h6 ht
   have B7:=B6.new (o:=.tup [V.str "part",V.str "call",V.str "say",V.str "jump",V.str "test",V.str "give"]) ht
   have h7:(upd H6 t (.tup [V.str "part",V.str "call",V.str "say",V.str "jump",V.str "test",V.str "give"])) l=some (.lst (ys.map V.str)):=by rw[aB ntl];exact h6
   have xl:("x":Str).length=1:=by decide +kernel
   have xat:(nmw++"x").cps.toList[at']?=some c:=by
    rw[D5,jl,cZ (by rw[wl];lia)];exact wat
   show if kD (.str nmw) (IC.map V.str)=true then _ else _
   rw[lV]
   refine bZ (λhin=>?_) (λhin=>?_)
   ·refine⟨_,rfl,.inr (.inl ⟨_,_,rfl,rfl,by rw[xl];have:=dW (n:=100) (by decide);lia,?_⟩)⟩
    have z4:=ID _ hin
    exact app _ _ (Oc jl (by rw[wl];lia) wone) xat B7 h7
   ·refine⟨_,rfl,_,_,rfl,rfl,_,rfl,bZ (λh8=>?_) (λ_=>?_)⟩
    ·refine⟨_,rfl,_,rfl,.inl ⟨_,_,rfl,rfl,_,_,rfl,rfl,(by show(0:Int)<3;decide),.inl ⟨rfl,_,rfl,bZ (λ_=>?_) (λ_=>?_)⟩⟩⟩
     ·refine⟨_,rfl,.inr (.inl ⟨_,_,rfl,rfl,by rw[xl];have:=dW (n:=100) (by decide);lia,?_⟩)⟩
      exact app _ _ (Oc jl (by rw[wl];lia) wone) xat B7 h7
     ·exact app _ _ (Bd jl (by lia) (by lia) wone hin) (by rw[jl];exact wat) B7 h7
    ·exact iW (app _ _ (Bd jl (by lia) (by lia) wone hin) (by rw[jl];exact wat) B7 h7)
  ·rintro σ' H5 ⟨ys,o1,o2,o3,rfl,hyl,ylen,yok,ycd,B5⟩
   have ylen:ys.length=n:=by simpa using ylen
   have nd:ys.Nodup:=by
    rw[List.Nodup,iP]
    intro i j hi hj lt e
    have e1:=ycd i _ (ao hi)
    have e2:=ycd j _ (ao hj)
    rw[e,e2] at e1
    have e3:=Option.some.inj e1
    have a1:0<=(f+5*(i:Int)) % 26:=dB _ (by decide)
    have a2:0<=(f+5*(j:Int)) % 26:=dB _ (by decide)
    lia
   refine⟨_,rfl,q l ys kk H5 Hl ylen nd yok hyl ((S4.new hl).mono B5 ag nls) (by lia) (B4.through hl B5)⟩
structure MJ(rl:Addr)(H:Hp)(R:bJ->Prop)(n:Nat)(H':Hp)(rvs:List V)(rs:List bJ):Prop where
 at_:H' rl=some (.lst rvs)
 all:cL (dH H') rvs rs
 len:rs.length=n
 rough:∀r∈rs,R r
 but:gB rl H H'
theorem MJ.vlen{rl:Addr}{H H':Hp}{R:bJ->Prop}{n:Nat}{rvs:List V}{rs:List bJ}(m:MJ rl H R n H' rvs rs):rvs.length=n:=m.all.len.trans m.len
theorem MJ.grown{rl:Addr}{H H' H2:Hp}{R:bJ->Prop}{n:Nat}{rvs:List V}{rs:List bJ}(m:MJ rl H R n H' rvs rs)(s:aS H' H2):MJ rl H R n H2 rvs rs:=
 ⟨s _ _ m.at_,m.all.imp λ_ _ z=>z.mono (.of_same s),m.len,m.rough,λb o nb h=>s _ _ (m.but b o nb h)⟩
theorem MJ.set{rl:Addr}{H H':Hp}{R:bJ->Prop}{n:Nat}{rvs:List V}{rs:List bJ}{v:V}{r:bJ}(j:Nat)(m:MJ rl H R n H' rvs rs)(q:dH H' v r)(ro:R r) :
  MJ rl H R n (upd H' rl (.lst (rvs.set j v))) (rvs.set j v) (rs.set j r):=by
 have t:Tp H' (upd H' rl (.lst (rvs.set j v))):=(Tp.refl H').lst m.at_
 refine⟨ag,(m.all.set q).imp λ_ _ z=>z.mono t,by rw[dC];exact m.len,λr' hr'=>?_,m.but.trans .upd_at⟩
 rcases iO hr' with z|z
 ·exact m.rough r' z
 ·rw[z];exact ro
theorem MJ.get{rl:Addr}{H H':Hp}{R:bJ->Prop}{n:Nat}{rvs:List V}{rs:List bJ}(m:MJ rl H R n H' rvs rs){j:Nat}(hj:j<n):∃p xs r,rvs[j]?=some (.ref p)/\rs[j]?=some r/\H' p=some (.tup (.str (qI r)::xs))/\dH H' (.ref p) r/\R r:=by
 obtain⟨v,r,e1,e2,q⟩:=m.all.get (i:=j) (by rw[m.len];exact hj)
 obtain⟨p,xs,rfl,hp⟩:=q.ref
 exact⟨p,xs,r,e1,e2,hp,q,m.rough r (aH e2)⟩
def LF(n:Nat)(rs:List bJ):Prop:=∃r,rs[n-1]?=some r/\jF r=true
def NV(bare:Bool)(rs:List bJ):Prop:=bare=true->∃r,rs[0]?=some r/\wc r=true
theorem nQ{r:bJ}(h:qI r="jump"):∃to,r=.jump to:=by
 cases r with
 |jump to=>exact⟨to,rfl⟩
 |num x z=>exact absurd h (by show ¬("num":Str)="jump";decide +kernel)
 |op x s a b=>exact absurd h (by show ¬("op":Str)="jump";decide +kernel)
 |call x k as=>exact absurd h (by show ¬("call":Str)="jump";decide +kernel)
 |say a=>exact absurd h (by show ¬("say":Str)="jump";decide +kernel)
 |test a to=>exact absurd h (by show ¬("test":Str)="jump";decide +kernel)
 |give a=>exact absurd h (by show ¬("give":Str)="jump";decide +kernel)
theorem Mq{r:bJ}(h:qI r="num"):wc r=true:=by
 cases r with
 |num x z=>rfl
 |jump to=>exact absurd h (by show ¬("jump":Str)="num";decide +kernel)
 |op x s a b=>exact absurd h (by show ¬("op":Str)="num";decide +kernel)
 |call x k as=>exact absurd h (by show ¬("call":Str)="num";decide +kernel)
 |say a=>exact absurd h (by show ¬("say":Str)="num";decide +kernel)
 |test a to=>exact absurd h (by show ¬("test":Str)="num";decide +kernel)
 |give a=>exact absurd h (by show ¬("give":Str)="num";decide +kernel)
theorem Mp{r:bJ}(h:kD (.str (qI r)) [V.str "jump",V.str "give"]=true):jF r=true:=by
 cases r with
 |jump to=>rfl
 |give a=>rfl
 |num x z=>exact absurd h (by show ¬kD (.str "num") [V.str "jump",V.str "give"]=true;decide +kernel)
 |op x s a b=>exact absurd h (by show ¬kD (.str "op") [V.str "jump",V.str "give"]=true;decide +kernel)
 |call x k as=>exact absurd h (by show ¬kD (.str "call") [V.str "jump",V.str "give"]=true;decide +kernel)
 |say a=>exact absurd h (by show ¬kD (.str "say") [V.str "jump",V.str "give"]=true;decide +kernel)
 |test a to=>exact absurd h (by show ¬kD (.str "test") [V.str "jump",V.str "give"]=true;decide +kernel)
theorem qE{a b:Str}(h:V.str a=V.str b):a=b:=by cases h;rfl
theorem wU{rs:List bJ}{n:Nat}(h:∀r,rs[n]?=some r->h9 r=false):stp rs n=n:=by
 unfold stp
 cases e:rs[n]? with
 |none=>rfl
 |some r=>cases r with
  |jump t=>exact absurd (h _ e) (by show ¬true=false;decide)
  |_=>rfl
theorem qD{rs:List bJ}{n:Nat}(h:∀r,rs[n]?=some r->h9 r=false):∀k,runJ rs k n=n
 |0=>rfl
 |k+1=>by
  show runJ rs k (stp rs n)=n
  rw[wU h];exact qD h k
theorem nE(rs:List bJ):∀(k n:Nat),runJ rs (k+1) n=stp rs (runJ rs k n)
 |0,n=>rfl
 |k+1,n=>by
  show runJ rs (k+1) (stp rs n)=stp rs (runJ rs k (stp rs n))
  exact nE rs k (stp rs n)
theorem IF{rs:List bJ}{j:Nat}{r':bJ}(hr:h9 r'=false)(hj:j<rs.length):∀(k m:Nat),(∀r,rs[runJ rs k m]?=some r->h9 r=false)->∀r,(rs.set j r')[runJ (rs.set j r') k m]?=some r->h9 r=false:=by
 have at_j:∀r,(rs.set j r')[j]?=some r->h9 r=false:=λr e=>by
  rw[bB hj] at e;cases e;exact hr
 intro k
 induction k with
 |zero=>
  intro m h r e
  by_cases c:j=m
  ·subst c;exact at_j r e
  ·have e':(rs.set j r')[m]?=some r:=e
   rw[bP c] at e';exact h r e'
 |succ k ih=>
  intro m h r e
  by_cases c:j=m
  ·subst c
   rw[qD at_j] at e;exact at_j r e
  ·have es:stp (rs.set j r') m=stp rs m:=by unfold stp;rw[bP c]
   have e':(rs.set j r')[runJ (rs.set j r') k (stp (rs.set j r') m)]?=some r:=e
   rw[es] at e'
   exact ih (stp rs m) h r e'
theorem pJ{r:bJ}(h:¬qI r="jump"):h9 r=false:=by
 cases r<;>first|rfl|exact absurd rfl h
def OO(rl nm:Addr)(bare:Bool)(H:Hp)(R:bJ->Prop)(n i:Nat):St->Hp->Prop:=λσ' H'=>∃(rvs:List V) (rs:List bJ) (o4 o5 o6:Option V),σ'=[some (.ref rl),some (.ref nm),some (.bl bare),some (.int ((n-1:Nat):Nat)),o4,o5,o6]/\MJ rl H R n H' rvs rs/\LF n rs/\NV bare rs/\∀m,m<i->∀r,rs[runJ rs n m]?=some r->h9 r=false
theorem Iu{K:Fg}{vs:List V}{H:Hp}{Q:VK}{E:XK}(h:jX K vs H Q E):BL K {nx:=λ_ H'=>Q .non H',rt:=Q} (cU vM vs) H:=by
 obtain⟨rl,nm,bare,rvs,rs,ys,R,rfl,hrl,hA,hpos,hfew,hR,rSay,rGive,rJump,hnm,ysne,rNum,nnr,hbare,q⟩:=h
 obtain⟨n,hn⟩:∃n,n=rs.length:=⟨_,rfl⟩
 have n1:1<=n:=by rw[hn];exact cP.mpr hpos
 have n100:n<=100:=by rw[hn];exact hfew
 have M0:MJ rl H R n H rvs rs:=⟨hrl,hA,hn.symm,hR,.refl _ _⟩
 refine⟨_,rfl,_,_,rfl,.inl ⟨_,cA.of hrl,rfl⟩,_,_,rfl,rfl,?_⟩
 show xg K _ [some (.ref rl),some (.ref nm),some (.bl bare),some (.int (((rvs.length:Nat):Int)-1)),none,none,none] H
 rw[show((rvs.length:Nat):Int)-1=((n-1:Nat):Nat) by rw[M0.vlen];lia]
 have loop:∀H',OO rl nm bare H R n 0 [some (.ref rl),some (.ref nm),some (.bl bare),some (.int ((n-1:Nat):Nat)),none,none,none] H'->xc K {nx:=λ_ H'=>Q .non H',rt:=Q} [some (.ref rl),some (.ref nm),some (.bl bare),some (.int ((n-1:Nat):Nat)),none,none,none] H':=λH' P0=>by
  obtain⟨rvs0,rs0,_,_,_,_,MM,_,_,_⟩:=id P0
  refine⟨_,rfl,_,_,rfl,.inl ⟨_,cA.of MM.at_,rfl⟩,_,rfl,by lia,by rw[MM.vlen];lia,gH (λi=>OO rl nm bare H R n i) P0 ?_ ?_⟩
  ·rintro i σ' H1 hi ⟨rvs,rs,o4,o5,o6,rfl,M,hE,hN,hJ⟩
   have hi:i<n:=by rw[MM.vlen] at hi;simpa using hi
   have e0:(0:Int)+(i:Int)=((i:Nat):Int):=by lia
   show xb K _ [some (.ref rl),some (.ref nm),some (.bl bare),some (.int ((n-1:Nat):Nat)),some (.int ((0:Int)+(i:Int))),o5,o6] H1
   rw[e0]
   refine⟨_,rfl,?_⟩
   show xa K _ [some (.ref rl),some (.ref nm),some (.bl bare),some (.int ((n-1:Nat):Nat)),some (.int (i:Nat)),some (.int (i:Nat)),o6] H1
   refine .inl ⟨_,rfl,rl,rfl,⟨_,cA.of M.at_⟩,nv (xs:=rvs) (λj σ H'=>∃(to:Nat) (o:Option V),σ=[some (.ref rl),some (.ref nm),some (.bl bare),some (.int ((n-1:Nat):Nat)),some (.int (i:Nat)),some (.int (to:Nat)),o]/\H'=H1/\to<n/\(∀r,rs[i]?=some r->wc r=true->to=i)/\to=runJ rs j i)
    ⟨i,o6,rfl,rfl,hi,λ_ _ _=>rfl,rfl⟩ (λ_ _ _ _ ⟨_,_,_,e,_⟩=>by rw[e];exact cA.of M.at_) ?_ ?_⟩
   ·rintro j x σ' H2 hx ⟨to,o,rfl,rfl,hto,hk,hrun⟩
    obtain⟨p,xs,r,e1,e2,hp,hra,hro⟩:=M.get hto
    have e1':rvs[((to:Nat):Int).toNat]?=some (.ref p):=by simpa using e1
    refine⟨_,rfl,_,rfl,kz (cA.of M.at_) (by lia) e1' (cb hp (by decide) rfl (.inl ⟨rfl,_,rfl,bZ (λhw=>?_) (λhw=>?_)⟩))⟩
    ·obtain⟨t',rfl⟩:=nQ (qE hw)
     obtain⟨p',e3,hp'⟩:=hra
     cases e3
     refine⟨_,rfl,_,rfl,kz (cA.of M.at_) (by lia) e1' (cb hp' (by decide) rfl ?_)⟩
     refine⟨t',_,rfl,rfl,by rw[hn];exact rJump _ hro,λr hr hnum=>?_,?_⟩
     ·have:=hk r hr hnum
      rw[this] at e2
      rw[e2] at hr;cases hr;cases hnum
     ·rw[nE,<-hrun];unfold stp;rw[e2]
    ·refine⟨to,_,rfl,rfl,hto,hk,?_⟩
     rw[nE,<-hrun,wU]
     intro r' hr'
     rw[e2] at hr';cases hr'
     exact pJ λz=>hw (by rw[z])
   ·rintro σ' H2 ⟨to,o,rfl,rfl,hto,hk,hrun⟩
    rw[M.vlen] at hrun
    obtain⟨p,xs,r,e1,e2,hp,hra,hro⟩:=M.get hto
    have e1':rvs[((to:Nat):Int).toNat]?=some (.ref p):=by simpa using e1
    refine⟨_,rfl,_,rfl,kz (cA.of M.at_) (by lia) e1' (cb hp (by decide) rfl (.inl ⟨rfl,_,rfl,bZ (λhw=>?_) (λhw=>⟨rvs,rs,_,_,_,rfl,M,hE,hN,λm hm=>?_⟩)⟩))⟩
    rotate_left
    ·by_cases cm:m<i
     ·exact hJ m cm
     ·have:m=i:=by lia
      subst this
      intro r' hr'
      rw[<-hrun,e2] at hr';cases hr'
      exact pJ λz=>hw (by rw[z])
    obtain⟨t',rfl⟩:=nQ (qE hw)
    refine⟨(by show 2<=sizeLine;decide),λp1 hp1=>⟨(by show 2<=sizeLine;decide),λp2 hp2=>⟨(by show 2<=sizeLine;decide),λl hl=>?_⟩⟩⟩
    have n12:p1≠p2:=au ag hp2
    have n1l:p1≠l:=au (by rw[aB n12];exact ag) hl
    have n2l:p2≠l:=au ag hl
    have sm:aS H2 (upd (upd (upd H2 p1 (.tup [V.str "say",V.str ""])) p2 (.tup [V.str "give",V.str ""])) l (.lst [V.ref p1,V.ref p2])):=(((aS.refl H2).new hp1).new hp2).new hl
    have M2:=M.grown sm
    have hl2:(upd (upd (upd H2 p1 (.tup [V.str "say",V.str ""])) p2 (.tup [V.str "give",V.str ""])) l (.lst [V.ref p1,V.ref p2])) l=some (.lst [V.ref p1,V.ref p2]):=ag
    have h1:(upd (upd (upd H2 p1 (.tup [V.str "say",V.str ""])) p2 (.tup [V.str "give",V.str ""])) l (.lst [V.ref p1,V.ref p2])) p1=some (.tup [V.str "say",V.str ""]):=by rw[aB n1l,aB n12,ag]
    have h2:(upd (upd (upd H2 p1 (.tup [V.str "say",V.str ""])) p2 (.tup [V.str "give",V.str ""])) l (.lst [V.ref p1,V.ref p2])) p2=some (.tup [V.str "give",V.str ""]):=by rw[aB n2l,ag]
    generalize (upd (upd (upd H2 p1 (.tup [V.str "say",V.str ""])) p2 (.tup [V.str "give",V.str ""])) l (.lst [V.ref p1,V.ref p2]))=H3 at M2 hl2 h1 h2 ⊢
    have fin:∀(v:V) (r:bJ),dH H3 v r->R r->h9 r=false->(i=n-1->jF r=true)->lS (aj 0) (aj 4) jt v [some (.ref rl),some (.ref nm),some (.bl bare),some (.int ((n-1:Nat):Nat)),some (.int (i:Nat)),some (.int (to:Nat)),o] H3 (OO rl nm bare H R n (i+1)):=λv r hv hr hj he=>by
     refine⟨_,rfl,_,rfl,ph M2.at_ (by lia) (by rw[M2.vlen];simpa using hi) ?_⟩
     have ei:((i:Nat):Int).toNat=i:=by simp
     rw[ei]
     refine⟨_,rs.set i r,_,_,_,rfl,M2.set i hv hr,?_,λhb=>?_,λm hm=>?_⟩
     ·obtain⟨r1,a1,a2⟩:=hE
      by_cases c:i=n-1
      ·exact⟨r,by rw[<-c,bB (by rw[M2.len];exact hi)],he c⟩
      ·exact⟨r1,by rw[bP c];exact a1,a2⟩
     ·obtain⟨r0,a1,a2⟩:=hN hb
      have c:i≠0:=λc=>by
       subst c
       have:=hk r0 a1 a2
       subst this
       rw[e2] at a1;cases a1;cases a2
      exact⟨r0,by rw[bP c];exact a1,a2⟩
     ·have il:i<rs.length:=by rw[M2.len];exact hi
      by_cases cm:m<i
      ·exact IF hj il n m (hJ m cm)
      ·have:m=i:=by lia
       subst this
       have atm:∀r',(rs.set m r)[m]?=some r'->h9 r'=false:=λr' e=>by rw[bB il] at e;cases e;exact hj
       intro r' hr'
       rw[qD atm] at hr'
       exact atm r' hr'
    refine⟨_,rfl,_,rfl,.inl ⟨rfl,?_⟩⟩
    refine .inr ⟨_,rfl,?_⟩
    by_cases c:i=n-1
    ·have ec:decide (V.int (i:Nat)=V.int ((n-1:Nat):Nat))=true:=by rw[c];exact decide_eq_true rfl
     rw[ec]
     exact kz (cA.of hl2) (by decide) rfl (fin _ (.give "") ⟨p2,rfl,h2⟩ rGive rfl λ_=>rfl)
    ·have ec:decide (V.int (i:Nat)=V.int ((n-1:Nat):Nat))=false:=decide_eq_false (λz=>c (by injection z with z;lia))
     rw[ec]
     exact kz (cA.of hl2) (by decide) rfl (fin _ (.say "") ⟨p1,rfl,h1⟩ rSay rfl λz=>absurd z c)
  ·rintro σ' H1 ⟨rvs,rs',o4,o5,o6,rfl,M,hE,hN,hJ⟩
   rw[MM.vlen,fQ] at hJ
   refine⟨_,rfl,q rvs rs' H1 M.at_ M.all (M.len.trans hn) M.rough ?_ ?_ (by intro m hm;rw[M.len] at hm ⊢;exact hJ m hm) M.but⟩
   ·obtain⟨r,a1,a2⟩:=hE
    rw[cx,M.len,a1,cR,a2]
   ·intro hb
    obtain⟨r,a1,a2⟩:=hN hb
    rw[jw,a1,cR,a2]
 have second:∀(H':Hp) (rvs:List V) (rs:List bJ),MJ rl H R n H' rvs rs->LF n rs->xf K {nx:=λ_ H'=>Q .non H',rt:=Q} [some (.ref rl),some (.ref nm),some (.bl bare),some (.int ((n-1:Nat):Nat)),none,none,none] H':=λH' rvs rs M hE=>by
  refine⟨_,rfl,bare,rfl,ny (λhb=>?_) (λhb=>?_)⟩
  ·have n2:2<=n:=by rw[hn];exact hbare hb
   obtain⟨p,xs,r,e1,e2,hp,hra,hro⟩:=M.get (j:=0) (by lia)
   refine⟨_,rfl,kz (cA.of M.at_) (by decide) e1 (cb hp (by decide) rfl (.inl ⟨rfl,_,rfl,jE (λhw=>?_) (λhw=>?_)⟩))⟩
   ·refine⟨_,rfl,_,_,rfl,rfl,_,rfl,bZ (λ_=>?_) (λhz=>absurd (show(0:Int)<((n-1:Nat):Nat) by lia) hz)⟩
    have hnm':=M.but nm _ nnr hnm
    obtain⟨y,yr,rfl⟩:∃y yr,ys=y::yr:=List.exists_cons_of_ne_nil ysne
    refine⟨_,rfl,kz (cA.of hnm') (by decide) rfl ⟨(by show 3<=sizeLine;decide),λp2 hp2=>?_⟩⟩
    have M2:=M.grown ((aS.refl H').new (o:=.tup [V.str "num",V.str y,V.int 3]) hp2)
    refine⟨_,rfl,ph M2.at_ (by decide) (by rw[M2.vlen];exact n1) (loop _ ⟨_,rs.set 0 (.num y 3),_,_,_,rfl,M2.set 0 ⟨p2,rfl,ag⟩ (rNum y cJ hb),?_,λ_=>⟨.num y 3,bB (by rw[M.len];exact n1),rfl⟩,λ_ z=>absurd z (bN _)⟩)⟩
    obtain⟨r1,a1,a2⟩:=hE
    exact⟨r1,by rw[bP (by lia)];exact a1,a2⟩
   ·exact iW (loop _ ⟨rvs,rs,_,_,_,rfl,M,hE,λ_=>⟨r,e2,Mq (qE hw)⟩,λ_ z=>absurd z (bN _)⟩)
  ·exact iW (loop _ ⟨rvs,rs,_,_,_,rfl,M,hE,λhb'=>(by rw[hb] at hb';cases hb'),λ_ z=>absurd z (bN _)⟩)
 obtain⟨p,xs,r,e1,e2,hp,hra,hro⟩:=M0.get (j:=n-1) (by lia)
 have e1':rvs[((n-1:Nat):Int).toNat]?=some (.ref p):=by simpa using e1
 refine⟨_,rfl,_,rfl,kz (cA.of hrl) (by lia) e1' (cb hp (by decide) rfl ⟨(by show 2<=sizeLine;decide),λt ht=>⟨t,_,rfl,.inr (cY.of ag),rfl,rfl,_,rfl,?_⟩⟩)⟩
 have M1:=M0.grown ((aS.refl H).new (o:=.tup [V.str "jump",V.str "give"]) ht)
 refine ny (λhb=>?_) (λhb=>?_)
 ·refine⟨(by show 2<=sizeLine;decide),λp2 hp2=>?_⟩
  have M2:=M1.grown ((aS.refl _).new (o:=.tup [V.str "give",V.str ""]) hp2)
  refine⟨_,rfl,_,rfl,ph M2.at_ (by lia) (by rw[M2.vlen];lia) ?_⟩
  have ei:((n-1:Nat):Int).toNat=n-1:=by simp
  rw[ei]
  exact second _ _ _ (M2.set (n-1) (r:=.give "") ⟨p2,rfl,ag⟩ rGive) ⟨.give "",bB (by rw[M0.len];lia),rfl⟩
 ·refine second _ _ _ M1 ⟨r,e2,Mp ?_⟩
  have hb':(!kD (.str (qI r)) [V.str "jump",V.str "give"])=false:=hb
  simpa using hb'
def LL(kl:Addr)(H:Hp)(v:V)(ks:List Str):Prop:=∃a,v=.ref a/\a≠kl/\H a=some (.lst (ks.map V.str))
theorem LL.same{kl:Addr}{H H':Hp}{v:V}{ks:List Str}(h:LL kl H v ks)(s:aS H H'):LL kl H' v ks:=by
 obtain⟨a,e,n,h⟩:=h;exact⟨a,e,n,s _ _ h⟩
theorem LL.upd{kl:Addr}{H:Hp}{v:V}{ks:List Str}{o:HO}(h:LL kl H v ks):LL kl (upd H kl o) v ks:=by
 obtain⟨a,e,n,h⟩:=h;exact⟨a,e,n,by rw[aB n];exact h⟩
def uh(kss:List (List Str)):Nat:=(kss.map pq).sum
theorem BD:∀{kss:List (List Str)} {m:Nat} {ks kp:List Str},kss[m]?=some ks->uh (kss.set m kp)+ks.length=uh kss+kp.length
 |[],m,ks,kp,h=>by simp at h
 |a::r,0,ks,kp,h=>by
  simp at h;subst h
  show kp.length+uh r+a.length=a.length+uh r+kp.length
  lia
 |a::r,m+1,ks,kp,h=>by
  have ih:=BD (kss:=r) (m:=m) (ks:=ks) (kp:=kp) (by simpa using h)
  show a.length+uh (r.set m kp)+ks.length=a.length+uh r+kp.length
  lia
structure KJ(kl:Addr)(H:Hp)(ys ps:List Str)(w:Str)(n:Nat)(H':Hp)(refs:List V)(kss:List (List Str)):Prop where
 at_:H' kl=some (.lst refs)
 all:cL (LL kl H') refs kss
 len:kss.length=n
 wit:∀(i:Nat) ks,kss[i]?=some ks->ks.length<=100/\(∀y∈ks,y∈ys)/\(w∈ks\/(i=0/\ps=[]))
 same:aS H H'
theorem KJ.grown{kl:Addr}{H H' H2:Hp}{ys ps:List Str}{w:Str}{n:Nat}{refs:List V}{kss:List (List Str)}(k:KJ kl H ys ps w n H' refs kss)(s:aS H' H2):KJ kl H ys ps w n H2 refs kss:=
 ⟨s _ _ k.at_,k.all.imp λ_ _ z=>z.same s,k.len,k.wit,k.same.trans s⟩
theorem KJ.vlen{kl:Addr}{H H':Hp}{ys ps:List Str}{w:Str}{n:Nat}{refs:List V}{kss:List (List Str)}(k:KJ kl H ys ps w n H' refs kss):refs.length=n:=k.all.len.trans k.len
theorem KJ.get{kl:Addr}{H H':Hp}{ys ps:List Str}{w:Str}{n:Nat}{refs:List V}{kss:List (List Str)}(k:KJ kl H ys ps w n H' refs kss){j:Nat}(hj:j<n):∃a ks,refs[j]?=some (.ref a)/\kss[j]?=some ks/\a≠kl/\H' a=some (.lst (ks.map V.str)):=by
 obtain⟨v,ks,e1,e2,a,rfl,n1,h1⟩:=k.all.get (i:=j) (by rw[k.len];exact hj)
 exact⟨a,ks,e1,e2,n1,h1⟩
theorem KJ.set{kl a:Addr}{H H':Hp}{ys ps:List Str}{w:Str}{n m:Nat}{refs:List V}{kss:List (List Str)}{kp:List Str}(k:KJ kl H ys ps w n H' refs kss)(hkl:H kl=none)(na:a≠kl)(ha:H' a=some (.lst (kp.map V.str)))
  (hw:kp.length<=100/\(∀y∈kp,y∈ys)/\(w∈kp\/(m=0/\ps=[]))):KJ kl H ys ps w n (upd H' kl (.lst (refs.set m (.ref a)))) (refs.set m (.ref a)) (kss.set m kp):=by
 refine⟨ag,cL.set (k.all.imp λ_ _ z=>z.upd) ⟨a,rfl,na,by rw[aB na];exact ha⟩,by rw[dC];exact k.len,λi ks e=>?_,λb o h=>?_⟩
 ·by_cases c:m=i
  ·subst c
   have hi:m<kss.length:=by have:=(ar.mp e).1;rw[dC] at this;exact this
   rw[bB hi] at e;cases e;exact hw
  ·rw[bP c] at e;exact k.wit i ks e
 ·rw[aB (au h hkl)];exact k.same _ _ h
theorem uu{α:Type}(p:α->Bool)(l:List α)(i:Nat)(v:α)(h:l[i]?=some v):(l.take (i+1)).filter p=(l.take i).filter p++(if p v=true then[v] else[]):=by
 rw[dn,h,lG]
 cases hp:p v<;>simp[hp]
theorem JY{r:bJ}(h:kD (.str (qI r)) [V.str "num",V.str "op",V.str "call"]=true):∃x,iS r=.str x:=by
 cases r with
 |num x z=>exact⟨x,rfl⟩
 |op x s a b=>exact⟨x,rfl⟩
 |call x k as=>exact⟨x,rfl⟩
 |jump to=>exact absurd h (by show ¬kD (.str "jump") [V.str "num",V.str "op",V.str "call"]=true;decide +kernel)
 |say a=>exact absurd h (by show ¬kD (.str "say") [V.str "num",V.str "op",V.str "call"]=true;decide +kernel)
 |test a to=>exact absurd h (by show ¬kD (.str "test") [V.str "num",V.str "op",V.str "call"]=true;decide +kernel)
 |give a=>exact absurd h (by show ¬kD (.str "give") [V.str "num",V.str "op",V.str "call"]=true;decide +kernel)
theorem Lm{H:Hp}{p:Addr}{r:bJ}{x:Str}(h:dH H (.ref p) r)(e:iS r=.str x):∃xs,H p=some (.tup (.str (qI r)::.str x::xs)):=by
 cases r with
 |num y z=>cases e;obtain⟨p',e',h⟩:=h;cases e';exact⟨_,h⟩
 |op y s a b=>cases e;obtain⟨p',e',h⟩:=h;cases e';exact⟨_,h⟩
 |call y k as=>cases e;obtain⟨p',q,e',h,_⟩:=h;cases e';exact⟨_,h⟩
 |jump to=>cases e
 |say a=>cases e
 |test a to=>cases e
 |give a=>cases e
theorem Hq{ys:List Str}{cs:List Nat}{rs:List bJ}{i m j:Nat}{r:bJ}(hr:rs[i]?=some r)(ro:vR ys cs rs.length r)(hE:rs.getLast?.map jF=some true)(hm:(cW i r)[j]?=some m):m<rs.length:=by
 have hi:i<rs.length:=(ar.mp hr).1
 have nx:jF r=false->i+1<rs.length:=λhe=>by
  by_cases c:i+1<rs.length
  ·exact c
  ·have ei:i=rs.length-1:=by lia
   rw[cx,<-ei,hr,cR,he] at hE
   cases hE
 have mem:=aH hm
 cases r with
 |jump to=>rw[av.mp mem];exact ro
 |test a to=>
  rcases aV.mp mem with e|e
  ·rw[e];exact nx rfl
  ·rw[av.mp e];exact ro.2
 |give a=>cases mem
 |num x z=>rw[av.mp mem];exact nx rfl
 |op x s a b=>rw[av.mp mem];exact nx rfl
 |call x k as=>rw[av.mp mem];exact nx rfl
 |say a=>rw[av.mp mem];exact nx rfl
def vQ(rs:List bJ)(i:Nat)(kss:List (List Str)):Prop:=∀(n m:Nat) r ks km,n<i->rs[n]?=some r->m∈cW n r->kss[n]?=some ks->kss[m]?=some km->∀y∈km,y∈ks\/iS r=.str y
def zu(ps:List Str)(kss:List (List Str)):Prop:=∀ks,kss[0]?=some ks->∀y∈ks,y∈ps
theorem zu.set{ps:List Str}{kss:List (List Str)}{m:Nat}{km kp:List Str}(h:zu ps kss)(e:kss[m]?=some km)(s:∀y∈kp,y∈km):zu ps (kss.set m kp):=by
 intro ks e0 y hy
 by_cases c:m=0
 ·subst c
  have hl:0<kss.length:=(ar.mp e).1
  rw[bB hl] at e0;cases e0
  exact h km e y (s y hy)
 ·rw[bP c] at e0;exact h ks e0 y hy
def NO(rl nm pr kl:Addr)(H:Hp)(ys ps:List Str)(w:Str)(rs:List bJ)(B i:Nat):St->Hp->Prop:=λσ' H'=>∃(refs:List V) (kss:List (List Str)) (more:Bool) (o5 o6 o7 o8:Option V),σ'=[some (.ref rl),some (.ref nm),some (.ref pr),some (.ref kl),some (.bl more),o5,o6,o7,o8]/\KJ kl H ys ps w rs.length H' refs kss/\2*uh kss+more.toNat<=B/\zu ps kss/\(more=false->vQ rs i kss)
def OS(rl nm pr kl:Addr)(H:Hp)(ys ps:List Str)(w:Str)(rs:List bJ)(B i:Nat)(la l:Addr)(ls:List Str)(ms:List Nat)(kss0:List (List Str))(j:Nat):St->Hp->Prop:=λσ' H'=>∃(refs:List V) (kss:List (List Str)) (more:Bool) (o7 o8:Option V),σ'=[some (.ref rl),some (.ref nm),some (.ref pr),some (.ref kl),some (.bl more),some (.int (i:Nat)),some (.ref la),o7,o8]/\KJ kl H ys ps w rs.length H' refs kss/\2*uh kss+more.toNat<=B/\H' la=some (.lst (ls.map V.str))/\H' l=some (.lst (bH ms))/\zu ps kss/\
 (more=false->kss=kss0/\vQ rs i kss0/\∀j',j'<j->∀m km,ms[j']?=some m->kss0[m]?=some km->∀y∈km,y∈ls)
def xG(a b:Addr)(H H':Hp):Prop:=∀c o,c≠a->c≠b->H c=some o->H' c=some o
theorem xG.refl(a b:Addr)(H:Hp):xG a b H H:=λ_ _ _ _ h=>h
theorem xG.trans{a b:Addr}{H H1 H2:Hp}(x:xG a b H H1)(y:xG a b H1 H2):xG a b H H2:=λc o n m h=>y c o n m (x c o n m h)
theorem xG.of_l{a b:Addr}{H H':Hp}(x:gB a H H'):xG a b H H':=λc o n _ h=>x c o n h
theorem xG.of_r{a b:Addr}{H H':Hp}(x:gB b H H'):xG a b H H':=λc o _ m h=>x c o m h
theorem xG.upd_r{a b:Addr}{H:Hp}{o:HO}:xG a b H (upd H b o):=.of_r .upd_at
theorem xG.tp{a b:Addr}{H H':Hp}{xs ys:List V}(x:xG a b H H')(ha:H a=some (.lst xs))(hb:H b=some (.lst ys)):Tp H H':=λp zs h=>
 x p _ (by rintro rfl;rw[h] at ha;cases ha) (by rintro rfl;rw[h] at hb;cases hb) h
theorem xG.but{a b:Addr}{H H1 H2:Hp}(x:gB a H H1)(hb:H b=none)(y:xG a b H1 H2):gB a H H2:=λc o n h=>y c o n (au h hb) (x c o n h)
def zC:V->Nat
 |.str s=>if s="" then 1 else 0
 |.ref _=>4
 |_=>0
def EV(ks:List Str)(H:Hp):V->Prop
 |.str s=>s=""->ks≠[]
 |.int _=>True
 |.ref q=>∃as:List Str,H q=some (.tup (as.map V.str))/\as.length<=4/\ks≠[]
 |_=>False
theorem EV.mono{ks:List Str}{H H':Hp}{x:V}(h:EV ks H x)(t:Tp H H'):EV ks H' x:=by
 cases x with
 |str s=>exact h
 |int i=>exact h
 |ref q=>obtain⟨as,h1,h2⟩:=h;exact⟨as,t _ _ h1,h2⟩
 |_=>exact h.elim
def GG(ks:List Str)(H:Hp)(y x:V):Prop:=match x with
 |.str s=>(s=""->∃z∈ks,y=.str z)/\(s≠""->y=.str s)
 |.int i=>y=.int i
 |.ref q=>∃(as bs:List Str) (q':Addr),H q=some (.tup (as.map V.str))/\y=.ref q'/\H q'=some (.tup (bs.map V.str))/\bs.length=as.length/\∀b∈bs,b∈ks
 |_=>False
theorem GG.mono{ks:List Str}{H H':Hp}{x y:V}(h:GG ks H y x)(t:Tp H H'):GG ks H' y x:=by
 cases x with
 |str s=>exact h
 |int i=>exact h
 |ref q=>obtain⟨as,bs,q',h1,h2,h3,h4⟩:=h;exact⟨as,bs,q',t _ _ h1,h2,t _ _ h3,h4⟩
 |_=>exact h.elim
theorem Eb{K:Fg}{σ:St}{st kl a:Addr}{i k:Nat}{refs:List V}{ks:List Str}{H:Hp}{Q:VK}(h0:σ[0]?=some (some (.ref st)))(h2:σ[2]?=some (some (.ref kl)))(h4:σ[4]?=some (some (.int (i:Nat))))
  (hkl:H kl=some (.lst refs)) (hr:refs[i]?=some (.ref a)) (ha:H a=some (.lst (ks.map V.str))) (ne:ks≠[]) (len:ks.length<=100) (S:ke K H st k) (hk:k<=900000) (na:a≠st)
  (q:∀(y:Str) (H':Hp),y∈ks->ke K H' st (k+1)->gB st H H'->Q (.str y) H') :
  bb (cS K) (bb (cS K) (aj 2) (aj 4)) (bG (bC K) [] E0 (af (aj 0) (af (fN (eA K) (af (bb (cS K) (aj 2) (aj 4)) aE)) aE))) σ H Q:=by
 have hl:0<ks.length:=cP.mpr ne
 have hr':refs[((i:Nat):Int).toNat]?=some (.ref a):=by simpa using hr
 refine⟨_,h2,_,h4,kz (cA.of hkl) (by lia) hr' ⟨_,h0,_,h2,_,h4,kz (cA.of hkl) (by lia) hr' ⟨_,_,rfl,.inl ⟨_,cA.of ha,rfl⟩,st,_,k,rfl,S,by lia,by rw[ai];lia,by rw[ai];lia,λd H1 d0 d1 S1 B1=>?_⟩⟩⟩
 rw[ai] at d1
 have dl:d.toNat<ks.length:=by lia
 exact kz (cA.of (B1 a _ na ha)) d0 (BC (ao dl)) (q _ H1 (fo dl) S1 B1)
theorem G6{K:Fg}{st rl kl fd p sm a:Addr}{i k:Nat}{refs vs:List V}{ks:List Str}{x:V}{H:Hp}{D:oZ}(hkl:H kl=some (.lst refs))(hr:refs[i]?=some (.ref a))(ha:H a=some (.lst (ks.map V.str)))(len:ks.length<=100)(S:ke K H st k)(hk:k<=800000)(na:a≠st)(nk:kl≠st)
  (hsm:H sm=some (.lst vs)) (vl:vs.length<=100) (ns:sm≠st) (ok:EV ks H x)
  (q:∀(y:V) (k':Nat) (H':Hp),GG ks H' y x->H' sm=some (.lst (vs++[y]))->ke K H' st k'->k'<=k+zC x->xG st sm H H'->D.nx [some (.ref st),some (.ref rl),some (.ref kl),some (.ref fd),some (.int (i:Nat)),some (.ref p),some (.ref sm),some y] H') :
  w4 K D [some (.ref st),some (.ref rl),some (.ref kl),some (.ref fd),some (.int (i:Nat)),some (.ref p),some (.ref sm),some x] H:=by
 have app:∀(y:V) (k':Nat) (H1:Hp),GG ks H1 y x->ke K H1 st k'->k'<=k+zC x->gB st H H1->wZ K D [some (.ref st),some (.ref rl),some (.ref kl),some (.ref fd),some (.int (i:Nat)),some (.ref p),some (.ref sm),some y] H1:=λy k' H1 f S1 l1 B1=>by
  have h1:=B1 sm _ ns hsm
  refine⟨_,rfl,.inl ⟨rfl,_,cA.of h1⟩,_,rfl,sm,_,_,rfl,rfl,h1,dW (by lia),?_⟩
  exact q y k' _ (f.mono ((Tp.refl H1).lst h1)) ag (S1.mono .upd_at h1 (Ne.symm ns)) l1 ((xG.of_l B1).trans .upd_r)
 cases x with
 |str s=>
  refine⟨_,rfl,.inl ⟨rfl,_,rfl,bZ (λe=>?_) (λe=>?_)⟩⟩
  ·have e':s="":=by cases e;rfl
   refine Eb rfl rfl rfl hkl hr ha (ok e') len S (by lia) na λy H' hy S' B'=>?_
   refine app (.str y) _ H' ⟨λ_=>⟨y,hy,rfl⟩,λz=>absurd e' z⟩ S' ?_ B'
   show k+1<=k+(if s="" then 1 else 0)
   rw[if_pos e'];exact aD _
  ·refine⟨_,rfl,_,_,_,rfl,.str_tuple _,_,rfl,iW ?_⟩
   exact app (.str s) k H ⟨λz=>absurd (by rw[z]) e,λ_=>rfl⟩ S (by lia) (.refl _ _)
 |int j=>
  refine⟨_,rfl,.inl ⟨rfl,_,rfl,no (λz=>by cases z) ?_⟩⟩
  refine⟨_,rfl,_,_,_,rfl,.int_tuple _,_,rfl,iW ?_⟩
  exact app (.int j) k H rfl S (by lia) (.refl _ _)
 |ref t=>
  obtain⟨as,ht,l4,ne⟩:=ok
  obtain⟨ys0,hst⟩:=S.lst
  have nt:t≠st:=Ne.symm (om hst ht)
  refine⟨_,rfl,.inr (.inr (.inl ⟨t,_,_,rfl,rfl,cY.of ht,_,rfl,iW ?_⟩))⟩
  refine⟨_,rfl,_,_,_,rfl,.tup_tuple (cY.of ht),_,rfl,qG ?_⟩
  refine .inr ⟨_,rfl,t,rfl,⟨_,cY.of ht⟩,λL hL=>?_⟩
  have nL:L≠st:=λz=>by rw[z,hst] at hL;cases hL
  refine vW (xs:=as.map V.str) (λj σ' H'=>∃(bs:List Str) (k':Nat) (o:Option V),σ'=[some (.ref st),some (.ref rl),some (.ref kl),some (.ref fd),some (.int (i:Nat)),some (.ref p),some (.ref sm),some (.ref t),o]/\H' L=some (.lst (bs.map V.str))/\bs.length=j/\(∀b∈bs,b∈ks)/\ke K H' st k'/\k'<=k+j/\gB st H H') ?_ ?_ ?_ ?_
  ·exact⟨[],k,none,rfl,ag,rfl,by simp,S.new hL,by lia,(gB.refl st H).new hL⟩
  ·rintro j σ' H' _ ⟨_,_,_,_,_,_,_,_,_,B⟩
   exact cY.of (B t _ nt ht)
  ·rintro j x σ' H' hx ⟨bs,k',o,rfl,hb,bl,bm,S',hk',B'⟩
   have jl:j<as.length:=by have:=(ar.mp hx).1;rw[ai] at this;exact this
   refine kf (Eb rfl rfl rfl (B' kl _ nk hkl) hr (B' a _ na ha) ne len S' (by lia) na λy H2 hy S2 B2=>?_)
   have h2:=B2 L _ nL hb
   refine⟨_,h2,dW (by rw[ai];lia),bs++[y],k'+1,_,rfl,by rw[ag,bg];rfl,by simp[bl],λb hb'=>?_,S2.mono .upd_at h2 (Ne.symm nL),by lia,?_⟩
   ·rcases bu.mp hb' with z|z
    ·exact bm b z
    ·rw[av.mp z];exact hy
   ·exact λc u n h=>by rw[aB (au h hL)];exact(B'.trans B2) c u n h
  ·rintro σ' H2 ⟨bs,k',o,_,hb,bl,bm,S',hk',B'⟩
   rw[ai] at bl hk'
   refine⟨L,_,rfl,.inl ⟨cA.of hb,λl hl=>?_⟩⟩
   have nl:L≠l:=au hb hl
   have h2:=B' t _ nt ht
   refine app (.ref l) k' _ ⟨as,bs,l,by rw[aB (au h2 hl)];exact h2,rfl,ag,bl,bm⟩ (S'.new hl) ?_ (B'.new hl)
   show k'<=k+4
   lia
 |_=>exact ok.elim
theorem GS(w:V)(rest:List V):qF (w::rest) (some 1) none=rest:=by
 unfold qF
 have e1:HT.sIx (w::rest).length 0 (some 1)=1:=by
  rw[show(1:Int)=((1:Nat):Int) from rfl,HT.sIx_nat,bK];lia
 rw[e1,HT.sIx_none,List.drop_succ_cons,pj,bK]
 exact cy (by lia)
theorem GR(w:V){rest:List V}(h:rest≠[]):¬(HT.sIx (w::rest).length 0 (some 1)=0/\HT.sIx (w::rest).length (w::rest).length none=(w::rest).length):=by
 rintro⟨h1,_⟩
 rw[show(1:Int)=((1:Nat):Int) from rfl,HT.sIx_nat,bK] at h1
 lia
theorem Mm{K:Fg}{st rl kl fd p a:Addr}{i k:Nat}{refs fs rest:List V}{w:Str}{ks:List Str}{H:Hp}{D:oZ}{o6 o7:Option V}(hkl:H kl=some (.lst refs))(hr:refs[i]?=some (.ref a))(ha:H a=some (.lst (ks.map V.str)))(len:ks.length<=100)(S:ke K H st k)(hk:k<=750000)(na:a≠st)(nk:kl≠st)
  (hp:H p=some (.tup (.str w::rest))) (rne:rest≠[]) (rl4:rest.length<=4) (ok:∀x∈rest,EV ks H x) (cs5:(rest.map zC).sum<=5) (hfd:H fd=some (.lst fs)) (fl:fs.length<=100) (nf:fd≠st)
  (q:∀(o6 o7:Option V) (p':Addr) (vs:List V) (k':Nat) (H':Hp),H' fd=some (.lst (fs++[.ref p']))->H' p'=some (.tup (.str w::vs))->cL (GG ks H') vs rest->ke K H' st k'->k'<=k+5->xG st fd H H'->D.nx [some (.ref st),some (.ref rl),some (.ref kl),some (.ref fd),some (.int (i:Nat)),some (.ref p),o6,o7] H') :
  rO K D [some (.ref st),some (.ref rl),some (.ref kl),some (.ref fd),some (.int (i:Nat)),some (.ref p),o6,o7] H:=by
 obtain⟨ys0,hst⟩:=S.lst
 refine⟨(by show 0<=sizeLine;decide),λsm hsm=>?_⟩
 have nsm:sm≠st:=λz=>by rw[z,hst] at hsm;cases hsm
 have s1:aS H (upd H sm (.lst [])):=(aS.refl H).new hsm
 have g1:(upd H sm (.lst [])) sm=some (.lst []):=ag
 show w5 K D [some (.ref st),some (.ref rl),some (.ref kl),some (.ref fd),some (.int (i:Nat)),some (.ref p),some (.ref sm),o7] (upd H sm (.lst []))
 generalize upd H sm (.lst [])=H1 at s1 g1 ⊢
 refine .inr ⟨_,rfl,_,rfl,.inr ⟨p,_,rfl,cY.of (s1 _ _ hp),GR _ rne,λtp htp=>?_⟩⟩
 rw[GS]
 have s2:aS H (upd H1 tp (.tup rest)):=s1.new htp
 have g2:(upd H1 tp (.tup rest)) sm=some (.lst []):=by rw[aB (au g1 htp)];exact g1
 have t2:(upd H1 tp (.tup rest)) tp=some (.tup rest):=ag
 generalize upd H1 tp (.tup rest)=H2 at s2 g2 t2 ⊢
 have nts:tp≠st:=Ne.symm (om (s2 _ _ hst) t2)
 have ntm:tp≠sm:=Ne.symm (om g2 t2)
 have nfm:fd≠sm:=au hfd hsm
 have nkm:kl≠sm:=au hkl hsm
 have nam:a≠sm:=au ha hsm
 have nps:p≠st:=Ne.symm (om hst hp)
 have npm:p≠sm:=au hp hsm
 refine⟨tp,rfl,⟨_,cY.of t2⟩,qA (xs:=rest) (λj σ' H'=>∃(vs:List V) (k':Nat) (o:Option V),σ'=[some (.ref st),some (.ref rl),some (.ref kl),some (.ref fd),some (.int (i:Nat)),some (.ref p),some (.ref sm),o]/\H' sm=some (.lst vs)/\cL (GG ks H') vs (rest.take j)/\ke K H' st k'/\k'<=k+((rest.take j).map zC).sum/\xG st sm H2 H') ?_ ?_ ?_ ?_⟩
 ·exact⟨[],k,o7,rfl,g2,.nil,S.same s2,by simp,.refl _ _ _⟩
 ·rintro j σ' H' _ ⟨_,_,_,_,_,_,_,_,B⟩
  exact cY.of (B tp _ nts ntm t2)
 ·rintro j x σ' H' hx ⟨vs,k',o,rfl,hvs,hA,S',hk',B'⟩
  have jl:j<rest.length:=(ar.mp hx).1
  have et:rest.take (j+1)=rest.take j++[x]:=by rw[dn,hx];rfl
  have c5:((rest.take j).map zC).sum<=5:=by
   have e:=congrArg (λl=>(l.map zC).sum) (List.take_append_drop j rest)
   simp only[bg,List.sum_append] at e
   lia
  have vl:vs.length<=4:=by rw[hA.len,aY];lia
  refine G6 (B' kl _ nk nkm (s2 _ _ hkl)) hr (B' a _ na nam (s2 _ _ ha)) len S' (by lia) na nk hvs (by lia) nsm (((ok x (aH hx)).mono (.of_same s2)).mono (B'.tp (s2 _ _ hst) g2)) λy k2 H3 f h3 S3 l3 B3=>?_
  obtain⟨ys1,hst'⟩:=S'.lst
  refine⟨vs++[y],k2,_,rfl,h3,?_,S3,?_,B'.trans B3⟩
  ·rw[et];exact(hA.imp λ_ _ z=>z.mono (B3.tp hst' hvs)).snoc f
  ·rw[et,bg,List.sum_append]
   show k2<=k+(((rest.take j).map zC).sum+(zC x+0))
   lia
 ·rintro σ' H3 ⟨vs,k',o,rfl,hvs,hA,S',hk',B'⟩
  rw[List.take_length] at hA hk'
  have h3p:=B' p _ nps npm (s2 _ _ hp)
  have h3f:=B' fd _ nf nfm (s2 _ _ hfd)
  obtain⟨ys1,hst'⟩:=S'.lst
  have vl:vs.length=rest.length:=hA.len
  have vne:vs≠[]:=λz=>rne (cD.mp (by rw[<-vl,z];rfl))
  have BH:gB st H H3:=(xG.but (s2.but) hsm B')
  refine⟨_,rfl,.inl ⟨rfl,_,cA.of h3f⟩,_,rfl,cb h3p (by decide) rfl ⟨(by show 1<=sizeLine;decide),λt1 ht1=>⟨_,rfl,sm,_,rfl,.inl ⟨cA.of (by rw[aB (au hvs ht1)];exact hvs),λt4 ht4=>?_⟩⟩⟩⟩
  have n14:t1≠t4:=au ag ht4
  refine .inr (.inr (.inr ⟨t1,t4,[.str w],vs,rfl,rfl,cY.of (by rw[aB n14];exact ag),cY.of ag,by simp,?_,λz=>absurd z vne,λ_ t5 ht5=>?_⟩))
  ·have:=dW (n:=100) (by decide)
   show 1+vs.length<=sizeLine
   lia
  have s5:aS H3 (upd (upd (upd H3 t1 (.tup [.str w])) t4 (.tup vs)) t5 (.tup (.str w::vs))):=(((aS.refl H3).new ht1).new ht4).new ht5
  have g5:(upd (upd (upd H3 t1 (.tup [.str w])) t4 (.tup vs)) t5 (.tup (.str w::vs))) t5=some (.tup (.str w::vs)):=ag
  show lq (.ref fd) [.ref t5] (upd (upd (upd H3 t1 (.tup [.str w])) t4 (.tup vs)) t5 (.tup (.str w::vs))) λx H1=>D.nx [some (.ref st),some (.ref rl),some (.ref kl),some (.ref fd),some (.int (i:Nat)),some (.ref p),some (.ref sm),o] H1
  generalize upd (upd (upd H3 t1 (.tup [.str w])) t4 (.tup vs)) t5 (.tup (.str w::vs))=H5 at s5 g5 ⊢
  have h5f:=s5 _ _ h3f
  refine⟨fd,_,_,rfl,rfl,h5f,dW (by lia),?_⟩
  have tp6:Tp H5 (upd H5 fd (.lst (fs++[.ref t5]))):=(Tp.refl H5).lst h5f
  refine q _ _ t5 vs k' _ ag (tp6 _ _ g5) ((hA.imp λ_ _ z=>z.mono (.of_same s5)).imp λ_ _ z=>z.mono tp6) ((S'.same s5).mono .upd_at h5f (Ne.symm nf)) (by lia) ?_
  exact λc u n m h=>by rw[aB m];exact s5 _ _ (BH c u n h)
theorem II{s:Str}(h:s∈EA):s≠"":=by
 intro e
 subst e
 exact absurd h (by decide +kernel)
theorem A9{as bs:List Str}(h:as.map V.str=bs.map V.str):as.length=bs.length:=by
 have:=congrArg pq h
 simpa using this
theorem vy{ks:List Str}{H:Hp}{y:V}{s:Str}(h:GG ks H y (.str s))(n:s≠""):y=.str s:=h.2 n
theorem sj{ks:List Str}{H:Hp}{y:V}(h:GG ks H y (.str "")):∃z∈ks,y=.str z:=h.1 rfl
theorem vx{s:Str}(n:s≠""):zC (.str s)=0:=by
 show(if s="" then 1 else 0)=0
 rw[if_neg n]
theorem Po{vs:List V}(h:vs.length=2):∃a b,vs=[a,b]:=by
 match vs,h with
 |[a,b],_=>exact⟨a,b,rfl⟩
theorem Pa{vs:List V}(h:vs.length=1):∃a,vs=[a]:=by
 match vs,h with
 |[a],_=>exact⟨a,rfl⟩
theorem PD{vs:List V}(h:vs.length=3):∃a b c,vs=[a,b,c]:=by
 match vs,h with
 |[a,b,c],_=>exact⟨a,b,c,rfl⟩
theorem PF{vs:List V}(h:vs.length=4):∃a b c d,vs=[a,b,c,d]:=by
 match vs,h with
 |[a,b,c,d],_=>exact⟨a,b,c,d,rfl⟩
theorem JT{H:Hp}{p:Addr}{r:bJ}{ys ks:List Str}{cs:List Nat}{n:Nat}(hra:dH H (.ref p) r)(ro:vR ys cs n r)(yne:∀y∈ys,y≠"")(cs4:∀c∈cs,c<=4)(hks:ks≠[]\/wc r=true) :
  ∃rest,H p=some (.tup (.str (qI r)::rest))/\rest≠[]/\rest.length<=4/\(∀x∈rest,EV ks H x)/\(rest.map zC).sum<=5/\∀(H':Hp) (p':Addr) (vs:List V),cL (GG ks H') vs rest->H' p'=some (.tup (.str (qI r)::vs))->Tp H H'->∃r',dH H' (.ref p') r'/\kF ks r r':=by
 cases r with
 |num x z=>
  obtain⟨p',e,h⟩:=hra
  cases e
  have xn:=yne x ro.1
  refine⟨_,h,by simp,by simp,λv hv=>?_,?_,λH' p' vs hA hp' t=>?_⟩
  ·rcases aV.mp hv with rfl|hv
   ·exact λz=>absurd z xn
   ·rw[av.mp hv];exact trivial
  ·show zC (.str x)+(0+0)<=5
   rw[vx xn];decide
  ·obtain⟨a,b,rfl⟩:=Po hA.len
   have e1:=vy (hA.at_ 0 _ _ rfl rfl) xn
   have e2:b=.int z:=hA.at_ 1 _ _ rfl rfl
   subst e1 e2
   exact⟨.num x z,⟨p',rfl,hp'⟩,rfl⟩
 |op x s a b=>
  obtain⟨p',e,h⟩:=hra
  cases e
  obtain⟨xy,ss,rfl,rfl⟩:=ro
  have xn:=yne x xy
  have sn:=II ss
  have kn:ks≠[]:=hks.resolve_right (by intro z;cases z)
  refine⟨_,h,by simp,by simp,λv hv=>?_,?_,λH' p' vs hA hp' t=>?_⟩
  ·rcases aV.mp hv with rfl|hv
   ·exact λz=>absurd z xn
   ·rcases aV.mp hv with rfl|hv
    ·exact λz=>absurd z sn
    ·rcases aV.mp hv with rfl|hv
     ·exact λ_=>kn
     ·rw[av.mp hv];exact λ_=>kn
  ·show zC (.str x)+(zC (.str s)+(zC (.str "")+(zC (.str "")+0)))<=5
   rw[vx xn,vx sn];decide +kernel
  ·obtain⟨v1,v2,v3,v4,rfl⟩:=PF hA.len
   have e1:=vy (hA.at_ 0 _ _ rfl rfl) xn
   have e2:=vy (hA.at_ 1 _ _ rfl rfl) sn
   obtain⟨z3,m3,e3⟩:=sj (hA.at_ 2 _ _ rfl rfl)
   obtain⟨z4,m4,e4⟩:=sj (hA.at_ 3 _ _ rfl rfl)
   subst e1 e2 e3 e4
   exact⟨.op x s z3 z4,⟨p',rfl,hp'⟩,z3,z4,rfl,m3,m4⟩
 |call x k as=>
  obtain⟨p',q,e,h,hq⟩:=hra
  cases e
  obtain⟨xy,c,hc,rfl⟩:=ro
  have xn:=yne x xy
  have kn:ks≠[]:=hks.resolve_right (by intro z;cases z)
  have c4:=cs4 c (aH hc)
  refine⟨_,h,by simp,by simp,λv hv=>?_,?_,λH' p' vs hA hp' t=>?_⟩
  ·rcases aV.mp hv with rfl|hv
   ·exact λz=>absurd z xn
   ·rcases aV.mp hv with rfl|hv
    ·exact trivial
    ·rw[av.mp hv];exact⟨_,hq,by rw[cv];exact c4,kn⟩
  ·show zC (.str x)+(0+(4+0))<=5
   rw[vx xn];decide
  ·obtain⟨v1,v2,v3,rfl⟩:=PD hA.len
   have e1:=vy (hA.at_ 0 _ _ rfl rfl) xn
   have e2:v2=.int (k:Nat):=hA.at_ 1 _ _ rfl rfl
   obtain⟨as',bs,q',hq',e3,h3,hl,hm⟩:=(show GG ks H' v3 (.ref q) from hA.at_ 2 _ _ rfl rfl)
   subst e1 e2 e3
   have:=t _ _ hq
   rw[hq'] at this
   have e:=A9 (HO.tup.inj (Option.some.inj this))
   exact⟨.call x k bs,⟨p',q',rfl,hp',h3⟩,bs,rfl,hl.trans e,hm⟩
 |say a=>
  obtain⟨p',e,h⟩:=hra
  cases e
  have ro:a="":=ro
  subst ro
  have kn:ks≠[]:=hks.resolve_right (by intro z;cases z)
  refine⟨_,h,by simp,by simp,λv hv=>?_,?_,λH' p' vs hA hp' t=>?_⟩
  ·rw[av.mp hv];exact λ_=>kn
  ·show zC (.str "")+0<=5
   decide +kernel
  ·obtain⟨v1,rfl⟩:=Pa hA.len
   obtain⟨z,m,e⟩:=sj (hA.at_ 0 _ _ rfl rfl)
   subst e
   exact⟨.say z,⟨p',rfl,hp'⟩,z,rfl,m⟩
 |jump to=>
  obtain⟨p',e,h⟩:=hra
  cases e
  refine⟨_,h,by simp,by simp,λv hv=>?_,?_,λH' p' vs hA hp' t=>?_⟩
  ·rw[av.mp hv];exact trivial
  ·show 0+0<=5
   decide
  ·obtain⟨v1,rfl⟩:=Pa hA.len
   have e:v1=.int (to:Nat):=hA.at_ 0 _ _ rfl rfl
   subst e
   exact⟨.jump to,⟨p',rfl,hp'⟩,rfl⟩
 |test a to=>
  obtain⟨p',e,h⟩:=hra
  cases e
  obtain⟨ro,_⟩:a=""/\_:=ro
  subst ro
  have kn:ks≠[]:=hks.resolve_right (by intro z;cases z)
  refine⟨_,h,by simp,by simp,λv hv=>?_,?_,λH' p' vs hA hp' t=>?_⟩
  ·rcases aV.mp hv with rfl|hv
   ·exact λ_=>kn
   ·rw[av.mp hv];exact trivial
  ·show zC (.str "")+(0+0)<=5
   decide +kernel
  ·obtain⟨v1,v2,rfl⟩:=Po hA.len
   obtain⟨z,m,e⟩:=sj (hA.at_ 0 _ _ rfl rfl)
   have e2:v2=.int (to:Nat):=hA.at_ 1 _ _ rfl rfl
   subst e e2
   exact⟨.test z to,⟨p',rfl,hp'⟩,z,rfl,m⟩
 |give a=>
  obtain⟨p',e,h⟩:=hra
  cases e
  have ro:a="":=ro
  subst ro
  have kn:ks≠[]:=hks.resolve_right (by intro z;cases z)
  refine⟨_,h,by simp,by simp,λv hv=>?_,?_,λH' p' vs hA hp' t=>?_⟩
  ·rw[av.mp hv];exact λ_=>kn
  ·show zC (.str "")+0<=5
   decide +kernel
  ·obtain⟨v1,rfl⟩:=Pa hA.len
   obtain⟨z,m,e⟩:=sj (hA.at_ 0 _ _ rfl rfl)
   subst e
   exact⟨.give z,⟨p',rfl,hp'⟩,z,rfl,m⟩
theorem Ir{K:Fg}{vs:List V}{H:Hp}{Q:VK}{E:XK}(h:jW K vs H Q E):BK K {nx:=λ_ H'=>Q .non H',rt:=Q} (cU rY vs) H:=by
 obtain⟨st,rl,kl,k,rvs,refs,rs,kss,ys,cs,rfl,S,hk,hrl,hA,hOk,yne,cs4,hkl,hT,klen,k100,kne,rst,nrl,nkl,q⟩:=h
 obtain⟨ys0,hst⟩:=S.lst
 refine⟨(by show 0<=sizeLine;decide),λfd hfd=>?_⟩
 have nf:fd≠st:=λz=>by rw[z,hst] at hfd;cases hfd
 have s1:aS H (upd H fd (.lst [])):=(aS.refl H).new hfd
 have g1:(upd H fd (.lst [])) fd=some (.lst []):=ag
 show w6 K _ [some (.ref st),some (.ref rl),some (.ref kl),some (.ref fd),none,none,none,none] (upd H fd (.lst []))
 generalize upd H fd (.lst [])=H1 at s1 g1 ⊢
 refine⟨_,rfl,rl,rfl,⟨_,cA.of (s1 _ _ hrl)⟩,G9 (xs:=rvs) (λi σ' H'=>∃(fs:List V) (rs':List bJ) (k':Nat) (o4 o5 o6 o7:Option V),σ'=[some (.ref st),some (.ref rl),some (.ref kl),some (.ref fd),o4,o5,o6,o7]/\H' fd=some (.lst fs)/\cL (dH H') fs rs'/\rs'.length=i/\
  (∀(j:Nat) ks r r',kss[j]?=some ks->rs[j]?=some r->rs'[j]?=some r'->kF ks r r')/\ke K H' st k'/\k'<=k+5*i/\gB st H H') ?_ ?_ ?_ ?_⟩
 ·exact⟨[],[],k,none,none,none,none,rfl,g1,.nil,rfl,λj ks r r' _ _ z=>by simp at z,S.same s1,by lia,s1.but⟩
 ·rintro i σ' H' _ ⟨_,_,_,_,_,_,_,_,_,_,_,_,_,_,B⟩
  exact cA.of (B rl _ nrl hrl)
 ·rintro i x σ' H' tp hx htp ⟨fs,rs',k',o4,o5,o6,o7,rfl,hfs,hR,rlen,hF,S',hk',B'⟩
  obtain⟨r,hr,hra⟩:=hA.of_v hx
  obtain⟨p,xs,rfl,_⟩:=hra.ref
  have il:i<rs.length:=(ar.mp hr).1
  have few:=hOk.few
  obtain⟨v,ks,e1,e2,a,rfl,ha⟩:=hT.get (i:=i) (by rw[klen];exact il)
  have na:a≠st:=λz=>rst (.ref a) (aH e1) (by rw[z])
  have B2:gB st H (upd H' tp (.tup [.int (i:Nat),.ref p])):=B'.new htp
  have s2:aS H' (upd H' tp (.tup [.int (i:Nat),.ref p])):=(aS.refl H').new htp
  have g2:(upd H' tp (.tup [.int (i:Nat),.ref p])) tp=some (.tup [.int (i:Nat),.ref p]):=ag
  generalize upd H' tp (.tup [.int (i:Nat),.ref p])=H2 at B2 s2 g2 ⊢
  refine⟨tp,_,rfl,cY.of g2,rfl,_,_,rfl,_,_,rfl,rfl,?_⟩
  show rO K _ [some (.ref st),some (.ref rl),some (.ref kl),some (.ref fd),some (.int (i:Nat)),some (.ref p),o6,o7] H2
  have T2:Tp H H2:=.of_but B2 hst
  obtain⟨rest,h1,h2,h3,h4,h5,h6⟩:=JT (ks:=ks) (hra.mono T2) (hOk.rough r (aH hr)) yne cs4 (kne i ks r e2 hr)
  have f2:=s2 _ _ hfs
  have S2:=S'.same s2
  obtain⟨ys2,hst2⟩:=S2.lst
  refine Mm (B2 kl _ nkl hkl) e1 (B2 a _ na ha) (k100 i ks e2) S2 (by lia) na nkl h1 h2 h3 h4 h5 f2 (by rw[hR.len,rlen];lia) nf λp6 p7 p' vs k3 H3 f3 g3 hA3 S3 l3 B3=>?_
  have T3:Tp H2 H3:=B3.tp hst2 f2
  obtain⟨r',hr',hf'⟩:=h6 H3 p' vs hA3 g3 T3
  refine⟨fs++[.ref p'],rs'++[r'],k3,_,_,_,_,rfl,f3,((hR.imp λ_ _ z=>(z.mono (.of_same s2)).mono T3)).snoc hr',by simp[rlen],λj ks' r1 r2 a1 a2 a3=>?_,S3,by lia,?_⟩
  ·by_cases c:j<rs'.length
   ·rw[cZ c] at a3
    exact hF j ks' r1 r2 a1 a2 a3
   ·have c2:j=i:=by
     have:=(ar.mp a3).1
     rw[aN,bF] at this
     lia
    subst c2
    rw[cg (by lia),rlen,kQ] at a3
    cases a3
    rw[e2] at a1;cases a1
    rw[hr] at a2;cases a2
    exact hf'
  ·exact λc u n h=>by
    have hc:=B2 c u n h
    exact B3 c u n (au h hfd) hc
 ·rintro σ' H' ⟨fs,rs',k',o4,o5,o6,o7,rfl,hfs,hR,rlen,hF,S',hk',B'⟩
  rw[hA.len] at rlen hk'
  refine⟨_,rfl,fd,_,rfl,.inl ⟨cA.of hfs,λl hl=>?_⟩⟩
  exact q l fs rs' k' _ ag (hR.imp λ_ _ z=>z.mono ((Tp.refl H').new hl)) rlen hF (S'.new hl) hk' (B'.new hl)
theorem ER{K:Fg}{H:Hp}{st:Addr}{k:Nat}{v:V}{ks:List Str}(S:ke K H st k)(h:zr H v ks):v≠.ref st:=by
 rintro rfl
 obtain⟨a,e,h⟩:=h
 cases e
 obtain⟨scr,ns,c,hs,_⟩:=S
 rw[h] at hs
 cases ks with
 |nil=>cases hs
 |cons y r=>cases hs
theorem CN{ks:List Str}{r r':bJ}(h:kF ks r r')(n:Nat):cW n r'=cW n r:=by
 cases r with
 |num x z=>have h:r'=.num x z:=h;subst h;rfl
 |op x s a b=>obtain⟨_,_,rfl,_⟩:=h;rfl
 |call x k as=>obtain⟨_,rfl,_⟩:=h;rfl
 |say a=>obtain⟨_,rfl,_⟩:=h;rfl
 |jump t=>have h:r'=.jump t:=h;subst h;rfl
 |test a t=>obtain⟨_,rfl,_⟩:=h;rfl
 |give a=>obtain⟨_,rfl,_⟩:=h;rfl
theorem Fc{ks:List Str}{r r':bJ}(h:kF ks r r'):iS r'=iS r:=by
 cases r with
 |num x z=>have h:r'=.num x z:=h;subst h;rfl
 |op x s a b=>obtain⟨_,_,rfl,_⟩:=h;rfl
 |call x k as=>obtain⟨_,rfl,_⟩:=h;rfl
 |say a=>obtain⟨_,rfl,_⟩:=h;rfl
 |jump t=>have h:r'=.jump t:=h;subst h;rfl
 |test a t=>obtain⟨_,rfl,_⟩:=h;rfl
 |give a=>obtain⟨_,rfl,_⟩:=h;rfl
theorem G5{ks:List Str}{r r':bJ}(h:kF ks r r'):jF r'=jF r:=by
 cases r with
 |num x z=>have h:r'=.num x z:=h;subst h;rfl
 |op x s a b=>obtain⟨_,_,rfl,_⟩:=h;rfl
 |call x k as=>obtain⟨_,rfl,_⟩:=h;rfl
 |say a=>obtain⟨_,rfl,_⟩:=h;rfl
 |jump t=>have h:r'=.jump t:=h;subst h;rfl
 |test a t=>obtain⟨_,rfl,_⟩:=h;rfl
 |give a=>obtain⟨_,rfl,_⟩:=h;rfl
theorem Fb{ks:List Str}{r r':bJ}(h:kF ks r r'):h9 r'=h9 r:=by
 cases r with
 |num x z=>have h:r'=.num x z:=h;subst h;rfl
 |op x s a b=>obtain⟨_,_,rfl,_⟩:=h;rfl
 |call x k as=>obtain⟨_,rfl,_⟩:=h;rfl
 |say a=>obtain⟨_,rfl,_⟩:=h;rfl
 |jump t=>have h:r'=.jump t:=h;subst h;rfl
 |test a t=>obtain⟨_,rfl,_⟩:=h;rfl
 |give a=>obtain⟨_,rfl,_⟩:=h;rfl
theorem CO{ks:List Str}{r r':bJ}(h:kF ks r r'):∀y∈dP r',y∈ks:=by
 cases r with
 |num x z=>have h:r'=.num x z:=h;subst h;intro y hy;cases hy
 |op x s a b=>
  obtain⟨c,d,rfl,h1,h2⟩:=h
  intro y hy
  rcases aV.mp hy with rfl|hy
  ·exact h1
  ·rw[av.mp hy];exact h2
 |call x k as=>obtain⟨_,rfl,_,h⟩:=h;exact h
 |say a=>obtain⟨_,rfl,h⟩:=h;intro y hy;rw[av.mp hy];exact h
 |jump t=>have h:r'=.jump t:=h;subst h;intro y hy;cases hy
 |test a t=>obtain⟨_,rfl,h⟩:=h;intro y hy;rw[av.mp hy];exact h
 |give a=>obtain⟨_,rfl,h⟩:=h;intro y hy;rw[av.mp hy];exact h
theorem JU{ys ks:List Str}{cs:List Nat}{n:Nat}{r r':bJ}(ro:vR ys cs n r)(hk:∀y∈ks,y∈ys)(h:kF ks r r'):GK ys cs n r':=by
 cases r with
 |num x z=>have h:r'=.num x z:=h;subst h;exact ro
 |op x s a b=>obtain⟨c,d,rfl,h1,h2⟩:=h;exact⟨ro.1,ro.2.1,hk _ h1,hk _ h2⟩
 |call x k as=>
  obtain⟨bs,rfl,hl,h⟩:=h
  obtain⟨r1,c,r2,r3⟩:=ro
  refine⟨r1,?_,λa ha=>hk _ (h a ha)⟩
  rw[hl,r3,cv];exact r2
 |say a=>obtain⟨_,rfl,h⟩:=h;exact hk _ h
 |jump t=>have h:r'=.jump t:=h;subst h;exact ro
 |test a t=>obtain⟨_,rfl,h⟩:=h;exact⟨hk _ h,ro.2⟩
 |give a=>obtain⟨_,rfl,h⟩:=h;exact hk _ h
structure qK(rs rs':List bJ):Prop where
 len:rs'.length=rs.length
 fill:∀(i:Nat) r r',rs[i]?=some r->rs'[i]?=some r'->∃ks,kF ks r r'
theorem qK.get{rs rs':List bJ}(h:qK rs rs'){i:Nat}{r':bJ}(e:rs'[i]?=some r'):∃r ks,rs[i]?=some r/\kF ks r r':=by
 have hi:i<rs.length:=by rw[<-h.len];exact(ar.mp e).1
 obtain⟨ks,f⟩:=h.fill i _ _ (ao hi) e
 exact⟨_,ks,ao hi,f⟩
theorem qK.stp{rs rs':List bJ}(h:qK rs rs')(n:Nat):stp rs' n=stp rs n:=by
 unfold Bg.stp
 cases e:rs'[n]? with
 |none=>
  have:rs[n]?=none:=by rw[List.getElem?_eq_none_iff] at e ⊢;rw[<-h.len];exact e
  rw[this]
 |some r'=>
  obtain⟨r,ks,e1,f⟩:=h.get e
  rw[e1]
  cases r with
  |num x z=>have f:r'=.num x z:=f;subst f;rfl
  |op x s a b=>obtain⟨_,_,rfl,_⟩:=f;rfl
  |call x k as=>obtain⟨_,rfl,_⟩:=f;rfl
  |say a=>obtain⟨_,rfl,_⟩:=f;rfl
  |jump t=>have f:r'=.jump t:=f;subst f;rfl
  |test a t=>obtain⟨_,rfl,_⟩:=f;rfl
  |give a=>obtain⟨_,rfl,_⟩:=f;rfl
theorem qK.runJ{rs rs':List bJ}(h:qK rs rs'):∀(k n:Nat),runJ rs' k n=runJ rs k n
 |0,_=>rfl
 |k+1,n=>by
  show Bg.runJ rs' k (Bg.stp rs' n)=Bg.runJ rs k (Bg.stp rs n)
  rw[h.stp];exact qK.runJ h k _
theorem qK.ring{rs rs':List bJ}(h:qK rs rs')(q:tN rs):tN rs':=by
 intro n hn r' e
 rw[h.len] at hn
 rw[h.len,h.runJ] at e
 obtain⟨r,ks,e1,f⟩:=h.get e
 rw[Fb f];exact q n hn r e1
theorem NA{K:Fg}{vs:List V}{H:Hp}{Q:VK}{E:XK}(h:oE K vs H Q E):Jc K {nx:=λ_ H'=>Q .non H',rt:=Q} (cU zl vs) H:=by
 obtain⟨st,nm,pr,cn,wd,m,k,ys,ps,cs,rfl,S,hk,hnm,ysne,ysl,yne,hpr,psl,pnd,pin,hcn,csne,csl,cs4,m1,m50,nnm,npr,ncn,q⟩:=h
 refine⟨_,rfl,_,_,rfl,.inl ⟨_,cA.of hpr,rfl⟩,.inl ⟨rfl,.inr ⟨_,rfl,.inl ⟨_,_,rfl,rfl,_,rfl,_,rfl,st,_,k,rfl,S,by lia,by lia,by lia,λd H1 d0 d1 S1 B1=>.inl ⟨_,_,rfl,rfl,_,_,rfl,?_⟩⟩⟩⟩⟩
 rw[ai]
 obtain⟨n,hn,n1,n51,nm1,n2⟩:∃n:Nat,(if 1+d>1+(if decide (V.int ((ps.length:Nat):Int)=V.int 0)=true then 1 else 0) then 1+d else 1+(if decide (V.int ((ps.length:Nat):Int)=V.int 0)=true then 1 else 0))=(n:Int)/\1<=n/\n<=52/\n<=m+1/\(ps=[]->2<=n):=by
  by_cases c:ps=[]
  ·have e:decide (V.int ((ps.length:Nat):Int)=V.int 0)=true:=by rw[c];rfl
   rw[e,if_pos rfl]
   by_cases c2:1+d>1+1
   ·rw[if_pos c2];exact⟨(1+d).toNat,by lia,by lia,by lia,by lia,λ_=>by lia⟩
   ·rw[if_neg c2];exact⟨2,rfl,by lia,by lia,by lia,λ_=>by lia⟩
  ·have e:decide (V.int ((ps.length:Nat):Int)=V.int 0)=false:=decide_eq_false λz=>c (cD.mp (by injection z with z;lia))
   rw[e,if_neg Bool.false_ne_true]
   by_cases c2:1+d>1+0
   ·rw[if_pos c2];exact⟨(1+d).toNat,by lia,by lia,by lia,by lia,λz=>absurd z c⟩
   ·rw[if_neg c2];exact⟨1,rfl,by lia,by lia,by lia,λz=>absurd z c⟩
 rw[hn]
 show Ca K _ [some (.ref st),some (.str wd),some (.ref nm),some (.ref pr),some (.ref cn),some (.int (m:Nat)),some (.int (n:Nat)),none,none] H1
 refine⟨_,rfl,_,rfl,by lia,by lia,λL hL=>?_⟩
 obtain⟨ys1,hs1⟩:=S1.lst
 have nL:L≠st:=λz=>by rw[z,hs1] at hL;cases hL
 have HL:H L=none:=B1.free nL hL
 refine lR (λi σ' H'=>∃(rvs:List V) (rs:List bJ) (k':Nat) (o:Option V),σ'=[some (.ref st),some (.str wd),some (.ref nm),some (.ref pr),some (.ref cn),some (.int (m:Nat)),some (.int (n:Nat)),none,none,o]/\
  H' L=some (.lst rvs)/\cL (dH H') rvs rs/\rs.length=i/\(∀r∈rs,vR ys cs n r)/\ke K H' st k'/\k'<=k+1+8*i/\gB st H H') ?_ ?_ ?_
 ·exact⟨[],[],k+1,none,rfl,ag,.nil,rfl,by simp,S1.new hL,by lia,B1.new hL⟩
 ·rintro i σ' H' hi ⟨rvs,rs,k',o,rfl,hrl,hA,rlen,ro,S',hk',B'⟩
  have hi:i<n:=by simpa using hi
  refine kf ⟨_,rfl,_,rfl,_,rfl,_,rfl,st,nm,cn,n,k',ys,cs,rfl,S',by lia,B' nm _ nnm hnm,ysne,ysl,n1,by lia,B' cn _ ncn hcn,csne,csl,cs4,nnm,ncn,λv r k2 H2 hv hr S2 l2 B2=>?_⟩
  have h2:=B2 L _ nL hrl
  have t2:Tp H' H2:=by obtain⟨_,e⟩:=S'.lst;exact .of_but B2 e
  have t3:Tp H2 (upd H2 L (.lst (rvs++[v]))):=(Tp.refl H2).lst h2
  refine⟨_,h2,dW (by rw[hA.len];lia),rvs++[v],rs++[r],k2,_,rfl,ag,(hA.imp λ_ _ z=>(z.mono t2).mono t3).snoc (hv.mono t3),by simp[rlen],λr' hr'=>?_,S2.mono .upd_at h2 (Ne.symm nL),by lia,?_⟩
  ·rcases bu.mp hr' with z|z
   ·exact ro r' z
   ·rw[av.mp z];exact hr
  ·exact gB.past (B'.trans B2) HL .upd_at
 ·rintro σ' H2 ⟨rvs,rs,k2,o,_,hrl,hA,rlen,ro,S2,hk2,B2⟩
  have rlen:rs.length=n:=by simpa using rlen
  have hk2:k2<=k+1+8*n:=by simpa using hk2
  have nnL:nm≠L:=au hnm HL
  have npL:pr≠L:=au hpr HL
  have Ok:vS ys cs rs:=⟨λz=>by rw[z] at rlen;simp at rlen;lia,by lia,by rw[rlen];exact ro⟩
  show B9 K _ [some (.ref st),some (.str wd),some (.ref nm),some (.ref pr),some (.ref cn),some (.int (m:Nat)),some (.int (n:Nat)),some (.ref L),none] H2
  have hpr2:=B2 pr _ npr hpr
  have ebare:decide (V.int (((ps.map V.str).length:Nat):Int)=V.int 0)=true->ps=[]:=λz=>by
   have z':=of_decide_eq_true z
   rw[ai] at z'
   injection z' with z'
   exact cD.mp (by lia)
  have ebare':ps=[]->decide (V.int (((ps.map V.str).length:Nat):Int)=V.int 0)=true:=λz=>by rw[z];rfl
  refine⟨_,rfl,_,rfl,_,rfl,_,_,rfl,.inl ⟨_,cA.of hpr2,rfl⟩,.inl ⟨rfl,L,nm,_,rvs,rs,ys,vR ys cs n,rfl,hrl,hA,Ok.pos,Ok.few,ro,rfl,rfl,λt ht=>by rw[rlen];exact ht,B2 nm _ nnm hnm,ysne,λy hy _=>⟨hy,by decide,by decide⟩,nnL,λz=>by rw[rlen];exact n2 (ebare z),λrvs' rs' H3 h3 hA3 len3 hR3 hE3 hN3 hJ3 B3=>?_⟩⟩
  have n3:rs'.length=n:=len3.trans rlen
  have Ok3:vS ys cs rs':=⟨λz=>by rw[z] at n3;simp at n3;lia,by lia,by rw[n3];exact hR3⟩
  have S3:ke K H3 st k2:=S2.mono B3 hrl (Ne.symm nL)
  have BH3:gB st H H3:=gB.past B2 HL B3
  show B0 K _ [some (.ref st),some (.str wd),some (.ref nm),some (.ref pr),some (.ref cn),some (.int (m:Nat)),some (.int (n:Nat)),some (.ref L),none] H3
  refine⟨_,rfl,_,rfl,_,rfl,L,nm,pr,rvs',rs',ys,ps,cs,rfl,h3,hA3,Ok3,hE3,BH3 nm _ nnm hnm,ysl,BH3 pr _ npr hpr,psl,pin,λz=>hN3 (ebare' z),λkl refs kss H4 hkl h4 hT lk hK hKn s4=>?_⟩
  have S4:=S3.same s4
  have BH4:gB st H H4:=BH3.trans s4.but
  have nkl:kl≠st:=λz=>by obtain⟨_,e⟩:=S3.lst;rw[z,e] at hkl;cases hkl
  show BZ K _ [some (.ref st),some (.str wd),some (.ref nm),some (.ref pr),some (.ref cn),some (.int (m:Nat)),some (.int (n:Nat)),some (.ref L),some (.ref kl)] H4
  refine⟨_,rfl,_,rfl,pr,_,rfl,.inl ⟨cA.of (BH4 pr _ npr hpr),λt ht=>?_⟩⟩
  have s5:aS H4 (upd H4 t (.tup (ps.map V.str))):=(aS.refl H4).new ht
  have g5:(upd H4 t (.tup (ps.map V.str))) t=some (.tup (ps.map V.str)):=ag
  generalize upd H4 t (.tup (ps.map V.str))=H5 at s5 g5 ⊢
  have S5:=S4.same s5
  have hT5:cL (zr H5) refs kss:=hT.imp λ_ _ ⟨a,e,h⟩=>⟨a,e,s5 _ _ h⟩
  refine⟨_,rfl,_,rfl,_,rfl,st,L,kl,k2,rvs',refs,rs',kss,ys,cs,rfl,S5,by lia,s5 _ _ (s4 _ _ h3),(hA3.imp λ_ _ z=>(z.mono (.of_same s4)).mono (.of_same s5)),Ok3,yne,cs4,s5 _ _ h4,hT5,lk,λi ks e=>(hK i ks e).1,λi ks r e1 e2=>?_,λa ha=>?_,nL,nkl,λp rvs6 rs6 k6 H6 h6 hA6 len6 hF S6 l6 B6=>?_⟩
  ·rcases(hK i ks e1).2.2 with z|⟨z1,z2⟩
   ·exact .inl z
   ·subst z1
    have:=hN3 (ebare' z2)
    rw[jw,e2] at this
    exact .inr (Option.some.inj this)
  ·obtain⟨i,hi,e⟩:=cF.mp ha
   obtain⟨ks,_,z⟩:=hT5.of_v (i:=i) (v:=a) (by rw[ao hi,e])
   exact ER S5 z
  refine⟨(by show 3<=sizeLine;decide),λf hf=>?_⟩
  obtain⟨_,e5⟩:=S5.lst
  have t6:Tp H5 H6:=.of_but B6 e5
  have t7:Tp H6 (upd H6 f (.tup [.str wd,.ref t,.ref p])):=(Tp.refl H6).new hf
  have ksAt:∀(i:Nat) r,rs'[i]?=some r->∃ks,kss[i]?=some ks:=λi r e=>⟨_,ao (by rw[lk];exact(ar.mp e).1)⟩
  have al:qK rs' rs6:=⟨len6,λi r r' e1 e2=>by
   obtain⟨ks,ek⟩:=ksAt i r e1
   exact⟨ks,hF i ks r r' ek e1 e2⟩⟩
  have both:∀(i:Nat) r',rs6[i]?=some r'->∃r ks,rs'[i]?=some r/\kss[i]?=some ks/\kF ks r r':=λi r' e=>by
   obtain⟨r,_,e1,_⟩:=al.get e
   obtain⟨ks,ek⟩:=ksAt i r e1
   exact⟨r,ks,e1,ek,hF i ks r r' ek e1 e⟩
  have ok:pC ys cs ⟨wd,ps,rs6⟩:=by
   refine⟨pnd,pin,λz=>?_,?_,λr' hr'=>?_,?_,al.ring hJ3,kss,?_,⟨hKn.zero,λi m r' ks km e hm ek em y hy=>?_⟩,λi r' ks e ek=>?_⟩
   ·have z':rs6=[]:=z
    rw[z',n3] at len6;simp at len6;lia
   ·show rs6.length<=60
    lia
   ·show GK ys cs rs6.length r'
    obtain⟨i,hi,e⟩:=cF.mp hr'
    obtain⟨r,ks,e1,e2,f⟩:=both i r' (by rw[<-e];exact ao hi)
    rw[len6,n3]
    exact JU (hR3 r (aH e1)) (hK i ks e2).2.1 f
   ·show rs6.getLast?.map jF=some true
    have hl:rs6.length-1<rs6.length:=by lia
    obtain⟨r,ks,e1,e2,f⟩:=both (rs6.length-1) _ (ao hl)
    rw[cx,ao hl,cR,G5 f]
    rw[cx,<-len6,e1,cR] at hE3
    exact hE3
   ·show kss.length=rs6.length
    rw[lk,len6]
   ·obtain⟨r,ks',e1,e2,f⟩:=both i r' e
    rw[CN f] at hm
    rw[Fc f]
    exact hKn.on i m r ks km e1 hm ek em y hy
   ·obtain⟨r,ks',e1,e2,f⟩:=both i r' e
    rw[ek] at e2;cases e2
    exact CO f
  refine q _ ⟨wd,ps,rs6⟩ k6 _ ⟨f,t,p,rvs6,rfl,ag,t7 _ _ (t6 _ _ g5),t7 _ _ h6,hA6.imp λ_ _ z=>z.mono t7⟩ rfl rfl ok (by show rs6.length<=m+1;lia) (S6.new hf) (by lia) ?_
  exact((BH4.trans s5.but).trans B6).new hf
inductive zt(rs:List bJ)(un:Option Str):Nat->Prop where
 |zero:zt rs un 0
 |step {n m:Nat} {r:bJ}:zt rs un n->rs[n]?=some r->(∀y,un=some y->iS r≠.str y)->m∈cW n r->zt rs un m
structure ku(rs:List bJ):Prop where
 pos:0<rs.length
 few:rs.length<64
 inr:∀(n m:Nat) r,rs[n]?=some r->m∈cW n r->m<rs.length
 ring:tN rs
theorem zt.lt{rs:List bJ}{un:Option Str}(g:ku rs){m:Nat}(h:zt rs un m):m<rs.length:=by
 cases h with
 |zero=>exact g.pos
 |step _ e _ hm=>exact g.inr _ _ _ e hm
theorem A1{rs:List bJ}(hg:∀r∈rs,∀t:Nat,lT r=.int (t:Nat)->t<rs.length)(hE:rs.getLast?.map jF=some true):∀(n m:Nat) r,rs[n]?=some r->m∈cW n r->m<rs.length:=by
 intro i m r hr mem
 have hi:i<rs.length:=(ar.mp hr).1
 have nx:jF r=false->i+1<rs.length:=λhe=>by
  by_cases c:i+1<rs.length
  ·exact c
  ·have ei:i=rs.length-1:=by lia
   rw[cx,<-ei,hr,cR,he] at hE
   cases hE
 have hm:=hg r (aH hr)
 cases r with
 |jump to=>rw[av.mp mem];exact hm to rfl
 |test a to=>
  rcases aV.mp mem with e|e
  ·rw[e];exact nx rfl
  ·rw[av.mp e];exact hm to rfl
 |give a=>cases mem
 |num x z=>rw[av.mp mem];exact nx rfl
 |op x s a b=>rw[av.mp mem];exact nx rfl
 |call x k as=>rw[av.mp mem];exact nx rfl
 |say a=>rw[av.mp mem];exact nx rfl
theorem pC.good{ys:List Str}{cs:List Nat}{b:d8}(h:pC ys cs b):ku b.rows:=by
 have:=h.few
 refine⟨cP.mpr h.pos,by lia,A1 (λr hr t e=>?_) h.last,h.ring⟩
 have ro:=h.rows r hr
 cases r with
 |jump to=>
  injection e with e
  have:to=t:=by lia
  subst this;exact ro
 |test a to=>
  injection e with e
  have:to=t:=by lia
  subst this;exact ro.2
 |_=>cases e
theorem kA:∀{n:Nat} {l:List Nat},l.Nodup->(∀x∈l,x<n)->l.length<=n
 |0,l,_,h=>by
  cases l with
  |nil=>exact aD _
  |cons a r=>exact absurd (h a cJ) (bN _)
 |n+1,l,nd,h=>by
  by_cases c:n∈l
  ·have h1:=kA (n:=n) (l:=l.erase n) (nd.erase n) λx hx=>by
    have:=(nd.mem_erase_iff).mp hx
    have:=h x this.2
    lia
   rw[List.length_erase_of_mem c] at h1
   lia
  ·have h1:=kA (n:=n) nd λx hx=>by
    have:=h x hx
    have:x≠n:=λz=>c (z ▸ hx)
    lia
   lia
theorem pG:∀{l:List Nat},l.Pairwise (·<=·)->l.Nodup->l.Pairwise (·<·)
 |[],_,_=>.nil
 |a::r,h,nd=>by
  rw[List.pairwise_cons] at h ⊢
  rw[dO] at nd
  refine⟨λx hx=>?_,pG h.2 nd.2⟩
  have:=h.1 x hx
  have:a≠x:=λz=>nd.1 (z ▸ hx)
  lia
theorem FR{ms:List Int}{ns:List Nat}(p:ms.Perm (ns.map λn=>((n:Nat):Int)))(s:ms.Pairwise (·<=·))(nd:ns.Nodup):∃ks:List Nat,ms=ks.map (λn=>((n:Nat):Int))/\(∀x,x∈ks↔x∈ns)/\ks.Pairwise (·<·):=by
 have hm:ms.map (λi=>((i.toNat:Nat):Int))=ms:=by
  have:∀i∈ms,((i.toNat:Nat):Int)=i:=λi hi=>by
   obtain⟨n,_,e⟩:=cB.mp (p.mem_iff.mp hi)
   lia
  exact(iR this).trans (uq _)
 have pk:(ms.map gD).Perm ns:=by
  have:=p.map gD
  rw[dN] at this
  have e:ns.map (gD ∘ λn=>((n:Nat):Int))=ns:=by
   have:∀n∈ns,(gD ∘ λn=>((n:Nat):Int)) n=n:=λn _=>by simp
   exact(iR this).trans (uq _)
  rw[e] at this
  exact this
 refine⟨ms.map gD,?_,λx=>pk.mem_iff,pG ?_ (pk.nodup_iff.mpr nd)⟩
 ·rw[dN];exact hm.symm
 ·rw[List.pairwise_map]
  exact s.imp λ{a b} h=>by lia
end Bg
end
section
namespace L2
open PySem PySem.Spec PyProof.Rows
theorem Hu{α:Type}[DecidableEq α]{l:List α}:∀{zs:List α},l.Nodup->(∀y∈l,y∈zs)->l.length<=zs.length:=by
 induction l with
 |nil=>intro zs _ _;exact dA _
 |cons a r ih=>
  intro zs nd h
  obtain⟨na,nr⟩:=dO.mp nd
  have ha:a∈zs:=h a cJ
  have:=ih (zs:=zs.erase a) nr λy hy=>(List.mem_erase_of_ne (λz=>na (by rw[<-z];exact hy))).mpr (h y (cX _ hy))
  rw[List.length_erase_of_mem ha] at this
  have:0<zs.length:=List.length_pos_of_mem ha
  simp only[bK]
  lia
section
variable{X:Cx}
end
section
variable{prog:Program}{w:World}{A:Around}{R:Result->Shared->Prop}{I:Addr}{fp wr:List Addr}{n:Nat}{P:Nat->Value->Prop}{St:Nat->Heap->Prop}
abbrev E9:List (Str×Value):=[(("default":Str),Value.none)]
theorem vA:(toString "min"++toString ".loop":String)="min.loop":=by decide
theorem FC(W:Walks prog w A.in1 I fp wr n P St)(bt:Nat->Nat->Bool)(cm:CmpOf prog w A.in1 .Lt P bt)(S:Addr)(nS:S∉fp) :
  ∀(k j:Nat) (s:Shared) (vb:Value) (c:Nat),n-(j+1)=k->j+1<=n->St (j+1) s.heap->P (argBest bt j) vb->s.heap.get? S=some {cls:=.type "list",dict:=none,data:=.seq #[vb,vb] c,slots:=#[]}->
  (∀v h' tk,P (argBest bt (n-1)) v->(∀b o,b∉wr->b≠S->s.heap.get? b=some o->h'.get? b=some o)->R (.ok (.ret v)) {s with heap:=h',toks:=tk})->
  codeAny (model prog w) A (.builtin "min.loop" ⟨[.ref I,.none,.ref S],E9⟩) R s:=by
 have nw:S∉wr:=λz=>nS (W.sub _ z)
 intro k
 induction k with
 |zero=>
  intro j s vb c hk hj st pb gS fin
  have jn:j+1=n:=by lia
  refine codeAny_builtin F.entry_min_loop ?_
  rw[Around.under_plainId F.plain_min_loop _]
  show wpAny _ A.in1 (seqItems? (.ref S) >>= _) _ _ s
  refine wpAny_bind (wpAny_seqItems gS rfl ?_)
  show wpAny _ A.in1 (tryCatch (pyNext (.ref I)) _ >>= _) _ _ s
  refine wpAny_bind (wpAny_tryCatch (W.done s _ _ (jn ▸ st) λh1 tk k1=>?_))
  have gS1:=k1 S _ nw gS
  show wpAny _ A.in1 (updateSeq S (λ_=>#[]) >>= _) _ _ _
  refine wpAny_bind ?_
  refine wpAny_updateSeq gS1 rfl (wpAny_bind (wpAny_letGo (wpAny_pure ?_)))
  exact fin vb _ tk (by rw[<-jn];exact pb) λb o nb ns q=>(cf _ _ (Ne.symm ns)).trans (k1 b o nb q)
 |succ k ih=>
  intro j s vb c hk hj st pb gS fin
  have jn:j+1<n:=by lia
  refine codeAny_builtin F.entry_min_loop ?_
  rw[Around.under_plainId F.plain_min_loop _]
  show wpAny _ A.in1 (seqItems? (.ref S) >>= _) _ _ s
  refine wpAny_bind (wpAny_seqItems gS rfl ?_)
  show wpAny _ A.in1 (tryCatch (pyNext (.ref I)) _ >>= _) _ _ s
  refine wpAny_bind (wpAny_tryCatch (W.item (j+1) s _ _ jn st λv h1 tk pv st1 k1=>?_))
  have gS1:=k1 S _ nw gS
  show wpAny _ A.in1 (tryCatch (holding [v,v] (richCompare .Lt v vb >>= _)) _ >>= _) _ _ _
  refine wpAny_bind (wpAny_tryCatch (wpAny_holding (wpAny_bind (cm (j+1) (argBest bt j) v vb _ _ _ pv pb ?_))))
  refine wpAny_bind (wpAny_holding (wpAny_truthy_bool ?_))
  refine wpAny_bind (wpAny_letGo (wpAny_pure ?_))
  cases hb:bt (j+1) (argBest bt j) with
  |true=>
   simp only[if_true]
   refine wpAny_bind ?_
   refine wpAny_updateSeq gS1 rfl (wpAny_bind (wpAny_letGo ?_))
   rw[vA]
   refine wpAny_pure ⟨plainId_quiet F.plain_min_loop _,ih (j+1) _ v _ (by lia) jn (W.frame _ _ _ st1 λb bf o q=>?_) (by simp only[argBest,hb,if_true];exact pv) (dk _ gS1 rfl)
    λv2 h2 t2 p2 k2=>fin v2 h2 t2 p2 λb o nb ns q=>k2 b o nb ns ((cf _ _ (Ne.symm ns)).trans (k1 b o nb q))⟩
   exact(cf _ _ (λz:S=b=>nS (by rw[z];exact bf))).trans q
  |false=>
   simp only[Bool.false_eq_true,if_false]
   refine wpAny_bind (wpAny_letGo ?_)
   rw[vA]
   exact wpAny_pure ⟨plainId_quiet F.plain_min_loop _,ih (j+1) _ vb c (by lia) jn st1 (by simp only[argBest,hb,Bool.false_eq_true,if_false];exact pb) gS1 λv2 h2 t2 p2 k2=>fin v2 h2 t2 p2 λb o nb ns q=>k2 b o nb ns (k1 b o nb q)⟩
theorem C9(W:Walks prog w A.in1 I fp wr n P St)(bt:Nat->Nat->Bool)(cm:CmpOf prog w A.in1 .Lt P bt)(S:Addr)(nS:S∉fp){s:Shared}{c:Nat}(st:St 0 s.heap)
  (gS:s.heap.get? S=some {cls:=.type "list",dict:=none,data:=.seq #[] c,slots:=#[]})
  (fin0:n=0->∀h' tk,(∀b o,b∉wr->s.heap.get? b=some o->h'.get? b=some o)->R (.ok (.ret .none)) {s with heap:=h',toks:=tk})
  (fin:0<n->∀v h' tk,P (argBest bt (n-1)) v->(∀b o,b∉wr->b≠S->s.heap.get? b=some o->h'.get? b=some o)->R (.ok (.ret v)) {s with heap:=h',toks:=tk}) :
  codeAny (model prog w) A (.builtin "min.loop" ⟨[.ref I,.none,.ref S],E9⟩) R s:=by
 have nw:S∉wr:=λz=>nS (W.sub _ z)
 refine codeAny_builtin F.entry_min_loop ?_
 rw[Around.under_plainId F.plain_min_loop _]
 show wpAny _ A.in1 (seqItems? (.ref S) >>= _) _ _ s
 refine wpAny_bind (wpAny_seqItems gS rfl ?_)
 show wpAny _ A.in1 (tryCatch (pyNext (.ref I)) _ >>= _) _ _ s
 by_cases hn:0<n
 ·refine wpAny_bind (wpAny_tryCatch (W.item 0 s _ _ hn st λv h1 tk pv st1 k1=>?_))
  have gS1:=k1 S _ nw gS
  show wpAny _ A.in1 (updateSeq S (λ_=>#[v,v]) >>= _) _ _ _
  refine wpAny_bind ?_
  refine wpAny_updateSeq gS1 rfl ?_
  rw[vA]
  refine wpAny_pure ⟨plainId_quiet F.plain_min_loop _,FC W bt cm S nS _ 0 _ v _ rfl hn (W.frame _ _ _ st1 λb bf o q=>?_) pv (dk _ gS1 rfl) λv2 h2 t2 p2 k2=>
   fin hn v2 h2 t2 p2 λb o nb ns q=>k2 b o nb ns ((cf _ _ (Ne.symm ns)).trans (k1 b o nb q))⟩
  exact(cf _ _ (λz:S=b=>nS (by rw[z];exact bf))).trans q
 ·have n0:n=0:=by lia
  refine wpAny_bind (wpAny_tryCatch (W.done s _ _ (n0 ▸ st) λh1 tk k1=>?_))
  exact wpAny_bind (wpAny_rule (wpAny_pure (fin0 n0 h1 tk k1)))
end
section
variable{prog:Program}{w:World}{A:Around}{E:Value->Shared->Prop}{s:Shared}{l:Addr}{xs:Array (Int×Tok)}
theorem EW(a:Value):argsOk "min" ⟨[a],E9⟩:=by unfold argsOk;kernel_rfl
theorem J7{id:String}{b:Builtin}{us:List Value}{kw:List (Str×Value)}{Q:Value->Shared->Prop}(hk:builtinKind id=none)(hp:plainId id=true)(hb:entryFor table id=some b)(ha:argsOk id ⟨us,kw⟩)
  (hc:wpAny (model prog w) A.in1 (b ⟨us,kw⟩) (λfin s'=>match fin with
   |.done f=>(match(Except.ok f:Result) with|.ok (.ret v)=>Q v s'|.ok _=>False|.error e=>E e s')
   |.again c'=>c'.quiet=true/\codeAny (model prog w) A c' (λr s'=>match r with|.ok (.ret v)=>Q v s'|.ok _=>False|.error e=>E e s') s') E s):wpAny (model prog w) A (call (.builtin id) us kw) Q E s:=by
 refine wpAny_call (codeAny_call_builtin hp hb ?_)
 simp only[checkBuiltinCall,hk]
 cases sg:Manifest.signature? id with
 |none=>exact wpAny_pure hc
 |some sig=>
  have ok:Bind.checkArgs id sig ⟨us,kw⟩=pure ():=by simpa only[argsOk,sg] using ha
  simp only[ok]
  exact wpAny_pure hc
theorem FB{Q:Value->Shared->Prop}(hh:A.handled=none)(hl:s.heap.IsList l (intItems xs))
  (h0:xs.size=0->∀h' tk,(∀b o,s.heap.get? b=some o->h'.get? b=some o)->Q .none {s with heap:=h',toks:=tk})
  (h:0<xs.size->∀v h' tk,(intItems xs)[argBest (λi j=>decide (numAt xs i<numAt xs j)) (xs.size-1)]?=some v->(∀b o,s.heap.get? b=some o->h'.get? b=some o)->Q v {s with heap:=h',toks:=tk}) :
  wpAny (model prog w) A (call (.builtin "min") [.ref l] E9) Q E s:=by
 refine J7 F.kind_min F.plain_min F.entry_min (EW _) ?_
 show wpAny _ A.in1 (Builtin.Builtins.bindParams "min" ["key","default"] 0 ⟨[],E9⟩ >>= _) _ _ s
 refine wpAny_bind (wpAny_of_eq (show Builtin.Builtins.bindParams "min" ["key","default"] 0 ⟨[],E9⟩=pure [none,some .none] by kernel_rfl) ?_)
 refine wpAny_bind (wpAny_pure ?_)
 refine wpAny_bind (iter_intList hl λs2 e st hfp nl=>?_)
 subst e
 refine wpAny_bind (wpAny_newObj_type ?_)
 rw[vA]
 have W:=Walks.list (prog:=prog) (w:=w) (A:=A.in1) hh s.heap.objs.size l nl (intItems xs)
 have zz:(intItems xs).size=xs.size:=by simp[intItems]
 have kk:∀{h':Heap},(∀b o,b∉[s.heap.objs.size]->b≠(s.heap.push {cls:=.type "list_iterator",data:=.fields #[.ref l,.int 0 0]}).objs.size->(((s.heap.push {cls:=.type "list_iterator",data:=.fields #[.ref l,.int 0 0]}).push {cls:=.type "list",data:=.seq #[]}).get? b=some o->h'.get? b=some o))->∀b o,s.heap.get? b=some o->h'.get? b=some o:=λ{h'} k b o q=>by
  have lt:=aJ q
  refine k b o (λz=>?_) (λz=>?_) (az _ (az _ q))
  ·have:=av.mp z;lia
  ·rw[dG] at z;lia
 refine wpAny_pure ⟨plainId_quiet F.plain_min_loop _,C9 W _ (CmpOf.ints_lt (numAt xs) λ_ _=>intItems_at) _ (λz=>cK _ (hfp _ z)) (W.frame _ _ _ st λb _ o q=>az _ q) (aZ _ rfl) (λn0 h' tk k=>?_) λn1 v h' tk p k=>?_⟩
 ·exact h0 (by rw[<-zz];exact n0) h' tk (kk λb o nb _ q=>k b o nb q)
 ·exact h (by rw[<-zz];exact n1) v h' tk (by simpa[zz] using p) (kk λb o nb ns q=>k b o nb ns q)
end
section
variable{X:Cx}
theorem Hy{pins:List (Addr×Obj)}{s:Shared}{σ:St}{H:Hp}{a:Addr}{ss:List Str}{m:Nat}{Q:VK}(I:bW X pins σ H s)
  (T:BgSet.SetTb (j7 X.prog X.w) s.heap a (λk=>decide (k∈ss)) m (!BgSet.byText X.w) true)
  (q:∀ss':List Str,ss'.Nodup->(∀x,x∈ss'↔x∈ss)->Q (.int (ss'.length:Nat)) H) :
  wpAny (model X.prog X.w) X.A (call (.builtin "len") [.ref a]) (EP X pins σ Q) X.xe s:=by
 obtain⟨o,es,ep,t,ho,hex,hdt,hel,hmem,hb,hf,hn,htb,hoff,hap⟩:=T
 have hz:es.size<=sizeLine:=fits_of_scanBound hb
 have hall:∀e∈es.toList,∃x t,e.2=.str x t:=λe he=>by
  obtain⟨⟨k,hk,_⟩,_⟩:=hel e he
  obtain⟨t,ht⟩:=Value.isStrOf_shape hk
  exact⟨k,t,ht⟩
 have hmm:∀x,x∈es.toList.map (λe=>strOf e.2)↔x∈ss:=λx=>by
  rw[cB]
  have:=hmem x
  rw[decide_eq_true_eq] at this
  rw[this]
  constructor
  ·rintro⟨e,he,rfl⟩
   obtain⟨y,t,hy⟩:=hall e he
   refine⟨e,he,?_⟩
   show Value.isStrOf (strOf e.2) e.2=true
   rw[hy];simp[strOf,Value.isStrOf]
  ·rintro⟨e,he,hk⟩
   obtain⟨t,ht⟩:=Value.isStrOf_shape hk
   exact⟨e,he,by show strOf e.2=x;rw[ht];rfl⟩
 have hnd:(es.toList.map (λe=>strOf e.2)).Nodup:=by
  unfold List.Nodup
  rw[List.pairwise_map]
  refine List.Pairwise.imp_of_mem (λ{e e'} he he' r heq=>?_) hap
  obtain⟨y,t,hy⟩:=hall e he
  obtain⟨y',t',hy'⟩:=hall e' he'
  have e1:y=y':=by have:strOf e.2=strOf e'.2:=heq;rw[hy,hy'] at this;exact this
  have h1:Value.isStrOf y e.2=true:=by rw[hy];simp[Value.isStrOf]
  have h2:Value.isStrOf y e'.2=false:=r y h1
  rw[hy',e1] at h2;simp[Value.isStrOf] at h2
 have q1:=q _ hnd hmm
 rw[ai,cc] at q1
 have hl:=tX
 have hs:sizeLine=16777216:=sizeLine_eq
 exact call_len_set ho hex hdt hf (by lia) ⟨.int (es.size:Nat),H,I.tok _,⟨_,rfl⟩,q1⟩
def vD(K:Fg)(t:TA):TE:=λσ H Q=>t σ H λvs H1=>∃(p:Addr) (tp:Bool) (ss:List Str),vs=[.ref p]/\Pd K tp H1 p (ss.map V.str)/\ss.length<=4000/\
 ∀ss':List Str,ss'.Nodup->(∀x,x∈ss'↔x∈ss)->Q (.int (ss'.length:Nat)) H1
theorem FQ{a:Expr}{ta:TA}{p1 p2 pos pos2:Pos}(hg:Gl X "len")(hg2:Gl X "set")(hm:X.mg "len"=none)(hm2:X.mg "set"=none)(hc:X.calm=true)(ha:PA X [a] ta)
  (hs2:starEach [a] X.env=[(false,eval a X.env)]:=by rfl) (hs:starEach [.Call (.Name "set" p2) [a] [] pos2] X.env=[(false,eval (.Call (.Name "set" p2) [a] [] pos2) X.env)]:=by rfl) :
  PE X (.Call (.Name "len" p1) [.Call (.Name "set" p2) [a] [] pos2] [] pos) (vD X.K ta):=by
 intro pins s σ H Q I h
 refine wpAny_Call_Name_kw (mY I hg hm boot_len ?_)
 refine PyProof.Rows.callWith_builtin1 ?_ hs rfl
 rw[hs]
 show wpAny _ _ (spliced ((false,eval (.Call (.Name "set" p2) [a] [] pos2) X.env)::backTo pos [])) _ _ s
 refine Calls.spliced_cons ?_
 refine wpAny_Call_Name_kw (mY I hg2 hm2 (show bootBuiltins "set"=some (.type "set") by kernel_rfl) ?_)
 refine dr (gZ (ha pos2 pins s σ H _ I h) λus s1 ⟨vs,H1,I1,r1,q1⟩=>?_) hs2 rfl
 obtain⟨l,tp,ss,rfl,hq,hlen,q⟩:=q1
 obtain⟨u,rfl,rx⟩:=qo r1
 cases rx
 obtain⟨its,rv,at_⟩:=I1.seqB hq
 have rl:=rv.length
 rw[ai] at rl
 have hS:=wV rv
 have hv:∀(i:Nat) k v,ss[i]?=some k->its.toArray[i]?=some v->(j7 X.prog X.w).is k v=true/\v.scannable=true/\(true=true->plainKind v=false):=λi k v h1 h2=>by
  rw[List.getElem?_toArray] at h2
  have:=hS.strs
  rw[<-this,aO,h2] at h1
  obtain⟨x,t,rfl⟩:=hS.all v (aH h2)
  have e:x=k:=by simpa[strOf] using h1
  subst e
  exact⟨by show Value.isStrOf x (.str x t)=true;simp[Value.isStrOf],rfl,λ_=>rfl⟩
 have hb:its.toArray.size+1<scanBound:=by rw[ax,<-rl];unfold scanBound;lia
 have go:∀(h':Heap) (tk m:Nat),m<=its.toArray.size->BgSet.SetTb (j7 X.prog X.w) h' s1.heap.objs.size (λk=>decide (k∈ss)) m (!BgSet.byText X.w) true->
   (∀b o,b<s1.heap.objs.size->s1.heap.get? b=some o->h'.get? b=some o)->
   wpAny (model X.prog X.w) X.A (spliced (backTo pos [])) (λvs s'=>wpAny (model X.prog X.w) X.A (call (.builtin "len") (.ref s1.heap.objs.size::vs)) (EP X pins σ Q) X.xe s') X.xe {s1 with heap:=h',toks:=tk}:=λh' tk m hm T kp=>by
  have I2:bW X pins σ H1 {s1 with heap:=h',toks:=tk}:=I1.kept λb u e=>kp b u (aJ e) e
  exact Calls.spliced_nil (Hy I2 T q)
 cases tp with
 |true=>exact BgSet.set_of_tuple (kd:=j7 X.prog X.w) ss true (I1.ok.hd hc) at_ (by rw[ax];exact rl) hv hb go
 |false=>exact BgSet.set_of_list (kd:=j7 X.prog X.w) ss true (I1.ok.hd hc) at_ (by rw[ax];exact rl) hv hb go
theorem yG{a:Expr}{ta:TA}{p1 p2 pos pos2:Pos}(hg:Gl X "len")(hg2:Gl X "set")(hm:X.mg "len"=none)(hm2:X.mg "set"=none)(hc:X.calm=true)(ha:QA X [a] ta)
  (hs2:starEach [a] X.env=[(false,eval a X.env)]:=by rfl) (hs:starEach [.Call (.Name "set" p2) [a] [] pos2] X.env=[(false,eval (.Call (.Name "set" p2) [a] [] pos2) X.env)]:=by rfl) :
  QE X (.Call (.Name "len" p1) [.Call (.Name "set" p2) [a] [] pos2] [] pos) (vD X.K ta):=⟨FQ hg hg2 hm hm2 hc ha.up hs2 hs⟩
theorem yB:∀{ns:List Int} {us:List Value},cT (ns.map V.int) us->IntsAre us ns
 |[],_,.nil=>.nil
 |n::r,_,.cons (b:=u) h t=>by
  obtain⟨k,rfl⟩:=h
  exact .cons _ _ (yB t)
def IP(K:Fg)(t:TA):TE:=λσ H Q=>t σ H λvs H1=>∃(p:Addr) (ns:List Int),vs=[.ref p]/\cA K H1 p (ns.map V.int)/\(ns=[]->Q .non H1)/\∀z,z∈ns->(∀y∈ns,z<=y)->Q (.int z) H1
theorem Ky{a:Expr}{ta:TA}{p1 pos kp kp2:Pos}{j:Nat}(hg:Gl X "min")(hc:X.calm=true)(hm:X.mg "min"=none)(ha:PA X [a] ta)(hs:starEach [a] X.env=[(false,eval a X.env)]:=by rfl) :
  PE X (.Call (.Name "min" p1) [a] [⟨some "default",.Constant .none j kp,kp2⟩] pos) (IP X.K ta):=by
 intro pins s σ H Q I h
 refine wpAny_Call_Name_kw (mY I hg hm boot_min ?_)
 refine PyProof.Rows.callWith_kw ?_ (by rw[hs];rfl) (by rw[hs];rfl) rfl rfl
 refine gZ (ha pos pins s σ H _ I h) λus s1 ⟨vs,H1,I1,r1,l,ns,ev,hq,q0,q⟩=>?_
 subst ev
 obtain⟨u,rfl,rx⟩:=qo r1
 cases rx
 refine gZ ((KH (nm:=some "default") (kpos:=kp2) (HS (X:=X) (j:=j) (pos:=kp)) Ni) pos pins s1 σ H1 (λvs H2=>vs=[.non]/\H2=H1) I1 ⟨rfl,rfl⟩) λks s2 ⟨zs,H2,I2,r2,e1,e2⟩=>?_
 subst e1 e2
 obtain⟨k1,rfl,rk⟩:=qo r2
 obtain rfl:k1=Value.none:=rk
 obtain⟨its,rv,pl,hz⟩:=I2.list hq
 have hI:IntsAre its ns:=yB rv
 obtain⟨xs,e⟩:=hI.allInts.items
 have hns:ns=xs.toList.map (·.1):=by rw[<-hI.numsOf,<-nums_intItems,<-e]
 have hl:s2.heap.IsList l (intItems xs):=by rw[<-e];exact pl.isList
 refine FB (I2.ok.hd hc) hl (λx0 h' tk k=>?_) λx1 v h' tk hv k=>?_
 ·refine⟨.non,H2,I2.kept k,rfl,q0 ?_⟩
  rw[hns];simp[Array.eq_empty_of_size_eq_zero x0]
 ·obtain⟨t,rfl⟩:=intItems_at hv
  obtain⟨h1,h2⟩:=argBest_lt (numAt xs) (xs.size-1)
  refine⟨.int _,H2,I2.kept k,⟨t,rfl⟩,q _ ?_ λy hy=>?_⟩
  ·rw[hns,numAt_eq];exact getD_mem (by rw[ai,cc];lia)
  ·rw[hns] at hy
   obtain⟨i,hi,rfl⟩:=mem_getD hy
   rw[ai,cc] at hi
   rw[<-numAt_eq];exact h2 i (by lia)
theorem KY{a:Expr}{ta:TA}{p1 pos kp kp2:Pos}{j:Nat}(hg:Gl X "min")(hc:X.calm=true)(hm:X.mg "min"=none)(ha:QA X [a] ta)(hs:starEach [a] X.env=[(false,eval a X.env)]:=by rfl) :
  QE X (.Call (.Name "min" p1) [a] [⟨some "default",.Constant .none j kp,kp2⟩] pos) (IP X.K ta):=⟨Ky hg hc hm ha.up hs⟩
end
def sH(K:Fg):List V->Hp->VK->Prop:=λxs H Q=>∃x C dx v,xs=[.ref x,v]/\(H x=some (XF x C (some dx))\/H x=some (XL x C (some dx)))/\(∃fs,H dx=some (XD dx fs))/\tG K C/\Cz K C/\
 ((v=.ty "ValueError"/\Q (.bl true) H)\/((∃D b,v=.ref D/\lQ K C D b/\Q (.bl b) H)\/∃tp D1 D2 b1 b2,v=.ref tp/\H tp=some (.tup [.ref D1,.ref D2])/\lQ K C D1 b1/\lQ K C D2 b2/\Q (.bl (b1 || b2)) H))
section
variable{prog:Program}{w:World}{A:Around}{E:Value->Shared->Prop}{s:Shared}
theorem uo{x:Addr}{c:Value}{b:Bool}{P:Shared->Prop}{Q:Value->Shared->Prop}(hn:∀{prog:Program} {w:World} {A:Around} {E:Value->Shared->Prop} {Q:PySem.Fin->Shared->Prop} {s:Shared},P s->(∀t,Q (.done (.ret (.bool b))) {s with toks:=t})->wpAny (model prog w) A (Builtin.«isinstance.nested» ⟨[.ref x,c,rawInt 0],[]⟩) Q E s)
  (p:P s) (h:∀t,Q (.bool b) {s with toks:=t}):wpAny (model prog w) A (call (.builtin "isinstance") [.ref x,c]) Q E s:=
 call_isinstance (S:=λ_ R s=>P s/\∀t,R (.ok (.ret (.bool b))) {s with toks:=t}) (λ_ _ _ _ _ hs=>isinstance_outer (hn hs.1 hs.2) (by intro q;cases q)) ⟨p,h⟩
end
section
variable{X:Cx}
theorem jm:kj X (.builtin "isinstance") (sH X.K):=by
 intro pins s σ H xs us Q I r h
 obtain⟨x,C,dx,v,rfl,ea,⟨fs,ed⟩,c,wy,q⟩:=h
 obtain⟨z,mA,ns,_,_⟩:=XD.get I.hok ed
 obtain⟨od,ho,hlk⟩:=tY ns
 have J:∃ox,PySem.W.InstAt s.heap x ox C (some od):=by
  rcases ea with ea|ea
  ·obtain⟨a,hx⟩:=XF.get I.hok ea;exact⟨_,hx,rfl,rfl,ho⟩
  ·obtain⟨vs,sl,hx⟩:=XL.get I.hok ea;exact⟨_,hx,rfl,rfl,ho⟩
 obtain⟨ox,J⟩:=J
 obtain⟨u1,u2,rfl,r1,r2⟩:=xE r
 obtain rfl:u1=Value.ref x:=r1
 rcases q with⟨rfl,q⟩|⟨D,b,rfl,i,q⟩|⟨tp,D1,D2,b1,b2,rfl,ht,i1,i2,q⟩
 ·obtain rfl:u2=Value.type "ValueError":=r2
  exact uo (P:=λs=>X.K.In s.heap/\PySem.W.InstAt s.heap x ox C (some od)) (λp k=>LC p.1 p.2 c k) ⟨I.kIn,J⟩ λt=>⟨.bl true,H,I.tok t,rfl,q⟩
 ·obtain rfl:u2=Value.ref D:=r2
  exact uo (P:=λs=>X.K.In s.heap/\PySem.W.InstAt s.heap x ox C (some od)) (λp k=>Cj p.1 p.2 c wy i k) ⟨I.kIn,J⟩ λt=>⟨.bl b,H,I.tok t,rfl,q⟩
 ·obtain rfl:u2=Value.ref tp:=r2
  obtain⟨_,its,rv,ot,e1,e2,n,e3⟩:=(show eR X.prog X.w H s.heap tp (.tup [.ref D1,.ref D2]) from I.hok tp _ ht)
  obtain⟨w1,w2,rfl,rw1,rw2⟩:=xE rv
  obtain rfl:w1=Value.ref D1:=rw1
  obtain rfl:w2=Value.ref D2:=rw2
  have ne:C≠tp:=λz=>by
   obtain⟨nm,q',N,B,bs,sn,sub,ab,col,dd,k0,k1,k2,k3,k5,lk⟩:=c.ex
   have:=I.kIn _ _ lk
   rw[z,e1] at this
   have z2:ot.cls=Value.type "type":=by rw[Option.some.inj this]
   rw[e2.1] at z2
   injection z2 with z2
   exact absurd z2 (by decide)
  exact uo (P:=λs=>(X.K.In s.heap/\PySem.W.InstAt s.heap x ox C (some od))/\s.heap.get? tp=some ot) (λp k=>Js p.1.1 p.1.2 c wy i1 i2 ne p.2 e2.1 e3 k) ⟨⟨I.kIn,J⟩,e1⟩ λt=>⟨.bl (b1 || b2),H,I.tok t,rfl,q⟩
theorem MW{cn:Str}{p:Pos}{C:Addr}(hg:Gl X cn)(hm:X.mg cn=some (.ref C))(hdb:(cn==("__debug__":Str))=false:=by decide):PE X (.Name cn p) (tC (.ref C)):=by
 intro pins s σ H Q I h
 exact vz I hg hm ⟨.ref C,H,I,rfl,h⟩ hdb
end
theorem oO:bootBuiltins "ValueError"=some (.type "ValueError"):=by kernel_rfl
structure kR(P:Program)(w:World)(K:Fg)(mg:Str->Option Value)(base:Heap)(x:Str)(ps:List Str)(k:Nat)(sp:Sp):Prop where
 ex:∃(f:Addr) (fd:FuncData),mg x=some (.ref f)/\aF K (.ref f)=true/\px K fd ps []/\dY P w K mg base (Cn P w) k f fd ps sp
structure oN(P:Program)(w:World)(K:Fg)(mg:Str->Option Value)(base:Heap)(x:Str)(C:Addr)(ps:List Str)(k:Nat)(sp:Sp):Prop where
 ex:∃(f:Addr) (fd:FuncData),mg x=some (.ref C)/\OP K C f/\px K fd ps []/\dY P w K mg base fB k f fd ps sp
section
variable{X:Cx}{k:Nat}{C:Addr}{ps:List Str}{sp:Sp}{x:Str}{p pos:Pos}{e o value:Expr}{es:List Expr}{ta tv te:TE}{t:TA}{E:XK}
theorem ub(c:kR X.prog X.w X.K X.mg X.base x ps k sp)(hr:dm k X.A)(hg:Gl X x)(hx:pD (Cn X.prog X.w) X E)(ha:QA X (e::es) t)
  (hdb:(x==("__debug__":Str))=false:=by decide) (he:starEach (e::es) X.env=(false,eval e X.env)::starEach es X.env:=by rfl) (hpl:(backTo pos (starEach es X.env)).any (·.1)=false:=by rfl) :
  QE X (.Call (.Name x p) (e::es) [] pos) (bG sp [] E t):=by
 obtain⟨f,fd,hm,hk,hb,F⟩:=c.ex
 exact⟨El F hr hg hm hk hb .nil hx ha.up hdb he hpl⟩
theorem sF(M:oN X.prog X.w X.K X.mg X.base x C ps k sp)(hr:dm (k+1) X.A)(hg:Gl X x)(hz:ps.length<=1000)(ha:QA X (e::es) t)
  (hdb:(x==("__debug__":Str))=false:=by decide) (he:starEach (e::es) X.env=(false,eval e X.env)::starEach es X.env:=by rfl) (hpl:(backTo pos (starEach es X.env)).any (·.1)=false:=by rfl) :
  QE X (.Call (.Name x p) (e::es) [] pos) (ui C sp t):=by
 obtain⟨f,fd,hm,mk,hb,F⟩:=M.ex
 exact⟨HR mk F hr hg hm hb hz ha.up hdb he hpl⟩
theorem rF{cn:Str}{p:Pos}{C:Addr}(hg:Gl X cn)(hm:X.mg cn=some (.ref C))(hdb:(cn==("__debug__":Str))=false:=by decide):QE X (.Name cn p) (tC (.ref C)):=⟨MW hg hm hdb⟩
theorem mL{fl:Str}{pos':Pos}(ha:QE X o ta)(hv:QE X value tv)(hs:swapsWith value (some (.Attribute o fl pos')) pos.line X.env=pure false):QS X (.Assign [.Attribute o fl pos'] value pos) (qO X.K ta tv fl):=⟨KP ha.up hv.up hs⟩
theorem jH{fl:Str}(he:QE X e ta)(hb:attributeBase e fl X.env (eval e X.env)=eval e X.env):QE X (.Attribute e fl pos) (nJ X.K ta fl):=⟨Kx he.up hb⟩
theorem Ih(hl:Cs X E)(hh:X.A.handled=none)(he:QE X e te):QS X (.Raise (some e) none pos) (DB X.K E te):=⟨HZ hl hh he.up⟩
theorem Ii{body suite:List Stmt}{b0:Stmt}{cn n:Str}{np hpos pos:Pos}{C0:Addr}{i:Nat}{tb:XK->TS}{th:TS}(hc:X.calm=true)(hst:X.stack=X.env::X.outer)(hfm:X.env.frame=some X.env.locals)(hg:Gl X cn)(hm:X.mg cn=some (.ref C0))
  (hN:X.N.Nodup) (hi:X.N[i]?=some n) (hk:X.env.kindOf n=some .local) (hb:∀pl E' Ein,pD (Cn X.prog X.w) (X.tryIn pl E') Ein->kr (X.tryIn pl E') body (tb Ein)) (hs:∀x,kr (X.inSuite x) (b0::suite) th)
  (hdb:(cn==("__debug__":Str))=false:=by decide):QS X (.Try body [.ExceptHandler (some (.Name cn np)) (some n) (b0::suite) hpos] [] [] pos) (Lu X.K C0 X.N.length i tb th):=
 ⟨Np hc hst hfm hg hm hN hi hk (λpl E' Ein h=>(hb pl E' Ein h).up) (λx=>(hs x).up) hdb⟩
end
section
variable{P:Program}{w:World}{K:Fg}{mg:Str->Option Value}{base:Heap}{N:List Str}{qual:Str}{scope:Scope}{f:Addr}{cd:Value}{A:Around}{outer:List Env}{s:Shared}{H:Hp}{E:XK}
theorem zV:Cs (eE (Cn P w) P w K mg base N qual scope f cd A outer s H E) E:=λ_ _ _ _ _ _ _ I hx n q=>CY I hx n q
theorem Ec{x qual:Str}{st:Stmt}{f:Addr}{fd:FuncData}{N ps:List Str}{k:Nat}{sp:Sp}(F:kS K x qual st f fd)(S:bT N ps (aq st))(len:∀vs H Q E,sp vs H Q E->vs.length=ps.length)
  (hbody:∀(cdv:Value) (A:Around) (outer:List Env) (s:Shared) (H:Hp) (vs:List V) (Q:VK) (E:XK),dm k (A.deeper (envOfC qual (aq st) s.heap.objs.size f cdv))->sp vs H Q E->
   ∃t,jv (eE (Cn P w) P w K mg base N qual (aq st) f cdv A outer s H E) (aP st) t/\t {nx:=λ_ H'=>Q .non H',rt:=Q} (cU N vs) H):dY P w K mg base (Cn P w) (k+1) f fd ps sp:=by
 obtain⟨oc,od,kV,doc,pm,an,cdv,ct,osl,rfl,lk,hcd⟩:=F.ex
 exact G8 lk hcd S len λA outer s H vs Q E hr hsp=>hbody cdv A outer s H vs Q E hr hsp
end
end L2
end
section
namespace Bg
open PySem L2
def L7:Option Str->V
 |none=>.non
 |some y=>.str y
def iE(_:Fg):Sp:=λvs H Q _=>∃(rt:Addr) (un:Option Str) (rvs:List V) (rs:List bJ),vs=[.ref rt,L7 un]/\H rt=some (.tup rvs)/\cL (dH H) rvs rs/\ku rs/\
 ∀(l:Addr) (ns:List Nat) (H':Hp),(∀m,m∈ns↔zt rs un m)->ns.Pairwise (·<·)->H' l=some (.lst (bH ns))->H l=none->aS H H'->Q (.ref l) H'
abbrev CV:Nat:=2
abbrev nW:Nat:=3
def JE(b:d8)(n:Nat):Prop:=∃r y,b.rows[n]?=some r/\y∈dP r/\y∉b.params/\zt b.rows (some y) n
structure zq(cs:List Nat)(b:d8):Prop where
 pnd:b.params.Nodup
 p9:b.params.length<=100
 good:ku b.rows
 gl:∀r∈b.rows,∀t:Nat,lT r=.int (t:Nat)->t<b.rows.length
 calls:∀x k as,bJ.call x k as∈b.rows->cs[k]?=some as.length
 last:b.rows.getLast?.map jF=some true
 rd:∀r∈b.rows,(dP r).length<=100
structure Ma(bs:List d8):Prop where
 few:bs.length<=100
 nnd:(bs.map (·.name)).Nodup
 part:∀b∈bs,zq (bs.map (·.params.length)) b
theorem Ob{p:Nat->Prop}:∀n,p n->∃m,p m/\∀j,j<m->¬p j:=λn=>by
 induction n using Nat.strongRecOn with
 |ind n ih=>
  intro h
  by_cases c:∃m,m<n/\p m
  ·obtain⟨m,lt,q⟩:=c;exact ih m lt q
  ·exact⟨n,h,λj lt q=>c ⟨j,lt,q⟩⟩
theorem pC.clean{ys:List Str}{cs:List Nat}{b:d8}(h:pC ys cs b)(n:Nat):¬JE b n:=by
 rintro⟨r,y,er,yr,yp,wy⟩
 obtain⟨kss,hl,kn,rd⟩:=h.known
 have g:=h.good
 have go:∀{m:Nat},zt b.rows (some y) m->∀ks,kss[m]?=some ks->y∉ks:=λ{m} wm=>by
  induction wm with
  |zero=>exact λks e z=>yp (kn.zero ks e y z)
  |step w1 e1 s1 m1 ih=>
   rename_i n0 m0 r0
   intro ks e z
   have lt:=w1.lt g
   have e0:kss[n0]?=some kss[n0]:=ao (by rw[hl];exact lt)
   rcases kn.on n0 m0 r0 _ ks e1 m1 e0 e y z with q|q
   ·exact ih _ e0 q
   ·exact s1 y rfl q
 have lt:=wy.lt g
 have e0:kss[n]?=some kss[n]:=ao (by rw[hl];exact lt)
 exact go wy _ e0 (rd n r _ er e0 y yr)
theorem tO.sh{ys:List Str}{cs:List Nat}{bs:List d8}(h:tO ys cs bs):Ma bs:=by
 refine⟨by have:=h.few;lia,h.nnd,λb hb=>?_⟩
 have p:=h.part b hb
 have pl:b.params.length<=4:=h.c4 _ (by rw[<-h.cnt];exact cB.mpr ⟨b,hb,rfl⟩)
 refine⟨p.pnd,by lia,p.good,λr hr t e=>?_,λx k as hm=>?_,p.last,λr hr=>?_⟩
 ·have ro:=p.rows r hr
  cases r with
  |jump to=>
   have:to=t:=by injection e with e;lia
   subst this;exact ro
  |test a to=>
   have:to=t:=by injection e with e;lia
   subst this;exact ro.2
  |_=>cases e
 ·rw[h.cnt];exact(p.rows _ hm).2.1
 ·have ro:=p.rows r hr
  cases r with
  |call x k as=>
   have:as.length<=4:=h.c4 _ (aH ro.2.1)
   show as.length<=100
   lia
  |op x s a b=>show 2<=100;decide
  |num x z=>show 0<=100;decide
  |say a=>show 1<=100;decide
  |jump t=>show 0<=100;decide
  |test a t=>show 1<=100;decide
  |give a=>show 1<=100;decide
structure rB(K:Fg):Prop where
 clN:tG K (bA K "NoProgram")
 nNp:jC K (bA K "NoProgram") "part"
 nNr:jC K (bA K "NoProgram") "row"
 nNw:jC K (bA K "NoProgram") "word"
 wyN:Cz K (bA K "NoProgram")
 mNN:GM K (bA K "NoProgram") (bA K "NoProgram")
 mNB:GM K (bA K "NoProgram") (bA K "BeltError")
 iNN:lQ K (bA K "NoProgram") (bA K "NoProgram") true
 iNL:lQ K (bA K "NoProgram") (bA K "NoLine") false
 iNS:lQ K (bA K "NoProgram") (bA K "Short") false
 iNB:lQ K (bA K "NoProgram") (bA K "BeltError") true
 clL:tG K (bA K "NoLine")
 nLl:jC K (bA K "NoLine") "line"
 wyL:Cz K (bA K "NoLine")
 iLB:lQ K (bA K "NoLine") (bA K "BeltError") true
 iLN:lQ K (bA K "NoLine") (bA K "NoProgram") false
 iLL:lQ K (bA K "NoLine") (bA K "NoLine") true
 iLS:lQ K (bA K "NoLine") (bA K "Short") false
 clS:tG K (bA K "Short")
 nSp:jC K (bA K "Short") "part"
 nSr:jC K (bA K "Short") "row"
 nSw:jC K (bA K "Short") "word"
 nSn:jC K (bA K "Short") "names"
 wyS:Cz K (bA K "Short")
 iSB:lQ K (bA K "Short") (bA K "BeltError") true
 iSN:lQ K (bA K "Short") (bA K "NoProgram") false
 iSL:lQ K (bA K "Short") (bA K "NoLine") false
 iSS:lQ K (bA K "Short") (bA K "Short") true
def vL(k n:Int)(w:Str):List (Str×V):=[("part",.int k),("row",.int n),("word",.str w)]
def cV(K:Fg):Sp:=λvs H Q _=>∃(x:Addr) (a b c:V),vs=[.ref x,a,b,c]/\H x=some (XF x (bA K "NoProgram") none)/\
 ∀(dx:Addr) (H':Hp),H dx=none->dx≠x->H' x=some (XF x (bA K "NoProgram") (some dx))->H' dx=some (XD dx [("part",a),("row",b),("word",c)])->gB x H H'->Q .non H'
def fk(K:Fg):Sp:=λvs H Q E=>∃(k:Int) (r:V) (wd:Str),vs=[.int k,r,.str wd]/\((r=.non/\Q .non H)\/
 ∃n:Int,r=.int n/\∀(dx:Addr) (H':Hp),aS H H'->H' dx=some (XD dx (vL k n wd))->E (.ref (bA K "NoProgram")) (some dx) H')
def fK(_:Fg):Sp:=λvs H Q _=>∃(v:V) (b:d8) (cs:List Nat),vs=[v]/\lP H v b/\zq cs b/\((∀n,¬JE b n)->∀(H':Hp),aS H H'->Q .non H')/\
 ∀n:Nat,JE b n->(∀m,m<n->¬JE b m)->∀(H':Hp),aS H H'->Q (.int (n:Nat)) H'
def e9(_:Fg):Sp:=λvs H Q _=>∃(rt:Addr) (rvs:List V) (rs:List bJ),vs=[.ref rt]/\H rt=some (.tup rvs)/\cL (dH H) rvs rs/\rs.length<64/\(∀r∈rs,(dP r).length<=100)/\
 ∀(l:Addr) (ss:List Str) (H':Hp),(∀y,y∈ss↔∃r∈rs,y∈dP r)->ss.length<=7000->H l=none->H' l=some (.lst (ss.map V.str))->aS H H'->Q (.ref l) H'
abbrev tU:Nat:=0
abbrev fz:Nat:=1
abbrev CU:Nat:=2
abbrev nV:Nat:=3
abbrev wg:Nat:=1
abbrev jB:Nat:=2
abbrev xO:Nat:=3
abbrev j9:Nat:=4
def lB(_:Fg):Sp:=λvs H Q _=>∃(rt:Addr) (n:Nat) (rvs:List V) (v:V) (r:bJ),vs=[.ref rt,.int (n:Nat)]/\H rt=some (.tup rvs)/\rvs[n]?=some v/\dH H v r/\∀l,H l=none->Q (.ref l) (upd H l (.lst (bH (cW n r))))
abbrev Mu:Nat:=0
abbrev zf:Nat:=1
def oF(_:Fg):Sp:=λvs H Q _=>∃(v:V) (r:bJ),vs=[v]/\dH H v r/\∀(l:Addr) (H':Hp),H' l=some (.lst ((dP r).map V.str))->H l=none->aS H H'->Q (.ref l) H'
abbrev Mw:Nat:=0
abbrev zh:Nat:=1
def jg(_:Fg):Sp:=λvs H Q _=>∃(pt rt:Addr) (y:Str) (ps:List Str) (rvs:List V) (rs:List bJ),vs=[.ref pt,.ref rt,.str y]/\H pt=some (.tup (ps.map V.str))/\ps.length<=100/\H rt=some (.tup rvs)/\cL (dH H) rvs rs/\ku rs/\
 ∀(l:Addr) (bl:List Bool) (H':Hp),bl.length=rs.length->(∀(m:Nat) b,bl[m]?=some b->(b=true↔y∉ps/\zt rs (some y) m))->H l=none->H' l=some (.lst (bl.map V.bl))->aS H H'->Q (.ref l) H'
abbrev Fp:Nat:=1
abbrev qw:Nat:=2
def mi(_:Fg):Sp:=λvs H Q _=>∃(pt rt:Addr) (rvs:List V) (b:d8) (cs:List Nat),vs=[.ref pt,.ref rt]/\H pt=some (.tup (b.params.map V.str))/\H rt=some (.tup rvs)/\cL (dH H) rvs b.rows/\zq cs b/\
 ∀(l:Addr) (ns:List Nat) (H':Hp),(∀m,m∈ns↔JE b m)->ns.Pairwise (·<=·)->ns.length<=7000->H l=none->H' l=some (.lst (bH ns))->aS H H'->Q (.ref l) H'
abbrev J4:Nat:=2
abbrev vp:Nat:=3
inductive gG where
 |num (x:Str) (z:Int)
 |op (x s a b:Str)
 |call (x:Str) (k:Int) (as:List Str)
 |say (a:Str)
 |jump (to:Int)
 |test (a:Str) (to:Int)
 |give (a:Str)
structure dc where
 name:Str
 params:List Str
 rows:List gG
def rj:gG->Str
 |.num _ _=>"num"|.op _ _ _ _=>"op"|.call _ _ _=>"call"|.say _=>"say"|.jump _=>"jump"|.test _ _=>"test"|.give _=>"give"
def eS(H:Hp)(v:V):gG->Prop
 |.num x z=>∃p,v=.ref p/\H p=some (.tup [.str "num",.str x,.int z])
 |.op x s a b=>∃p,v=.ref p/\H p=some (.tup [.str "op",.str x,.str s,.str a,.str b])
 |.call x k as=>∃p q,v=.ref p/\H p=some (.tup [.str "call",.str x,.int k,.ref q])/\H q=some (.tup (as.map V.str))
 |.say a=>∃p,v=.ref p/\H p=some (.tup [.str "say",.str a])
 |.jump to=>∃p,v=.ref p/\H p=some (.tup [.str "jump",.int to])
 |.test a to=>∃p,v=.ref p/\H p=some (.tup [.str "test",.str a,.int to])
 |.give a=>∃p,v=.ref p/\H p=some (.tup [.str "give",.str a])
theorem eS.mono{H H':Hp}{v:V}{r:gG}(h:eS H v r)(t:Tp H H'):eS H' v r:=by
 cases r with
 |num x z=>obtain⟨p,e,h⟩:=h;exact⟨p,e,t _ _ h⟩
 |op x s a b=>obtain⟨p,e,h⟩:=h;exact⟨p,e,t _ _ h⟩
 |call x k as=>obtain⟨p,q,e,h,h'⟩:=h;exact⟨p,q,e,t _ _ h,t _ _ h'⟩
 |say a=>obtain⟨p,e,h⟩:=h;exact⟨p,e,t _ _ h⟩
 |jump to=>obtain⟨p,e,h⟩:=h;exact⟨p,e,t _ _ h⟩
 |test a to=>obtain⟨p,e,h⟩:=h;exact⟨p,e,t _ _ h⟩
 |give a=>obtain⟨p,e,h⟩:=h;exact⟨p,e,t _ _ h⟩
theorem eS.ref{H:Hp}{v:V}{r:gG}(h:eS H v r):∃p xs,v=.ref p/\H p=some (.tup (.str (rj r)::xs)):=by
 cases r with
 |num x z=>obtain⟨p,e,h⟩:=h;exact⟨p,_,e,h⟩
 |op x s a b=>obtain⟨p,e,h⟩:=h;exact⟨p,_,e,h⟩
 |call x k as=>obtain⟨p,q,e,h,h'⟩:=h;exact⟨p,_,e,h⟩
 |say a=>obtain⟨p,e,h⟩:=h;exact⟨p,_,e,h⟩
 |jump to=>obtain⟨p,e,h⟩:=h;exact⟨p,_,e,h⟩
 |test a to=>obtain⟨p,e,h⟩:=h;exact⟨p,_,e,h⟩
 |give a=>obtain⟨p,e,h⟩:=h;exact⟨p,_,e,h⟩
def gG.low:gG->bJ
 |.num x z=>.num x z
 |.op x s a b=>.op x s a b
 |.call x k as=>.call x k.toNat as
 |.say a=>.say a
 |.jump to=>.jump to.toNat
 |.test a to=>.test a to.toNat
 |.give a=>.give a
def bJ.up:bJ->gG
 |.num x z=>.num x z
 |.op x s a b=>.op x s a b
 |.call x k as=>.call x (k:Nat) as
 |.say a=>.say a
 |.jump to=>.jump (to:Nat)
 |.test a to=>.test a (to:Nat)
 |.give a=>.give a
theorem bJ.up_low(r:bJ):r.up.low=r:=by cases r<;>simp[bJ.up,gG.low]
theorem dH.up{H:Hp}{v:V}{r:bJ}(h:dH H v r):eS H v r.up:=by cases r<;>exact h
def gG.ok0:gG->Prop
 |.call _ k _=>0<=k
 |.jump to=>0<=to
 |.test _ to=>0<=to
 |_=>True
theorem eS.low{H:Hp}{v:V}{r:gG}(h:eS H v r)(k:r.ok0):dH H v r.low:=by
 cases r with
 |call x n as=>obtain⟨p,q,e,h,h'⟩:=h;exact⟨p,q,e,by rw[show((n.toNat:Nat):Int)=n from by have:0<=n:=k;lia];exact h,h'⟩
 |jump to=>obtain⟨p,e,h⟩:=h;exact⟨p,e,by rw[show((to.toNat:Nat):Int)=to from by have:0<=to:=k;lia];exact h⟩
 |test a to=>obtain⟨p,e,h⟩:=h;exact⟨p,e,by rw[show((to.toNat:Nat):Int)=to from by have:0<=to:=k;lia];exact h⟩
 |num x z=>exact h
 |op x s a b=>exact h
 |say a=>exact h
 |give a=>exact h
def yA:gG->V
 |.jump to=>.int to
 |.test _ to=>.int to
 |_=>.non
def rD:gG->Bool
 |.jump _=>true
 |.give _=>true
 |_=>false
theorem Kc(r:gG):jF r.low=rD r:=by cases r<;>rfl
def DT(cs:List Nat)(n:Nat):gG->Prop
 |.call _ k as=>k<0\/cs[k.toNat]?≠some as.length
 |.jump to=>to<0\/(n:Int)<=to
 |.test _ to=>to<0\/(n:Int)<=to
 |_=>False
theorem DT.ok0{cs:List Nat}{n:Nat}{r:gG}(h:¬DT cs n r):r.ok0:=by
 cases r with
 |call x k as=>exact vE.mp λz=>h (.inl z)
 |jump to=>exact vE.mp λz=>h (.inl z)
 |test a to=>exact vE.mp λz=>h (.inl z)
 |_=>trivial
def Mb(cs:List Nat)(ws:List gG)(n:Nat):Prop:=∃r,ws[n]?=some r/\(DT cs ws.length r\/(n+1=ws.length/\rD r=false))
def pe(rs:List bJ)(n:Nat):Prop:=(∃r,rs[n]?=some r/\h9 r=true)/\∃k,runJ rs (k+1) n=n
section
variable(f:Nat->Nat)(p:Nat->Bool)
variable{f p}
theorem Dn:∀(L:Nat) (g:Nat->Nat),(∀k,k<=L->g k<L)->∃i j,i<j/\j<=L/\g i=g j
 |0,g,h=>absurd (h 0 (aD _)) (by omega)
 |L+1,g,h=>by
  by_cases hx:∃i,i<L+1/\g i=g (L+1)
  ·obtain⟨i,hi,e⟩:=hx
   exact⟨i,L+1,hi,aD _,e⟩
  ·have hne:∀i,i<L+1->g i≠g (L+1):=λi hi e=>hx ⟨i,hi,e⟩
   have hb:=h (L+1) (aD _)
   have key:∀k,k<=L->(if g k=L then g (L+1) else g k)<L:=λk hk=>by
    have h1:=h k (by omega)
    have h2:=hne k (by omega)
    by_cases e:g k=L
    ·rw[if_pos e]
     have h3:g (L+1)≠L:=λz=>h2 (by rw[e,z])
     omega
    ·rw[if_neg e];omega
   obtain⟨i,j,hij,hj,e⟩:=Dn L (λk=>if g k=L then g (L+1) else g k) key
   refine⟨i,j,hij,by omega,?_⟩
   by_cases e1:g i=L
   ·by_cases e2:g j=L
    ·rw[e1,e2]
    ·simp only[if_pos e1,if_neg e2] at e
     exact absurd e.symm (hne j (by omega))
   ·by_cases e2:g j=L
    ·simp only[if_neg e1,if_pos e2] at e
     exact absurd e (hne i (by omega))
    ·simp only[if_neg e1,if_neg e2] at e
     exact e
end
theorem ju(rs:List bJ):∀(a b n:Nat),runJ rs (a+b) n=runJ rs b (runJ rs a n)
 |0,b,n=>by rw[Nat.zero_add];rfl
 |a+1,b,n=>by
  rw[Nat.add_right_comm]
  show runJ rs (a+b) (stp rs n)=runJ rs b (runJ rs a (stp rs n))
  exact ju rs a b _
theorem Dy{rs:List bJ}(hg:∀r∈rs,∀t:Nat,lT r=.int (t:Nat)->t<rs.length){n:Nat}(hn:n<rs.length):stp rs n<rs.length:=by
 unfold stp
 cases e:rs[n]? with
 |none=>exact hn
 |some r=>
  cases r with
  |jump t=>exact hg _ (aH e) t rfl
  |_=>exact hn
theorem qC{rs:List bJ}(hg:∀r∈rs,∀t:Nat,lT r=.int (t:Nat)->t<rs.length):∀(k:Nat) {n:Nat},n<rs.length->runJ rs k n<rs.length
 |0,_,hn=>hn
 |k+1,n,hn=>qC hg k (Dy hg hn)
def kG(rs:List bJ)(n:Nat):Prop:=∃r,rs[n]?=some r/\h9 r=true
theorem Be{rs:List bJ}{n:Nat}(h:¬kG rs n):∀r,rs[n]?=some r->h9 r=false:=λr e=>by
 cases c:h9 r with
 |false=>rfl
 |true=>exact absurd ⟨r,e,c⟩ h
theorem stay{rs:List bJ}{n:Nat}(h:¬kG rs n)(k:Nat):runJ rs k n=n:=qD (Be h) k
theorem uv{rs:List bJ}{n a b:Nat}(h:kG rs (runJ rs b n))(le:a<=b):kG rs (runJ rs a n):=by
 apply Classical.byContradiction
 intro c
 have e:runJ rs b n=runJ rs a n:=by
  rw[show b=a+(b-a) from by lia,ju];exact stay c _
 rw[e] at h;exact c h
theorem FF{rs:List bJ}(hg:∀r∈rs,∀t:Nat,lT r=.int (t:Nat)->t<rs.length)(h:∀n,¬pe rs n):tN rs:=by
 intro n hn r e
 cases c:h9 r with
 |false=>rfl
 |true=>
  exfalso
  obtain⟨i,j,lt,le,q⟩:=Dn rs.length (λk=>runJ rs k n) λk _=>qC hg k hn
  have ji:kG rs (runJ rs i n):=uv (b:=rs.length) ⟨r,e,c⟩ (by lia)
  refine h (runJ rs i n) ⟨ji,j-i-1,?_⟩
  rw[<-ju,show i+(j-i-1+1)=j from by lia]
  exact q.symm
theorem pe.first{rs:List bJ}(hg:∀r∈rs,∀t:Nat,lT r=.int (t:Nat)->t<rs.length){n:Nat}(hn:n<rs.length)(h:pe rs n):∃p,1<=p/\p<=rs.length/\runJ rs p n=n/\∀q,1<=q->q<p->runJ rs q n≠n:=by
 obtain⟨_,k,e⟩:=h
 obtain⟨p,⟨p1,ep⟩,mn⟩:=Ob (p:=λp=>1<=p/\runJ rs p n=n) (k+1) ⟨by lia,e⟩
 refine⟨p,p1,?_,ep,λq q1 lt z=>mn q lt ⟨q1,z⟩⟩
 apply Classical.byContradiction
 intro big
 obtain⟨i,j,lt,le,q⟩:=Dn rs.length (λk=>runJ rs k n) λk _=>qC hg k hn
 have q':runJ rs i n=runJ rs j n:=q
 refine mn (i+(p-j)) (by lia) ⟨by lia,?_⟩
 rw[ju,q',<-ju,show j+(p-j)=p from by lia];exact ep
theorem pe.jumps{rs:List bJ}{n:Nat}(h:pe rs n)(a:Nat):kG rs (runJ rs a n):=by
 obtain⟨j,k,e⟩:=h
 have all:∀m,runJ rs (m*(k+1)) n=n:=λm=>by
  induction m with
  |zero=>rw[Nat.zero_mul];rfl
  |succ m ih=>rw[Nat.succ_mul,ju,ih,e]
 refine uv (b:=a*(k+1)) (by rw[all];exact j) ?_
 exact Nat.le_mul_of_pos_right a (by lia)
theorem IE{rs:List bJ}(hg:∀r∈rs,∀t:Nat,lT r=.int (t:Nat)->t<rs.length){n i:Nat}(hn:n<rs.length)(df:∀a b,a<b->b<i->runJ rs a n≠runJ rs b n)(jp:∀a,a<i->kG rs (runJ rs a n))
  (en:¬kG rs (runJ rs i n)\/∃j,j<i/\runJ rs i n=runJ rs j n):(runJ rs i n=n/\0<i)↔pe rs n:=by
 constructor
 ·rintro⟨e,pos⟩
  exact⟨jp 0 pos,i-1,by rw[show i-1+1=i from by lia];exact e⟩
 ·intro rg
  obtain⟨p,p1,_,ep,mn⟩:=rg.first hg hn
  rcases en with c|⟨j,lt,ej⟩
  ·exact absurd (rg.jumps i) c
  ·have pi:i<=p:=by
    apply Classical.byContradiction
    intro z
    exact df 0 p (by lia) (by lia) ep.symm
   refine⟨?_,by lia⟩
   by_cases c:p=i
   ·rw[<-c];exact ep
   ·by_cases j0:j=0
    ·subst j0;exact ej
    ·exfalso
     refine mn (j+(p-i)) (by lia) (by lia) ?_
     rw[ju,<-ej,<-ju,show i+(p-i)=p from by lia];exact ep
def oY(rs:List bJ)(n m:Nat):Nat:=if m=n then m else stp rs m
def uf(rs:List bJ)(n:Nat):Nat->Nat->Nat
 |0,m=>m
 |k+1,m=>oY rs n (uf rs n k m)
theorem Lk{rs:List bJ}{n:Nat}(k:Nat):(∃q,1<=q/\q<=k+1/\runJ rs q n=n/\uf rs n k (stp rs n)=n)\/((∀q,1<=q->q<=k+1->runJ rs q n≠n)/\uf rs n k (stp rs n)=runJ rs (k+1) n):=by
 induction k with
 |zero=>
  by_cases c:runJ rs 1 n=n
  ·exact .inl ⟨1,by lia,by lia,c,c⟩
  ·exact .inr ⟨λq q1 q2=>by rw[show q=1 from by lia];exact c,rfl⟩
 |succ k ih=>
  rcases ih with⟨q,q1,q2,e,l⟩|⟨no,l⟩
  ·refine .inl ⟨q,q1,by lia,e,?_⟩
   show oY rs n (uf rs n k (stp rs n))=n
   rw[l];unfold oY;rw[if_pos rfl]
  ·have st:uf rs n (k+1) (stp rs n)=runJ rs (k+2) n:=by
    show oY rs n (uf rs n k (stp rs n))=_
    rw[l];unfold oY
    rw[if_neg (no (k+1) (by lia) (by lia)),<-nE]
   by_cases c:runJ rs (k+2) n=n
   ·exact .inl ⟨k+2,by lia,by lia,c,by rw[st];exact c⟩
   ·refine .inr ⟨λq q1 q2=>?_,st⟩
    by_cases z:q=k+2
    ·rw[z];exact c
    ·exact no q q1 (by lia)
theorem Gf{rs:List bJ}(hg:∀r∈rs,∀t:Nat,lT r=.int (t:Nat)->t<rs.length){n:Nat}(hn:n<rs.length)(j:kG rs n):uf rs n rs.length (stp rs n)=n↔pe rs n:=by
 rcases Lk (rs:=rs) (n:=n) rs.length with⟨q,q1,q2,e,l⟩|⟨no,l⟩
 ·exact⟨λ_=>⟨j,q-1,by rw[show q-1+1=q from by lia];exact e⟩,λ_=>l⟩
 ·constructor
  ·intro z
   rw[l] at z
   exact absurd z (no _ (by lia) (by lia))
  ·intro rg
   obtain⟨p,p1,p2,ep,_⟩:=rg.first hg hn
   exact absurd ep (no p p1 (by lia))
def dc.low(b:dc):d8:=⟨b.name,b.params,b.rows.map gG.low⟩
def ue(r:gG):List Str:=dP r.low
structure Cy(b:dc):Prop where
 p9:b.params.length<=100
 few:b.rows.length<64
 rd:∀r∈b.rows,(ue r).length<=100
structure kJ(ps:List dc):Prop where
 few:ps.length<=100
 part:∀b∈ps,Cy b
def jN(ps:List dc):List Nat:=ps.map (·.params.length)
def qL(ps:List dc)(k:Nat)(b:dc):Prop:=b.name∈(ps.take k).map (·.name)\/¬b.params.Nodup
def r8(cs:List Nat)(b:dc)(n:Nat):Prop:=(b.rows=[]/\n=0)\/Mb cs b.rows n
def rX(p:Nat->Prop)(n:Nat):Prop:=p n/\∀m,m<n->¬p m
theorem rX.one{p:Nat->Prop}{n m:Nat}(a:rX p n)(b:rX p m):n=m:=by
 rcases mC n m with lt|eq|lt
 ·exact absurd a.1 (b.2 n lt)
 ·exact eq
 ·exact absurd b.1 (a.2 m lt)
inductive nq(ps:List dc)(k:Nat)(b:dc):Nat->Str->Prop where
 |name:qL ps k b->nq ps k b 0 "name"
 |row {n:Nat}:¬qL ps k b->rX (r8 (jN ps) b) n->nq ps k b n "row"
 |ring {n:Nat}:¬qL ps k b->(∀m,¬r8 (jN ps) b m)->rX (pe b.low.rows) n->nq ps k b n "ring"
 |unset {n:Nat}:¬qL ps k b->(∀m,¬r8 (jN ps) b m)->(∀m,¬pe b.low.rows m)->rX (JE b.low) n->nq ps k b n "unset"
structure ym(ps:List dc)(k:Nat)(b:dc):Prop where
 name:¬qL ps k b
 row:∀m,¬r8 (jN ps) b m
 ring:∀m,¬pe b.low.rows m
 unset:∀m,¬JE b.low m
theorem nq.not{ps:List dc}{k:Nat}{b:dc}{n:Nat}{w:Str}(h:nq ps k b n w)(c:ym ps k b):False:=by
 cases h with
 |name z=>exact c.name z
 |row _ z=>exact c.row _ z.1
 |ring _ _ z=>exact c.ring _ z.1
 |unset _ _ _ z=>exact c.unset _ z.1
theorem nq.one{ps:List dc}{k:Nat}{b:dc}{n m:Nat}{w u:Str}(h:nq ps k b n w)(h':nq ps k b m u):n=m/\w=u:=by
 cases h with
 |name z=>cases h' with
  |name _=>exact⟨rfl,rfl⟩
  |row q _=>exact absurd z q
  |ring q _ _=>exact absurd z q
  |unset q _ _ _=>exact absurd z q
 |row z y=>cases h' with
  |name q=>exact absurd q z
  |row _ q=>exact⟨y.one q,rfl⟩
  |ring _ q _=>exact absurd y.1 (q _)
  |unset _ q _ _=>exact absurd y.1 (q _)
 |ring z y x=>cases h' with
  |name q=>exact absurd q z
  |row _ q=>exact absurd q.1 (y _)
  |ring _ _ q=>exact⟨x.one q,rfl⟩
  |unset _ _ q _=>exact absurd x.1 (q _)
 |unset z y x v=>cases h' with
  |name q=>exact absurd q z
  |row _ q=>exact absurd q.1 (y _)
  |ring _ _ q=>exact absurd q.1 (x _)
  |unset _ _ _ q=>exact⟨v.one q,rfl⟩
def vJ(ps:List dc):Prop:=∀(k:Nat) b,ps[k]?=some b->ym ps k b
structure rn(ps:List dc)(k n:Nat)(w:Str):Prop where
 at_:∃b,ps[k]?=some b/\nq ps k b n w
 ahead:∀(j:Nat) b,j<k->ps[j]?=some b->ym ps j b
def DY(ps:List dc)(i j:Int)(w:Str):Prop:=(vJ ps/\i=-1/\j=0/\w="")\/∃k n:Nat,rn ps k n w/\i=(k:Int)/\j=(n:Int)
theorem rn.clean{ps:List dc}{k n:Nat}{w:Str}(f:rn ps k n w):¬vJ ps:=λc=>by
 obtain⟨b,e,h⟩:=f.at_
 exact h.not (c k b e)
theorem rn.one{ps:List dc}{k n k' n':Nat}{w w':Str}(f:rn ps k n w)(g:rn ps k' n' w'):k=k'/\n=n'/\w=w':=by
 obtain⟨b,e,u⟩:=f.at_
 obtain⟨b',e',u'⟩:=g.at_
 have ek:k=k':=by
  rcases mC k k' with lt|eq|lt
  ·exact(u.not (g.ahead k b lt e)).elim
  ·exact eq
  ·exact(u'.not (f.ahead k' b' lt e')).elim
 subst ek
 rw[e] at e';cases e'
 exact⟨rfl,u.one u'⟩
theorem DY.one{ps:List dc}{i j i' j':Int}{w w':Str}(a:DY ps i j w)(b:DY ps i' j' w'):i=i'/\j=j'/\w=w':=by
 rcases a with⟨c,rfl,rfl,rfl⟩|⟨k,n,f,rfl,rfl⟩<;>rcases b with⟨c',rfl,rfl,rfl⟩|⟨k',n',f',rfl,rfl⟩
 ·exact⟨rfl,rfl,rfl⟩
 ·exact absurd c f'.clean
 ·exact absurd c' f.clean
 ·obtain⟨e1,e2,e3⟩:=f.one f'
  subst e1;subst e2;subst e3;exact⟨rfl,rfl,rfl⟩
theorem vC{cs:List Nat}{b:dc}(h:∀m,¬r8 cs b m):∀r∈b.rows,¬DT cs b.rows.length r:=λr hr z=>by
 obtain⟨i,hi,e⟩:=cF.mp hr
 exact h i (.inr ⟨r,by rw[ao hi,e],.inl z⟩)
theorem v9{cs:List Nat}{b:dc}(h:∀m,¬r8 cs b m):∀r∈b.low.rows,∀t:Nat,lT r=.int (t:Nat)->t<b.low.rows.length:=λr hr t e=>by
 obtain⟨r0,hr0,rfl⟩:=cB.mp hr
 have nb:=vC h r0 hr0
 show t<(b.rows.map gG.low).length
 rw[ai]
 cases r0 with
 |jump to=>
  have hn:¬(to<0\/(b.rows.length:Int)<=to):=nb
  have:to.toNat=t:=by injection e with e;lia
  lia
 |test a to=>
  have hn:¬(to<0\/(b.rows.length:Int)<=to):=nb
  have:to.toNat=t:=by injection e with e;lia
  lia
 |_=>cases e
theorem BA{ps:List dc}{k:Nat}{b:dc}(wd:Cy b)(hn:¬qL ps k b)(h:∀m,¬r8 (jN ps) b m)(hr:∀m,¬pe b.low.rows m):zq (jN ps) b.low:=by
 have gl:=v9 h
 have ne:b.rows≠[]:=λz=>h 0 (.inl ⟨z,rfl⟩)
 have pos:0<b.rows.length:=cP.mpr ne
 have ll:b.low.rows.length=b.rows.length:=ai ..
 have la:b.low.rows.getLast?.map jF=some true:=by
  show((b.rows.map gG.low).getLast?).map jF=some true
  rw[cx,ai,aO]
  have lt:b.rows.length-1<b.rows.length:=by lia
  rw[ao lt,cR,cR,Kc]
  cases c:rD b.rows[b.rows.length-1] with
  |true=>rfl
  |false=>exact absurd (.inr ⟨_,ao lt,.inr ⟨by lia,c⟩⟩) (h (b.rows.length-1))
 refine⟨Classical.not_not.mp λz=>hn (.inr z),wd.p9,⟨by lia,by rw[ll];exact wd.few,A1 gl la,FF gl hr⟩,gl,λx k as hm=>?_,la,λr hm=>?_⟩
 ·obtain⟨r0,hr0,e⟩:=cB.mp hm
  have nb:=vC h r0 hr0
  cases r0 with
  |call x' k' as'=>
   injection e with e1 e2 e3
   rw[<-e2,<-e3]
   have hn:¬(k'<0\/(jN ps)[k'.toNat]?≠some as'.length):=nb
   exact Classical.not_not.mp λz=>hn (.inr z)
  |_=>cases e
 ·obtain⟨r0,hr0,rfl⟩:=cB.mp hm
  exact wd.rd r0 hr0
def lh(H:Hp)(v:V)(b:dc):Prop:=∃p q r rs,v=.ref p/\H p=some (.tup [.str b.name,.ref q,.ref r])/\H q=some (.tup (b.params.map V.str))/\H r=some (.tup rs)/\cL (eS H) rs b.rows
def fV(H:Hp)(p:Addr)(ps:List dc):Prop:=∃pvs,H p=some (.tup pvs)/\cL (lh H) pvs ps
theorem lh.mono{H H':Hp}{v:V}{b:dc}(h:lh H v b)(t:Tp H H'):lh H' v b:=by
 obtain⟨p,q,r,rs,e,h1,h2,h3,h4⟩:=h
 exact⟨p,q,r,rs,e,t _ _ h1,t _ _ h2,t _ _ h3,h4.imp λ_ _ z=>z.mono t⟩
theorem fV.mono{H H':Hp}{p:Addr}{ps:List dc}(h:fV H p ps)(t:Tp H H'):fV H' p ps:=by
 obtain⟨pvs,e,a⟩:=h
 exact⟨pvs,t _ _ e,a.imp λ_ _ z=>z.mono t⟩
theorem lh.low{cs:List Nat}{H:Hp}{v:V}{b:dc}(h:lh H v b)(ok:∀m,¬r8 cs b m):lP H v b.low:=by
 obtain⟨p,q,r,rs,e,h1,h2,h3,h4⟩:=h
 refine⟨p,q,r,rs,e,h1,h2,h3,by rw[h4.len];exact(ai ..).symm,λi v r' ev er=>?_⟩
 have er:(b.rows.map gG.low)[i]?=some r':=er
 rw[aO] at er
 obtain⟨r0,e0,rfl⟩:=cG.mp er
 exact(h4.at_ i v r0 ev e0).low (DT.ok0 (vC ok r0 (aH e0)))
def zd(n:Nat):gG->Prop
 |.jump to=>to<0\/(n:Int)<=to
 |.test _ to=>to<0\/(n:Int)<=to
 |_=>False
def GF(cs:List Nat):gG->Prop
 |.call _ k as=>k<0\/cs[k.toNat]?≠some as.length
 |_=>False
theorem zx{cs:List Nat}{n:Nat}{r:gG}:DT cs n r↔zd n r\/GF cs r:=by
 cases r with
 |call x k as=>exact⟨λz=>.inr z,λz=>z.elim (λq=>q.elim) id⟩
 |jump to=>exact⟨λz=>.inl z,λz=>z.elim id (λq=>q.elim)⟩
 |test a to=>exact⟨λz=>.inl z,λz=>z.elim id (λq=>q.elim)⟩
 |num x z=>exact⟨λz=>z.elim,λz=>z.elim id id⟩
 |op x s a b=>exact⟨λz=>z.elim,λz=>z.elim id id⟩
 |say a=>exact⟨λz=>z.elim,λz=>z.elim id id⟩
 |give a=>exact⟨λz=>z.elim,λz=>z.elim id id⟩
def j4(_:Fg):Sp:=λvs H Q _=>∃(v:V) (r:gG),vs=[v]/\eS H v r/\Q (yA r) H
def fJ(K:Fg):Sp:=λvs H Q _=>∃(x:Addr) (a:V),vs=[.ref x,a]/\H x=some (XF x (bA K "NoLine") none)/\
 ∀(dx:Addr) (H':Hp),H dx=none->dx≠x->H' x=some (XF x (bA K "NoLine") (some dx))->H' dx=some (XD dx [("line",a)])->gB x H H'->Q .non H'
def gr(K:Fg):Sp:=λvs H Q _=>∃(x:Addr) (a b c d:V),vs=[.ref x,a,b,c,d]/\H x=some (XF x (bA K "Short") none)/\
 ∀(dx:Addr) (H':Hp),H dx=none->dx≠x->H' x=some (XF x (bA K "Short") (some dx))->H' dx=some (XD dx [("part",a),("row",b),("word",c),("names",d)])->gB x H H'->Q .non H'
def gu(K:Fg):Sp:=λvs H Q E=>∃(p:Addr) (ps:List dc),vs=[.ref p]/\fV H p ps/\kJ ps/\(vJ ps->∀(H':Hp),aS H H'->Q .non H')/\
 ∀(k n:Nat) (w:Str),rn ps k n w->∀(dx:Addr) (H':Hp),aS H H'->H' dx=some (XD dx (vL k n w))->E (.ref (bA K "NoProgram")) (some dx) H'
def gy(_:Fg):Sp:=λvs H Q _=>∃(p:Addr) (k:Nat) (ps:List dc) (b:dc),vs=[.ref p,.int (k:Nat)]/\fV H p ps/\kJ ps/\ps[k]?=some b/\(qL ps k b->∀(H':Hp),aS H H'->Q (.int 0) H')/\(¬qL ps k b->∀(H':Hp),aS H H'->Q .non H')
def gW(_:Fg):Sp:=λvs H Q _=>∃(p:Addr) (k:Nat) (ps:List dc) (b:dc),vs=[.ref p,.int (k:Nat)]/\fV H p ps/\kJ ps/\ps[k]?=some b/\
 (∀n:Nat,rX (r8 (jN ps) b) n->∀(H':Hp),aS H H'->Q (.int (n:Nat)) H')/\((∀m,¬r8 (jN ps) b m)->∀(H':Hp),aS H H'->Q .non H')
def eK(_:Fg):Sp:=λvs H Q _=>∃(rt:Addr) (v:V) (rvs:List V) (r:gG),vs=[.ref rt,v]/\H rt=some (.tup rvs)/\eS H v r/\∀(b:Bool),(b=true↔zd rvs.length r)->Q (.bl b) H
def eI(_:Fg):Sp:=λvs H Q _=>∃(p:Addr) (v:V) (ps:List dc) (r:gG),vs=[.ref p,v]/\fV H p ps/\eS H v r/\∀(b:Bool),(b=true↔GF (jN ps) r)->Q (.bl b) H
def vj(rs:List bJ):Prop:=∀r∈rs,∀t:Nat,lT r=.int (t:Nat)->t<rs.length
def gA(_:Fg):Sp:=λvs H Q _=>∃(rt:Addr) (rvs:List V) (rs:List bJ),vs=[.ref rt]/\H rt=some (.tup rvs)/\cL (dH H) rvs rs/\rs.length<64/\vj rs/\
 (∀n:Nat,rX (pe rs) n->∀(H':Hp),aS H H'->Q (.int (n:Nat)) H')/\((∀m,¬pe rs m)->∀(H':Hp),aS H H'->Q .non H')
def eJ(_:Fg):Sp:=λvs H Q _=>∃(rt:Addr) (n:Nat) (rvs:List V) (rs:List bJ),vs=[.ref rt,.int (n:Nat)]/\H rt=some (.tup rvs)/\cL (dH H) rvs rs/\rs.length<64/\vj rs/\n<rs.length/\
 ∀(b:Bool) (H':Hp),(b=true↔pe rs n)->aS H H'->Q (.bl b) H'
def jd(_:Fg):Sp:=λvs H Q _=>∃(p rt:Addr) (n:Nat) (rvs:List V) (ps:List dc) (ws:List gG),vs=[.ref p,.ref rt,.int (n:Nat)]/\fV H p ps/\H rt=some (.tup rvs)/\cL (eS H) rvs ws/\n<ws.length/\
 ∀(b:Bool) (H':Hp),(b=true↔Mb (jN ps) ws n)->aS H H'->Q (.bl b) H'
def mh(_:Fg):Sp:=λvs H Q _=>∃(rt:Addr) (n:Nat) (rvs:List V) (rs:List bJ),vs=[.ref rt,.int (n:Nat)]/\H rt=some (.tup rvs)/\cL (dH H) rvs rs/\vj rs/\n<rs.length/\
 ∀(b:Bool) (H':Hp),(b=true↔pe rs n)->aS H H'->Q (.bl b) H'
def iF(_:Fg):Sp:=λvs H Q _=>∃(p:Addr) (k:Nat) (ps:List dc) (b:dc),vs=[.ref p,.int (k:Nat)]/\fV H p ps/\kJ ps/\ps[k]?=some b/\
 ∀(l:Addr) (refs:List V) (H':Hp),H' l=some (.lst refs)->((ym ps k b/\refs=[])\/∃(q:Addr) (n:Nat) (w:Str) (rest:List V),refs=.ref q::rest/\H' q=some (.tup [.int (n:Nat),.str w])/\nq ps k b n w)->aS H H'->Q (.ref l) H'
def vv(H:Hp)(q:Addr)(ps:List dc):Prop:=∃i j w,DY ps i j w/\H q=some (.tup [.int i,.int j,.str w])
def rK(_:Fg):Sp:=λvs H Q _=>∃(p:Addr) (ps:List dc),vs=[.ref p]/\fV H p ps/\kJ ps/\∀(q:Addr) (H':Hp),vv H' q ps->aS H H'->Q (.ref q) H'
def oG(_:Fg):Sp:=λvs H Q _=>∃(p:Addr) (ps:List dc),vs=[.ref p]/\fV H p ps/\kJ ps/\∀(q:Addr) (H':Hp),vv H' q ps->aS H H'->Q (.ref q) H'
def je(_:Fg):Sp:=λvs H Q _=>∃(p:Addr) (ps:List dc),vs=[.ref p]/\fV H p ps/\kJ ps/\¬vJ ps/\∀(l:Addr) (H':Hp),H' l=some (.lst [.bl true,.bl true,.bl false])->aS H H'->Q (.ref l) H'
def jL(_:Fg):Sp:=λvs H Q _=>∃(p d:Addr) (ps:List dc),vs=[.ref p,.ref d]/\fV H p ps/\kJ ps/\vv H d ps/\∀(H':Hp),aS H H'->Q (.bl true) H'
def eP(K:Fg):Sp:=λvs H Q _=>∃(st p rt:Addr) (k:Nat) (pvs rvs:List V) (ws:List gG),vs=[.ref st,.ref p,.ref rt]/\ke K H st k/\k<=500000/\H p=some (.tup pvs)/\0<pvs.length/\pvs.length<=100/\H rt=some (.tup rvs)/\cL (eS H) rvs ws/\0<ws.length/\ws.length<64/\(∀r∈ws,(ue r).length<=100)/\
 ∀(rt':Addr) (rvs':List V) (ws':List gG) (k':Nat) (H':Hp),H' rt'=some (.tup rvs')->cL (eS H') rvs' ws'->ws'.length=ws.length->(∀r∈ws',(ue r).length<=100)->ke K H' st k'->k'<=k+20->gB st H H'->Q (.ref rt') H'
def jZ(K:Fg):Sp:=λvs H Q _=>∃(st p:Addr) (k:Nat) (ps:List dc),vs=[.ref st,.ref p]/\ke K H st k/\k<=400000/\fV H p ps/\kJ ps/\0<ps.length/\
 ∀(p':Addr) (ps':List dc) (k':Nat) (H':Hp),fV H' p' ps'->kJ ps'->ps'.length=ps.length->ke K H' st k'->k'<=k+30->gB st H H'->Q (.ref p') H'
def gs(_:Fg):Sp:=λvs H Q _=>∃(k n:Int) (w:Str),vs=[.int k,.int n,.str w]/\∀(H':Hp),Q (.bl true) H'
abbrev xN:Nat:=0
abbrev j8:Nat:=1
abbrev zP:Nat:=0
abbrev kT:Nat:=1
abbrev Fl:Nat:=4
abbrev lD:Nat:=5
abbrev zR:Nat:=0
abbrev kW:Nat:=1
abbrev AX:Nat:=2
abbrev mG:Nat:=3
abbrev u4:Nat:=1
abbrev i5:Nat:=2
abbrev uZ:Nat:=0
abbrev iZ:Nat:=1
abbrev zS:Nat:=2
abbrev kX:Nat:=3
abbrev u0:Nat:=1
abbrev i4:Nat:=2
abbrev Fj:Nat:=0
abbrev qp:Nat:=1
abbrev J3:Nat:=0
abbrev vo:Nat:=1
abbrev CW:Nat:=3
abbrev nX:Nat:=4
abbrev N9:Nat:=4
abbrev DV:Nat:=5
abbrev zT:Nat:=1
abbrev kY:Nat:=2
abbrev Hk:Nat:=2
abbrev rW:Nat:=3
abbrev Mx:Nat:=5
abbrev zi:Nat:=6
abbrev Fk:Nat:=5
abbrev qr:Nat:=6
abbrev J1:Nat:=6
abbrev vm:Nat:=7
abbrev zQ:Nat:=2
abbrev kU:Nat:=3
abbrev Oa:Nat:=7
abbrev DW:Nat:=8
end Bg
end
section
namespace Bg
open PySem PySem.Spec PyProof.Rows L2
abbrev gN:List Str:=["row"]
abbrev tM:List Str:=["row","word"]
def BU(K:Fg):TS:=(cE (dM aE))
def BV(K:Fg):TS:=(bz (cM (bI (bb ((Ah K false)) (aj 1) (dM (af (tC (.str "say")) (af (tC (.str "test")) (af (tC (.str "give")) aE)))))) (cE (dM (af (bb (cS K) (aj 0) (tC (.int 1))) aE))) bY) (BU K))
def BW(K:Fg):TS:=(bz (cM (bI (bb (fM K) (aj 1) (tC (.str "call")))) (cE (fN (ma K) (af (bb (cS K) (aj 0) (tC (.int 3))) aE))) bY) (BV K))
def BX(K:Fg):TS:=(bz (cM (bI (bb (fM K) (aj 1) (tC (.str "op")))) (cE (dM (af (bb (cS K) (aj 0) (tC (.int 3))) (af (bb (cS K) (aj 0) (tC (.int 4))) aE)))) bY) (BW K))
def yX(K:Fg):TS:=(bz (bR (bb (cS K) (aj 0) (tC (.int 0))) (aR 1)) (BX K))
abbrev jS:List Str:=["row"]
abbrev vN:List Str:=["row"]
def DK(K:Fg):TS:=(cE (tC .non))
def BY(K:Fg):TS:=(bz (cM (bI (bb ((Ah K false)) (bb (cS K) (aj 0) (tC (.int 0))) (dM (af (tC (.str "num")) (af (tC (.str "op")) (af (tC (.str "call")) aE)))))) (cE (bb (cS K) (aj 0) (tC (.int 1)))) bY) (DK K))
abbrev eW:List Str:=["row"]
abbrev rZ:List Str:=["row"]
def DI(K:Fg):TS:=(cE (tC .non))
def DJ(K:Fg):TS:=(bz (cM (bI (bb (fM K) (bb (cS K) (aj 0) (tC (.int 0))) (tC (.str "test")))) (cE (bb (cS K) (aj 0) (tC (.int 2)))) bY) (DI K))
def xi(K:Fg):TS:=(bz (cM (bI (bb (fM K) (bb (cS K) (aj 0) (tC (.int 0))) (tC (.str "jump")))) (cE (bb (cS K) (aj 0) (tC (.int 1)))) bY) (DJ K))
abbrev ja:List Str:=["rows","n"]
abbrev tL:List Str:=["rows","n","word"]
def BP(K:Fg):TS:=(cE (dM (af (bb (eY K) (aj 1) (tC (.int 1))) aE)))
def BQ(K:Fg):TS:=(bz (cM (bI (bb (fM K) (aj 2) (tC (.str "test")))) (cE (dM (af (bb (eY K) (aj 1) (tC (.int 1))) (af (bG (gK K) [] E0 (af (bb (cS K) (aj 0) (aj 1)) aE)) aE)))) bY) (BP K))
def BR(K:Fg):TS:=(bz (cM (bI (bb (fM K) (aj 2) (tC (.str "jump")))) (cE (dM (af (bG (gK K) [] E0 (af (bb (cS K) (aj 0) (aj 1)) aE)) aE))) bY) (BQ K))
def BS(K:Fg):TS:=(bz (cM (bI (bb (fM K) (aj 2) (tC (.str "give")))) (cE (dM aE)) bY) (BR K))
def yW(K:Fg):TS:=(bz (bR (bb (cS K) (bb (cS K) (aj 0) (aj 1)) (tC (.int 0))) (aR 2)) (BS K))
abbrev iz:List Str:=["rows","unset"]
abbrev rq:List Str:=["rows","unset","found","waiting","n","to"]
def Aw(K:Fg):TS:=(cE (fN Iq (af (aj 2) aE)))
def Ax(K:Fg):TS:=(mq (IL K "list" lq (aj 3) (af (aj 5) aE)))
def oH(K:Fg):TS:=(cM (bI (bb ((Il true)) (aj 5) (aj 2))) (bz (bR (tC (.bl true)) (lS (aj 2) (aj 5) Er)) (Ax K)) bY)
def sY(K:Fg):TS:=(cM (Dz (bI (bb (Ou) (aj 1) (tC .non))) (bI (bb (vc K) (bG (jY K) [] E0 (af (bb (cS K) (aj 0) (aj 4)) aE)) (aj 1)))) (jM (lU K (bG (iD K) [] E0 (af (aj 0) (af (aj 4) aE)))) (aR 5) (oH K)) bY)
def Ay(K:Fg):TS:=(bz (bR (Ls K "list" Nw (aj 3)) (aR 4)) (sY K))
def sZ(K:Fg):TS:=(bz (uj (bI (bb (FU) (fN (eA K) (af (aj 3) aE)) (tC (.int 0)))) (Ay K)) (Aw K))
def tf(K:Fg):TS:=(bz (bR (fL (af (tC (.int 0)) aE)) (aR 3)) (sZ K))
def xo(K:Fg):TS:=(bz (bR (IM [((tC (.int 0)),(tC (.bl true)))]) (aR 2)) (tf K))
abbrev dw:List Str:=["self","part","row","word"]
abbrev jP:List Str:=["self","part","row","word"]
def rM(K:Fg):TS:=(qO K (aj 0) (aj 3) "word")
def rN(K:Fg):TS:=(bz (qO K (aj 0) (aj 2) "row") (rM K))
def nK(K:Fg):TS:=(bz (qO K (aj 0) (aj 1) "part") (rN K))
abbrev iy:List Str:=["part","row","word"]
abbrev rp:List Str:=["part","row","word"]
def xk(K:Fg)(E:XK):TS:=(cM (bI (bb (LX) (aj 1) (tC .non))) (DB K E (ui (bA K "NoProgram") (cV K) (af (aj 0) (af (aj 1) (af (aj 2) aE))))) bY)
abbrev fF:List Str:=["part"]
abbrev kc:List Str:=["part","rows","due","name"]
def vi(K:Fg):TS:=(cE (IP K (af (aj 2) aE)))
def oU(K:Fg):TS:=(cM (bI (bb ((Ah K true)) (aj 3) (bb (cS K) (aj 0) (tC (.int 1))))) (mq (IL K "list" Eo (aj 2) (af (kC [] 1 (lU K (bG (iE K) [] E0 (af (aj 1) (af (aj 3) aE)))) (aR 4) (bI (bb ((Ah K false)) (aj 3) (bG (gz K) [] E0 (af (bb (cS K) (aj 1) (aj 4)) aE)))) (aj 4)) aE))) bY)
def oV(K:Fg):TS:=(bz (jM (lU K (bG (e9 K) [] E0 (af (aj 1) aE))) (aR 3) (oU K)) (vi K))
def oW(K:Fg):TS:=(bz (bR (fL aE) (aR 2)) (oV K))
def qZ(K:Fg):TS:=(bz (bR (bb (cS K) (aj 0) (tC (.int 2))) (aR 1)) (oW K))
abbrev e6:List Str:=["rows"]
abbrev lH:List Str:=["rows","names","row","name"]
def uk(K:Fg):TS:=(cE (fN Ip (af (aj 1) aE)))
def nM(K:Fg):TS:=(bR (tC (.bl true)) (lS (aj 1) (aj 3) Er))
def nO(K:Fg):TS:=(jM (lU K (bG (gz K) [] E0 (af (aj 2) aE))) (aR 3) (nM K))
def nP(K:Fg):TS:=(bz (jM (lU K (aj 0)) (aR 2) (nO K)) (uk K))
def p0(K:Fg):TS:=(bz (bR Av (aR 1)) (nP K))
abbrev oa:List Str:=["_law_rows","_law_n"]
abbrev Cu:List Str:=["_law_rows","_law_n"]
def I0(K:Fg):TS:=(cE (fL (af (bb (eY K) (aj 1) (tC (.int 1))) aE)))
def Ja(K:Fg):TS:=(bz (cM (bI (bb (fM K) (bb (cS K) (bb (cS K) (aj 0) (aj 1)) (tC (.int 0))) (tC (.str "give")))) (cE (fL aE)) bY) (I0 K))
def Jb(K:Fg):TS:=(bz (cM (bI (bb (fM K) (bb (cS K) (bb (cS K) (aj 0) (aj 1)) (tC (.int 0))) (tC (.str "test")))) (cE (fL (af (bb (eY K) (aj 1) (tC (.int 1))) (af (bb (cS K) (bb (cS K) (aj 0) (aj 1)) (tC (.int 2))) aE)))) bY) (Ja K))
def IZ(K:Fg):TS:=(bz (cM (bI (bb (fM K) (bb (cS K) (bb (cS K) (aj 0) (aj 1)) (tC (.int 0))) (tC (.str "jump")))) (cE (fL (af (bb (cS K) (bb (cS K) (aj 0) (aj 1)) (tC (.int 1))) aE))) bY) (Jb K))
abbrev jc:List Str:=["_law_params","_law_rows","_law_x"]
abbrev nj:List Str:=["_law_params","_law_rows","_law_x","_law_there","_law_left","_law_n","_law_m"]
def qm(K:Fg):TS:=(cE (aj 3))
def Ce(K:Fg):TS:=(mq (IL K "list" lq (aj 4) (af (aj 6) aE)))
def mT(K:Fg):TS:=(cM (BE (tB (bb (cS K) (aj 3) (aj 6)))) (bz (bR (tC (.bl true)) (lS (aj 3) (aj 6) jt)) (Ce K)) bY)
def uS(K:Fg):TS:=(cM (Dz (bI (bb ((Ah K true)) (bb (cS K) (bb (cS K) (aj 1) (aj 5)) (tC (.int 0))) (dM (af (tC (.str "num")) (af (tC (.str "op")) (af (tC (.str "call")) aE)))))) (bI (bb (vc K) (bb (cS K) (bb (cS K) (aj 1) (aj 5)) (tC (.int 1))) (aj 2)))) (jM (lU K (bG (lB K) [] E0 (af (aj 1) (af (aj 5) aE)))) (aR 6) (mT K)) bY)
def Cf(K:Fg):TS:=(bz (bR (Ls K "list" Nw (aj 4)) (aR 5)) (uS K))
def uT(K:Fg):TS:=(bz (uj (bI (bb (vc K) (aj 4) (fL aE))) (Cf K)) (qm K))
def uU(K:Fg):TS:=(bz (bR (kC [5] 0 (ky (af (fN (eA K) (af (aj 1) aE)) aE)) (aR 5) (tB (bb (cS K) (aj 3) (aj 5))) (aj 5)) (aR 4)) (uT K))
def y9(K:Fg):TS:=(bz (bR (kC [5] 0 (ky (af (fN (eA K) (af (aj 1) aE)) aE)) (aR 5) rL (yM (bb (fM K) (aj 5) (tC (.int 0))) (bb ((Ah K true)) (aj 2) (aj 0)))) (aR 3)) (uU K))
abbrev oh:List Str:=["_law_row"]
abbrev Cv:List Str:=["_law_row"]
def Je(K:Fg):TS:=(cE (fL aE))
def Jf(K:Fg):TS:=(bz (cM (bI (bb ((Ah K false)) (bb (cS K) (aj 0) (tC (.int 0))) (dM (af (tC (.str "say")) (af (tC (.str "test")) (af (tC (.str "give")) aE)))))) (cE (fL (af (bb (cS K) (aj 0) (tC (.int 1))) aE))) bY) (Je K))
def Jg(K:Fg):TS:=(bz (cM (bI (bb (fM K) (bb (cS K) (aj 0) (tC (.int 0))) (tC (.str "call")))) (cE (fN (vB K) (af (bb (cS K) (aj 0) (tC (.int 3))) aE))) bY) (Jf K))
def Jd(K:Fg):TS:=(bz (cM (bI (bb (fM K) (bb (cS K) (aj 0) (tC (.int 0))) (tC (.str "op")))) (cE (fL (af (bb (cS K) (aj 0) (tC (.int 3))) (af (bb (cS K) (aj 0) (tC (.int 4))) aE)))) bY) (Jg K))
abbrev lN:List Str:=["_law_params","_law_rows"]
abbrev zo:List Str:=["_law_params","_law_rows","_law_found","_law_n","_law_x"]
def Gv(K:Fg):TS:=(cE (aj 2))
def y4(K:Fg):TS:=(cM (tB (bb (cS K) (bG (jg K) [] E0 (af (aj 0) (af (aj 1) (af (aj 4) aE)))) (aj 3))) (mq (IL K "list" lq (aj 2) (af (aj 3) aE))) bY)
def y7(K:Fg):TS:=(jM (lU K (bG (oF K) [] E0 (af (bb (cS K) (aj 1) (aj 3)) aE))) (aR 4) (y4 K))
def y8(K:Fg):TS:=(bz (jM (ky (af (fN (eA K) (af (aj 1) aE)) aE)) (aR 3) (y7 K)) (Gv K))
def EN(K:Fg):TS:=(bz (bR (fL aE) (aR 2)) (y8 K))
end Bg
end
section
namespace PySem
open Sem (wp)
open AutoSeq1 (wpAny_loadPart')
section
variable{prog:Program}{w:World}{A:Around}{E:Value->Shared->Prop}{s:Shared}
theorem Dc{ib tb:Addr}{i:Nat}{its:Array Value}{x:Value}{Q:Value->Shared->Prop}(hib:s.heap.IsTupleIter ib tb i)(htb:s.heap.IsTuple tb its)(hx:its[i]?=some x)
  (hQ:∀h',h'.IsTupleIter ib tb (i+1)->Heap.SameBut ib s.heap h'->Q x {s with heap:=h'}):wpAny (model prog w) A (Builtin.SmallTypes.nextOf (.ref ib)) Q E s:=by
 obtain⟨ob,hob,hcb,hdb⟩:=id hib
 obtain⟨ot,hot,_,nt,hdt⟩:=htb
 unfold Builtin.SmallTypes.nextOf
 refine wpAny_bind (wpAny_callSpecial?_slot (name:=Str.ofString "__next__") hib.typeIs F.slot_tuple_iterator_next (wpAny_call_entry F.slot_tuple_iterator_next hib.typeIs F.entry_tuple_iterator_next ?_ (F.args_tuple_iterator_next_1 _)))
 show wpAny _ _ (field (.ref ib) 0 >>= _) _ _ s
 refine wpAny_bind (wpAny_field hob hdb (x:=.ref tb) rfl ?_)
 show wpAny _ _ (if(Value.ref tb==Value.none)=true then _ else _) _ _ s
 rw[if_neg (show ¬((Value.ref tb==Value.none)=true) from Bool.false_ne_true)]
 show wpAny _ _ (field (.ref ib) 1 >>= _) _ _ s
 refine wpAny_bind (wpAny_field hob hdb (x:=.int i 0) rfl ?_)
 show wpAny _ _ (seqItems? (.ref tb) >>= _) _ _ s
 refine wpAny_bind (wpAny_seqItems hot hdt ?_)
 simp only[fQ,hx]
 refine wpAny_bind (wpAny_setField hob hdb (by simp) (wpAny_pure ⟨x,rfl,wpAny_pure (hQ _ ?_ (Heap.SameBut.update ..))⟩))
 exact⟨_,dk _ hob (Obj.isFreed_of_fields (Obj.data_mapFields hdb _)),(Obj.cls_mapFields ..).trans hcb,by rw[Obj.data_mapFields hdb];simp[rawInt]⟩
theorem yE{ib tb:Addr}{i:Nat}{its:Array Value}{Q:Value->Shared->Prop}(hh:A.handled=none)(hib:s.heap.IsTupleIter ib tb i)(htb:s.heap.IsTuple tb its)(hx:its[i]?=none)
  (hE:∀h' e,Heap.ExtBut ib s.heap h'->(∃o,h'.get? e=some o/\o.cls=.type "StopIteration")->E (.ref e) {s with heap:=h'}):wpAny (model prog w) A (Builtin.SmallTypes.nextOf (.ref ib)) Q E s:=by
 obtain⟨ob,hob,hcb,hdb⟩:=id hib
 obtain⟨ot,hot,_,nt,hdt⟩:=htb
 unfold Builtin.SmallTypes.nextOf
 refine wpAny_bind (wpAny_callSpecial?_slot (name:=Str.ofString "__next__") hib.typeIs F.slot_tuple_iterator_next (wpAny_call_entry F.slot_tuple_iterator_next hib.typeIs F.entry_tuple_iterator_next ?_ (F.args_tuple_iterator_next_1 _)))
 show wpAny _ _ (field (.ref ib) 0 >>= _) _ _ s
 refine wpAny_bind (wpAny_field hob hdb (x:=.ref tb) rfl ?_)
 show wpAny _ _ (if(Value.ref tb==Value.none)=true then _ else _) _ _ s
 rw[if_neg (show ¬((Value.ref tb==Value.none)=true) from Bool.false_ne_true)]
 show wpAny _ _ (field (.ref ib) 1 >>= _) _ _ s
 refine wpAny_bind (wpAny_field hob hdb (x:=.int i 0) rfl ?_)
 show wpAny _ _ (seqItems? (.ref tb) >>= _) _ _ s
 refine wpAny_bind (wpAny_seqItems hot hdt ?_)
 simp only[fQ,hx]
 refine wpAny_bind (wpAny_rule (wpAny_bind (wpAny_setField hob hdb (by simp) ?_)))
 show wpAny _ _ (newExc (.type "StopIteration") [] >>= _) _ _ _
 refine wpAny_bind ?_
 simp only[newExc,newTuple]
 refine wpAny_bind (wpAny_newObj_type ?_ (by size_fits))
 refine wpAny_bind (m:=firstArgMember _ _) (wpAny_of_eq (a:=Value.none) (by first|rfl|(simp only[firstArgMember];rfl)) ?_)
 refine wpAny_newObj_type ?_ (by size_fits)
 simp only[raiseNew]
 refine wpAny_bind (wpAny_handled ?_)
 first|rw[show A.in1.handled=none from hh]|rw[hh]
 refine wpAny_bind (wpAny_pure (wpAny_throw ?_))
 exact hE _ _ (((Heap.SameBut.update ..).extBut.push _).push _) ⟨_,aZ _ rfl,rfl⟩
end
theorem Ml{prog:Program}{w:World}{A:Around}(hh:A.handled=none)(ib tb:Addr)(hne:tb≠ib)(its:Array Value) :
  Draws prog w A ib [ib,tb] its.size (λi v=>its[i]?=some v) (λi h=>h.IsTupleIter ib tb i/\h.IsTuple tb its) where
 live:=λ_ _ st=>let⟨o,ho,_⟩:=st.1;⟨o,ho⟩
 frame:=λ_ _ _ st hk=>⟨st.1.at λo e=>hk ib (by simp) o e,let⟨o,ho,r⟩:=st.2;⟨o,hk tb (by simp) o ho,r⟩⟩
 item:=λi s Q E hi st hQ=>Dc st.1 st.2 (x:=its[i]) (by simp[hi]) λh' hit' hs'=>hQ _ h' s.toks (by simp[hi]) ⟨hit',st.2.extBut hs'.extBut hne⟩ hs'
 done:=λs Q E st hE=>yE hh st.1 st.2 (by simp) hE
theorem Ba(tb:Addr)(its:Array Value)(n:Nat)(dct:Option Addr)(sl:Array (Option Value)) :
  Meets (Builtin.«enumerate.__new__» ⟨[.type "enumerate",.ref tb],[]⟩) (λ_ R s=>s.heap.get? tb=some {cls:=.type "tuple",dict:=dct,data:=.seq its n,slots:=sl}/\
   R (.ok (.ret (.ref (s.heap.push {cls:=.type "tuple_iterator",data:=.fields #[.ref tb,.int 0 0]}).objs.size)))
    {s with heap:=(s.heap.push {cls:=.type "tuple_iterator",data:=.fields #[.ref tb,.int 0 0]}).push {cls:=.type "enumerate",data:=.fields #[.none,.bool false,.ref s.heap.objs.size,rawInt 0,.none,.none]}}):=
 .of_wp λprog w A R s h=>by
  obtain⟨hp,g,d,tk,os⟩:=s;obtain⟨hl,h⟩:=h
  have hsub:=sub_enumerate
  have hL:Heap.IsTuple (Shared.heap ⟨hp,g,d,tk,os⟩) tb its:=⟨_,hl,rfl,n,rfl⟩
  wp_walk using wpAny_loadPart' hl
  refine wpAny_stack_any λst=>wpAny_pure ?_
  split
  ·rename_i c _ _ _ _ _
   cases(c==Value.type "enumerate")
   ·wp_walk using wpAny_loadPart' hl,wpAny_pyIter_tuple hL
    exact⟨_,rfl,h⟩
   ·wp_walk using wpAny_loadPart' hl,wpAny_pyIter_tuple hL
    exact⟨_,rfl,h⟩
  ·wp_walk using wpAny_loadPart' hl,wpAny_pyIter_tuple hL
   exact⟨_,rfl,h⟩
theorem CD{prog:Program}{w:World}{A:Around}{E:Value->Shared->Prop}{s:Shared}{tb:Addr}{its:Array Value}{Q:Value->Shared->Prop}(hL:s.heap.IsTuple tb its)
  (h:∀h',IsEnum h' (s.heap.objs.size+1) s.heap.objs.size 0 .none->h'.IsTupleIter s.heap.objs.size tb 0->h'.objs.size=s.heap.objs.size+2->(∀b o,s.heap.get? b=some o->h'.get? b=some o)->Q (.ref (s.heap.objs.size+1)) {s with heap:=h'}) :
  wpAny (model prog w) A (call (.type "enumerate") [.ref tb]) Q E s:=by
 obtain⟨⟨c,dct,dt,sl⟩,hl,hc,n,hd⟩:=hL
 replace hc:c=.type "tuple":=hc
 replace hd:dt=.seq its n:=hd
 subst hc hd
 refine callType_new F.called_enumerate (by decide) (F.typeCall_enumerate_1 _) (F.newCall_enumerate_1 _) (λobj=>F.args_object_init_2 obj _) F.entry_enumerate_new (Ba tb its n dct sl) ⟨hl,?_⟩
 have hz:(s.heap.push {cls:=.type "tuple_iterator",data:=.fields #[.ref tb,.int 0 0]}).objs.size=s.heap.objs.size+1:=dG ..
 show _/\_
 rw[hz]
 have he:IsEnum ((s.heap.push {cls:=.type "tuple_iterator",data:=.fields #[.ref tb,.int 0 0]}).push {cls:=.type "enumerate",data:=.fields #[.none,.bool false,.ref s.heap.objs.size,rawInt 0,.none,.none]}) (s.heap.objs.size+1) s.heap.objs.size 0 .none:=by
  have:=aZ (s.heap.push {cls:=.type "tuple_iterator",data:=.fields #[.ref tb,.int 0 0]}) (o:={cls:=.type "enumerate",data:=.fields #[.none,.bool false,.ref s.heap.objs.size,rawInt 0,.none,.none]}) rfl
  rw[hz] at this;exact this
 refine⟨⟨_,he,rfl⟩,h _ he ⟨_,az _ (aZ _ rfl),rfl,rfl⟩ (by rw[dG,hz]) λb o x=>az _ (az _ x)⟩
end PySem
namespace L2
open PySem PySem.Spec PyProof.Rows
def GH(K:Fg)(a:Addr):It:=
 ⟨λi H=>∃xs x,cY K H a xs/\xs[i]?=some x,λi H x H'=>∃p v,H p=none/\x=.ref p/\H'=upd H p (.tup [.int (i:Nat),v])/\∀xs,cY K H a xs->xs[i]?=some v,λi H=>∃xs,cY K H a xs/\xs.length<=i⟩
theorem DL{P:Program}{w:World}{K:Fg}{elts:List Expr}{k:Nat}{pos:Pos}(a e it:Addr)(hne:e≠it) :
  AG P w K (.Tuple elts k pos) (GH K a) [e,it] e (λi h=>(∃old,IsEnum h e it (i:Nat) old)/\h.IsTupleIter it a i) where
 mem:=by simp
 obj:=λi h st b hb=>by
  obtain⟨⟨old,he⟩,⟨o,ho,c,d⟩⟩:=st
  rcases aV.mp hb with rfl|hb
  ·exact⟨_,he,λv z=>by have z':Data.fields _=Data.cell v:=z;cases z'⟩
  ·rw[av.mp hb]
   exact⟨o,ho,λv z=>by rw[d] at z;cases z⟩
 keep:=λi h h' st k=>⟨let⟨old,he⟩:=st.1;⟨old,k e (by simp) _ he⟩,st.2.at λo q=>k it (by simp) o q⟩
 item:=by
  intro X hP hw hK hc i pins s σ H E I hf st hg
  subst hP hw hK
  obtain⟨⟨old,he⟩,hit⟩:=st
  obtain⟨xs,x,hq,hx⟩:=hg
  obtain⟨its,rv,p,hz⟩:=I.tuple hq
  obtain⟨u,hu,ru⟩:=rv.get hx
  have p':s.heap.IsTuple a its.toArray:=p
  have hlt:i<its.toArray.size:=by have:=(ar.mp hu).1;simpa using this
  have na:a≠it:=by
   intro z;subst z
   obtain⟨o,e1,c1,_⟩:=p'
   obtain⟨o',e2,c2,_⟩:=hit
   rw[e1] at e2;cases e2;rw[c1] at c2
   injection c2 with c3
   exact absurd c3 (by decide)
  have nb:e≠a:=by
   intro z;subst z
   obtain⟨o,e1,c1,_⟩:=p'
   rw[he] at e1;cases e1
   injection c1 with c3
   exact absurd c3 (by decide)
  have Dw:=Ml (prog:=X.prog) (w:=X.w) (A:=X.A.in1) (show X.A.in1.handled=none from I.ok.hd hc) it a na its.toArray
  refine wpAny_pyNext_enum_itemD Dw he ⟨hit,p'⟩ hlt hne (by simp[hne,nb]) λy h1 tk hP ho st1 hT hsz hk=>?_
  have ey:y=u:=by
   have h1:its.toArray[i]?=some y:=hP
   have h2:its[i]?=some y:=by simpa using h1
   rw[hu] at h2;exact(Option.some.inj h2).symm
  subst ey
  refine⟨_,rfl,?_⟩
  have fT:rR X pins H s.heap.objs.size:=I.fpOk (aD _) (I.hok.fresh (aD _))
  refine wpAny_letOwnedTupleGo_enum ho λh2 he2 hs2=>?_
  have helt:e<s.heap.objs.size:=aJ he
  have I1:bW X pins σ H {s with heap:=h2,toks:=tk+1}:=I.turnedL (t':=tk+1) (ch:=[e,it]) (λb o hb q=>by
   have b1:b≠e:=λz=>hb (by simp[z])
   have b2:b≠it:=λz=>hb (by simp[z])
   exact(hs2.2 b b1).trans (hk b o b1 b2 q)) hf
  have gT:h2.get? s.heap.objs.size=some {cls:=.type "tuple",data:=.seq #[.int i tk,y]}:=(hs2.2 _ (jz helt)).trans hT
  have I2:=I1.adopt (T:=s.heap.objs.size) (o:=.tup [.int (i:Nat),x]) fT (Az (X:=X) gT ⟨tk,rfl⟩ ru)
  refine⟨.ref s.heap.objs.size,_,I2,rfl,⟨s.heap.objs.size,x,fT.1,rfl,rfl,λys hy=>by rw[I.tuple_inj hy hq];exact hx⟩,⟨⟨y,?_⟩,?_⟩,λb hb=>?_⟩
  ·have e2:(((i+1:Nat):Nat):Int)=(i:Int)+1:=by lia
   show IsEnum h2 e it (((i+1:Nat):Nat):Int) y
   rw[e2];exact he2
  ·obtain⟨o,q1,q2⟩:=st1.1
   exact⟨o,(hs2.2 it (Ne.symm hne)).trans q1,q2⟩
  ·have nT:b≠s.heap.objs.size:=by
    rcases aV.mp hb with rfl|hb
    ·exact bj helt
    ·rw[av.mp hb]
     obtain⟨o,ho,_⟩:=hit
     exact bj (aJ ho)
   rw[aB nT];exact(hf b hb).1
 done:=by
  intro X hP hw hK hc i pins s σ H E I hf st hg
  subst hP hw hK
  obtain⟨⟨old,he⟩,hit⟩:=st
  obtain⟨xs,hq,hx⟩:=hg
  obtain⟨its,rv,p,hz⟩:=I.tuple hq
  have hl:=rv.length
  have hT:s.TypeIs (.ref e) "enumerate":=⟨_,he,rfl⟩
  unfold pyNext
  refine wpAny_bind (wpAny_attempt (wpAny_callSpecial?_slot (name:=Str.ofString "__next__") hT F.slot_enumerate_next
   (wpAny_call_entry F.slot_enumerate_next hT F.entry_enumerate_next ?_ (F.args_enumerate_next_1 _))))
  show wpAny _ _ (field (.ref e) 2 >>= _) _ _ _
  refine wpAny_bind (wpAny_field he rfl (x:=.ref it) rfl ?_)
  refine wpAny_bind (yE (show X.A.in1.handled=none from I.ok.hd hc) hit (show s.heap.IsTuple a its.toArray from p) (by simp;lia) λh1 x1 eb hx1=>?_)
  obtain⟨o,ho,hcl⟩:=hx1
  refine wpAny_bind (wpAny_isInstance (T:="StopIteration") (b:=true) ⟨o,ho,hcl⟩ isSubtype_stop ?_)
  exact wpAny_pure ⟨rfl,I.turnedL (t':=s.toks) (ch:=[e,it]) (λb ob hb q=>eb b ob (λz=>hb (by simp[z])) q) hf⟩
 self:=λ_ _ _ _ _ st h=>let⟨_,he⟩:=st.1;wpAny_pyIter_enum he h
section
variable{X:Cx}{elts:List Expr}{k:Nat}{tpos:Pos}
def zO(K:Fg)(tl:TA):TI:=λσ H R=>tl σ H λvs H1=>∃a,vs=[.ref a]/\(∃xs,cY K H1 a xs)/\R (GH K a) H1
theorem HW{a:Expr}{ta:TA}{p pos:Pos}(hg:Gl X "enumerate")(hm:X.mg "enumerate"=none)(ha:PA X [a] ta)(hs:starEach [a] X.env=[(false,eval a X.env)]:=by rfl) :
  PI X (.Tuple elts k tpos) (.Call (.Name "enumerate" p) [a] [] pos) (zO X.K ta):=by
 intro pins s σ H R I h
 refine Call_ (mY I hg hm boot_enumerate (dr (gZ (ha pos pins s σ H _ I h) λus s1 ⟨vs,H1,I1,r1,q1⟩=>?_) hs rfl))
 obtain⟨l,e,⟨xs,hq⟩,q⟩:=q1
 subst e
 cases r1 with
 |cons r rr=>
  cases rr
  cases r
  obtain⟨its,rv,pl,hz⟩:=I1.tuple hq
  refine CD (show s1.heap.IsTuple l its.toArray from pl) λh1 he hit hsz hk=>?_
  refine wpAny_pyIter_enum he ?_
  have I2:bW X pins σ H1 {s1 with heap:=h1}:=I1.kept (t':=s1.toks) hk
  refine⟨s1.heap.objs.size+1,[s1.heap.objs.size+1,s1.heap.objs.size],_,_,H1,rfl,I2,DL l _ _ (Nat.succ_ne_self _),⟨⟨.none,he⟩,hit⟩,λb hb=>?_,q⟩
  have hb':s1.heap.objs.size<=b:=by
   rcases aV.mp hb with rfl|hb
   ·lia
   ·rw[av.mp hb];exact aD _
  exact I1.fpOk hb' (I1.hok.fresh hb')
theorem Bn{a:Expr}{ta:TA}{p pos:Pos}(hg:Gl X "enumerate")(hm:X.mg "enumerate"=none)(ha:QA X [a] ta)(hs:starEach [a] X.env=[(false,eval a X.env)]:=by rfl):QI X (.Tuple elts k tpos) (.Call (.Name "enumerate" p) [a] [] pos) (zO X.K ta):=
 ⟨HW hg hm ha.1 hs⟩
end
theorem yz{K:Fg}{a:Addr}{xs:List V}{g:TG}{tb:TS}{D:oZ}{σ:St}{H:Hp}(Pv:Nat->St->Hp->Prop)(h0:Pv 0 σ H)(hl:∀i σ H,i<=xs.length->Pv i σ H->cY K H a xs)
  (hs:∀i x σ H p,xs[i]?=some x->H p=none->Pv i σ H->g (.ref p) σ (upd H p (.tup [.int (i:Nat),x])) λσ2 H2=>tb {D with nx:=Pv (i+1),ct:=Pv (i+1),bk:=D.nx} σ2 H2) (hd:∀σ H,Pv xs.length σ H->D.nx σ H) :
  ∃W:Nat->Nat->St->Hp->Prop,(∃m,W 0 m σ H)/\∀i m σ H,W i m σ H->
   ((GH K a).stop i H/\D.nx σ H)\/((GH K a).go i H/\∃N:St->Hp->Prop,(∀σ' H',N σ' H'->∃m',m'<m/\W (i+1) m' σ' H')/\∀x H',(GH K a).yld i H x H'->g x σ H' λσ2 H2=>tb {D with nx:=N,ct:=N,bk:=D.nx} σ2 H2):=by
 refine⟨λi m σ H=>m=xs.length-i/\i<=xs.length/\Pv i σ H,⟨xs.length,by simp,dA _,h0⟩,?_⟩
 rintro i m σ H ⟨rfl,hi,p⟩
 have q:=hl i σ H hi p
 by_cases hlt:i<xs.length
 ·refine .inr ⟨⟨xs,xs[i],q,by simp[hlt]⟩,Pv (i+1),λσ' H' p'=>⟨xs.length-(i+1),by lia,rfl,hlt,p'⟩,λx H' y=>?_⟩
  obtain⟨pp,v,e1,rfl,rfl,y⟩:=y
  exact hs i v σ H pp (y xs q) e1 p
 ·have e:i=xs.length:=by lia
  subst e
  exact .inl ⟨⟨xs,q,aD _⟩,hd σ H p⟩
section
variable{X:Cx}
end
section
variable{X:Cx}
def Io:List V->Hp->VK->Prop:=λxs H Q=>∃x:V,xs=[x,.ty "bool"]/\(x=.non\/∃z,x=.int z)/\Q (.bl false) H
theorem yv:kj X (.builtin "isinstance") Io:=by
 intro pins s σ H xs us Q I r h
 obtain⟨x,rfl,hx,q⟩:=h
 obtain⟨u,w',rfl,r1,r2⟩:=xE r
 cases r2
 rcases hx with rfl|⟨z,rfl⟩
 ·cases r1;exact IsiPair.NoneType_bool ⟨.bl false,H,I.tok _,rfl,q⟩
 ·obtain⟨t,rfl⟩:=r1;exact IsiPair.int_bool ⟨.bl false,H,I.tok _,rfl,q⟩
end
section
variable{X:Cx}
end
end L2
end
section
namespace Bg
open PySem PySem.Spec PyProof.Rows L2
def m8(i:Nat):Stmt:=PySem.Challenge.pw_beltgarth_k14_programs_refused.main.body.getD i (.Pass ⟨0,0,0,0⟩)
abbrev dE:Stmt:=He (m8 2) 0
theorem mP:bT jP dw (aq dE):=⟨rfl,rfl,rfl,by decide +kernel,rfl,by decide +kernel,by decide +kernel⟩
abbrev eL:Stmt:=He (m8 3) 0
abbrev fE:List Str:=["self","line"]
abbrev mW:List Str:=["self","line"]
def qU(K:Fg):TS:=(qO K (aj 0) (aj 1) "line")
theorem pN:bT mW fE (aq eL):=⟨rfl,rfl,rfl,by decide +kernel,rfl,by decide +kernel,by decide +kernel⟩
abbrev fh:Stmt:=He (m8 4) 0
abbrev gi:List Str:=["self","part","row","word","names"]
abbrev nY:List Str:=["self","part","row","word","names"]
def wW(K:Fg):TS:=(qO K (aj 0) (aj 4) "names")
def wX(K:Fg):TS:=(bz (qO K (aj 0) (aj 3) "word") (wW K))
def wY(K:Fg):TS:=(bz (qO K (aj 0) (aj 2) "row") (wX K))
def sO(K:Fg):TS:=(bz (qO K (aj 0) (aj 1) "part") (wY K))
theorem qP:bT nY gi (aq fh):=⟨rfl,rfl,rfl,by decide +kernel,rfl,by decide +kernel,by decide +kernel⟩
abbrev iN:Stmt:=m8 6
theorem wM:bT tM gN (aq iN):=⟨rfl,rfl,rfl,by decide +kernel,rfl,by decide +kernel,by decide +kernel⟩
abbrev jJ:Stmt:=m8 7
theorem yJ:bT vN jS (aq jJ):=⟨rfl,rfl,rfl,by decide +kernel,rfl,by decide +kernel,by decide +kernel⟩
abbrev iY:Stmt:=m8 8
theorem ug:bT rZ eW (aq iY):=⟨rfl,rfl,rfl,by decide +kernel,rfl,by decide +kernel,by decide +kernel⟩
abbrev iM:Stmt:=m8 9
theorem wL:bT tL ja (aq iM):=⟨rfl,rfl,rfl,by decide +kernel,rfl,by decide +kernel,by decide +kernel⟩
abbrev e7:Stmt:=m8 10
theorem uB:bT rq iz (aq e7):=⟨rfl,rfl,rfl,by decide +kernel,rfl,by decide +kernel,by decide +kernel⟩
abbrev iL:Stmt:=m8 12
abbrev gM:List Str:=["program"]
abbrev tK:List Str:=["program","k","part"]
def BM(K:Fg)(E:XK):TS:=(mq (bG (fk K) [] (sC λ_=>E) (af (aj 1) (af (bG (fK K) [] E0 (af (aj 2) aE)) (af (tC (.str "unset")) aE)))))
def BN(K:Fg)(E:XK):TS:=(bz (mq (bG (fk K) [] (sC λ_=>E) (af (aj 1) (af (bG (gA K) [] E0 (af (bb (cS K) (aj 2) (tC (.int 2))) aE)) (af (tC (.str "ring")) aE))))) (BM K E))
def BO(K:Fg)(E:XK):TS:=(bz (mq (bG (fk K) [] (sC λ_=>E) (af (aj 1) (af (bG (gW K) [] E0 (af (aj 0) (af (aj 1) aE))) (af (tC (.str "row")) aE))))) (BN K E))
def uG(K:Fg)(E:XK):TS:=(bz (mq (bG (fk K) [] (sC λ_=>E) (af (aj 1) (af (bG (gy K) [] E0 (af (aj 0) (af (aj 1) aE))) (af (tC (.str "name")) aE))))) (BO K E))
def yV(K:Fg)(E:XK):TS:=(jM (zO K (af (aj 0) aE)) (zM K 2 (jo (aR 1) (jo (aR 2) xK))) (uG K E))
theorem wK:bT tK gM (aq iL):=⟨rfl,rfl,rfl,by decide +kernel,rfl,by decide +kernel,by decide +kernel⟩
abbrev gU:Stmt:=m8 13
theorem uA:bT rp iy (aq gU):=⟨rfl,rfl,rfl,by decide +kernel,rfl,by decide +kernel,by decide +kernel⟩
abbrev eO:Stmt:=m8 14
abbrev gk:List Str:=["program","k"]
abbrev lg:List Str:=["program","k","name","params"]
def xj(K:Fg):TS:=(cE (tC .non))
def pX(K:Fg):TS:=(bz (cM (bI (bb (qH) (vD K (af (aj 3) aE)) (fN (eA K) (af (aj 3) aE)))) (cE (tC (.int 0))) bY) (xj K))
def pY(K:Fg):TS:=(bz (cM (bI (bb ((Ah K false)) (aj 2) (kC [] 1 (lU K (Co (Es K) (aj 0) gC (kP (aj 1)))) (aR 4) rL (bb (cS K) (aj 4) (tC (.int 0)))))) (cE (tC (.int 0))) bY) (pX K))
def pZ(K:Fg):TS:=(bz (bR (bb (cS K) (bb (cS K) (aj 0) (aj 1)) (tC (.int 1))) (aR 3)) (pY K))
def sW(K:Fg):TS:=(bz (bR (bb (cS K) (bb (cS K) (aj 0) (aj 1)) (tC (.int 0))) (aR 2)) (pZ K))
theorem qR:bT lg gk (aq eO):=⟨rfl,rfl,rfl,by decide +kernel,rfl,by decide +kernel,by decide +kernel⟩
abbrev fY:Stmt:=m8 15
abbrev gO:List Str:=["program","k"]
abbrev pA:List Str:=["program","k","rows","n","row"]
def x8(K:Fg):TS:=(cE (tC .non))
def qV(K:Fg):TS:=(bz (cM (bI (bb ((Ah K true)) (bb (cS K) (bb (cS K) (aj 2) (Gi wG (tC (.int 1)))) (tC (.int 0))) (dM (af (tC (.str "jump")) (af (tC (.str "give")) aE))))) (cE (bb (uy) (fN (eA K) (af (aj 2) aE)) (tC (.int 1)))) bY) (x8 K))
def qW(K:Fg):TS:=(cM (Dz (tB (bG (eK K) [] E0 (af (aj 2) (af (aj 4) aE)))) (tB (bG (eI K) [] E0 (af (aj 0) (af (aj 4) aE))))) (cE (aj 3)) bY)
def qX(K:Fg):TS:=(bz (jM (zO K (af (aj 2) aE)) (zM K 2 (jo (aR 3) (jo (aR 4) xK))) (qW K)) (qV K))
def qY(K:Fg):TS:=(bz (cM (bI (bb (fM K) (fN (eA K) (af (aj 2) aE)) (tC (.int 0)))) (cE (tC (.int 0))) bY) (qX K))
def uH(K:Fg):TS:=(bz (bR (bb (cS K) (bb (cS K) (aj 0) (aj 1)) (tC (.int 2))) (aR 2)) (qY K))
theorem sJ:bT pA gO (aq fY):=⟨rfl,rfl,rfl,by decide +kernel,rfl,by decide +kernel,by decide +kernel⟩
abbrev dS:Stmt:=m8 16
abbrev eD:List Str:=["rows","row"]
abbrev kI:List Str:=["rows","row","to"]
def ik(K:Fg):TS:=(cE (yM (bb (LX) (aj 2) (tC .non)) (IQ (bb (qH) (aj 2) (tC (.int 0))) (bb (Lc) (aj 2) (fN (eA K) (af (aj 0) aE))))))
def oS(K:Fg):TS:=(bz (bR (bG (j4 K) [] E0 (af (aj 1) aE)) (aR 2)) (ik K))
theorem nH:bT kI eD (aq dS):=⟨rfl,rfl,rfl,by decide +kernel,rfl,by decide +kernel,by decide +kernel⟩
abbrev dQ:Stmt:=m8 17
abbrev eB:List Str:=["program","row"]
abbrev i6:List Str:=["program","row","k"]
def sR(K:Fg):TS:=(cE (bb (vc K) (fN (eA K) (af (bb (cS K) (aj 1) (tC (.int 3))) aE)) (fN (eA K) (af (bb (cS K) (bb (cS K) (aj 0) (aj 2)) (tC (.int 1))) aE))))
def mQ(K:Fg):TS:=(bz (cM (Dz (bI (bb (qH) (aj 2) (tC (.int 0)))) (bI (bb (Lc) (aj 2) (fN (eA K) (af (aj 0) aE))))) (cE (tC (.bl true))) bY) (sR K))
def sS(K:Fg):TS:=(bz (bR (bb (cS K) (aj 1) (tC (.int 2))) (aR 2)) (mQ K))
def kM(K:Fg):TS:=(bz (cM (bI (bb (vc K) (bb (cS K) (aj 1) (tC (.int 0))) (tC (.str "call")))) (cE (tC (.bl false))) bY) (sS K))
theorem nF:bT i6 eB (aq dQ):=⟨rfl,rfl,rfl,by decide +kernel,rfl,by decide +kernel,by decide +kernel⟩
abbrev fi:Stmt:=m8 18
abbrev gm:List Str:=["rows"]
abbrev nZ:List Str:=["rows","n"]
def xm(K:Fg):TS:=(cE (tC .non))
def qb(K:Fg):TS:=(cM (tB (bG (eJ K) [] E0 (af (aj 0) (af (aj 1) aE)))) (cE (aj 1)) bY)
def sX(K:Fg):TS:=(bz (jM (ky (af (fN (eA K) (af (aj 0) aE)) aE)) (aR 1) (qb K)) (xm K))
theorem qS:bT nZ gm (aq fi):=⟨rfl,rfl,rfl,by decide +kernel,rfl,by decide +kernel,by decide +kernel⟩
abbrev dR:Stmt:=m8 19
abbrev eC:List Str:=["rows","n"]
abbrev kH:List Str:=["rows","n","passed","at"]
def mR(K:Fg):TS:=(cE (yM (bb (fM K) (aj 3) (aj 1)) (bb ((Il false)) (aj 1) (aj 2))))
def sT(K:Fg):TS:=(bR (bG (gK K) [] E0 (af (bb (cS K) (aj 0) (aj 3)) aE)) (aR 3))
def sU(K:Fg):TS:=(bz (bR (tC (.bl true)) (lS (aj 2) (aj 3) Er)) (sT K))
def mS(K:Fg):TS:=(bz (uj (vh (bI (bb (fM K) (bb (cS K) (bb (cS K) (aj 0) (aj 3)) (tC (.int 0))) (tC (.str "jump")))) (bI (bb ((Il true)) (aj 3) (aj 2)))) (sU K)) (mR K))
def sV(K:Fg):TS:=(bz (bR (aj 1) (aR 3)) (mS K))
def oR(K:Fg):TS:=(bz (bR Av (aR 2)) (sV K))
theorem nG:bT kH eC (aq dR):=⟨rfl,rfl,rfl,by decide +kernel,rfl,by decide +kernel,by decide +kernel⟩
abbrev dX:Stmt:=m8 20
theorem pO:bT kc fF (aq dX):=⟨rfl,rfl,rfl,by decide +kernel,rfl,by decide +kernel,by decide +kernel⟩
abbrev d6:Stmt:=m8 21
theorem oQ:bT lH e6 (aq d6):=⟨rfl,rfl,rfl,by decide +kernel,rfl,by decide +kernel,by decide +kernel⟩
abbrev oz:Stmt:=m8 23
theorem Et:bT Ct dZ (aq oz):=⟨rfl,rfl,rfl,by decide +kernel,rfl,by decide +kernel,by decide +kernel⟩
abbrev kh:Stmt:=m8 24
theorem Bv:bT vt lL (aq kh):=⟨rfl,rfl,rfl,by decide +kernel,rfl,by decide +kernel,by decide +kernel⟩
abbrev lA:Stmt:=m8 25
theorem By:bT zp lO (aq lA):=⟨rfl,rfl,rfl,by decide +kernel,rfl,by decide +kernel,by decide +kernel⟩
abbrev fZ:Stmt:=m8 26
theorem sL:bT pB gP (aq fZ):=⟨rfl,rfl,rfl,by decide +kernel,rfl,by decide +kernel,by decide +kernel⟩
abbrev lu:Stmt:=m8 27
theorem Bt:bT zj lJ (aq lu):=⟨rfl,rfl,rfl,by decide +kernel,rfl,by decide +kernel,by decide +kernel⟩
abbrev jI:Stmt:=m8 28
theorem yI:bT vM jR (aq jI):=⟨rfl,rfl,rfl,by decide +kernel,rfl,by decide +kernel,by decide +kernel⟩
abbrev eT:Stmt:=m8 29
theorem sM:bT ko gQ (aq eT):=⟨rfl,rfl,rfl,by decide +kernel,rfl,by decide +kernel,by decide +kernel⟩
abbrev iX:Stmt:=m8 30
theorem yH:bT rY jQ (aq iX):=⟨rfl,rfl,rfl,by decide +kernel,rfl,by decide +kernel,by decide +kernel⟩
abbrev m6:Stmt:=m8 31
theorem Ew:bT zl og (aq m6):=⟨rfl,rfl,rfl,by decide +kernel,rfl,by decide +kernel,by decide +kernel⟩
abbrev hZ:Stmt:=m8 32
theorem wN:bT qx jb (aq hZ):=⟨rfl,rfl,rfl,by decide +kernel,rfl,by decide +kernel,by decide +kernel⟩
abbrev oA:Stmt:=m8 33
theorem Eu:bT Cu oa (aq oA):=⟨rfl,rfl,rfl,by decide +kernel,rfl,by decide +kernel,by decide +kernel⟩
abbrev iJ:Stmt:=m8 34
abbrev i8:List Str:=["_law_program_here","_law_rows","_law_n"]
abbrev tI:List Str:=["_law_program_here","_law_rows","_law_n","_law_row"]
def uD(K:Fg):TS:=(cE (yM (bb (fM K) (aj 2) (bb (uy) (fN (eA K) (af (aj 1) aE)) (tC (.int 1)))) (bb ((Ah K true)) (bb (cS K) (aj 3) (tC (.int 0))) (dM (af (tC (.str "jump")) (af (tC (.str "give")) aE))))))
def pP(K:Fg):TS:=(bz (cM (vh (bI (bb ((Ah K false)) (bb (cS K) (aj 3) (tC (.int 0))) (dM (af (tC (.str "jump")) (af (tC (.str "test")) aE))))) (Dz (bI (bb (qH) (bb (cS K) (aj 3) (Gi wG (tC (.int 1)))) (tC (.int 0)))) (bI (bb (Lc) (bb (cS K) (aj 3) (Gi wG (tC (.int 1)))) (fN (eA K) (af (aj 1) aE)))))) (cE (tC (.bl true))) bY) (uD K))
def uE(K:Fg):TS:=(cE (IQ (bb (vc K) (fN (eA K) (af (bb (cS K) (aj 3) (tC (.int 3))) aE)) (fN (eA K) (af (bb (cS K) (bb (cS K) (aj 0) (bb (cS K) (aj 3) (tC (.int 2)))) (tC (.int 1))) aE))) (bb (fM K) (aj 2) (bb (uy) (fN (eA K) (af (aj 1) aE)) (tC (.int 1))))))
def pQ(K:Fg):TS:=(bz (cM (bI (bb (fM K) (bb (cS K) (aj 3) (tC (.int 0))) (tC (.str "call")))) (bz (cM (Dz (bI (bb (qH) (bb (cS K) (aj 3) (tC (.int 2))) (tC (.int 0)))) (bI (bb (Lc) (bb (cS K) (aj 3) (tC (.int 2))) (fN (eA K) (af (aj 0) aE))))) (cE (tC (.bl true))) bY) (uE K)) bY) (pP K))
def yN(K:Fg):TS:=(bz (bR (bb (cS K) (aj 1) (aj 2)) (aR 3)) (pQ K))
theorem wI:bT tI i8 (aq iJ):=⟨rfl,rfl,rfl,by decide +kernel,rfl,by decide +kernel,by decide +kernel⟩
abbrev ly:Stmt:=m8 35
abbrev lM:List Str:=["_law_rows","_law_n"]
abbrev zm:List Str:=["_law_rows","_law_n","_law_m","_law_turn"]
def Gu(K:Fg):TS:=(cE (bb (fM K) (aj 2) (aj 1)))
def yZ(K:Fg):TS:=(cM (vh (bI (bb (vc K) (aj 2) (aj 1))) (bI (bb (fM K) (bb (cS K) (bb (cS K) (aj 0) (aj 2)) (tC (.int 0))) (tC (.str "jump"))))) (bR (bb (cS K) (bb (cS K) (aj 0) (aj 2)) (tC (.int 1))) (aR 2)) bY)
def y0(K:Fg):TS:=(bz (jM (lU K (aj 0)) (aR 3) (yZ K)) (Gu K))
def y3(K:Fg):TS:=(bz (bR (bb (cS K) (bb (cS K) (aj 0) (aj 1)) (tC (.int 1))) (aR 2)) (y0 K))
def EM(K:Fg):TS:=(bz (cM (bI (bb (vc K) (bb (cS K) (bb (cS K) (aj 0) (aj 1)) (tC (.int 0))) (tC (.str "jump")))) (cE (tC (.bl false))) bY) (y3 K))
theorem Bw:bT zm lM (aq ly):=⟨rfl,rfl,rfl,by decide +kernel,rfl,by decide +kernel,by decide +kernel⟩
abbrev gJ:Stmt:=m8 36
theorem wO:bT nj jc (aq gJ):=⟨rfl,rfl,rfl,by decide +kernel,rfl,by decide +kernel,by decide +kernel⟩
abbrev oB:Stmt:=m8 37
theorem Ex:bT Cv oh (aq oB):=⟨rfl,rfl,rfl,by decide +kernel,rfl,by decide +kernel,by decide +kernel⟩
abbrev lz:Stmt:=m8 38
theorem Bx:bT zo lN (aq lz):=⟨rfl,rfl,rfl,by decide +kernel,rfl,by decide +kernel,by decide +kernel⟩
abbrev fH:Stmt:=m8 39
abbrev iA:List Str:=["_law_program_here","_law_k"]
abbrev lI:List Str:=["_law_program_here","_law_k","_law_name","_law_params","_law_rows","_law_n"]
def tj(K:Fg):TS:=(cE (kC [5] 0 (lU K (bG (mi K) [] E0 (af (aj 3) (af (aj 4) aE)))) (aR 5) rL (dM (af (aj 5) (af (tC (.str "unset")) aE)))))
def tm(K:Fg):TS:=(cM (tB (bG (mh K) [] E0 (af (aj 4) (af (aj 5) aE)))) (cE (fL (af (dM (af (aj 5) (af (tC (.str "ring")) aE))) aE))) bY)
def tq(K:Fg):TS:=(bz (jM (ky (af (fN (eA K) (af (aj 4) aE)) aE)) (aR 5) (tm K)) (tj K))
def tu(K:Fg):TS:=(cM (tB (bG (jd K) [] E0 (af (aj 0) (af (aj 4) (af (aj 5) aE))))) (cE (fL (af (dM (af (aj 5) (af (tC (.str "row")) aE))) aE))) bY)
def tw(K:Fg):TS:=(bz (jM (ky (af (fN (eA K) (af (aj 4) aE)) aE)) (aR 5) (tu K)) (tq K))
def oJ(K:Fg):TS:=(bz (cM (bI (bb (fM K) (fN (eA K) (af (aj 4) aE)) (tC (.int 0)))) (cE (fL (af (dM (af (tC (.int 0)) (af (tC (.str "row")) aE))) aE))) bY) (tw K))
def tD(K:Fg):TS:=(bz (cM (Dz (bI (bb ((Ah K false)) (aj 2) (kC [] 1 (lU K (Co (Es K) (aj 0) gC (kP (aj 1)))) (aR 6) rL (bb (cS K) (aj 6) (tC (.int 0)))))) (bI (bb (qH) (vD K (af (aj 3) aE)) (fN (eA K) (af (aj 3) aE))))) (cE (fL (af (dM (af (tC (.int 0)) (af (tC (.str "name")) aE))) aE))) bY) (oJ K))
def xp(K:Fg):TS:=(bz (bR (bb (cS K) (aj 0) (aj 1)) (zM K 3 (jo (aR 2) (jo (aR 3) (jo (aR 4) xK))))) (tD K))
theorem uC:bT lI iA (aq fH):=⟨rfl,rfl,rfl,by decide +kernel,rfl,by decide +kernel,by decide +kernel⟩
abbrev sI:Stmt:=m8 40
abbrev rz:List Str:=["_law_program_here"]
abbrev GI:List Str:=["_law_program_here","_law_k","_law_found"]
def Lv(K:Fg):TS:=(cE (dM (af (Gi wG (tC (.int 1))) (af (tC (.int 0)) (af (tC (.str "")) aE)))))
def EB(K:Fg):TS:=(cM (bI (bb (Ai K) (aj 2) (fL aE))) (cE (dM (af (aj 1) (af (bb (cS K) (bb (cS K) (aj 2) (tC (.int 0))) (tC (.int 0))) (af (bb (cS K) (bb (cS K) (aj 2) (tC (.int 0))) (tC (.int 1))) aE))))) bY)
def EC(K:Fg):TS:=(bz (bR (bG (iF K) [] E0 (af (aj 0) (af (aj 1) aE))) (aR 2)) (EB K))
def L5(K:Fg):TS:=(bz (jM (ky (af (fN (eA K) (af (aj 0) aE)) aE)) (aR 1) (EC K)) (Lv K))
theorem IG:bT GI rz (aq sI):=⟨rfl,rfl,rfl,by decide +kernel,rfl,by decide +kernel,by decide +kernel⟩
abbrev fj:Stmt:=m8 41
abbrev gp:List Str:=["_law_state","_law_program_here","_law_rows"]
abbrev n5:List Str:=["_law_state","_law_program_here","_law_rows","_law_n","_law_m","_law_sort","_law_to","_law_some","_law_k","_law_p"]
def qc(K:Fg):TS:=(cE (fN (ma K) (af (aj 7) aE)))
def qd(K:Fg):TS:=(bR (dM (af (tC (.str "call")) (af (tC (.str "zz")) (af (aj 8) (af (bb (jV K) (dM (af (tC (.str "zz")) aE)) (bG (bC K) [] E0 (af (aj 0) (af (tC (.int 6)) aE)))) aE))))) (lS (aj 7) (aj 3) jt))
def xq(K:Fg):TS:=(cM (bI (bb (vc K) (aj 9) (aj 3))) (bR (dM (af (tC (.str "jump")) (af (aj 3) aE))) (lS (aj 7) (aj 9) jt)) bY)
def xr(K:Fg):TS:=(bz (bR (dM (af (tC (.str "jump")) (af (aj 9) aE))) (lS (aj 7) (aj 4) jt)) (xq K))
def qe(K:Fg):TS:=(bz (bR (dM (af (tC (.str "jump")) (af (aj 4) aE))) (lS (aj 7) (aj 3) jt)) (xr K))
def qf(K:Fg):TS:=(bz (cM (bI (bb (fM K) (aj 5) (tC (.int 0)))) (bR (dM (af (tC (.str "jump")) (af (aj 6) aE))) (lS (aj 7) (aj 3) jt)) (cM (bI (bb (fM K) (aj 5) (tC (.int 1)))) (bR (dM (af (tC (.str "test")) (af (tC (.str "zz")) (af (aj 6) aE)))) (lS (aj 7) (aj 3) jt)) (cM (bI (bb (fM K) (aj 5) (tC (.int 2)))) (bz (bR (bb (cS K) (fL (af (Gi wG (tC (.int 1))) (af (fN (eA K) (af (aj 1) aE)) (af (bG (bC K) [] E0 (af (aj 0) (af (fN (eA K) (af (aj 1) aE)) aE))) aE)))) (bG (bC K) [] E0 (af (aj 0) (af (tC (.int 3)) aE)))) (aR 8)) (qd K)) (cM (bI (bb (fM K) (aj 5) (tC (.int 3)))) (bR (bb (cS K) (fL (af (dM (af (tC (.str "num")) (af (tC (.str "zz")) (af (tC (.int 5)) aE)))) (af (dM (af (tC (.str "say")) (af (tC (.str "zz")) aE))) (af (dM (af (tC (.str "give")) (af (tC (.str "zz")) aE))) aE)))) (bG (bC K) [] E0 (af (aj 0) (af (tC (.int 3)) aE)))) (lS (aj 7) (bb (uy) (fN (eA K) (af (aj 2) aE)) (tC (.int 1))) jt)) (cM (bI (bb (fM K) (aj 5) (tC (.int 4)))) (bz (bR (bb (cS K) (fL (af (aj 3) (af (bG (bC K) [] E0 (af (aj 0) (af (fN (eA K) (af (aj 2) aE)) aE))) aE))) (bG (bC K) [] E0 (af (aj 0) (af (tC (.int 2)) aE)))) (aR 9)) (qe K)) (bR (dM (af (tC (.str "op")) (af (tC (.str "zz")) (af (tC (.str "+")) (af (tC (.str "zz")) (af (tC (.str "zy")) aE)))))) (lS (aj 7) (aj 3) jt))))))) (qc K))
def qg(K:Fg):TS:=(bz (bR (fN (vB K) (af (aj 2) aE)) (aR 7)) (qf K))
def qh(K:Fg):TS:=(bz (bR (bb (cS K) (fL (af (Gi wG (tC (.int 1))) (af (Gi wG (tC (.int 2))) (af (fN (eA K) (af (aj 2) aE)) (af (bb (eY K) (fN (eA K) (af (aj 2) aE)) (tC (.int 1))) (af (aj 4) aE)))))) (bG (bC K) [] E0 (af (aj 0) (af (tC (.int 5)) aE)))) (aR 6)) (qg K))
def qi(K:Fg):TS:=(bz (bR (bG (bC K) [] E0 (af (aj 0) (af (tC (.int 6)) aE))) (aR 5)) (qh K))
def oX(K:Fg):TS:=(bz (bR (bG (bC K) [] E0 (af (aj 0) (af (fN (eA K) (af (aj 2) aE)) aE))) (aR 4)) (qi K))
def tE(K:Fg):TS:=(bz (bR (bG (bC K) [] E0 (af (aj 0) (af (fN (eA K) (af (aj 2) aE)) aE))) (aR 3)) (oX K))
theorem qT:bT n5 gp (aq fj):=⟨rfl,rfl,rfl,by decide +kernel,rfl,by decide +kernel,by decide +kernel⟩
abbrev jK:Stmt:=m8 42
abbrev jT:List Str:=["_law_state","_law_program_here"]
abbrev vO:List Str:=["_law_state","_law_program_here","_law_k","_law_name","_law_params","_law_rows","_law_sort"]
def mr(K:Fg):TS:=(cE (bb (rJ K) (bb (rJ K) (Co (FV K) (aj 1) gC (kP (aj 2))) (dM (af (dM (af (aj 3) (af (aj 4) (af (aj 5) aE)))) aE))) (Co (FV K) (aj 1) (kP (bb (rJ K) (aj 2) (tC (.int 1)))) gC)))
def xt(K:Fg):TS:=(bz (cM (bI (bb (Dq K) (aj 6) (tC (.int 0)))) (bR (bb (cS K) (bb (cS K) (aj 1) (bG (bC K) [] E0 (af (aj 0) (af (fN (eA K) (af (aj 1) aE)) aE)))) (tC (.int 0))) (aR 3)) (cM (vh (bI (bb (Dq K) (aj 6) (tC (.int 1)))) (bI (bb (qH) (fN (eA K) (af (aj 4) aE)) (tC (.int 4))))) (bR (bb (rJ K) (aj 4) (Co (FV K) (bb (rJ K) (aj 4) (dM (af (tC (.str "zz")) aE))) gC (kP (tC (.int 1))))) (aR 4)) (cM (vh (bI (bb (Dq K) (aj 6) (tC (.int 2)))) (bI (bb (Dq K) (bG (bC K) [] E0 (af (aj 0) (af (tC (.int 4)) aE))) (tC (.int 0))))) (bR (dM aE) (aR 5)) (cM (bI (bb (FU) (fN (eA K) (af (aj 5) aE)) (tC (.int 0)))) (bR (bG (eP K) [] E0 (af (aj 0) (af (aj 1) (af (aj 5) aE)))) (aR 5)) bY)))) (mr K))
def xu(K:Fg):TS:=(bz (bR (bG (bC K) [] E0 (af (aj 0) (af (tC (.int 8)) aE))) (aR 6)) (xt K))
def xw(K:Fg):TS:=(bz (bR (bb (cS K) (aj 1) (aj 2)) (zM K 3 (jo (aR 3) (jo (aR 4) (jo (aR 5) xK))))) (xu K))
def Cc(K:Fg):TS:=(bz (bR (bG (bC K) [] E0 (af (aj 0) (af (fN (eA K) (af (aj 1) aE)) aE))) (aR 2)) (xw K))
theorem yK:bT vO jT (aq jK):=⟨rfl,rfl,rfl,by decide +kernel,rfl,by decide +kernel,by decide +kernel⟩
abbrev oC:Stmt:=m8 43
abbrev oi:List Str:=["_law_program_here"]
abbrev Cw:List Str:=["_law_program_here","_law_said","_law_e"]
def Ji(K:Fg):TS:=(cE (aj 1))
def Cd(K:Fg):TS:=(bz (Lu K (bA K "NoProgram") 3 2 (λEin=>(cM (bI (bb (Ou) (bG (gu K) [] Ein (af (aj 0) aE)) (tC .non))) (bR (dM (af (Gi wG (tC (.int 1))) (af (tC (.int 0)) (af (tC (.str "")) aE)))) (aR 1)) bY)) (bR (dM (af (nJ K (aj 2) "part") (af (nJ K (aj 2) "row") (af (nJ K (aj 2) "word") aE)))) (aR 1))) (Ji K))
def Jh(K:Fg):TS:=(bz (bR (dM (af (tC (.str "none")) (af (tC (.int 0)) (af (tC (.str "")) aE)))) (aR 1)) (Cd K))
theorem Ey:bT Cw oi (aq oC):=⟨rfl,rfl,rfl,by decide +kernel,rfl,by decide +kernel,by decide +kernel⟩
abbrev iK:Stmt:=m8 44
abbrev i9:List Str:=["_law_program_here"]
abbrev tJ:List Str:=["_law_program_here","_law_said","_law_e"]
def BF(K:Fg):TS:=(cE (aj 1))
def uF(K:Fg):TS:=(bz (Lu K (bA K "BeltError") 3 2 (λEin=>(mq (bG (gu K) [] Ein (af (aj 0) aE)))) (bR (fL (af (fN (sH K) (af (aj 2) (af (tC (.ty "ValueError")) aE))) (af (fN (sH K) (af (aj 2) (af (tC (.ref (bA K "NoProgram"))) aE))) (af (fN (sH K) (af (aj 2) (af (dM (af (tC (.ref (bA K "NoLine"))) (af (tC (.ref (bA K "Short"))) aE))) aE))) aE)))) (aR 1))) (BF K))
def yO(K:Fg):TS:=(bz (bR (fL aE) (aR 1)) (uF K))
theorem wJ:bT tJ i9 (aq iK):=⟨rfl,rfl,rfl,by decide +kernel,rfl,by decide +kernel,by decide +kernel⟩
abbrev lx:Stmt:=m8 45
abbrev lK:List Str:=["_law_program_here","_law_due_here"]
abbrev zk:List Str:=["_law_program_here","_law_due_here","_law_found"]
def yP(K:Fg):TS:=(cE (IQ (bb (Lb K) (bb (cS K) (aj 1) (tC (.int 0))) (Gi wG (tC (.int 1)))) (bb (Lb K) (bG (je K) [] E0 (af (aj 0) aE)) (fL (af (tC (.bl true)) (af (tC (.bl true)) (af (tC (.bl false)) aE)))))))
def yQ(K:Fg):TS:=(bz (cM (Dz (bI (bb (Ai K) (aj 2) (aj 1))) (Dz (tB (fN Io (af (bb (cS K) (aj 2) (tC (.int 0))) (af (tC (.ty "bool")) aE)))) (tB (fN Io (af (bb (cS K) (aj 2) (tC (.int 1))) (af (tC (.ty "bool")) aE)))))) (cE (tC (.bl false))) bY) (yP K))
def EK(K:Fg):TS:=(bz (bR (bG (oG K) [] E0 (af (aj 0) aE)) (aR 2)) (yQ K))
theorem Bu:bT zk lK (aq lx):=⟨rfl,rfl,rfl,by decide +kernel,rfl,by decide +kernel,by decide +kernel⟩
abbrev eM:Stmt:=m8 46
abbrev gj:List Str:=["_law_k","_law_n","_law_word"]
abbrev kZ:List Str:=["_law_k","_law_n","_law_word","_law_some","_law_e"]
def w9(K:Fg):TS:=(cE (tC (.bl true)))
def pR(K:Fg):TS:=(cM (bI (bb (Ai K) (fL (af (fN (sH K) (af (aj 4) (af (tC (.ref (bA K "NoProgram"))) aE))) (af (fN (sH K) (af (aj 4) (af (tC (.ref (bA K "NoLine"))) aE))) (af (fN (sH K) (af (aj 4) (af (tC (.ref (bA K "Short"))) aE))) aE)))) (kC [] 1 (ky (af (tC (.int 3)) aE)) (aR 5) rL (bb (Lb K) (aj 5) (aj 0))))) (cE (tC (.bl false))) bY)
def pS(K:Fg):TS:=(bz (cM (Dz (BE (tB (fN (sH K) (af (aj 4) (af (tC (.ref (bA K "BeltError"))) aE))))) (BE (tB (fN (sH K) (af (aj 4) (af (tC (.ty "ValueError")) aE)))))) (cE (tC (.bl false))) bY) (pR K))
def pT(K:Fg):TS:=(bz (bR (bb (cS K) (aj 3) (aj 0)) (aR 4)) (pS K))
def pU(K:Fg):TS:=(bz (jM (ky (af (tC (.int 3)) aE)) (aR 0) (pT K)) (w9 K))
def pV(K:Fg):TS:=(bz (cM (bI (bb (Ai K) (fL (af (nJ K (bb (cS K) (aj 3) (tC (.int 2))) "part") (af (nJ K (bb (cS K) (aj 3) (tC (.int 2))) "row") (af (nJ K (bb (cS K) (aj 3) (tC (.int 2))) "word") (af (nJ K (bb (cS K) (aj 3) (tC (.int 2))) "names") aE))))) (fL (af (aj 0) (af (aj 1) (af (aj 2) (af (dM (af (aj 2) aE)) aE))))))) (cE (tC (.bl false))) bY) (pU K))
def pW(K:Fg):TS:=(bz (cM (bI (bb (Ai K) (fL (af (nJ K (bb (cS K) (aj 3) (tC (.int 0))) "part") (af (nJ K (bb (cS K) (aj 3) (tC (.int 0))) "row") (af (nJ K (bb (cS K) (aj 3) (tC (.int 0))) "word") (af (nJ K (bb (cS K) (aj 3) (tC (.int 1))) "line") aE))))) (fL (af (aj 0) (af (aj 1) (af (aj 2) (af (aj 1) aE))))))) (cE (tC (.bl false))) bY) (pV K))
def sQ(K:Fg):TS:=(bz (bR (fL (af (ui (bA K "NoProgram") (cV K) (af (aj 0) (af (aj 1) (af (aj 2) aE)))) (af (ui (bA K "NoLine") (fJ K) (af (aj 1) aE)) (af (ui (bA K "Short") (gr K) (af (aj 0) (af (aj 1) (af (aj 2) (af (dM (af (aj 2) aE)) aE))))) aE)))) (aR 3)) (pW K))
theorem qQ:bT kZ gj (aq eM):=⟨rfl,rfl,rfl,by decide +kernel,rfl,by decide +kernel,by decide +kernel⟩
abbrev oP:Stmt:=m8 47
abbrev vP:List Str:=["_law_script"]
abbrev GJ:List Str:=["_law_script","_law_state","_law_many","_law_good","_law_program_here","_law_turn","_law_due_here"]
def ED(K:Fg):TS:=(cE (bG (gs K) [] E0 (af (bG (bC K) [] E0 (af (aj 1) (af (tC (.int 9)) aE))) (af (bG (bC K) [] E0 (af (aj 1) (af (tC (.int 99)) aE))) (af (tC (.str "unset")) aE)))))
def EE(K:Fg):TS:=(bz (cM (Dz (BE (tB (bG (jL K) [] E0 (af (aj 4) (af (aj 6) aE))))) (Dz (BE (tB (bG (jL K) [] E0 (af (aj 3) (af (dM (af (Gi wG (tC (.int 1))) (af (tC (.int 0)) (af (tC (.str "")) aE)))) aE))))) (BE (tB (bG (jL K) [] E0 (af (aj 4) (af (aj 6) aE))))))) (cE (tC (.bl false))) bY) (ED K))
def EF(K:Fg):TS:=(bz (bR (bG (rK K) [] E0 (af (aj 4) aE)) (aR 6)) (EE K))
def Lw(K:Fg):TS:=(bR (bG (jZ K) [] E0 (af (aj 1) (af (aj 4) aE))) (aR 4))
def EG(K:Fg):TS:=(bz (jM (ky (af (aj 2) aE)) (aR 5) (Lw K)) (EF K))
def Lx(K:Fg):TS:=(bz (bR (aj 3) (aR 4)) (EG K))
def EH(K:Fg):TS:=(bz (bR (bG (jf K) [] E0 (af (aj 1) (af (tC (.int 10)) aE))) (aR 3)) (Lx K))
def EI(K:Fg):TS:=(bz (bR (bb (eY K) (tC (.int 1)) (bG (bC K) [] E0 (af (aj 1) (af (tC (.int 3)) aE)))) (aR 2)) (EH K))
def L6(K:Fg):TS:=(bz (bR (fL (af (aj 0) (af (tC (.int 0)) (af (tC (.int 0)) aE)))) (aR 1)) (EI K))
theorem IH:bT GJ vP (aq oP):=⟨rfl,rfl,rfl,by decide +kernel,rfl,by decide +kernel,by decide +kernel⟩
section
variable{P:Program}{w:World}{K:Fg}{mg:Str->Option Value}{base:Heap}{f:Addr}{cdv:Value}{A:Around}{outer:List Env}{s:Shared}{H:Hp}{E:XK}
theorem Mf(B:gc mg)
  (hr:dm Mt (A.deeper (envOfC "_law_draw" (aq oz) s.heap.objs.size f cdv))):jv (eE fB P w K mg base Ct "_law_draw" (aq oz) f cdv A outer s H E).nox (aP oz) (IR K):=by
 have nd:=Et.nd
 have hu:=hr.units0
 have hu1:=dJ hr
 refine kr.up ?_
 exact(aw (fG (fX kL (qv 0) ig (ij ay)) (KZ rfl (eh (bO (i:=2) nd rfl (Or.inl rfl)) (eh (bO (i:=3) nd rfl (Or.inl rfl)) mK)))) (aw (fG (bX cQ (qv 3) ay) (gI (qv 0) ay eU)) (aw (bU (QW.pt (oy (aT lX (bX cQ (bX Ad (qv 3) ay) ay) (aW bE rfl B.len_ boot_len (ae (qv 2) ak)) rfl) (mM (aT (cH hu) (bX jU (aQ aG (qv 2) ay (λ_ _=>rfl)) ay) ay rfl)))) (aw (bU (aT (cH hu) (bX jU (qv 3) ay) ay rfl) (aA (fG (aQ aG (qv 2) (bX cQ (bX Ad (qv 3) ay) ay) (λ_ _=>rfl)) (gI (qv 0) ay eU))) bo) (aA (bU (aT gR (aQ aG (qv 0) ay (λ_ _=>rfl)) (bS (ae ay (ae (pM mw ay) ak))) rfl) (aw (fG (aW zy rfl B.divmod_ boot_divmod (ae (aQ aG (qv 0) ay (λ_ _=>rfl)) (ae (qv 1) ak))) (rH rfl (eh (gI (qv 0) ay eU) (eh (bO (i:=4) nd rfl (Or.inl rfl)) mK)))) (aA (bq (qv 4)))) bo))) (aA (bU (aT lX (qv 3) (aW bE rfl B.len_ boot_len (ae (qv 2) ak)) rfl) (aA (bq (bX jU (aQ aG (qv 2) (qv 3) (λ_ _=>rfl)) (qv 1)))) bo))) (aw (bx (i:=5) nd rfl (Or.inl rfl) (bX cQ (bX g8 (qv 3) ay) ay)) (aw (bU (aT Ej (aW bE rfl B.len_ boot_len (ae (qv 2) ak)) ay rfl) (aA (bx (i:=5) nd rfl (Or.inl rfl) (bX cQ (qv 5) (bX g8 (aQ aG (qv 2) (bX jU (bX g8 (qv 3) ay) (aW bE rfl B.len_ boot_len (ae (qv 2) ak))) (λ_ _=>rfl)) (bX cQ ay (qv 3)))))) bo) (aw (bx (i:=5) nd rfl (Or.inl rfl) (bX jU (bX g8 (bX jU (qv 5) ay) (bX cQ (qv 3) ay)) ay)) (aw (bx (i:=5) nd rfl (Or.inl rfl) (bX jU (bX g8 (qv 5) (qv 5)) ay)) (aA (bq (bX jU (bX jU (bX g8 (qv 5) (qv 5)) ay) (qv 1)))))))))))
theorem tR(B:gc mg)
  (hr:dm tU (A.deeper (envOfC "NoProgram.__init__" (aq dE) s.heap.objs.size f cdv))):jv (eE fB P w K mg base jP "NoProgram.__init__" (aq dE) f cdv A outer s H E).nox (aP dE) (nK K):=by
 have nd:=mP.nd
 have hu:=hr.units0
 have hu1:=dJ hr
 refine kr.up ?_
 exact(aw (mL (qv 0) (qv 1) rfl) (aw (mL (qv 0) (qv 2) rfl) (aA (mL (qv 0) (qv 3) rfl))))
theorem xI(B:gc mg)
  (hr:dm xN (A.deeper (envOfC "NoLine.__init__" (aq eL) s.heap.objs.size f cdv))):jv (eE fB P w K mg base mW "NoLine.__init__" (aq eL) f cdv A outer s H E).nox (aP eL) (qU K):=by
 have nd:=pN.nd
 have hu:=hr.units0
 have hu1:=dJ hr
 refine kr.up ?_
 exact(aA (mL (qv 0) (qv 1) rfl))
theorem zD(B:gc mg)
  (hr:dm zP (A.deeper (envOfC "Short.__init__" (aq fh) s.heap.objs.size f cdv))):jv (eE fB P w K mg base nY "Short.__init__" (aq fh) f cdv A outer s H E).nox (aP fh) (sO K):=by
 have nd:=qP.nd
 have hu:=hr.units0
 have hu1:=dJ hr
 refine kr.up ?_
 exact(aw (mL (qv 0) (qv 1) rfl) (aw (mL (qv 0) (qv 2) rfl) (aw (mL (qv 0) (qv 3) rfl) (aA (mL (qv 0) (qv 4) rfl)))))
theorem zE(B:gc mg)(g_NoProgram:mg "NoProgram"=some (.ref (bA K "NoProgram")))(g_NoLine:mg "NoLine"=some (.ref (bA K "NoLine")))(g_Short:mg "Short"=some (.ref (bA K "Short")))(z_ValueError:mg "ValueError"=none)(g_BeltError:mg "BeltError"=some (.ref (bA K "BeltError")))(mx_NoProgram:oN P w K mg base "NoProgram" (bA K "NoProgram") dw fz (cV K))(mx_NoLine:oN P w K mg base "NoLine" (bA K "NoLine") fE j8 (fJ K))(mx_Short:oN P w K mg base "Short" (bA K "Short") gi kT (gr K))
  (hr:dm zQ (A.deeper (envOfC "_law_made_right" (aq eM) s.heap.objs.size f cdv))):jv (eE fB P w K mg base kZ "_law_made_right" (aq eM) f cdv A outer s H E).nox (aP eM) (sQ K):=by
 have nd:=qQ.nd
 have hu:=hr.units0
 have hu1:=dJ hr
 have hu5:=CQ hr
 refine kr.up ?_
 exact(aw (bx (i:=3) nd rfl (Or.inl rfl) (cI (ae (sF mx_NoProgram (hr.mono (by decide)) rfl (by decide) (ae (qv 0) (ae (qv 1) (ae (qv 2) ak)))) (ae (sF mx_NoLine (hr.mono (by decide)) rfl (by decide) (ae (qv 1) ak)) (ae (sF mx_Short (hr.mono (by decide)) rfl (by decide) (ae (qv 0) (ae (qv 1) (ae (qv 2) (ae (bS (ae (qv 2) ak)) ak))))) ak))))) (aw (bU (aT (wD hu5) (cI (ae (jH (aQ aG (qv 3) ay (λ_ _=>rfl)) rfl) (ae (jH (aQ aG (qv 3) ay (λ_ _=>rfl)) rfl) (ae (jH (aQ aG (qv 3) ay (λ_ _=>rfl)) rfl) (ae (jH (aQ aG (qv 3) ay (λ_ _=>rfl)) rfl) ak))))) (cI (ae (qv 0) (ae (qv 1) (ae (qv 2) (ae (qv 1) ak))))) rfl) (aA (bq iC)) bo) (aw (bU (aT (wD hu5) (cI (ae (jH (aQ aG (qv 3) ay (λ_ _=>rfl)) rfl) (ae (jH (aQ aG (qv 3) ay (λ_ _=>rfl)) rfl) (ae (jH (aQ aG (qv 3) ay (λ_ _=>rfl)) rfl) (ae (jH (aQ aG (qv 3) ay (λ_ _=>rfl)) rfl) ak))))) (cI (ae (qv 0) (ae (qv 1) (ae (qv 2) (ae (bS (ae (qv 2) ak)) ak))))) rfl) (aA (bq iC)) bo) (aw (fg PassesOwn.never rfl (eG rfl B.range_ (ae ay ak)) (bO (i:=0) nd rfl (Or.inr rfl)) (aw (bx (i:=4) nd rfl (Or.inl rfl) (aQ aG (qv 3) (qv 0) (λ_ _=>rfl))) (aw (bU (QW.pt (nC (uc (ie (aW jm rfl B.isinstance_ boot_isinstance (ae (qv 4) (ae (rF rfl g_BeltError) ak))))) (lZ (uc (ie (aW jm rfl B.isinstance_ boot_isinstance (ae (qv 4) (ae (sD rfl z_ValueError oO (v:=.ty "ValueError") rfl) ak)))))))) (aA (bq iC)) bo) (aA (bU (aT (wD hu5) (cI (ae (aW jm rfl B.isinstance_ boot_isinstance (ae (qv 4) (ae (rF rfl g_NoProgram) ak))) (ae (aW jm rfl B.isinstance_ boot_isinstance (ae (qv 4) (ae (rF rfl g_NoLine) ak))) (ae (aW jm rfl B.isinstance_ boot_isinstance (ae (qv 4) (ae (rF rfl g_Short) ak))) ak)))) (oq (sc:=aq eM) (N:=kZ) (NY:=["_law_k","_law_n","_law_word","_law_some","_law_e","_law_j"]) (js:=[]) (k:=1) ⟨rfl,by decide +kernel,by decide +kernel,by decide +kernel,rfl,by decide +kernel⟩ rfl rfl rfl rfl (eG rfl B.range_ (ae ay ak)) (λ_ _ _ _ _=>(bO (i:=5) (show List.Nodup (["_law_k","_law_n","_law_word","_law_some","_law_e","_law_j"]:List Str) by decide +kernel) rfl (Or.inl rfl))) (λ_ _ _ _ _=>kg) (λ_ _ _ _ _=>(eX (Dm hu5) (qv 5) (qv 0) rfl))) rfl) (aA (bq iC)) bo))))) (aA (bq iC))))))
theorem E5(B:gc mg)
  (hr:dm Fn (A.deeper (envOfC "reads" (aq iN) s.heap.objs.size f cdv))):jv (eE fB P w K mg base tM "reads" (aq iN) f cdv A outer s H E).nox (aP iN) (yX K):=by
 have nd:=wM.nd
 have hu:=hr.units0
 have hu1:=dJ hr
 refine kr.up ?_
 exact(aw (bx (i:=1) nd rfl (Or.inl rfl) (aQ aG (qv 0) ay (λ_ _=>rfl))) (aw (bU (aT (cH hu) (qv 1) aU rfl) (aA (bq (bS (ae (aQ aG (qv 0) ay (λ_ _=>rfl)) (ae (aQ aG (qv 0) ay (λ_ _=>rfl)) ak))))) bo) (aw (bU (aT (cH hu) (qv 1) aU rfl) (aA (bq (eF gq rfl B.tuple_ boot_tuple (ae (aQ aG (qv 0) ay (λ_ _=>rfl)) ak)))) bo) (aw (bU (aT hW (qv 1) (bS (ae aU (ae aU (ae aU ak)))) rfl) (aA (bq (bS (ae (aQ aG (qv 0) ay (λ_ _=>rfl)) ak)))) bo) (aA (bq (bS ak)))))))
theorem vY(B:gc mg)(c_p_reads:aK P w K mg base "reads" gN lE (gz K))
  (hr:dm wg (A.deeper (envOfC "names_read" (aq d6) s.heap.objs.size f cdv))):jv (eE fB P w K mg base lH "names_read" (aq d6) f cdv A outer s H E).nox (aP d6) (p0 K):=by
 have nd:=oQ.nd
 have hu:=hr.units0
 have hu1:=dJ hr
 refine kr.up ?_
 exact(aw (bx (i:=1) nd rfl (Or.inl rfl) Bm) (aw (fg PassesOwn.never rfl (ic (qv 0)) (bO (i:=2) nd rfl (Or.inl rfl)) (aA (fg PassesOwn.never rfl (ic (bQ c_p_reads (hr.mono (by decide)) rfl (ae (qv 2) ak))) (bO (i:=3) nd rfl (Or.inl rfl)) (aA (fG iC (gI (qv 1) (qv 3) (wQ hu1))))))) (aA (bq (eF (CF rfl) rfl B.list_ boot_list (ae (qv 1) ak))))))
theorem GV(B:gc mg)
  (hr:dm Hj (A.deeper (envOfC "sets" (aq jJ) s.heap.objs.size f cdv))):jv (eE fB P w K mg base vN "sets" (aq jJ) f cdv A outer s H E).nox (aP jJ) (BY K):=by
 have nd:=yJ.nd
 have hu:=hr.units0
 have hu1:=dJ hr
 refine kr.up ?_
 exact(aw (bU (aT hW (aQ aG (qv 0) ay (λ_ _=>rfl)) (bS (ae aU (ae aU (ae aU ak)))) rfl) (aA (bq (aQ aG (qv 0) ay (λ_ _=>rfl)))) bo) (aA (bq ou)))
theorem AM(B:gc mg)
  (hr:dm Hi (A.deeper (envOfC "goal" (aq iY) s.heap.objs.size f cdv))):jv (eE fB P w K mg base rZ "goal" (aq iY) f cdv A outer s H E).nox (aP iY) (xi K):=by
 have nd:=ug.nd
 have hu:=hr.units0
 have hu1:=dJ hr
 refine kr.up ?_
 exact(aw (bU (aT (cH hu) (aQ aG (qv 0) ay (λ_ _=>rfl)) aU rfl) (aA (bq (aQ aG (qv 0) ay (λ_ _=>rfl)))) bo) (aw (bU (aT (cH hu) (aQ aG (qv 0) ay (λ_ _=>rfl)) aU rfl) (aA (bq (aQ aG (qv 0) ay (λ_ _=>rfl)))) bo) (aA (bq ou))))
theorem E4(B:gc mg)(c_p_goal:aK P w K mg base "goal" eW iV (gK K))
  (hr:dm Fm (A.deeper (envOfC "leads" (aq iM) s.heap.objs.size f cdv))):jv (eE fB P w K mg base tL "leads" (aq iM) f cdv A outer s H E).nox (aP iM) (yW K):=by
 have nd:=wL.nd
 have hu:=hr.units0
 have hu1:=dJ hr
 refine kr.up ?_
 exact(aw (bx (i:=2) nd rfl (Or.inl rfl) (aQ aG (aQ aG (qv 0) (qv 1) (λ_ _=>rfl)) ay (λ_ _=>rfl))) (aw (bU (aT (cH hu) (qv 2) aU rfl) (aA (bq (bS ak))) bo) (aw (bU (aT (cH hu) (qv 2) aU rfl) (aA (bq (bS (ae (bQ c_p_goal (hr.mono (by decide)) rfl (ae (aQ aG (qv 0) (qv 1) (λ_ _=>rfl)) ak)) ak)))) bo) (aw (bU (aT (cH hu) (qv 2) aU rfl) (aA (bq (bS (ae (bX cQ (qv 1) ay) (ae (bQ c_p_goal (hr.mono (by decide)) rfl (ae (aQ aG (qv 0) (qv 1) (λ_ _=>rfl)) ak)) ak))))) bo) (aA (bq (bS (ae (bX cQ (qv 1) ay) ak))))))))
theorem CI(B:gc mg)(c_p_sets:aK P w K mg base "sets" jS rV (jY K))(c_p_leads:aK P w K mg base "leads" ja qt (iD K))
  (hr:dm CV (A.deeper (envOfC "walked" (aq e7) s.heap.objs.size f cdv))):jv (eE fB P w K mg base rq "walked" (aq e7) f cdv A outer s H E).nox (aP e7) (xo K):=by
 have nd:=uB.nd
 have hu:=hr.units0
 have hu1:=dJ hr
 refine kr.up ?_
 exact(aw (bx (i:=2) nd rfl (Or.inl rfl) (KW (Ig ay iC K7) rfl rfl (by simp) (by decide))) (aw (bx (i:=3) nd rfl (Or.inl rfl) (cI (ae ay ak))) (aw (sG PassesOwn.never (aT Ej (aW bE rfl B.len_ boot_len (ae (qv 3) ak)) ay rfl) (aw (bx (i:=4) nd rfl (Or.inl rfl) (Ic cu PySem.F.slot_list_pop PySem.F.type_list_pop HC (qv 3))) (aA (bU (QW.pt (nC (aT HN (qv 1) ou rfl) (lZ (aT (lY hu) (bQ c_p_sets (hr.mono (by decide)) rfl (ae (aQ aG (qv 0) (qv 4) (λ_ _=>rfl)) ak)) (qv 1) rfl)))) (aA (fg PassesOwn.never rfl (ic (bQ c_p_leads (hr.mono (by decide)) rfl (ae (qv 0) (ae (qv 4) ak)))) (bO (i:=5) nd rfl (Or.inl rfl)) (aA (bU (aT (yF hu1) (qv 5) (qv 2) rfl) (aw (fG iC (gI (qv 2) (qv 5) (wQ hu1))) (aA (iI (sE cu de dg jq (qv 3) (ae (qv 5) ak))))) bo)))) bo)))) (aA (bq (aW (CG rfl) rfl B.sorted_ boot_sorted (ae (qv 2) ak)))))))
theorem xJ(B:gc mg)(c_p_names_read:aK P w K mg base "names_read" e6 jB (e9 K))(c_p_walked:aK P w K mg base "walked" iz nW (iE K))(c_p_reads:aK P w K mg base "reads" gN lE (gz K))
  (hr:dm xO (A.deeper (envOfC "unset_due" (aq dX) s.heap.objs.size f cdv))):jv (eE fB P w K mg base kc "unset_due" (aq dX) f cdv A outer s H E).nox (aP dX) (qZ K):=by
 have nd:=pO.nd
 have hu:=hr.units0
 have hu1:=dJ hr
 refine kr.up ?_
 exact(aw (bx (i:=1) nd rfl (Or.inr rfl) (aQ aG (qv 0) ay (λ_ _=>rfl))) (aw (bx (i:=2) nd rfl (Or.inl rfl) (cI ak)) (aw (fg PassesOwn.never rfl (ic (bQ c_p_names_read (hr.mono (by decide)) rfl (ae (qv 1) ak))) (bO (i:=3) nd rfl (Or.inr rfl)) (aA (bU (aT gR (qv 3) (aQ aG (qv 0) ay (λ_ _=>rfl)) rfl) (aA (iI (sE cu PySem.F.slot_list_extend PySem.F.type_list_extend FD (qv 2) (ae (oq (sc:=aq dX) (N:=kc) (NY:=["part","rows","due","name","n"]) (js:=[]) (k:=1) ⟨rfl,by decide +kernel,by decide +kernel,by decide +kernel,rfl,by decide +kernel⟩ rfl rfl rfl rfl (ic (bQ c_p_walked (hr.mono (by decide)) rfl (ae (qv 1) (ae (qv 3) ak)))) (λ_ _ _ _ _=>(bO (i:=4) (show List.Nodup (["part","rows","due","name","n"]:List Str) by decide +kernel) rfl (Or.inl rfl))) (λ_ _ _ _ _=>(Ag (aT hW (qv 3) (bQ c_p_reads (hr.mono (by decide)) rfl (ae (aQ aG (qv 1) (qv 4) (λ_ _=>rfl)) ak)) rfl))) (λ_ _ _ _ _=>(qv 4))) ak)))) bo))) (aA (bq (KY rfl rfl B.min_ (ae (qv 2) ak)))))))
theorem CH(B:gc mg)(mx_NoProgram:oN P w K mg base "NoProgram" (bA K "NoProgram") dw fz (cV K))
  (hr:dm CU (A.deeper (envOfC "refuse" (aq gU) s.heap.objs.size f cdv))):jv (eE (Cn P w) P w K mg base rp "refuse" (aq gU) f cdv A outer s H E) (aP gU) (xk K E):=by
 have nd:=uA.nd
 have hu:=hr.units0
 have hu1:=dJ hr
 refine kr.up ?_
 exact(aA (bU (aT Ek (qv 1) ou rfl) (aA (Ih zV hr.hd (sF mx_NoProgram (hr.mono (by decide)) rfl (by decide) (ae (qv 0) (ae (qv 1) (ae (qv 2) ak)))))) bo))
theorem uW(B:gc mg)(c_p_goal:aK P w K mg base "goal" eW iV (gK K))
  (hr:dm u0 (A.deeper (envOfC "comes_round" (aq dR) s.heap.objs.size f cdv))):jv (eE fB P w K mg base kH "comes_round" (aq dR) f cdv A outer s H E).nox (aP dR) (oR K):=by
 have nd:=nG.nd
 have hu:=hr.units0
 have hu1:=dJ hr
 refine kr.up ?_
 exact(aw (bx (i:=2) nd rfl (Or.inl rfl) Bm) (aw (bx (i:=3) nd rfl (Or.inl rfl) (qv 1)) (aw (sG PassesOwn.never (QW.pt (oy (aT (cH hu) (aQ aG (aQ aG (qv 0) (qv 3) (λ_ _=>rfl)) ay (λ_ _=>rfl)) aU rfl) (mM (aT (yF hu1) (qv 3) (qv 2) rfl)))) (aw (fG iC (gI (qv 2) (qv 3) (wQ hu1))) (aA (bx (i:=3) nd rfl (Or.inl rfl) (bQ c_p_goal (hr.mono (by decide)) rfl (ae (aQ aG (qv 0) (qv 3) (λ_ _=>rfl)) ak)))))) (aA (bq (Af (eX (cH hu) (qv 3) (qv 1) rfl) (rG (eX (MN hu1) (qv 1) (qv 2) rfl))))))))
theorem zG(B:gc mg)(c_p_comes_round:aK P w K mg base "comes_round" eC i4 (eJ K))
  (hr:dm zS (A.deeper (envOfC "ring_due" (aq fi) s.heap.objs.size f cdv))):jv (eE fB P w K mg base nZ "ring_due" (aq fi) f cdv A outer s H E).nox (aP fi) (sX K):=by
 have nd:=qS.nd
 have hu:=hr.units0
 have hu1:=dJ hr
 refine kr.up ?_
 exact(aw (fg PassesOwn.never rfl (eG rfl B.range_ (ae (aW bE rfl B.len_ boot_len (ae (qv 0) ak)) ak)) (bO (i:=1) nd rfl (Or.inl rfl)) (aA (bU (ie (bQ c_p_comes_round (hr.mono (by decide)) rfl (ae (qv 0) (ae (qv 1) ak)))) (aA (bq (qv 1))) bo))) (aA (bq ou)))
theorem uV(B:gc mg)
  (hr:dm uZ (A.deeper (envOfC "calls_amiss" (aq dQ) s.heap.objs.size f cdv))):jv (eE fB P w K mg base i6 "calls_amiss" (aq dQ) f cdv A outer s H E).nox (aP dQ) (kM K):=by
 have nd:=nF.nd
 have hu:=hr.units0
 have hu1:=dJ hr
 refine kr.up ?_
 exact(aw (bU (aT (lY hu) (aQ aG (qv 1) ay (λ_ _=>rfl)) aU rfl) (aA (bq iC)) bo) (aw (bx (i:=2) nd rfl (Or.inl rfl) (aQ aG (qv 1) ay (λ_ _=>rfl))) (aw (bU (QW.pt (nC (aT lX (qv 2) ay rfl) (lZ (aT Ei (qv 2) (aW bE rfl B.len_ boot_len (ae (qv 0) ak)) rfl)))) (aA (bq iC)) bo) (aA (bq (eX (lY hu) (aW bE rfl B.len_ boot_len (ae (aQ aG (qv 1) ay (λ_ _=>rfl)) ak)) (aW bE rfl B.len_ boot_len (ae (aQ aG (aQ aG (qv 0) (qv 2) (λ_ _=>rfl)) ay (λ_ _=>rfl)) ak)) rfl))))))
theorem uX(B:gc mg)(c_w_goal:aK P w K mg base "goal" eW iV (j4 K))
  (hr:dm u4 (A.deeper (envOfC "goes_astray" (aq dS) s.heap.objs.size f cdv))):jv (eE fB P w K mg base kI "goes_astray" (aq dS) f cdv A outer s H E).nox (aP dS) (oS K):=by
 have nd:=nH.nd
 have hu:=hr.units0
 have hu1:=dJ hr
 refine kr.up ?_
 exact(aw (bx (i:=2) nd rfl (Or.inl rfl) (bQ c_w_goal (hr.mono (by decide)) rfl (ae (qv 1) ak))) (aA (bq (Af (eX Ek (qv 2) ou rfl) (rG (Ie (eX lX (qv 2) ay rfl) (rG (eX Ei (qv 2) (aW bE rfl B.len_ boot_len (ae (qv 0) ak)) rfl))))))))
theorem AN(B:gc mg)(c_p_calls_amiss:aK P w K mg base "calls_amiss" eB iZ (eI K))(c_p_goes_astray:aK P w K mg base "goes_astray" eD i5 (eK K))
  (hr:dm AX (A.deeper (envOfC "row_due" (aq fY) s.heap.objs.size f cdv))):jv (eE fB P w K mg base pA "row_due" (aq fY) f cdv A outer s H E).nox (aP fY) (uH K):=by
 have nd:=sJ.nd
 have hu:=hr.units0
 have hu1:=dJ hr
 refine kr.up ?_
 exact(aw (bx (i:=2) nd rfl (Or.inl rfl) (aQ aG (aQ aG (qv 0) (qv 1) (λ_ _=>rfl)) ay (λ_ _=>rfl))) (aw (bU (aT (cH hu) (aW bE rfl B.len_ boot_len (ae (qv 2) ak)) ay rfl) (aA (bq ay)) bo) (aw (fg PassesOwn.never rfl (Bn rfl B.enumerate_ (ae (qv 2) ak)) (rH rfl (eh (bO (i:=3) nd rfl (Or.inl rfl)) (eh (bO (i:=4) nd rfl (Or.inl rfl)) mK))) (aA (bU (QW.pt (nC (ie (bQ c_p_goes_astray (hr.mono (by decide)) rfl (ae (qv 2) (ae (qv 4) ak)))) (lZ (ie (bQ c_p_calls_amiss (hr.mono (by decide)) rfl (ae (qv 0) (ae (qv 4) ak))))))) (aA (bq (qv 3))) bo))) (aw (bU (aT gR (aQ aG (aQ aG (qv 2) (pM mw ay) (λ_ _=>rfl)) ay (λ_ _=>rfl)) (bS (ae aU (ae aU ak))) rfl) (aA (bq (bX pL (aW bE rfl B.len_ boot_len (ae (qv 2) ak)) ay))) bo) (aA (bq ou))))))
theorem zF(B:gc mg)
  (hr:dm zR (A.deeper (envOfC "name_due" (aq eO) s.heap.objs.size f cdv))):jv (eE fB P w K mg base lg "name_due" (aq eO) f cdv A outer s H E).nox (aP eO) (sW K):=by
 have nd:=qR.nd
 have hu:=hr.units0
 have hu1:=dJ hr
 refine kr.up ?_
 exact(aw (bx (i:=2) nd rfl (Or.inl rfl) (aQ aG (aQ aG (qv 0) (qv 1) (λ_ _=>rfl)) ay (λ_ _=>rfl))) (aw (bx (i:=3) nd rfl (Or.inl rfl) (aQ aG (aQ aG (qv 0) (qv 1) (λ_ _=>rfl)) ay (λ_ _=>rfl))) (aw (bU (aT hW (qv 2) (oq (sc:=aq eO) (N:=lg) (NY:=["program","k","name","params","part"]) (js:=[]) (k:=1) ⟨rfl,by decide +kernel,by decide +kernel,by decide +kernel,rfl,by decide +kernel⟩ rfl rfl rfl rfl (ic (fX kL (qv 0) ig (ij (qv 1)))) (λ_ _ _ _ _=>(bO (i:=4) (show List.Nodup (["program","k","name","params","part"]:List Str) by decide +kernel) rfl (Or.inl rfl))) (λ_ _ _ _ _=>kg) (λ_ _ _ _ _=>(aQ aG (qv 4) ay (λ_ _=>rfl)))) rfl) (aA (bq ay)) bo) (aw (bU (aT lX (yG rfl rfl B.len_ B.set_ rfl (ae (qv 3) ak)) (aW bE rfl B.len_ boot_len (ae (qv 3) ak)) rfl) (aA (bq ay)) bo) (aA (bq ou))))))
theorem E3(B:gc mg)(c_p_unset_due:aK P w K mg base "unset_due" fF j9 (fK K))(c_p_refuse:kR P w K mg base "refuse" iy nV (fk K))(c_p_ring_due:aK P w K mg base "ring_due" gm kX (gA K))(c_p_row_due:aK P w K mg base "row_due" gO mG (gW K))(c_p_name_due:aK P w K mg base "name_due" gk kW (gy K))
  (hr:dm Fl (A.deeper (envOfC "check" (aq iL) s.heap.objs.size f cdv))):jv (eE (Cn P w) P w K mg base tK "check" (aq iL) f cdv A outer s H E) (aP iL) (yV K E):=by
 have nd:=wK.nd
 have hu:=hr.units0
 have hu1:=dJ hr
 refine kr.up ?_
 exact(aA (fg PassesOwn.leaving rfl (Bn rfl B.enumerate_ (ae (qv 0) ak)) (rH rfl (eh (bO (i:=1) nd rfl (Or.inl rfl)) (eh (bO (i:=2) nd rfl (Or.inl rfl)) mK))) (aw (iI (ub c_p_refuse (hr.mono (by decide)) rfl oo (ae (qv 1) (ae (bQ c_p_name_due (hr.mono (by decide)) rfl (ae (qv 0) (ae (qv 1) ak))) (ae aU ak))))) (aw (iI (ub c_p_refuse (hr.mono (by decide)) rfl oo (ae (qv 1) (ae (bQ c_p_row_due (hr.mono (by decide)) rfl (ae (qv 0) (ae (qv 1) ak))) (ae aU ak))))) (aw (iI (ub c_p_refuse (hr.mono (by decide)) rfl oo (ae (qv 1) (ae (bQ c_p_ring_due (hr.mono (by decide)) rfl (ae (aQ aG (qv 2) ay (λ_ _=>rfl)) ak)) (ae aU ak))))) (aA (iI (ub c_p_refuse (hr.mono (by decide)) rfl oo (ae (qv 1) (ae (bQ c_p_unset_due (hr.mono (by decide)) rfl (ae (qv 2) ak)) (ae aU ak)))))))))))
theorem E2(B:gc mg)(g_BeltError:mg "BeltError"=some (.ref (bA K "BeltError")))(z_ValueError:mg "ValueError"=none)(g_NoProgram:mg "NoProgram"=some (.ref (bA K "NoProgram")))(g_NoLine:mg "NoLine"=some (.ref (bA K "NoLine")))(g_Short:mg "Short"=some (.ref (bA K "Short")))(c_p_check:kR P w K mg base "check" gM lD (gu K))
  (hr:dm Fk (A.deeper (envOfC "_law_classes" (aq iK) s.heap.objs.size f cdv))):jv (eE fB P w K mg base tJ "_law_classes" (aq iK) f cdv A outer s H E).nox (aP iK) (yO K):=by
 have nd:=wJ.nd
 have hu:=hr.units0
 have hu1:=dJ hr
 refine kr.up ?_
 exact(aw (bx (i:=1) nd rfl (Or.inl rfl) (cI ak)) (aw (Ii (i:=2) rfl rfl rfl rfl g_BeltError nd rfl rfl (λpl E1 Ein hp=>(aA (iI (ub c_p_check (hr.mono (by decide)) rfl hp (ae (qv 0) ak))))) (λx=>(aA (bx (i:=1) nd rfl (Or.inl rfl) (cI (ae (aW jm rfl B.isinstance_ boot_isinstance (ae (qv 2) (ae (sD rfl z_ValueError oO (v:=.ty "ValueError") rfl) ak))) (ae (aW jm rfl B.isinstance_ boot_isinstance (ae (qv 2) (ae (rF rfl g_NoProgram) ak))) (ae (aW jm rfl B.isinstance_ boot_isinstance (ae (qv 2) (ae (bS (ae (rF rfl g_NoLine) (ae (rF rfl g_Short) ak))) ak))) ak)))))))) (aA (bq (qv 1)))))
theorem Mj(B:gc mg)(g_NoProgram:mg "NoProgram"=some (.ref (bA K "NoProgram")))(c_p_check:kR P w K mg base "check" gM lD (gu K))
  (hr:dm Mx (A.deeper (envOfC "_law_told" (aq oC) s.heap.objs.size f cdv))):jv (eE fB P w K mg base Cw "_law_told" (aq oC) f cdv A outer s H E).nox (aP oC) (Jh K):=by
 have nd:=Ey.nd
 have hu:=hr.units0
 have hu1:=dJ hr
 refine kr.up ?_
 exact(aw (bx (i:=1) nd rfl (Or.inl rfl) (bS (ae aU (ae ay (ae aU ak))))) (aw (Ii (i:=2) rfl rfl rfl rfl g_NoProgram nd rfl rfl (λpl E1 Ein hp=>(aA (bU (aT HN (ub c_p_check (hr.mono (by decide)) rfl hp (ae (qv 0) ak)) ou rfl) (aA (bx (i:=1) nd rfl (Or.inl rfl) (bS (ae (pM mw ay) (ae ay (ae aU ak)))))) bo))) (λx=>(aA (bx (i:=1) nd rfl (Or.inl rfl) (bS (ae (jH (qv 2) rfl) (ae (jH (qv 2) rfl) (ae (jH (qv 2) rfl) ak)))))))) (aA (bq (qv 1)))))
theorem JL(B:gc mg)(c_classes:aK P w K mg base "_law_classes" i9 qr (je K))(c_told:aK P w K mg base "_law_told" oi zi (oG K))
  (hr:dm J1 (A.deeper (envOfC "_law_meets" (aq lx) s.heap.objs.size f cdv))):jv (eE fB P w K mg base zk "_law_meets" (aq lx) f cdv A outer s H E).nox (aP lx) (EK K):=by
 have nd:=Bu.nd
 have hu:=hr.units0
 have hu1:=dJ hr
 have hu5:=CQ hr
 refine kr.up ?_
 exact(aw (bx (i:=2) nd rfl (Or.inl rfl) (bQ c_told (hr.mono (by decide)) rfl (ae (qv 0) ak))) (aw (bU (QW.pt (nC (aT (wD hu5) (qv 2) (qv 1) rfl) (nC (ie (aW yv rfl B.isinstance_ boot_isinstance (ae (aQ aG (qv 2) ay (λ_ _=>rfl)) (ae (sD rfl B.bool_ boot_bool (v:=.ty "bool") rfl) ak)))) (lZ (ie (aW yv rfl B.isinstance_ boot_isinstance (ae (aQ aG (qv 2) ay (λ_ _=>rfl)) (ae (sD rfl B.bool_ boot_bool (v:=.ty "bool") rfl) ak)))))))) (aA (bq iC)) bo) (aA (bq (Ie (eX (Dm hu5) (aQ aG (qv 1) ay (λ_ _=>rfl)) (pM mw ay) rfl) (rG (eX (Dm hu5) (bQ c_classes (hr.mono (by decide)) rfl (ae (qv 0) ak)) (cI (ae iC (ae iC (ae iC ak)))) rfl)))))))
theorem Mi(B:gc mg)
  (hr:dm Mw (A.deeper (envOfC "_law_read" (aq oB) s.heap.objs.size f cdv))):jv (eE fB P w K mg base Cv "_law_read" (aq oB) f cdv A outer s H E).nox (aP oB) (Jd K):=by
 have nd:=Ex.nd
 have hu:=hr.units0
 have hu1:=dJ hr
 refine kr.up ?_
 exact(aw (bU (aT (cH hu) (aQ aG (qv 0) ay (λ_ _=>rfl)) aU rfl) (aA (bq (cI (ae (aQ aG (qv 0) ay (λ_ _=>rfl)) (ae (aQ aG (qv 0) ay (λ_ _=>rfl)) ak))))) bo) (aw (bU (aT (cH hu) (aQ aG (qv 0) ay (λ_ _=>rfl)) aU rfl) (aA (bq (eF lp rfl B.list_ boot_list (ae (aQ aG (qv 0) ay (λ_ _=>rfl)) ak)))) bo) (aw (bU (aT hW (aQ aG (qv 0) ay (λ_ _=>rfl)) (bS (ae aU (ae aU (ae aU ak)))) rfl) (aA (bq (cI (ae (aQ aG (qv 0) ay (λ_ _=>rfl)) ak)))) bo) (aA (bq (cI ak))))))
theorem Mg(B:gc mg)
  (hr:dm Mu (A.deeper (envOfC "_law_next" (aq oA) s.heap.objs.size f cdv))):jv (eE fB P w K mg base Cu "_law_next" (aq oA) f cdv A outer s H E).nox (aP oA) (IZ K):=by
 have nd:=Eu.nd
 have hu:=hr.units0
 have hu1:=dJ hr
 refine kr.up ?_
 exact(aw (bU (aT (cH hu) (aQ aG (aQ aG (qv 0) (qv 1) (λ_ _=>rfl)) ay (λ_ _=>rfl)) aU rfl) (aA (bq (cI (ae (aQ aG (aQ aG (qv 0) (qv 1) (λ_ _=>rfl)) ay (λ_ _=>rfl)) ak)))) bo) (aw (bU (aT (cH hu) (aQ aG (aQ aG (qv 0) (qv 1) (λ_ _=>rfl)) ay (λ_ _=>rfl)) aU rfl) (aA (bq (cI (ae (bX cQ (qv 1) ay) (ae (aQ aG (aQ aG (qv 0) (qv 1) (λ_ _=>rfl)) ay (λ_ _=>rfl)) ak))))) bo) (aw (bU (aT (cH hu) (aQ aG (aQ aG (qv 0) (qv 1) (λ_ _=>rfl)) ay (λ_ _=>rfl)) aU rfl) (aA (bq (cI ak))) bo) (aA (bq (cI (ae (bX cQ (qv 1) ay) ak)))))))
theorem E8(B:gc mg)(c_next:aK P w K mg base "_law_next" oa zf (lB K))
  (hr:dm Fp (A.deeper (envOfC "_law_without" (aq gJ) s.heap.objs.size f cdv))):jv (eE fB P w K mg base nj "_law_without" (aq gJ) f cdv A outer s H E).nox (aP gJ) (y9 K):=by
 have nd:=wO.nd
 have hu:=hr.units0
 have hu1:=dJ hr
 refine kr.up ?_
 exact(aw (bx (i:=3) nd rfl (Or.inr rfl) (oq (sc:=aq gJ) (N:=nj) (NY:=["_law_params","_law_rows","_law_x","_law_there","_law_left","_law_n","_law_m"]) (js:=[5]) (k:=0) ⟨rfl,by decide +kernel,by decide +kernel,by decide +kernel,rfl,by decide +kernel⟩ rfl rfl rfl rfl (eG rfl B.range_ (ae (aW bE rfl B.len_ boot_len (ae (qv 1) ak)) ak)) (λ_ _ _ _ _=>(bO (i:=5) (show List.Nodup (["_law_params","_law_rows","_law_x","_law_there","_law_left","_law_n","_law_m"]:List Str) by decide +kernel) rfl (Or.inl rfl))) (λ_ _ _ _ _=>kg) (λ_ _ _ _ _=>(Af (eX (cH hu) (qv 5) ay rfl) (rG (eX gR (qv 2) (qv 0) rfl)))))) (aw (qB (i:=4) (sc:=aq gJ) (N:=nj) (NY:=["_law_params","_law_rows","_law_x","_law_there","_law_left","_law_n","_law_m"]) (js:=[5]) (k:=0) ⟨rfl,by decide +kernel,by decide +kernel,by decide +kernel,rfl,by decide +kernel⟩ rfl rfl rfl rfl (eG rfl B.range_ (ae (aW bE rfl B.len_ boot_len (ae (qv 1) ak)) ak)) (λ_ _ _ _ _=>(bO (i:=5) (show List.Nodup (["_law_params","_law_rows","_law_x","_law_there","_law_left","_law_n","_law_m"]:List Str) by decide +kernel) rfl (Or.inl rfl))) (λ_ _ _ _ _=>(Ag (ie (aQ aG (qv 3) (qv 5) (λ_ _=>rfl))))) (λ_ _ _ _ _=>(qv 5)) nd rfl (Or.inl rfl) rfl) (aw (sG PassesOwn.never (aT (lY hu) (qv 4) (cI ak) rfl) (aw (bx (i:=5) nd rfl (Or.inl rfl) (Ic cu PySem.F.slot_list_pop PySem.F.type_list_pop HC (qv 4))) (aA (bU (QW.pt (nC (aT gR (aQ aG (aQ aG (qv 1) (qv 5) (λ_ _=>rfl)) ay (λ_ _=>rfl)) (bS (ae aU (ae aU (ae aU ak)))) rfl) (lZ (aT (lY hu) (aQ aG (aQ aG (qv 1) (qv 5) (λ_ _=>rfl)) ay (λ_ _=>rfl)) (qv 2) rfl)))) (aA (fg PassesOwn.never rfl (ic (bQ c_next (hr.mono (by decide)) rfl (ae (qv 1) (ae (qv 5) ak)))) (bO (i:=6) nd rfl (Or.inl rfl)) (aA (bU (uc (ie (aQ aG (qv 3) (qv 6) (λ_ _=>rfl)))) (aw (fG iC (gI (qv 3) (qv 6) eU)) (aA (iI (sE cu de dg jq (qv 4) (ae (qv 6) ak))))) bo)))) bo)))) (aA (bq (qv 3))))))
theorem JP(B:gc mg)(c_read:aK P w K mg base "_law_read" oh zh (oF K))(c_without:aK P w K mg base "_law_without" jc qw (jg K))
  (hr:dm J4 (A.deeper (envOfC "_law_unset" (aq lz) s.heap.objs.size f cdv))):jv (eE fB P w K mg base zo "_law_unset" (aq lz) f cdv A outer s H E).nox (aP lz) (EN K):=by
 have nd:=Bx.nd
 have hu:=hr.units0
 have hu1:=dJ hr
 refine kr.up ?_
 exact(aw (bx (i:=2) nd rfl (Or.inl rfl) (cI ak)) (aw (fg PassesOwn.never rfl (eG rfl B.range_ (ae (aW bE rfl B.len_ boot_len (ae (qv 1) ak)) ak)) (bO (i:=3) nd rfl (Or.inl rfl)) (aA (fg PassesOwn.never rfl (ic (bQ c_read (hr.mono (by decide)) rfl (ae (aQ aG (qv 1) (qv 3) (λ_ _=>rfl)) ak))) (bO (i:=4) nd rfl (Or.inl rfl)) (aA (bU (ie (aQ aG (bQ c_without (hr.mono (by decide)) rfl (ae (qv 0) (ae (qv 1) (ae (qv 4) ak)))) (qv 3) (λ_ _=>rfl))) (aA (iI (sE cu de dg jq (qv 2) (ae (qv 3) ak)))) bo))))) (aA (bq (qv 2)))))
theorem JO(B:gc mg)
  (hr:dm J3 (A.deeper (envOfC "_law_round" (aq ly) s.heap.objs.size f cdv))):jv (eE fB P w K mg base zm "_law_round" (aq ly) f cdv A outer s H E).nox (aP ly) (EM K):=by
 have nd:=Bw.nd
 have hu:=hr.units0
 have hu1:=dJ hr
 refine kr.up ?_
 exact(aw (bU (aT (lY hu) (aQ aG (aQ aG (qv 0) (qv 1) (λ_ _=>rfl)) ay (λ_ _=>rfl)) aU rfl) (aA (bq iC)) bo) (aw (bx (i:=2) nd rfl (Or.inl rfl) (aQ aG (aQ aG (qv 0) (qv 1) (λ_ _=>rfl)) ay (λ_ _=>rfl))) (aw (fg PassesOwn.never rfl (ic (qv 0)) (bO (i:=3) nd rfl (Or.inl rfl)) (aA (bU (QW.pt (oy (aT (lY hu) (qv 2) (qv 1) rfl) (mM (aT (cH hu) (aQ aG (aQ aG (qv 0) (qv 2) (λ_ _=>rfl)) ay (λ_ _=>rfl)) aU rfl)))) (aA (bx (i:=2) nd rfl (Or.inl rfl) (aQ aG (aQ aG (qv 0) (qv 2) (λ_ _=>rfl)) ay (λ_ _=>rfl)))) bo))) (aA (bq (eX (cH hu) (qv 2) (qv 1) rfl))))))
theorem EZ(B:gc mg)
  (hr:dm Fj (A.deeper (envOfC "_law_bad_row" (aq iJ) s.heap.objs.size f cdv))):jv (eE fB P w K mg base tI "_law_bad_row" (aq iJ) f cdv A outer s H E).nox (aP iJ) (yN K):=by
 have nd:=wI.nd
 have hu:=hr.units0
 have hu1:=dJ hr
 refine kr.up ?_
 exact(aw (bx (i:=3) nd rfl (Or.inl rfl) (aQ aG (qv 1) (qv 2) (λ_ _=>rfl))) (aw (bU (aT (cH hu) (aQ aG (qv 3) ay (λ_ _=>rfl)) aU rfl) (aw (bU (QW.pt (nC (aT lX (aQ aG (qv 3) ay (λ_ _=>rfl)) ay rfl) (lZ (aT Ei (aQ aG (qv 3) ay (λ_ _=>rfl)) (aW bE rfl B.len_ boot_len (ae (qv 0) ak)) rfl)))) (aA (bq iC)) bo) (aA (bq (Ie (eX (lY hu) (aW bE rfl B.len_ boot_len (ae (aQ aG (qv 3) ay (λ_ _=>rfl)) ak)) (aW bE rfl B.len_ boot_len (ae (aQ aG (aQ aG (qv 0) (aQ aG (qv 3) ay (λ_ _=>rfl)) (λ_ _=>rfl)) ay (λ_ _=>rfl)) ak)) rfl) (rG (eX (cH hu) (qv 2) (bX pL (aW bE rfl B.len_ boot_len (ae (qv 1) ak)) ay) rfl)))))) bo) (aw (bU (QW.pt (oy (aT hW (aQ aG (qv 3) ay (λ_ _=>rfl)) (bS (ae aU (ae aU ak))) rfl) (mM (QW.pt (nC (aT lX (aQ aG (qv 3) (pM mw ay) (λ_ _=>rfl)) ay rfl) (lZ (aT Ei (aQ aG (qv 3) (pM mw ay) (λ_ _=>rfl)) (aW bE rfl B.len_ boot_len (ae (qv 1) ak)) rfl))))))) (aA (bq iC)) bo) (aA (bq (Af (eX (cH hu) (qv 2) (bX pL (aW bE rfl B.len_ boot_len (ae (qv 1) ak)) ay) rfl) (rG (eX gR (aQ aG (qv 3) ay (λ_ _=>rfl)) (bS (ae aU (ae aU ak))) rfl))))))))
theorem CJ(B:gc mg)(c_unset:aK P w K mg base "_law_unset" lN vp (mi K))(c_round:aK P w K mg base "_law_round" lM vo (mh K))(c_bad_row:aK P w K mg base "_law_bad_row" i8 qp (jd K))
  (hr:dm CW (A.deeper (envOfC "_law_part_due" (aq fH) s.heap.objs.size f cdv))):jv (eE fB P w K mg base lI "_law_part_due" (aq fH) f cdv A outer s H E).nox (aP fH) (xp K):=by
 have nd:=uC.nd
 have hu:=hr.units0
 have hu1:=dJ hr
 refine kr.up ?_
 exact(aw (fG (aQ aG (qv 0) (qv 1) (λ_ _=>rfl)) (rH rfl (eh (bO (i:=2) nd rfl (Or.inl rfl)) (eh (bO (i:=3) nd rfl (Or.inl rfl)) (eh (bO (i:=4) nd rfl (Or.inl rfl)) mK))))) (aw (bU (QW.pt (nC (aT hW (qv 2) (oq (sc:=aq fH) (N:=lI) (NY:=["_law_program_here","_law_k","_law_name","_law_params","_law_rows","_law_n","_law_one"]) (js:=[]) (k:=1) ⟨rfl,by decide +kernel,by decide +kernel,by decide +kernel,rfl,by decide +kernel⟩ rfl rfl rfl rfl (ic (fX kL (qv 0) ig (ij (qv 1)))) (λ_ _ _ _ _=>(bO (i:=6) (show List.Nodup (["_law_program_here","_law_k","_law_name","_law_params","_law_rows","_law_n","_law_one"]:List Str) by decide +kernel) rfl (Or.inl rfl))) (λ_ _ _ _ _=>kg) (λ_ _ _ _ _=>(aQ aG (qv 6) ay (λ_ _=>rfl)))) rfl) (lZ (aT lX (yG rfl rfl B.len_ B.set_ rfl (ae (qv 3) ak)) (aW bE rfl B.len_ boot_len (ae (qv 3) ak)) rfl)))) (aA (bq (cI (ae (bS (ae ay (ae aU ak))) ak)))) bo) (aw (bU (aT (cH hu) (aW bE rfl B.len_ boot_len (ae (qv 4) ak)) ay rfl) (aA (bq (cI (ae (bS (ae ay (ae aU ak))) ak)))) bo) (aw (fg PassesOwn.never rfl (eG rfl B.range_ (ae (aW bE rfl B.len_ boot_len (ae (qv 4) ak)) ak)) (bO (i:=5) nd rfl (Or.inl rfl)) (aA (bU (ie (bQ c_bad_row (hr.mono (by decide)) rfl (ae (qv 0) (ae (qv 4) (ae (qv 5) ak))))) (aA (bq (cI (ae (bS (ae (qv 5) (ae aU ak))) ak)))) bo))) (aw (fg PassesOwn.never rfl (eG rfl B.range_ (ae (aW bE rfl B.len_ boot_len (ae (qv 4) ak)) ak)) (bO (i:=5) nd rfl (Or.inl rfl)) (aA (bU (ie (bQ c_round (hr.mono (by decide)) rfl (ae (qv 4) (ae (qv 5) ak)))) (aA (bq (cI (ae (bS (ae (qv 5) (ae aU ak))) ak)))) bo))) (aA (bq (oq (sc:=aq fH) (N:=lI) (NY:=["_law_program_here","_law_k","_law_name","_law_params","_law_rows","_law_n"]) (js:=[5]) (k:=0) ⟨rfl,by decide +kernel,by decide +kernel,by decide +kernel,rfl,by decide +kernel⟩ rfl rfl rfl rfl (ic (bQ c_unset (hr.mono (by decide)) rfl (ae (qv 3) (ae (qv 4) ak)))) (λ_ _ _ _ _=>(bO (i:=5) (show List.Nodup (["_law_program_here","_law_k","_law_name","_law_params","_law_rows","_law_n"]:List Str) by decide +kernel) rfl (Or.inl rfl))) (λ_ _ _ _ _=>kg) (λ_ _ _ _ _=>(bS (ae (qv 5) (ae aU ak))))))))))))
theorem N3(B:gc mg)(c_part_due:aK P w K mg base "_law_part_due" iA nX (iF K))
  (hr:dm N9 (A.deeper (envOfC "_law_due" (aq sI) s.heap.objs.size f cdv))):jv (eE fB P w K mg base GI "_law_due" (aq sI) f cdv A outer s H E).nox (aP sI) (L5 K):=by
 have nd:=IG.nd
 have hu:=hr.units0
 have hu1:=dJ hr
 have hu5:=CQ hr
 refine kr.up ?_
 exact(aw (fg PassesOwn.never rfl (eG rfl B.range_ (ae (aW bE rfl B.len_ boot_len (ae (qv 0) ak)) ak)) (bO (i:=1) nd rfl (Or.inl rfl)) (aw (bx (i:=2) nd rfl (Or.inl rfl) (bQ c_part_due (hr.mono (by decide)) rfl (ae (qv 0) (ae (qv 1) ak)))) (aA (bU (aT (wD hu5) (qv 2) (cI ak) rfl) (aA (bq (bS (ae (qv 1) (ae (aQ aG (aQ aG (qv 2) ay (λ_ _=>rfl)) ay (λ_ _=>rfl)) (ae (aQ aG (aQ aG (qv 2) ay (λ_ _=>rfl)) ay (λ_ _=>rfl)) ak)))))) bo)))) (aA (bq (bS (ae (pM mw ay) (ae ay (ae aU ak)))))))
theorem zH(B:gc mg)(c_draw:aK P w K mg base "_law_draw" dZ gF (bC K))
  (hr:dm zT (A.deeper (envOfC "_law_row_spoilt" (aq fj) s.heap.objs.size f cdv))):jv (eE fB P w K mg base n5 "_law_row_spoilt" (aq fj) f cdv A outer s H E).nox (aP fj) (tE K):=by
 have nd:=qT.nd
 have hu:=hr.units0
 have hu1:=dJ hr
 refine kr.up ?_
 exact(aw (bx (i:=3) nd rfl (Or.inl rfl) (bQ c_draw (hr.mono (by decide)) rfl (ae (qv 0) (ae (aW bE rfl B.len_ boot_len (ae (qv 2) ak)) ak)))) (aw (bx (i:=4) nd rfl (Or.inl rfl) (bQ c_draw (hr.mono (by decide)) rfl (ae (qv 0) (ae (aW bE rfl B.len_ boot_len (ae (qv 2) ak)) ak)))) (aw (bx (i:=5) nd rfl (Or.inl rfl) (bQ c_draw (hr.mono (by decide)) rfl (ae (qv 0) (ae ay ak)))) (aw (bx (i:=6) nd rfl (Or.inl rfl) (aQ aG (cI (ae (pM mw ay) (ae (pM mw ay) (ae (aW bE rfl B.len_ boot_len (ae (qv 2) ak)) (ae (bX cQ (aW bE rfl B.len_ boot_len (ae (qv 2) ak)) ay) (ae (qv 4) ak)))))) (bQ c_draw (hr.mono (by decide)) rfl (ae (qv 0) (ae ay ak))) (λ_ _=>rfl))) (aw (bx (i:=7) nd rfl (Or.inl rfl) (eF lp rfl B.list_ boot_list (ae (qv 2) ak))) (aw (bU (aT (cH hu) (qv 5) ay rfl) (aA (fG (bS (ae aU (ae (qv 6) ak))) (gI (qv 7) (qv 3) eU))) (aA (bU (aT (cH hu) (qv 5) ay rfl) (aA (fG (bS (ae aU (ae aU (ae (qv 6) ak)))) (gI (qv 7) (qv 3) eU))) (aA (bU (aT (cH hu) (qv 5) ay rfl) (aw (bx (i:=8) nd rfl (Or.inl rfl) (aQ aG (cI (ae (pM mw ay) (ae (aW bE rfl B.len_ boot_len (ae (qv 1) ak)) (ae (bQ c_draw (hr.mono (by decide)) rfl (ae (qv 0) (ae (aW bE rfl B.len_ boot_len (ae (qv 1) ak)) ak))) ak)))) (bQ c_draw (hr.mono (by decide)) rfl (ae (qv 0) (ae ay ak))) (λ_ _=>rfl))) (aA (fG (bS (ae aU (ae aU (ae (qv 8) (ae (bX g8 (bS (ae aU ak)) (bQ c_draw (hr.mono (by decide)) rfl (ae (qv 0) (ae ay ak)))) ak))))) (gI (qv 7) (qv 3) eU)))) (aA (bU (aT (cH hu) (qv 5) ay rfl) (aA (fG (aQ aG (cI (ae (bS (ae aU (ae aU (ae ay ak)))) (ae (bS (ae aU (ae aU ak))) (ae (bS (ae aU (ae aU ak))) ak)))) (bQ c_draw (hr.mono (by decide)) rfl (ae (qv 0) (ae ay ak))) (λ_ _=>rfl)) (gI (qv 7) (bX pL (aW bE rfl B.len_ boot_len (ae (qv 2) ak)) ay) eU))) (aA (bU (aT (cH hu) (qv 5) ay rfl) (aw (bx (i:=9) nd rfl (Or.inl rfl) (aQ aG (cI (ae (qv 3) (ae (bQ c_draw (hr.mono (by decide)) rfl (ae (qv 0) (ae (aW bE rfl B.len_ boot_len (ae (qv 2) ak)) ak))) ak))) (bQ c_draw (hr.mono (by decide)) rfl (ae (qv 0) (ae ay ak))) (λ_ _=>rfl))) (aw (fG (bS (ae aU (ae (qv 4) ak))) (gI (qv 7) (qv 3) eU)) (aw (fG (bS (ae aU (ae (qv 9) ak))) (gI (qv 7) (qv 4) eU)) (aA (bU (aT (lY hu) (qv 9) (qv 3) rfl) (aA (fG (bS (ae aU (ae (qv 3) ak))) (gI (qv 7) (qv 9) eU))) bo))))) (aA (fG (bS (ae aU (ae aU (ae aU (ae aU (ae aU ak)))))) (gI (qv 7) (qv 3) eU)))))))))))) (aA (bq (eF gq rfl B.tuple_ boot_tuple (ae (qv 7) ak))))))))))
theorem GW(B:gc mg)(c_draw:aK P w K mg base "_law_draw" dZ gF (bC K))(c_row_spoilt:aK P w K mg base "_law_row_spoilt" gp kY (eP K))
  (hr:dm Hk (A.deeper (envOfC "_law_spoilt" (aq jK) s.heap.objs.size f cdv))):jv (eE fB P w K mg base vO "_law_spoilt" (aq jK) f cdv A outer s H E).nox (aP jK) (Cc K):=by
 have nd:=yK.nd
 have hu:=hr.units0
 have hu1:=dJ hr
 refine kr.up ?_
 exact(aw (bx (i:=2) nd rfl (Or.inl rfl) (bQ c_draw (hr.mono (by decide)) rfl (ae (qv 0) (ae (aW bE rfl B.len_ boot_len (ae (qv 1) ak)) ak)))) (aw (fG (aQ aG (qv 1) (qv 2) (λ_ _=>rfl)) (rH rfl (eh (bO (i:=3) nd rfl (Or.inl rfl)) (eh (bO (i:=4) nd rfl (Or.inl rfl)) (eh (bO (i:=5) nd rfl (Or.inl rfl)) mK))))) (aw (bx (i:=6) nd rfl (Or.inl rfl) (bQ c_draw (hr.mono (by decide)) rfl (ae (qv 0) (ae ay ak)))) (aw (bU (aT (Ac hu) (qv 6) ay rfl) (aA (bx (i:=3) nd rfl (Or.inl rfl) (aQ aG (aQ aG (qv 1) (bQ c_draw (hr.mono (by decide)) rfl (ae (qv 0) (ae (aW bE rfl B.len_ boot_len (ae (qv 1) ak)) ak))) (λ_ _=>rfl)) ay (λ_ _=>rfl)))) (aA (bU (QW.pt (oy (aT (Ac hu) (qv 6) ay rfl) (mM (aT lX (aW bE rfl B.len_ boot_len (ae (qv 4) ak)) ay rfl)))) (aA (bx (i:=4) nd rfl (Or.inl rfl) (bX pK (qv 4) (fX Ar (bX pK (qv 4) (bS (ae aU ak))) ig (ij ay))))) (aA (bU (QW.pt (oy (aT (Ac hu) (qv 6) ay rfl) (mM (aT (Ac hu) (bQ c_draw (hr.mono (by decide)) rfl (ae (qv 0) (ae ay ak))) ay rfl)))) (aA (bx (i:=5) nd rfl (Or.inl rfl) (bS ak))) (aA (bU (aT Ej (aW bE rfl B.len_ boot_len (ae (qv 5) ak)) ay rfl) (aA (bx (i:=5) nd rfl (Or.inl rfl) (bQ c_row_spoilt (hr.mono (by decide)) rfl (ae (qv 0) (ae (qv 1) (ae (qv 5) ak)))))) bo))))))) (aA (bq (bX pK (bX pK (fX Ar (qv 1) ig (ij (qv 2))) (bS (ae (bS (ae (qv 3) (ae (qv 4) (ae (qv 5) ak)))) ak))) (fX Ar (qv 1) (ij (bX pK (qv 2) ay)) ig))))))))
theorem GT(B:gc mg)(c_draw:aK P w K mg base "_law_draw" dZ gF (bC K))
  (hr:dm Hg (A.deeper (envOfC "_law_filled" (aq iX) s.heap.objs.size f cdv))):jv (eE fB P w K mg base rY "_law_filled" (aq iX) f cdv A outer s H E).nox (aP iX) (BK K):=by
 have nd:=yH.nd
 have hu:=hr.units0
 have hu1:=dJ hr
 refine kr.up ?_
 exact(aw (bx (i:=3) nd rfl (Or.inl rfl) (cI ak)) (aw (fg PassesOwn.never rfl (K6 rfl B.enumerate_ (ae (qv 1) ak)) (rH rfl (eh (bO (i:=4) nd rfl (Or.inr rfl)) (eh (bO (i:=5) nd rfl (Or.inl rfl)) mK))) (aw (bx (i:=6) nd rfl (Or.inl rfl) (cI ak)) (aw (fg PassesOwn.never rfl (ic (fX kL (qv 5) (ij ay) ig)) (bO (i:=7) nd rfl (Or.inl rfl)) (aw (bU (aT (cH hu) (qv 7) aU rfl) (aA (bx (i:=7) nd rfl (Or.inl rfl) (aQ aG (aQ aG (qv 2) (qv 4) (λ_ _=>rfl)) (bQ c_draw (hr.mono (by decide)) rfl (ae (qv 0) (ae (aW bE rfl B.len_ boot_len (ae (aQ aG (qv 2) (qv 4) (λ_ _=>rfl)) ak)) ak))) (λ_ _=>rfl)))) (aA (bU (ie (aW GQ rfl B.isinstance_ boot_isinstance (ae (qv 7) (ae (sD rfl B.tuple_ boot_tuple (v:=.ty "tuple") rfl) ak)))) (aA (bx (i:=7) nd rfl (Or.inl rfl) (eF gq rfl B.tuple_ boot_tuple (ae (oq (sc:=aq iX) (N:=rY) (NY:=["_law_state","_law_rows","_law_known","_law_found","_law_n","_law_row","_law_some","_law_thing","_law_one"]) (js:=[]) (k:=1) ⟨rfl,by decide +kernel,by decide +kernel,by decide +kernel,rfl,by decide +kernel⟩ rfl rfl rfl rfl (ic (qv 7)) (λ_ _ _ _ _=>(bO (i:=8) (show List.Nodup (["_law_state","_law_rows","_law_known","_law_found","_law_n","_law_row","_law_some","_law_thing","_law_one"]:List Str) by decide +kernel) rfl (Or.inl rfl))) (λ_ _ _ _ _=>kg) (λ_ _ _ _ _=>(aQ aG (aQ aG (qv 2) (qv 4) (λ_ _=>rfl)) (bQ c_draw (hr.mono (by decide)) rfl (ae (qv 0) (ae (aW bE rfl B.len_ boot_len (ae (aQ aG (qv 2) (qv 4) (λ_ _=>rfl)) ak)) ak))) (λ_ _=>rfl)))) ak)))) bo))) (aA (iI (sE cu de dg jq (qv 6) (ae (qv 7) ak)))))) (aA (iI (sE cu de dg jq (qv 3) (ae (bX cQ (bS (ae (aQ aG (qv 5) ay (λ_ _=>rfl)) ak)) (eF gq rfl B.tuple_ boot_tuple (ae (qv 6) ak))) ak))))))) (aA (bq (eF gq rfl B.tuple_ boot_tuple (ae (qv 3) ak))))))
theorem JK(B:gc mg)
  (hr:dm J0 (A.deeper (envOfC "_law_leads" (aq lu) s.heap.objs.size f cdv))):jv (eE fB P w K mg base zj "_law_leads" (aq lu) f cdv A outer s H E).nox (aP lu) (EJ K):=by
 have nd:=Bt.nd
 have hu:=hr.units0
 have hu1:=dJ hr
 refine kr.up ?_
 exact(aw (bU (aT (cH hu) (aQ aG (aQ aG (qv 0) (qv 1) (λ_ _=>rfl)) ay (λ_ _=>rfl)) aU rfl) (aA (bq (cI (ae (aQ aG (aQ aG (qv 0) (qv 1) (λ_ _=>rfl)) ay (λ_ _=>rfl)) ak)))) bo) (aw (bU (aT (cH hu) (aQ aG (aQ aG (qv 0) (qv 1) (λ_ _=>rfl)) ay (λ_ _=>rfl)) aU rfl) (aA (bq (cI (ae (bX cQ (qv 1) ay) (ae (aQ aG (aQ aG (qv 0) (qv 1) (λ_ _=>rfl)) ay (λ_ _=>rfl)) ak))))) bo) (aw (bU (aT (cH hu) (aQ aG (aQ aG (qv 0) (qv 1) (λ_ _=>rfl)) ay (λ_ _=>rfl)) aU rfl) (aA (bq (cI ak))) bo) (aA (bq (cI (ae (bX cQ (qv 1) ay) ak)))))))
theorem AQ(B:gc mg)(c_leads:aK P w K mg base "_law_leads" lJ vk (md K))
  (hr:dm AZ (A.deeper (envOfC "_law_set_names" (aq eT) s.heap.objs.size f cdv))):jv (eE fB P w K mg base ko "_law_set_names" (aq eT) f cdv A outer s H E).nox (aP eT) (uR K):=by
 have nd:=sM.nd
 have hu:=hr.units0
 have hu1:=dJ hr
 refine kr.up ?_
 exact(aw (qB (i:=3) (sc:=aq eT) (N:=ko) (NY:=["_law_rows","_law_names_here","_law_params","_law_known","_law_more","_law_n","_law_left","_law_m","_law_kept","_law_row"]) (js:=[]) (k:=1) ⟨rfl,by decide +kernel,by decide +kernel,by decide +kernel,rfl,by decide +kernel⟩ rfl rfl rfl rfl (ic (qv 0)) (λ_ _ _ _ _=>(bO (i:=9) (show List.Nodup (["_law_rows","_law_names_here","_law_params","_law_known","_law_more","_law_n","_law_left","_law_m","_law_kept","_law_row"]:List Str) by decide +kernel) rfl (Or.inl rfl))) (λ_ _ _ _ _=>kg) (λ_ _ _ _ _=>(eF lp rfl B.list_ boot_list (ae (qv 1) ak))) nd rfl (Or.inl rfl) rfl) (aw (fG (eF lp rfl B.list_ boot_list (ae (qv 2) ak)) (gI (qv 3) ay eU)) (aw (bx (i:=4) nd rfl (Or.inl rfl) iC) (aw (sG PassesOwn.never (ie (qv 4)) (aw (bx (i:=4) nd rfl (Or.inl rfl) iC) (aA (fg PassesOwn.never rfl (eG rfl B.range_ (ae (aW bE rfl B.len_ boot_len (ae (qv 0) ak)) ak)) (bO (i:=5) nd rfl (Or.inl rfl)) (aw (bx (i:=6) nd rfl (Or.inr rfl) (aQ aG (qv 3) (qv 5) (λ_ _=>rfl))) (aw (bU (aT hW (aQ aG (aQ aG (qv 0) (qv 5) (λ_ _=>rfl)) ay (λ_ _=>rfl)) (bS (ae aU (ae aU (ae aU ak)))) rfl) (aA (bx (i:=6) nd rfl (Or.inr rfl) (bX cQ (qv 6) (cI (ae (aQ aG (aQ aG (qv 0) (qv 5) (λ_ _=>rfl)) ay (λ_ _=>rfl)) ak))))) bo) (aA (fg PassesOwn.never rfl (ic (bQ c_leads (hr.mono (by decide)) rfl (ae (qv 0) (ae (qv 5) ak)))) (bO (i:=7) nd rfl (Or.inl rfl)) (aw (qB (i:=8) (sc:=aq eT) (N:=ko) (NY:=["_law_rows","_law_names_here","_law_params","_law_known","_law_more","_law_n","_law_left","_law_m","_law_kept","_law_name"]) (js:=[]) (k:=1) ⟨rfl,by decide +kernel,by decide +kernel,by decide +kernel,rfl,by decide +kernel⟩ rfl rfl rfl rfl (ic (aQ aG (qv 3) (qv 7) (λ_ _=>rfl))) (λ_ _ _ _ _=>(bO (i:=9) (show List.Nodup (["_law_rows","_law_names_here","_law_params","_law_known","_law_more","_law_n","_law_left","_law_m","_law_kept","_law_name"]:List Str) by decide +kernel) rfl (Or.inl rfl))) (λ_ _ _ _ _=>(Ag (aT hW (qv 9) (qv 6) rfl))) (λ_ _ _ _ _=>(qv 9)) nd rfl (Or.inl rfl) rfl) (aA (bU (aT lX (aW bE rfl B.len_ boot_len (ae (qv 8) ak)) (aW bE rfl B.len_ boot_len (ae (aQ aG (qv 3) (qv 7) (λ_ _=>rfl)) ak)) rfl) (aw (fG (qv 8) (gI (qv 3) (qv 7) eU)) (aA (bx (i:=4) nd rfl (Or.inl rfl) iC))) bo))))))))))) (aA (bq (qv 3)))))))
theorem GU(B:gc mg)
  (hr:dm Hh (A.deeper (envOfC "_law_mended" (aq jI) s.heap.objs.size f cdv))):jv (eE fB P w K mg base vM "_law_mended" (aq jI) f cdv A outer s H E).nox (aP jI) (BL K):=by
 have nd:=yI.nd
 have hu:=hr.units0
 have hu1:=dJ hr
 refine kr.up ?_
 exact(aw (bx (i:=3) nd rfl (Or.inl rfl) (bX pL (aW bE rfl B.len_ boot_len (ae (qv 0) ak)) ay)) (aw (bU (aT gR (aQ aG (aQ aG (qv 0) (qv 3) (λ_ _=>rfl)) ay (λ_ _=>rfl)) (bS (ae aU (ae aU ak))) rfl) (aA (fG (bS (ae aU (ae aU ak))) (gI (qv 0) (qv 3) eU))) bo) (aw (bU (QW.pt (oy (ie (qv 2)) (oy (aT (lY hu) (aQ aG (aQ aG (qv 0) ay (λ_ _=>rfl)) ay (λ_ _=>rfl)) aU rfl) (mM (aT Ej (qv 3) ay rfl))))) (aA (fG (bS (ae aU (ae (aQ aG (qv 1) ay (λ_ _=>rfl)) (ae ay ak)))) (gI (qv 0) ay eU))) bo) (aw (fg PassesOwn.never rfl (eG rfl B.range_ (ae (aW bE rfl B.len_ boot_len (ae (qv 0) ak)) ak)) (bO (i:=4) nd rfl (Or.inl rfl)) (aw (bx (i:=5) nd rfl (Or.inl rfl) (qv 4)) (aw (fg PassesOwn.never rfl (ic (qv 0)) (bO (i:=6) nd rfl (Or.inl rfl)) (aA (bU (aT (cH hu) (aQ aG (aQ aG (qv 0) (qv 5) (λ_ _=>rfl)) ay (λ_ _=>rfl)) aU rfl) (aA (bx (i:=5) nd rfl (Or.inl rfl) (aQ aG (aQ aG (qv 0) (qv 5) (λ_ _=>rfl)) ay (λ_ _=>rfl)))) bo))) (aA (bU (aT (cH hu) (aQ aG (aQ aG (qv 0) (qv 5) (λ_ _=>rfl)) ay (λ_ _=>rfl)) aU rfl) (aA (fG (aQ aG (cI (ae (bS (ae aU (ae aU ak))) (ae (bS (ae aU (ae aU ak))) ak))) (eF tQ rfl B.int_ boot_int (ae (eX (cH hu) (qv 4) (qv 3) rfl) ak)) (λ_ _=>rfl)) (gI (qv 0) (qv 4) eU))) bo))))) (aA (bq (qv 0)))))))
theorem JQ(B:gc mg)(c_draw:aK P w K mg base "_law_draw" dZ gF (bC K))
  (hr:dm J5 (A.deeper (envOfC "_law_worth" (aq lA) s.heap.objs.size f cdv))):jv (eE fB P w K mg base zp "_law_worth" (aq lA) f cdv A outer s H E).nox (aP lA) (EO K):=by
 have nd:=By.nd
 have hu:=hr.units0
 have hu1:=dJ hr
 refine kr.up ?_
 exact(aw (bU (aT (cH hu) (bQ c_draw (hr.mono (by decide)) rfl (ae (qv 0) (ae ay ak))) ay rfl) (aA (bq (bX cQ (bX g8 (bQ c_draw (hr.mono (by decide)) rfl (ae (qv 0) (ae (bX Ae ay ay) ak))) (bX Ae ay ay)) (bQ c_draw (hr.mono (by decide)) rfl (ae (qv 0) (ae (bX Ae ay ay) ak)))))) bo) (aA (bq (aQ aG (cI (ae ay (ae ay (ae (bX pL (bX pL (bX Ae ay ay) ay) (bQ c_draw (hr.mono (by decide)) rfl (ae (qv 0) (ae ay ak)))) (ae (bQ c_draw (hr.mono (by decide)) rfl (ae (qv 0) (ae ay ak))) ak))))) (bQ c_draw (hr.mono (by decide)) rfl (ae (qv 0) (ae ay ak))) (λ_ _=>rfl)))))
theorem AO(B:gc mg)(c_draw:aK P w K mg base "_law_draw" dZ gF (bC K))(c_worth:aK P w K mg base "_law_worth" lO vq (mj K))
  (hr:dm AY (A.deeper (envOfC "_law_rough_row" (aq fZ) s.heap.objs.size f cdv))):jv (eE fB P w K mg base pB "_law_rough_row" (aq fZ) f cdv A outer s H E).nox (aP fZ) (uQ K):=by
 have nd:=sL.nd
 have hu:=hr.units0
 have hu1:=dJ hr
 refine kr.up ?_
 exact(aw (bx (i:=4) nd rfl (Or.inl rfl) (aQ aG (qv 1) (bQ c_draw (hr.mono (by decide)) rfl (ae (qv 0) (ae (aW bE rfl B.len_ boot_len (ae (qv 1) ak)) ak))) (λ_ _=>rfl))) (aw (bx (i:=5) nd rfl (Or.inl rfl) (bQ c_draw (hr.mono (by decide)) rfl (ae (qv 0) (ae ay ak)))) (aw (bU (aT lX (qv 5) ay rfl) (aA (bq (bS (ae aU (ae (qv 4) (ae (bQ c_worth (hr.mono (by decide)) rfl (ae (qv 0) ak)) ak)))))) bo) (aw (bU (aT lX (qv 5) ay rfl) (aA (bq (bS (ae aU (ae (qv 4) (ae (aQ aG aU (bQ c_draw (hr.mono (by decide)) rfl (ae (qv 0) (ae ay ak))) (λ_ _=>rfl)) (ae aU (ae aU ak)))))))) bo) (aw (bU (aT (cH hu) (qv 5) ay rfl) (aw (bx (i:=6) nd rfl (Or.inl rfl) (bQ c_draw (hr.mono (by decide)) rfl (ae (qv 0) (ae (aW bE rfl B.len_ boot_len (ae (qv 3) ak)) ak)))) (aA (bq (bS (ae aU (ae (qv 4) (ae (qv 6) (ae (bX g8 (bS (ae aU ak)) (aQ aG (qv 3) (qv 6) (λ_ _=>rfl))) ak)))))))) bo) (aw (bU (aT lX (qv 5) ay rfl) (aA (bq (bS (ae aU (ae aU ak))))) bo) (aw (bU (aT lX (qv 5) ay rfl) (aA (bq (bS (ae aU (ae aU (ae (bQ c_draw (hr.mono (by decide)) rfl (ae (qv 0) (ae (qv 2) ak))) ak)))))) bo) (aA (bq (aQ aG (cI (ae (bS (ae aU (ae (bQ c_draw (hr.mono (by decide)) rfl (ae (qv 0) (ae (qv 2) ak))) ak))) (ae (bS (ae aU (ae aU ak))) ak))) (bX pL (qv 5) ay) (λ_ _=>rfl)))))))))))
theorem Mh(B:gc mg)(c_filled:aK P w K mg base "_law_filled" jQ rS (jW K))(c_set_names:aK P w K mg base "_law_set_names" gQ mI (gY K))(c_mended:aK P w K mg base "_law_mended" jR rT (jX K))(c_rough_row:aK P w K mg base "_law_rough_row" gP mH (gX K))(c_draw:aK P w K mg base "_law_draw" dZ gF (bC K))
  (hr:dm Mv (A.deeper (envOfC "_law_part" (aq m6) s.heap.objs.size f cdv))):jv (eE fB P w K mg base zl "_law_part" (aq m6) f cdv A outer s H E).nox (aP m6) (Jc K):=by
 have nd:=Ew.nd
 have hu:=hr.units0
 have hu1:=dJ hr
 refine kr.up ?_
 exact(aw (bx (i:=6) nd rfl (Or.inr rfl) (aW (EX rfl) rfl B.max_ boot_max (ae (bX cQ ay (eF tQ rfl B.int_ boot_int (ae (eX (cH hu) (aW bE rfl B.len_ boot_len (ae (qv 3) ak)) ay rfl) ak))) (ae (bX cQ ay (bQ c_draw (hr.mono (by decide)) rfl (ae (qv 0) (ae (qv 5) ak)))) ak)))) (aw (qB (i:=7) (sc:=aq m6) (N:=zl) (NY:=["_law_state","_law_word","_law_names_here","_law_params","_law_counts","_law_most","_law_many","_law_rows","_law_known","_law_n"]) (js:=[]) (k:=1) ⟨rfl,by decide +kernel,by decide +kernel,by decide +kernel,rfl,by decide +kernel⟩ rfl rfl rfl rfl (eG rfl B.range_ (ae (qv 6) ak)) (λ_ _ _ _ _=>(bO (i:=9) (show List.Nodup (["_law_state","_law_word","_law_names_here","_law_params","_law_counts","_law_most","_law_many","_law_rows","_law_known","_law_n"]:List Str) by decide +kernel) rfl (Or.inl rfl))) (λ_ _ _ _ _=>kg) (λ_ _ _ _ _=>(bQ c_rough_row (hr.mono (by decide)) rfl (ae (qv 0) (ae (qv 2) (ae (qv 6) (ae (qv 4) ak)))))) nd rfl (Or.inl rfl) rfl) (aw (bx (i:=7) nd rfl (Or.inl rfl) (bQ c_mended (hr.mono (by decide)) rfl (ae (qv 7) (ae (qv 2) (ae (eX (cH hu) (aW bE rfl B.len_ boot_len (ae (qv 3) ak)) ay rfl) ak))))) (aw (bx (i:=8) nd rfl (Or.inl rfl) (bQ c_set_names (hr.mono (by decide)) rfl (ae (qv 7) (ae (qv 2) (ae (qv 3) ak))))) (aA (bq (bS (ae (qv 1) (ae (eF gq rfl B.tuple_ boot_tuple (ae (qv 3) ak)) (ae (bQ c_filled (hr.mono (by decide)) rfl (ae (qv 0) (ae (qv 7) (ae (qv 8) ak)))) ak))))))))))
theorem JM(B:gc mg)(c_draw:aK P w K mg base "_law_draw" dZ gF (bC K))
  (hr:dm J2 (A.deeper (envOfC "_law_names" (aq kh) s.heap.objs.size f cdv))):jv (eE fB P w K mg base vt "_law_names" (aq kh) f cdv A outer s H E).nox (aP kh) (EL K):=by
 have nd:=Bv.nd
 have hu:=hr.units0
 have hu1:=dJ hr
 refine kr.up ?_
 exact(aw (bx (i:=2) nd rfl (Or.inr rfl) aU) (aw (bx (i:=3) nd rfl (Or.inl rfl) (bX cQ ay (bQ c_draw (hr.mono (by decide)) rfl (ae (qv 0) (ae ay ak))))) (aw (bx (i:=4) nd rfl (Or.inl rfl) (bQ c_draw (hr.mono (by decide)) rfl (ae (qv 0) (ae (qv 3) ak)))) (aw (bx (i:=5) nd rfl (Or.inr rfl) (bQ c_draw (hr.mono (by decide)) rfl (ae (qv 0) (ae ay ak)))) (aw (qB (i:=6) (sc:=aq kh) (N:=vt) (NY:=["_law_state","_law_many","_law_letters","_law_size","_law_at","_law_first","_law_base","_law_found","_law_k","_law_some","_law_name","_law_j"]) (js:=[]) (k:=1) ⟨rfl,by decide +kernel,by decide +kernel,by decide +kernel,rfl,by decide +kernel⟩ rfl rfl rfl rfl (eG rfl B.range_ (ae (qv 3) ak)) (λ_ _ _ _ _=>(bO (i:=11) (show List.Nodup (["_law_state","_law_many","_law_letters","_law_size","_law_at","_law_first","_law_base","_law_found","_law_k","_law_some","_law_name","_law_j"]:List Str) by decide +kernel) rfl (Or.inl rfl))) (λ_ _ _ _ _=>kg) (λ_ _ _ _ _=>(aQ aG (qv 2) (bX jU (bX cQ (qv 5) (bX g8 (bX g8 ay (qv 11)) (bQ c_draw (hr.mono (by decide)) rfl (ae (qv 0) (ae ay ak))))) ay) (λ_ _=>rfl))) nd rfl (Or.inl rfl) rfl) (aw (bx (i:=7) nd rfl (Or.inl rfl) (cI ak)) (aw (fg PassesOwn.never rfl (eG rfl B.range_ (ae (qv 1) ak)) (bO (i:=8) nd rfl (Or.inl rfl)) (aw (bx (i:=9) nd rfl (Or.inl rfl) (bX cQ (bX cQ (fX kL (qv 6) ig (ij (qv 4))) (cI (ae (aQ aG (qv 2) (bX jU (bX cQ (qv 5) (bX g8 ay (qv 8))) ay) (λ_ _=>rfl)) ak))) (fX kL (qv 6) (ij (bX cQ (qv 4) ay)) ig))) (aw (bx (i:=10) nd rfl (Or.inl rfl) (sE PySem.F.plainAttrs_str PySem.F.slot_str_join PySem.F.type_str_join Kd aU (ae (qv 9) ak))) (aw (bU (QW.pt (nC (aT hW (qv 10) (bS (ae aU (ae aU (ae aU (ae aU (ae aU (ae aU ak))))))) rfl) (lZ (QW.pt (oy (aT lX (qv 3) ay rfl) (mM (aT (cH hu) (bX jU (bX cQ (qv 3) (qv 8)) ay) ay rfl))))))) (aA (bx (i:=10) nd rfl (Or.inl rfl) (bX cQ (qv 10) aU))) bo) (aA (iI (sE cu de dg jq (qv 7) (ae (qv 10) ak)))))))) (aA (bq (qv 7))))))))))
theorem E6(B:gc mg)(c_part:aK P w K mg base "_law_part" og zg (oE K))(c_draw:aK P w K mg base "_law_draw" dZ gF (bC K))(c_names:aK P w K mg base "_law_names" lL vn (kB K))
  (hr:dm Fo (A.deeper (envOfC "_law_program" (aq hZ) s.heap.objs.size f cdv))):jv (eE fB P w K mg base qx "_law_program" (aq hZ) f cdv A outer s H E).nox (aP hZ) (yY K):=by
 have nd:=wN.nd
 have hu:=hr.units0
 have hu1:=dJ hr
 refine kr.up ?_
 exact(aw (bx (i:=2) nd rfl (Or.inl rfl) (eF tQ rfl B.int_ boot_int (ae (eX (cH hu) (bX jU (bX Ad (aW (zA rfl) rfl B.sum_ boot_sum (ae (fX kL (aQ aG (qv 0) ay (λ_ _=>rfl)) ig (ij ay)) ak)) ay) ay) ay rfl) ak))) (aw (bx (i:=3) nd rfl (Or.inl rfl) (fX kL (bQ c_names (hr.mono (by decide)) rfl (ae (qv 0) (ae ay ak))) ig (ij (aQ aG (cI (ae (bX cQ ay (bQ c_draw (hr.mono (by decide)) rfl (ae (qv 0) (ae ay ak)))) (ae ay ak))) (qv 2) (λ_ _=>rfl))))) (aw (bx (i:=4) nd rfl (Or.inr rfl) (bQ c_names (hr.mono (by decide)) rfl (ae (qv 0) (ae (bX cQ ay (bQ c_draw (hr.mono (by decide)) rfl (ae (qv 0) (ae ay ak)))) ak)))) (aw (qB (i:=5) (sc:=aq hZ) (N:=qx) (NY:=["_law_state","_law_most","_law_five","_law_words","_law_names_here","_law_counts","_law_found","_law_word","_law_many","_law_turn","_law_params"]) (js:=[7]) (k:=0) ⟨rfl,by decide +kernel,by decide +kernel,by decide +kernel,rfl,by decide +kernel⟩ rfl rfl rfl rfl (ic (qv 3)) (λ_ _ _ _ _=>(bO (i:=7) (show List.Nodup (["_law_state","_law_most","_law_five","_law_words","_law_names_here","_law_counts","_law_found","_law_word","_law_many","_law_turn","_law_params"]:List Str) by decide +kernel) rfl (Or.inl rfl))) (λ_ _ _ _ _=>kg) (λ_ _ _ _ _=>(bQ c_draw (hr.mono (by decide)) rfl (ae (qv 0) (ae (bX cQ (aW (EY rfl) rfl B.min_ boot_min (ae ay (ae (aW bE rfl B.len_ boot_len (ae (qv 4) ak)) ak))) ay) ak)))) nd rfl (Or.inl rfl) rfl) (aw (bx (i:=6) nd rfl (Or.inl rfl) (cI ak)) (aw (fg PassesOwn.never rfl (Nv rfl B.zip_ (ae (qv 3) (ae (qv 5) ak))) (rH rfl (eh (bO (i:=7) nd rfl (Or.inl rfl)) (eh (bO (i:=8) nd rfl (Or.inl rfl)) mK))) (aw (bx (i:=9) nd rfl (Or.inl rfl) (bQ c_draw (hr.mono (by decide)) rfl (ae (qv 0) (ae (aW bE rfl B.len_ boot_len (ae (qv 4) ak)) ak)))) (aw (bx (i:=10) nd rfl (Or.inl rfl) (fX kL (bX cQ (fX kL (qv 4) (ij (qv 9)) ig) (fX kL (qv 4) ig (ij (qv 9)))) ig (ij (qv 8)))) (aA (iI (sE cu de dg jq (qv 6) (ae (bQ c_part (hr.mono (by decide)) rfl (ae (qv 0) (ae (qv 7) (ae (qv 4) (ae (qv 10) (ae (qv 5) (ae (qv 1) ak))))))) ak))))))) (aA (bq (eF gq rfl B.tuple_ boot_tuple (ae (qv 6) ak))))))))))
theorem N4(B:gc mg)(c_draw:aK P w K mg base "_law_draw" dZ gF (bC K))(c_made_right:aK P w K mg base "_law_made_right" gj kU (gs K))(c_meets:aK P w K mg base "_law_meets" lK vm (jL K))(c_due:aK P w K mg base "_law_due" rz DV (rK K))(c_spoilt:aK P w K mg base "_law_spoilt" jT rW (jZ K))(c_program:aK P w K mg base "_law_program" jb qu (jf K))
  (hr:dm Oa (A.deeper (envOfC "law" (aq oP) s.heap.objs.size f cdv))):jv (eE fB P w K mg base GJ "law" (aq oP) f cdv A outer s H E).nox (aP oP) (L6 K):=by
 have nd:=IH.nd
 have hu:=hr.units0
 have hu1:=dJ hr
 refine kr.up ?_
 exact(aw (bx (i:=1) nd rfl (Or.inl rfl) (cI (ae (qv 0) (ae ay (ae ay ak))))) (aw (bx (i:=2) nd rfl (Or.inl rfl) (bX cQ ay (bQ c_draw (hr.mono (by decide)) rfl (ae (qv 1) (ae ay ak))))) (aw (bx (i:=3) nd rfl (Or.inl rfl) (bQ c_program (hr.mono (by decide)) rfl (ae (qv 1) (ae ay ak)))) (aw (bx (i:=4) nd rfl (Or.inl rfl) (qv 3)) (aw (fg PassesOwn.never rfl (eG rfl B.range_ (ae (qv 2) ak)) (bO (i:=5) nd rfl (Or.inl rfl)) (aA (bx (i:=4) nd rfl (Or.inl rfl) (bQ c_spoilt (hr.mono (by decide)) rfl (ae (qv 1) (ae (qv 4) ak)))))) (aw (bx (i:=6) nd rfl (Or.inl rfl) (bQ c_due (hr.mono (by decide)) rfl (ae (qv 4) ak))) (aw (bU (QW.pt (nC (uc (ie (bQ c_meets (hr.mono (by decide)) rfl (ae (qv 4) (ae (qv 6) ak))))) (nC (uc (ie (bQ c_meets (hr.mono (by decide)) rfl (ae (qv 3) (ae (bS (ae (pM mw ay) (ae ay (ae aU ak)))) ak))))) (lZ (uc (ie (bQ c_meets (hr.mono (by decide)) rfl (ae (qv 4) (ae (qv 6) ak))))))))) (aA (bq iC)) bo) (aA (bq (bQ c_made_right (hr.mono (by decide)) rfl (ae (bQ c_draw (hr.mono (by decide)) rfl (ae (qv 1) (ae ay ak))) (ae (bQ c_draw (hr.mono (by decide)) rfl (ae (qv 1) (ae ay ak))) (ae aU ak)))))))))))))
end
end Bg
end
section
namespace Bg
open PySem L2
theorem uz{K:Fg}{st scr:Addr}{m:Int}{k:Nat}{ns:List Int}{c:Int}{H H2:Hp}{Q:VK}{o4 o5:Option V}{nx:St->Hp->Prop}(hk:k<=1000000)(m0:0<m)
  (q:∀(d:Int) (H':Hp),0<=d->d<m->ke K H' st (k+1)->gB st H H'->Q (.int d) H') (hS:H2 st=some (.lst [.ref scr,.int ((k:Int)+1),.int c])) (hscr:mJ K H2 scr ns) (hns:ns.length<=63) (hB:gB st H H2) :
  sP K {nx:=nx,rt:=Q} [some (.ref st),some (.int m),some (.ref scr),some (.int (k:Nat)),o4,o5] H2:=by
 have e1:(((k+1:Nat):Nat):Int)=(k:Int)+1:=by lia
 have S2:ke K H2 st (k+1):=⟨scr,ns,c,by rw[e1];exact hS,hscr,hns⟩
 refine⟨_,rfl,.inl ⟨_,_,rfl,rfl,.inr ⟨by decide,by decide⟩,.inl ⟨_,_,rfl,rfl,?_⟩⟩⟩
 have rest:∀z:Int,BG K {nx:=nx,rt:=Q} [some (.ref st),some (.int m),some (.ref scr),some (.int (k:Nat)),o4,some (.int z)] H2:=λz=>by
  have b1:0<=z % 2147483629:=dB _ (by decide)
  have b2:z % 2147483629<2147483629:=dz _ (by decide)
  refine⟨_,rfl,_,_,rfl,rfl,(by show(0:Int)<2147483629;decide),_,rfl,.inl ⟨_,_,rfl,rfl,.inl ⟨_,_,rfl,rfl,.inl ⟨by lia,by lia⟩,_,_,rfl,rfl,(by show(0:Int)<2147483629;decide),?_⟩⟩⟩
  generalize hy:z % 2147483629*((k:Int)+3) % 2147483629=y
  have c1:0<=y:=by rw[<-hy];exact dB _ (by decide)
  have c2:y<2147483629:=by rw[<-hy];exact dz _ (by decide)
  refine⟨_,rfl,_,rfl,.inl ⟨_,_,rfl,rfl,.inl ⟨by lia,by lia⟩,_,_,rfl,rfl,(by show(0:Int)<2147483587;decide),?_⟩⟩
  generalize hx:y*y % 2147483587=x
  have d1:0<=x:=by rw[<-hx];exact dB _ (by decide)
  have d2:x<2147483587:=by rw[<-hx];exact dz _ (by decide)
  refine⟨_,rfl,_,rfl,.inl ⟨_,_,rfl,rfl,.inl ⟨by lia,by lia⟩,_,_,rfl,rfl,(by show(0:Int)<1999999973;decide),_,rfl,_,_,rfl,rfl,m0,?_⟩⟩
  exact q _ H2 (dB _ (by lia)) (dz _ m0) S2 hB
 refine⟨_,rfl,_,_,rfl,.inl ⟨_,hscr.sq,rfl⟩,_,_,rfl,rfl,_,rfl,bZ (λhl=>?_) (λ_=>rest _)⟩
 rw[ai] at hl
 have hlp:0<ns.length:=by lia
 refine⟨_,rfl,_,rfl,_,rfl,.inl ⟨_,_,rfl,rfl,.inr ⟨by decide,by decide⟩,_,rfl,_,_,rfl,.inl ⟨_,hscr.sq,rfl⟩,_,_,rfl,rfl,(by rw[ai];lia),?_⟩⟩
 have i1:0<=(k:Int)*7 % ((ns.map V.int).length:Nat):=dB _ (by rw[ai];lia)
 have i2:(k:Int)*7 % ((ns.map V.int).length:Nat)<((ns.map V.int).length:Nat):=dz _ (by rw[ai];lia)
 rw[ai] at i1 i2
 have i3:((k:Int)*7 % (ns.length:Nat)).toNat<ns.length:=by lia
 refine kz hscr.sq (by rw[ai];exact i1) (v:=.int ns[((k:Int)*7 % (ns.length:Nat)).toNat]) (by simp only[ai];rw[aO,ao i3];rfl) ?_
 exact⟨_,rfl,.inl ⟨_,_,rfl,rfl,.inl ⟨_,_,rfl,rfl,.inr ⟨by lia,by lia⟩,.inl ⟨_,_,rfl,rfl,rest _⟩⟩⟩⟩
theorem Ny{K:Fg}{vs:List V}{H:Hp}{Q:VK}{E:XK}(h:bC K vs H Q E):IR K {nx:=λ_ H'=>Q .non H',rt:=Q} (cU Ct vs) H:=by
 obtain⟨st,m,k,rfl,S,hk,m0,m1,q⟩:=h
 obtain⟨scr,ns,c,hst,hscr,hns⟩:=S
 refine⟨_,rfl,_,rfl,.inl ⟨st,_,rfl,cA.of hst,λp hp=>?_⟩⟩
 refine⟨p,_,rfl,cA.of ag,rfl,_,_,rfl,_,_,rfl,rfl,?_⟩
 have np:st≠p:=au hst hp
 have B1:gB st H (upd H p (.lst (qF [V.ref scr,V.int (k:Nat),V.int c] none (some 2)))):=(gB.refl st H).new hp
 have h1:(upd H p (.lst (qF [V.ref scr,V.int (k:Nat),V.int c] none (some 2)))) st=some (.lst [.ref scr,.int (k:Nat),.int c]):=by rw[aB np];exact hst
 have s1:mJ K (upd H p (.lst (qF [V.ref scr,V.int (k:Nat),V.int c] none (some 2)))) scr ns:=hscr.mono (.of_but B1 hst)
 generalize upd H p (.lst (qF [V.ref scr,V.int (k:Nat),V.int c] none (some 2)))=H1 at B1 h1 s1 ⊢
 refine⟨_,rfl,.inl ⟨_,_,rfl,rfl,_,rfl,ph h1 (by decide) (by show 1<3;decide) ?_⟩⟩
 have B2:gB st H (upd H1 st (.lst [.ref scr,.int ((k:Int)+1),.int c])):=B1.trans .upd_at
 have h2:(upd H1 st (.lst [.ref scr,.int ((k:Int)+1),.int c])) st=some (.lst [.ref scr,.int ((k:Int)+1),.int c]):=ag
 have s2:mJ K (upd H1 st (.lst [.ref scr,.int ((k:Int)+1),.int c])) scr ns:=s1.mono (.of_but .upd_at h1)
 show BJ K _ [some (.ref st),some (.int m),some (.ref scr),some (.int (k:Nat)),none,none] (upd H1 st (.lst [.ref scr,.int ((k:Int)+1),.int c]))
 generalize upd H1 st (.lst [.ref scr,.int ((k:Int)+1),.int c])=H2 at B2 h2 s2 ⊢
 have tail:=@uz K st scr m k ns c H H2 Q none none (λ_ H'=>Q .non H') hk m0 q h2 s2 hns B2
 have dig:∀(c':Int) (H3:Hp),H3 st=some (.lst [.ref scr,.int ((k:Int)+1),.int c'])->mJ K H3 scr ns->gB st H H3->
   BI K {nx:=sP K {nx:=λ_ H'=>Q .non H',rt:=Q},rt:=Q} [some (.ref st),some (.int m),some (.ref scr),some (.int (k:Nat)),none,none] H3:=λc' H3 h3 s3 B3=>by
  refine⟨_,rfl,kz (cA.of h3) (by decide) rfl ?_⟩
  refine⟨_,rfl,(by show 2<=sizeLine;decide),λt ht=>⟨t,_,rfl,.inr (cY.of ag),rfl,rfl,_,rfl,?_⟩⟩
  have n3:st≠t:=au h3 ht
  have B4:gB st H (upd H3 t (.tup [.int 0,.int (-1)])):=B3.new ht
  have h4:(upd H3 t (.tup [.int 0,.int (-1)])) st=some (.lst [.ref scr,.int ((k:Int)+1),.int c']):=by rw[aB n3];exact h3
  have s4:mJ K (upd H3 t (.tup [.int 0,.int (-1)])) scr ns:=s3.mono (.of_same ((aS.refl H3).new ht))
  refine ny (λ_=>?_) (λ_=>?_)
  ·-- _law_state[2],_law_digit=divmod(_law_state[2],_law_many)
   refine⟨_,rfl,.inl ⟨st,_,_,_,rfl,rfl,cA.of h4,zw (by decide) rfl,_,rfl,_,_,rfl,⟨m0,m1⟩,λp2 hp2=>?_⟩⟩
   have n4:st≠p2:=au h4 hp2
   refine⟨p2,_,rfl,cY.of ag,rfl,_,_,rfl,_,rfl,ph (by rw[aB n4];exact h4) (by decide) (by show 2<3;decide) ?_⟩
   refine⟨_,_,rfl,rfl,_,rfl,?_⟩
   have B5:=(B4.new (o:=.tup [.int (c' / m),.int (c' % m)]) hp2)
   have s5:mJ K (upd (upd H3 t (.tup [.int 0,.int (-1)])) p2 (.tup [.int (c' / m),.int (c' % m)])) scr ns:=s4.mono (.of_same ((aS.refl _).new hp2))
   have h5:(upd (upd H3 t (.tup [.int 0,.int (-1)])) p2 (.tup [.int (c' / m),.int (c' % m)])) st=some (.lst [.ref scr,.int ((k:Int)+1),.int c']):=by rw[aB n4];exact h4
   refine q _ _ (dB _ (by lia)) (dz _ m0) ⟨scr,ns,c' / m,?_,s5.mono (.of_but .upd_at h5),hns⟩ (B5.trans .upd_at)
   have e1:(((k+1:Nat):Nat):Int)=(k:Int)+1:=by lia
   rw[ag,e1]
   rfl
  ·exact uz hk m0 q h4 s4 hns B4
 have e1:(((k+1:Nat):Nat):Int)=(k:Int)+1:=by lia
 have elif:cM (bI (bb qH (aj 3) (fN (eA K) (af (aj 2) aE)))) (cE (bb mO (bb (cS K) (aj 2) (aj 3)) (aj 1))) bY
   {nx:=sP K {nx:=λ_ H'=>Q V.non H',rt:=Q},rt:=Q} [some (V.ref st),some (V.int m),some (V.ref scr),some (V.int (k:Nat)),none,none] H2:=by
  refine⟨_,rfl,_,rfl,_,_,rfl,.inl ⟨_,s2.sq,rfl⟩,_,_,rfl,rfl,_,rfl,bZ (λhlt=>?_) (λ_=>tail)⟩
  rw[ai] at hlt
  have j2:((k:Nat):Int).toNat<ns.length:=by lia
  refine⟨_,rfl,_,rfl,kz s2.sq (by lia) (v:=.int ns[((k:Nat):Int).toNat]) (by rw[aO,ao j2];rfl) ?_⟩
  refine⟨_,rfl,_,_,rfl,rfl,m0,?_⟩
  exact q _ H2 (dB _ (by lia)) (dz _ m0) ⟨scr,ns,c,by rw[e1];exact h2,s2,hns⟩ B2
 refine⟨_,rfl,_,_,rfl,rfl,⟨by decide,by decide⟩,.inl ⟨_,_,rfl,rfl,_,rfl,_,_,rfl,.inl ⟨_,s2.sq,rfl⟩,_,_,rfl,rfl,_,rfl,bZ (λhlt=>?_) (λ_=>?_)⟩⟩
 ·rw[ai] at hlt
  have hlp:0<ns.length:=by lia
  have i0:(ns.map V.int)[(0:Int).toNat]?=some (.int ns[0]):=by
   show(ns.map V.int)[0]?=_
   rw[aO,ao hlp];rfl
  refine⟨_,rfl,kz s2.sq (by decide) i0 ⟨_,_,rfl,rfl,(by show(0:Int)<2;decide),.inl ⟨rfl,_,rfl,bZ (λ_=>?_) (λ_=>?_)⟩⟩⟩
  ·-- if _law_k % 12==0
   refine⟨_,rfl,_,_,rfl,rfl,(by show(0:Int)<12;decide),.inl ⟨rfl,_,rfl,bZ (λ_=>?_) (λ_=>dig c H2 h2 s2 B2)⟩⟩
   have j2:((k:Int) / 12+1).toNat<ns.length:=by lia
   refine⟨_,rfl,_,rfl,_,_,rfl,rfl,⟨by decide,by decide⟩,.inl ⟨_,_,rfl,rfl,kz s2.sq (by lia) (v:=.int ns[((k:Int) / 12+1).toNat]) (by rw[aO,ao j2];rfl) ?_⟩⟩
   refine⟨_,rfl,ph h2 (by decide) (by show 2<3;decide) ?_⟩
   exact dig _ _ ag (s2.mono (.of_but .upd_at h2)) (B2.trans .upd_at)
  ·exact elif
 ·exact iW elif
theorem Li{K:Fg}{vs:List V}{H:Hp}{Q:VK}{E:XK}(h:mj K vs H Q E):EO K {nx:=λ_ H'=>Q .non H',rt:=Q} (cU zp vs) H:=by
 obtain⟨st,k,rfl,S,hk,q⟩:=h
 have e31:(2:Int) ^ gD 31=2147483648:=by decide
 have e33:(2:Int) ^ gD 33=8589934592:=by decide
 have e64:(2:Int) ^ gD 64=18446744073709551616:=by decide
 have f64:(2:Int) ^ 64=18446744073709551616:=by decide
 refine⟨_,rfl,st,2,k,rfl,S,by lia,by decide,by decide,λd H1 d0 d1 S1 B1=>?_⟩
 refine .inl ⟨rfl,_,rfl,bZ (λ_=>?_) (λ_=>?_)⟩
 ·refine⟨_,rfl,_,_,rfl,rfl,⟨by decide,by decide,by decide⟩,st,_,k+1,rfl,S1,by lia,by rw[e31];decide,by rw[e31];decide,λd2 H2 a0 a1 S2 B2=>?_⟩
  rw[e31] at a1
  refine⟨_,_,rfl,rfl,⟨by decide,by decide,by decide⟩,.inl ⟨_,_,rfl,rfl,.inl ⟨by lia,by lia⟩,?_⟩⟩
  refine⟨_,rfl,_,_,rfl,rfl,⟨by decide,by decide,by decide⟩,st,_,k+2,rfl,S2,by lia,by rw[e31];decide,by rw[e31];decide,λd3 H3 b0 b1 S3 B3=>?_⟩
  rw[e31] at b1
  refine .inl ⟨_,_,rfl,rfl,q _ _ H3 ?_ ?_ S3 (by lia) ((B1.trans B2).trans B3)⟩
  ·show 0<=d2*(2:Int) ^ gD 33+d3
   rw[e33];lia
  ·show d2*(2:Int) ^ gD 33+d3<2 ^ 64
   rw[e33,f64];lia
 ·refine⟨_,_,rfl,rfl,⟨by decide,by decide,by decide⟩,_,_,rfl,rfl,_,rfl,st,3,k+1,rfl,S1,by lia,by decide,by decide,λd2 H2 a0 a1 S2 B2=>?_⟩
  refine⟨_,_,rfl,rfl,_,rfl,st,12,k+2,rfl,S2,by lia,by decide,by decide,λd3 H3 b0 b1 S3 B3=>?_⟩
  refine⟨(by show 4<=sizeLine;decide),λl hl=>?_⟩
  refine⟨_,rfl,st,4,k+3,rfl,S3.new hl,by lia,by decide,by decide,λd4 H4 c0 c1 S4 B4=>?_⟩
  obtain⟨ys,hys⟩:=S3.lst
  have nl:l≠st:=λz=>by rw[z,hys] at hl;cases hl
  have h4:=B4 l _ nl ag
  have B5:gB st H H4:=(((B1.trans B2).trans B3).new hl).trans B4
  have fin:∀z:Int,0<=z->z<2 ^ 64->Q (.int z) H4:=λz z0 z1=>q z _ H4 z0 z1 S4 (by lia) B5
  rcases(by lia:d4=0\/d4=1\/d4=2\/d4=3) with rfl|rfl|rfl|rfl
  ·exact kz (cA.of h4) (by decide) rfl (fin _ (by decide) (by decide))
  ·exact kz (cA.of h4) (by decide) rfl (fin _ (by decide) (by decide))
  ·refine kz (cA.of h4) (by decide) rfl (fin _ ?_ ?_)
   ·show 0<=(2:Int) ^ gD 64-1-d2
    rw[e64];lia
   ·show(2:Int) ^ gD 64-1-d2<2 ^ 64
    rw[e64,f64];lia
  ·exact kz (cA.of h4) (by decide) rfl (fin _ (by lia) (by lia))
theorem nA{K:Fg}{p:Addr}{xs:List V}{i:Int}{v:V}{H:Hp}{Q:VK}(h:H p=some (.lst xs)\/H p=some (.tup xs))(h0:0<=i)(e:xs[i.toNat]?=some v)(q:Q v H):cS K (.ref p) (.int i) H Q:=by
 rcases h with h|h
 ·exact kz (cA.of h) h0 e q
 ·exact cb h h0 e q
theorem Ld{K:Fg}{vs:List V}{H:Hp}{Q:VK}{E:XK}(h:md K vs H Q E):EJ K {nx:=λ_ H'=>Q .non H',rt:=Q} (cU zj vs) H:=by
 obtain⟨rt,n,rvs,v,r,rfl,hrt,hv,hr,q⟩:=h
 have hn:rvs[((n:Nat):Int).toNat]?=some v:=by simpa using hv
 have n0:(0:Int)<=((n:Nat):Int):=by lia
 have e1:(((n+1:Nat):Nat):Int)=(n:Int)+1:=by lia
 cases r with
 |num x z=>
  obtain⟨p,rfl,h⟩:=hr
  refine⟨_,rfl,_,rfl,nA hrt n0 hn (cb h (by decide) rfl (.inl ⟨rfl,_,rfl,no (by decide +kernel) ?_⟩))⟩
  refine⟨_,rfl,_,rfl,nA hrt n0 hn (cb h (by decide) rfl (.inl ⟨rfl,_,rfl,no (by decide +kernel) ?_⟩))⟩
  refine⟨_,rfl,_,rfl,nA hrt n0 hn (cb h (by decide) rfl (.inl ⟨rfl,_,rfl,no (by decide +kernel) ?_⟩))⟩
  exact⟨_,rfl,.inl ⟨_,_,rfl,rfl,⟨(by show 1<=sizeLine;decide),λt ht=>(by have z:=q t ht;unfold bH cW at z;simp only[ba,bV,e1] at z;exact z)⟩⟩⟩
 |op x s a b=>
  obtain⟨p,rfl,h⟩:=hr
  refine⟨_,rfl,_,rfl,nA hrt n0 hn (cb h (by decide) rfl (.inl ⟨rfl,_,rfl,no (by decide +kernel) ?_⟩))⟩
  refine⟨_,rfl,_,rfl,nA hrt n0 hn (cb h (by decide) rfl (.inl ⟨rfl,_,rfl,no (by decide +kernel) ?_⟩))⟩
  refine⟨_,rfl,_,rfl,nA hrt n0 hn (cb h (by decide) rfl (.inl ⟨rfl,_,rfl,no (by decide +kernel) ?_⟩))⟩
  exact⟨_,rfl,.inl ⟨_,_,rfl,rfl,⟨(by show 1<=sizeLine;decide),λt ht=>(by have z:=q t ht;unfold bH cW at z;simp only[ba,bV,e1] at z;exact z)⟩⟩⟩
 |call x k as=>
  obtain⟨p,q1,rfl,h,h1⟩:=hr
  refine⟨_,rfl,_,rfl,nA hrt n0 hn (cb h (by decide) rfl (.inl ⟨rfl,_,rfl,no (by decide +kernel) ?_⟩))⟩
  refine⟨_,rfl,_,rfl,nA hrt n0 hn (cb h (by decide) rfl (.inl ⟨rfl,_,rfl,no (by decide +kernel) ?_⟩))⟩
  refine⟨_,rfl,_,rfl,nA hrt n0 hn (cb h (by decide) rfl (.inl ⟨rfl,_,rfl,no (by decide +kernel) ?_⟩))⟩
  exact⟨_,rfl,.inl ⟨_,_,rfl,rfl,⟨(by show 1<=sizeLine;decide),λt ht=>(by have z:=q t ht;unfold bH cW at z;simp only[ba,bV,e1] at z;exact z)⟩⟩⟩
 |say a=>
  obtain⟨p,rfl,h⟩:=hr
  refine⟨_,rfl,_,rfl,nA hrt n0 hn (cb h (by decide) rfl (.inl ⟨rfl,_,rfl,no (by decide +kernel) ?_⟩))⟩
  refine⟨_,rfl,_,rfl,nA hrt n0 hn (cb h (by decide) rfl (.inl ⟨rfl,_,rfl,no (by decide +kernel) ?_⟩))⟩
  refine⟨_,rfl,_,rfl,nA hrt n0 hn (cb h (by decide) rfl (.inl ⟨rfl,_,rfl,no (by decide +kernel) ?_⟩))⟩
  exact⟨_,rfl,.inl ⟨_,_,rfl,rfl,⟨(by show 1<=sizeLine;decide),λt ht=>(by have z:=q t ht;unfold bH cW at z;simp only[ba,bV,e1] at z;exact z)⟩⟩⟩
 |jump to=>
  obtain⟨p,rfl,h⟩:=hr
  refine⟨_,rfl,_,rfl,nA hrt n0 hn (cb h (by decide) rfl (.inl ⟨rfl,_,rfl,Cm ?_⟩))⟩
  exact⟨_,rfl,_,rfl,nA hrt n0 hn (cb h (by decide) rfl ⟨(by show 1<=sizeLine;decide),λt ht=>(by have z:=q t ht;unfold bH cW at z;simp only[ba,bV,e1] at z;exact z)⟩)⟩
 |test a to=>
  obtain⟨p,rfl,h⟩:=hr
  refine⟨_,rfl,_,rfl,nA hrt n0 hn (cb h (by decide) rfl (.inl ⟨rfl,_,rfl,no (by decide +kernel) ?_⟩))⟩
  refine⟨_,rfl,_,rfl,nA hrt n0 hn (cb h (by decide) rfl (.inl ⟨rfl,_,rfl,Cm ?_⟩))⟩
  exact⟨_,rfl,.inl ⟨_,_,rfl,rfl,⟨_,rfl,_,rfl,nA hrt n0 hn (cb h (by decide) rfl ⟨(by show 2<=sizeLine;decide),λt ht=>(by have z:=q t ht;unfold bH cW at z;simp only[ba,bV,e1] at z;exact z)⟩)⟩⟩⟩
 |give a=>
  obtain⟨p,rfl,h⟩:=hr
  refine⟨_,rfl,_,rfl,nA hrt n0 hn (cb h (by decide) rfl (.inl ⟨rfl,_,rfl,no (by decide +kernel) ?_⟩))⟩
  refine⟨_,rfl,_,rfl,nA hrt n0 hn (cb h (by decide) rfl (.inl ⟨rfl,_,rfl,no (by decide +kernel) ?_⟩))⟩
  refine⟨_,rfl,_,rfl,nA hrt n0 hn (cb h (by decide) rfl (.inl ⟨rfl,_,rfl,Cm ?_⟩))⟩
  exact⟨(by show 0<=sizeLine;decide),λt ht=>(by have z:=q t ht;unfold bH cW at z;simp only[ba,bV,e1] at z;exact z)⟩
theorem Ga{K:Fg}{vs:List V}{H:Hp}{Q:VK}{E:XK}(h:gz K vs H Q E):yX K {nx:=λ_ H'=>Q .non H',rt:=Q} (cU tM vs) H:=by
 obtain⟨v,r,rfl,hr,q⟩:=h
 cases r with
 |num x z=>
  obtain⟨p,rfl,h⟩:=hr
  refine⟨_,rfl,cb h (by decide) rfl ?_⟩
  refine⟨_,rfl,.inl ⟨rfl,_,rfl,no (by decide +kernel) ?_⟩⟩
  refine⟨_,rfl,.inl ⟨rfl,_,rfl,no (by decide +kernel) ?_⟩⟩
  refine⟨_,rfl,(by show 3<=sizeLine;decide),λt ht=>⟨t,_,rfl,.inr (cY.of ag),rfl,rfl,_,rfl,xM (by decide +kernel) ?_⟩⟩
  have nt:p≠t:=au h ht
  exact⟨(by show 0<=sizeLine;decide),λt2 ht2=>q t2 _ ag (((aS.refl H).new ht).new ht2)⟩
 |op x s a b=>
  obtain⟨p,rfl,h⟩:=hr
  refine⟨_,rfl,cb h (by decide) rfl ?_⟩
  refine⟨_,rfl,.inl ⟨rfl,_,rfl,Cm ?_⟩⟩
  exact⟨_,rfl,cb h (by decide) rfl ⟨_,rfl,cb h (by decide) rfl ⟨(by show 2<=sizeLine;decide),λt ht=>q t _ ag ((aS.refl H).new ht)⟩⟩⟩
 |call x k as=>
  obtain⟨p,q1,rfl,h,h1⟩:=hr
  refine⟨_,rfl,cb h (by decide) rfl ?_⟩
  refine⟨_,rfl,.inl ⟨rfl,_,rfl,no (by decide +kernel) ?_⟩⟩
  refine⟨_,rfl,.inl ⟨rfl,_,rfl,Cm ?_⟩⟩
  exact⟨_,rfl,cb h (by decide) rfl ⟨_,_,rfl,.inr ⟨cY.of h1,q _ _ h1 (aS.refl H)⟩⟩⟩
 |say a=>
  obtain⟨p,rfl,h⟩:=hr
  refine⟨_,rfl,cb h (by decide) rfl ?_⟩
  refine⟨_,rfl,.inl ⟨rfl,_,rfl,no (by decide +kernel) ?_⟩⟩
  refine⟨_,rfl,.inl ⟨rfl,_,rfl,no (by decide +kernel) ?_⟩⟩
  refine⟨_,rfl,(by show 3<=sizeLine;decide),λt ht=>⟨t,_,rfl,.inr (cY.of ag),rfl,rfl,_,rfl,wa (by decide +kernel) ?_⟩⟩
  have nt:p≠t:=au h ht
  exact⟨_,rfl,cb (by rw[aB nt];exact h) (by decide) rfl ⟨(by show 1<=sizeLine;decide),λt2 ht2=>q t2 _ ag (((aS.refl H).new ht).new ht2)⟩⟩
 |jump to=>
  obtain⟨p,rfl,h⟩:=hr
  refine⟨_,rfl,cb h (by decide) rfl ?_⟩
  refine⟨_,rfl,.inl ⟨rfl,_,rfl,no (by decide +kernel) ?_⟩⟩
  refine⟨_,rfl,.inl ⟨rfl,_,rfl,no (by decide +kernel) ?_⟩⟩
  refine⟨_,rfl,(by show 3<=sizeLine;decide),λt ht=>⟨t,_,rfl,.inr (cY.of ag),rfl,rfl,_,rfl,xM (by decide +kernel) ?_⟩⟩
  have nt:p≠t:=au h ht
  exact⟨(by show 0<=sizeLine;decide),λt2 ht2=>q t2 _ ag (((aS.refl H).new ht).new ht2)⟩
 |test a to=>
  obtain⟨p,rfl,h⟩:=hr
  refine⟨_,rfl,cb h (by decide) rfl ?_⟩
  refine⟨_,rfl,.inl ⟨rfl,_,rfl,no (by decide +kernel) ?_⟩⟩
  refine⟨_,rfl,.inl ⟨rfl,_,rfl,no (by decide +kernel) ?_⟩⟩
  refine⟨_,rfl,(by show 3<=sizeLine;decide),λt ht=>⟨t,_,rfl,.inr (cY.of ag),rfl,rfl,_,rfl,wa (by decide +kernel) ?_⟩⟩
  have nt:p≠t:=au h ht
  exact⟨_,rfl,cb (by rw[aB nt];exact h) (by decide) rfl ⟨(by show 1<=sizeLine;decide),λt2 ht2=>q t2 _ ag (((aS.refl H).new ht).new ht2)⟩⟩
 |give a=>
  obtain⟨p,rfl,h⟩:=hr
  refine⟨_,rfl,cb h (by decide) rfl ?_⟩
  refine⟨_,rfl,.inl ⟨rfl,_,rfl,no (by decide +kernel) ?_⟩⟩
  refine⟨_,rfl,.inl ⟨rfl,_,rfl,no (by decide +kernel) ?_⟩⟩
  refine⟨_,rfl,(by show 3<=sizeLine;decide),λt ht=>⟨t,_,rfl,.inr (cY.of ag),rfl,rfl,_,rfl,wa (by decide +kernel) ?_⟩⟩
  have nt:p≠t:=au h ht
  exact⟨_,rfl,cb (by rw[aB nt];exact h) (by decide) rfl ⟨(by show 1<=sizeLine;decide),λt2 ht2=>q t2 _ ag (((aS.refl H).new ht).new ht2)⟩⟩
theorem Iw{K:Fg}{vs:List V}{H:Hp}{Q:VK}{E:XK}(h:jY K vs H Q E):BY K {nx:=λ_ H'=>Q .non H',rt:=Q} (cU vN vs) H:=by
 obtain⟨v,r,rfl,hr,q⟩:=h
 cases r with
 |num x z=>
  obtain⟨p,rfl,h⟩:=hr
  refine⟨_,rfl,cb h (by decide) rfl ?_⟩
  refine⟨(by show 3<=sizeLine;decide),λt ht=>⟨t,_,rfl,.inr (cY.of ag),rfl,rfl,_,rfl,wa (by decide +kernel) ?_⟩⟩
  have nt:p≠t:=au h ht
  exact⟨_,rfl,cb (by rw[aB nt];exact h) (by decide) rfl (q _ ((aS.refl H).new ht))⟩
 |op x s a b=>
  obtain⟨p,rfl,h⟩:=hr
  refine⟨_,rfl,cb h (by decide) rfl ?_⟩
  refine⟨(by show 3<=sizeLine;decide),λt ht=>⟨t,_,rfl,.inr (cY.of ag),rfl,rfl,_,rfl,wa (by decide +kernel) ?_⟩⟩
  have nt:p≠t:=au h ht
  exact⟨_,rfl,cb (by rw[aB nt];exact h) (by decide) rfl (q _ ((aS.refl H).new ht))⟩
 |call x k as=>
  obtain⟨p,q1,rfl,h,h1⟩:=hr
  refine⟨_,rfl,cb h (by decide) rfl ?_⟩
  refine⟨(by show 3<=sizeLine;decide),λt ht=>⟨t,_,rfl,.inr (cY.of ag),rfl,rfl,_,rfl,wa (by decide +kernel) ?_⟩⟩
  have nt:p≠t:=au h ht
  exact⟨_,rfl,cb (by rw[aB nt];exact h) (by decide) rfl (q _ ((aS.refl H).new ht))⟩
 |say a=>
  obtain⟨p,rfl,h⟩:=hr
  refine⟨_,rfl,cb h (by decide) rfl ?_⟩
  refine⟨(by show 3<=sizeLine;decide),λt ht=>⟨t,_,rfl,.inr (cY.of ag),rfl,rfl,_,rfl,xM (by decide +kernel) ?_⟩⟩
  have nt:p≠t:=au h ht
  exact q _ ((aS.refl H).new ht)
 |jump to=>
  obtain⟨p,rfl,h⟩:=hr
  refine⟨_,rfl,cb h (by decide) rfl ?_⟩
  refine⟨(by show 3<=sizeLine;decide),λt ht=>⟨t,_,rfl,.inr (cY.of ag),rfl,rfl,_,rfl,xM (by decide +kernel) ?_⟩⟩
  have nt:p≠t:=au h ht
  exact q _ ((aS.refl H).new ht)
 |test a to=>
  obtain⟨p,rfl,h⟩:=hr
  refine⟨_,rfl,cb h (by decide) rfl ?_⟩
  refine⟨(by show 3<=sizeLine;decide),λt ht=>⟨t,_,rfl,.inr (cY.of ag),rfl,rfl,_,rfl,xM (by decide +kernel) ?_⟩⟩
  have nt:p≠t:=au h ht
  exact q _ ((aS.refl H).new ht)
 |give a=>
  obtain⟨p,rfl,h⟩:=hr
  refine⟨_,rfl,cb h (by decide) rfl ?_⟩
  refine⟨(by show 3<=sizeLine;decide),λt ht=>⟨t,_,rfl,.inr (cY.of ag),rfl,rfl,_,rfl,xM (by decide +kernel) ?_⟩⟩
  have nt:p≠t:=au h ht
  exact q _ ((aS.refl H).new ht)
theorem Iv{K:Fg}{vs:List V}{H:Hp}{Q:VK}{E:XK}(h:gK K vs H Q E):xi K {nx:=λ_ H'=>Q .non H',rt:=Q} (cU rZ vs) H:=by
 obtain⟨v,r,rfl,hr,q⟩:=h
 cases r with
 |num x z=>
  obtain⟨p,rfl,h⟩:=hr
  refine⟨_,rfl,cb h (by decide) rfl (.inl ⟨rfl,_,rfl,no (by decide +kernel) ?_⟩)⟩
  exact⟨_,rfl,cb h (by decide) rfl (.inl ⟨rfl,_,rfl,no (by decide +kernel) q⟩)⟩
 |op x s a b=>
  obtain⟨p,rfl,h⟩:=hr
  refine⟨_,rfl,cb h (by decide) rfl (.inl ⟨rfl,_,rfl,no (by decide +kernel) ?_⟩)⟩
  exact⟨_,rfl,cb h (by decide) rfl (.inl ⟨rfl,_,rfl,no (by decide +kernel) q⟩)⟩
 |call x k as=>
  obtain⟨p,q1,rfl,h,h1⟩:=hr
  refine⟨_,rfl,cb h (by decide) rfl (.inl ⟨rfl,_,rfl,no (by decide +kernel) ?_⟩)⟩
  exact⟨_,rfl,cb h (by decide) rfl (.inl ⟨rfl,_,rfl,no (by decide +kernel) q⟩)⟩
 |say a=>
  obtain⟨p,rfl,h⟩:=hr
  refine⟨_,rfl,cb h (by decide) rfl (.inl ⟨rfl,_,rfl,no (by decide +kernel) ?_⟩)⟩
  exact⟨_,rfl,cb h (by decide) rfl (.inl ⟨rfl,_,rfl,no (by decide +kernel) q⟩)⟩
 |jump to=>
  obtain⟨p,rfl,h⟩:=hr
  exact⟨_,rfl,cb h (by decide) rfl (.inl ⟨rfl,_,rfl,Cm ⟨_,rfl,cb h (by decide) rfl q⟩⟩)⟩
 |test a to=>
  obtain⟨p,rfl,h⟩:=hr
  refine⟨_,rfl,cb h (by decide) rfl (.inl ⟨rfl,_,rfl,no (by decide +kernel) ?_⟩)⟩
  exact⟨_,rfl,cb h (by decide) rfl (.inl ⟨rfl,_,rfl,Cm ⟨_,rfl,cb h (by decide) rfl q⟩⟩)⟩
 |give a=>
  obtain⟨p,rfl,h⟩:=hr
  refine⟨_,rfl,cb h (by decide) rfl (.inl ⟨rfl,_,rfl,no (by decide +kernel) ?_⟩)⟩
  exact⟨_,rfl,cb h (by decide) rfl (.inl ⟨rfl,_,rfl,no (by decide +kernel) q⟩)⟩
theorem FZ{K:Fg}{vs:List V}{H:Hp}{Q:VK}{E:XK}(h:iD K vs H Q E):yW K {nx:=λ_ H'=>Q .non H',rt:=Q} (cU tL vs) H:=by
 obtain⟨rt,n,rvs,v,r,rfl,hrt,hv,hr,q⟩:=h
 have hn:rvs[((n:Nat):Int).toNat]?=some v:=by simpa using hv
 have n0:(0:Int)<=((n:Nat):Int):=by lia
 have e1:(((n+1:Nat):Nat):Int)=(n:Int)+1:=by lia
 cases r with
 |num x z=>
  have hr0:=hr
  obtain⟨p,rfl,h⟩:=hr
  refine⟨_,rfl,_,rfl,cb hrt n0 hn (cb h (by decide) rfl ?_)⟩
  refine⟨_,rfl,.inl ⟨rfl,_,rfl,no (by decide +kernel) ?_⟩⟩
  refine⟨_,rfl,.inl ⟨rfl,_,rfl,no (by decide +kernel) ?_⟩⟩
  refine⟨_,rfl,.inl ⟨rfl,_,rfl,no (by decide +kernel) ?_⟩⟩
  exact⟨_,rfl,.inl ⟨_,_,rfl,rfl,⟨(by show 1<=sizeLine;decide),λt ht=>q t _ (by rw[ag];first|rfl|(unfold bH cW;simp only[ba,bV,e1])) ((aS.refl H).new ht)⟩⟩⟩
 |op x s a b=>
  have hr0:=hr
  obtain⟨p,rfl,h⟩:=hr
  refine⟨_,rfl,_,rfl,cb hrt n0 hn (cb h (by decide) rfl ?_)⟩
  refine⟨_,rfl,.inl ⟨rfl,_,rfl,no (by decide +kernel) ?_⟩⟩
  refine⟨_,rfl,.inl ⟨rfl,_,rfl,no (by decide +kernel) ?_⟩⟩
  refine⟨_,rfl,.inl ⟨rfl,_,rfl,no (by decide +kernel) ?_⟩⟩
  exact⟨_,rfl,.inl ⟨_,_,rfl,rfl,⟨(by show 1<=sizeLine;decide),λt ht=>q t _ (by rw[ag];first|rfl|(unfold bH cW;simp only[ba,bV,e1])) ((aS.refl H).new ht)⟩⟩⟩
 |call x k as=>
  have hr0:=hr
  obtain⟨p,q1,rfl,h,h1⟩:=hr
  refine⟨_,rfl,_,rfl,cb hrt n0 hn (cb h (by decide) rfl ?_)⟩
  refine⟨_,rfl,.inl ⟨rfl,_,rfl,no (by decide +kernel) ?_⟩⟩
  refine⟨_,rfl,.inl ⟨rfl,_,rfl,no (by decide +kernel) ?_⟩⟩
  refine⟨_,rfl,.inl ⟨rfl,_,rfl,no (by decide +kernel) ?_⟩⟩
  exact⟨_,rfl,.inl ⟨_,_,rfl,rfl,⟨(by show 1<=sizeLine;decide),λt ht=>q t _ (by rw[ag];first|rfl|(unfold bH cW;simp only[ba,bV,e1])) ((aS.refl H).new ht)⟩⟩⟩
 |say a=>
  have hr0:=hr
  obtain⟨p,rfl,h⟩:=hr
  refine⟨_,rfl,_,rfl,cb hrt n0 hn (cb h (by decide) rfl ?_)⟩
  refine⟨_,rfl,.inl ⟨rfl,_,rfl,no (by decide +kernel) ?_⟩⟩
  refine⟨_,rfl,.inl ⟨rfl,_,rfl,no (by decide +kernel) ?_⟩⟩
  refine⟨_,rfl,.inl ⟨rfl,_,rfl,no (by decide +kernel) ?_⟩⟩
  exact⟨_,rfl,.inl ⟨_,_,rfl,rfl,⟨(by show 1<=sizeLine;decide),λt ht=>q t _ (by rw[ag];first|rfl|(unfold bH cW;simp only[ba,bV,e1])) ((aS.refl H).new ht)⟩⟩⟩
 |jump to=>
  have hr0:=hr
  obtain⟨p,rfl,h⟩:=hr
  refine⟨_,rfl,_,rfl,cb hrt n0 hn (cb h (by decide) rfl ?_)⟩
  refine⟨_,rfl,.inl ⟨rfl,_,rfl,no (by decide +kernel) ?_⟩⟩
  refine⟨_,rfl,.inl ⟨rfl,_,rfl,Cm ?_⟩⟩
  exact⟨_,rfl,_,rfl,cb hrt n0 hn ⟨_,_,rfl,hr0,⟨(by show 1<=sizeLine;decide),λt ht=>q t _ (by rw[ag];first|rfl|(unfold bH cW;simp only[ba,bV,e1])) ((aS.refl H).new ht)⟩⟩⟩
 |test a to=>
  have hr0:=hr
  obtain⟨p,rfl,h⟩:=hr
  refine⟨_,rfl,_,rfl,cb hrt n0 hn (cb h (by decide) rfl ?_)⟩
  refine⟨_,rfl,.inl ⟨rfl,_,rfl,no (by decide +kernel) ?_⟩⟩
  refine⟨_,rfl,.inl ⟨rfl,_,rfl,no (by decide +kernel) ?_⟩⟩
  refine⟨_,rfl,.inl ⟨rfl,_,rfl,Cm ?_⟩⟩
  exact⟨_,rfl,.inl ⟨_,_,rfl,rfl,⟨_,rfl,_,rfl,cb hrt n0 hn ⟨_,_,rfl,hr0,⟨(by show 2<=sizeLine;decide),λt ht=>q t _ (by rw[ag];first|rfl|(unfold bH cW;simp only[ba,bV,e1])) ((aS.refl H).new ht)⟩⟩⟩⟩⟩
 |give a=>
  have hr0:=hr
  obtain⟨p,rfl,h⟩:=hr
  refine⟨_,rfl,_,rfl,cb hrt n0 hn (cb h (by decide) rfl ?_)⟩
  refine⟨_,rfl,.inl ⟨rfl,_,rfl,Cm ?_⟩⟩
  exact⟨(by show 0<=sizeLine;decide),λt ht=>q t _ (by rw[ag];first|rfl|(unfold bH cW;simp only[ba,bV,e1])) ((aS.refl H).new ht)⟩
theorem G7(c:Nat):(bh c [V.str ""]).flatten=(bh c ("":Str)).map V.str:=by
 induction c with
 |zero=>rfl
 |succ c ih=>rw[di,fS,ih,di,ba];rfl
theorem Lo:∀i:Nat,i<5->∃c,("+-*<=":Str).cps.toList[i]?=some c/\(⟨#[c]⟩:Str)∈EA
 |0,_=>⟨43,by decide +kernel,by decide +kernel⟩
 |1,_=>⟨45,by decide +kernel,by decide +kernel⟩
 |2,_=>⟨42,by decide +kernel,by decide +kernel⟩
 |3,_=>⟨60,by decide +kernel,by decide +kernel⟩
 |4,_=>⟨61,by decide +kernel,by decide +kernel⟩
 |n+5,h=>by lia
theorem Bp{K:Fg}{vs:List V}{H:Hp}{Q:VK}{E:XK}(h:gX K vs H Q E):uQ K {nx:=λ_ H'=>Q .non H',rt:=Q} (cU pB vs) H:=by
 obtain⟨st,nm,cn,n,k,ys,cs,rfl,S,hk,hnm,ysne,ysl,n1,n2,hcn,csne,csl,cs4,nnm,ncn,q⟩:=h
 have yl:0<ys.length:=cP.mpr ysne
 have cl:0<cs.length:=cP.mpr csne
 refine⟨_,rfl,_,rfl,_,rfl,_,_,rfl,.inl ⟨_,cA.of hnm,rfl⟩,st,_,k,rfl,S,by lia,by rw[ai];lia,by rw[ai];lia,λd H1 d0 d1 S1 B1=>?_⟩
 rw[ai] at d1
 have dl:d.toNat<ys.length:=by lia
 refine kz (cA.of (B1 nm _ nnm hnm)) d0 (BC (ao dl)) ?_
 have hx:ys[d.toNat]∈ys:=fo dl
 generalize ys[d.toNat]=x at hx ⊢
 refine⟨_,rfl,st,12,k+1,rfl,S1,by lia,by decide,by decide,λs H2 s0 s1 S2 B2'=>?_⟩
 have B2:gB st H H2:=B1.trans B2'
 have hcn2:=B2 cn _ ncn hcn
 refine⟨_,rfl,_,_,rfl,rfl,_,rfl,bZ (λ_=>?_) (λhs2=>?_)⟩
 ·refine⟨_,rfl,_,rfl,st,k+2,rfl,S2,by lia,λz k3 H3 z0 z1 S3 l3 B3=>⟨(by show 3<=sizeLine;decide),λp hp=>?_⟩⟩
  exact q _ (.num x z) _ _ ⟨p,rfl,ag⟩ ⟨hx,z0,z1⟩ (S3.new hp) (by lia) ((B2.trans B3).new hp)
 refine⟨_,rfl,_,_,rfl,rfl,_,rfl,bZ (λ_=>?_) (λhs6=>?_)⟩
 ·refine⟨_,rfl,_,rfl,st,5,k+2,rfl,S2,by lia,by decide,by decide,λe H3 e0 e1 S3 B3=>?_⟩
  obtain⟨c,c1,c2⟩:=Lo e.toNat (by lia)
  refine O1 (by decide +kernel) e0 c1 ⟨(by show 5<=sizeLine;decide),λp hp=>?_⟩
  exact q _ (.op x ⟨#[c]⟩ "" "") _ _ ⟨p,rfl,ag⟩ ⟨hx,c2,rfl,rfl⟩ (S3.new hp) (by lia) ((B2.trans B3).new hp)
 refine⟨_,rfl,.inl ⟨rfl,_,rfl,bZ (λ_=>?_) (λ_=>?_)⟩⟩
 ·refine⟨_,rfl,_,rfl,_,_,rfl,.inl ⟨_,cA.of hcn2,rfl⟩,st,_,k+2,rfl,S2,by lia,by rw[dD];lia,by rw[dD];lia,λe H3 e0 e1 S3 B3=>?_⟩
  rw[dD] at e1
  obtain⟨j,rfl⟩:∃j:Nat,e=(j:Int):=⟨e.toNat,by lia⟩
  have jl:j<cs.length:=by lia
  have hcn3:=B3 cn _ ncn hcn2
  have cj:cs[j]?=some cs[j]:=ao jl
  have c4:cs[j]<=4:=cs4 _ (fo jl)
  generalize cs[j]=c at cj c4
  refine⟨_,rfl,_,rfl,(by show 1<=sizeLine;decide),λp1 hp1=>?_⟩
  have nc1:cn≠p1:=au hcn3 hp1
  refine⟨_,rfl,_,rfl,kz (cA.of (by rw[aB nc1];exact hcn3)) (by lia) (v:=.int (c:Nat)) (by simpa using Fh cj) ?_⟩
  have S4:=S3.new (o:=.tup [V.str ""]) hp1
  have B4:=(B2.trans B3).new (o:=.tup [V.str ""]) hp1
  have c5:1*c<=sizeLine:=cq (by lia) (show 100<=sizeLine by decide)
  refine .inr ⟨p1,c,[V.str ""],rfl,rfl,cY.of ag,by simp,c5,λh1=>⟨(by show 4<=sizeLine;decide),λp hp=>?_⟩,λhne p2 hp2=>⟨(by show 4<=sizeLine;decide),λp hp=>?_⟩⟩
  ·have n1p:p1≠p:=au ag hp
   subst h1
   refine q _ (.call x j [""]) _ _ ⟨p,p1,rfl,ag,by rw[aB n1p,ag];rfl⟩ ⟨hx,1,cj,rfl⟩ (S4.new hp) (by lia) (B4.new hp)
  ·have n2p:p2≠p:=au ag hp
   refine q _ (.call x j (bh c "")) _ _ ⟨p,p2,rfl,ag,by rw[aB n2p,ag,G7]⟩ ⟨hx,c,cj,rfl⟩ ((S4.new hp2).new hp) (by lia) ((B4.new hp2).new hp)
 refine⟨_,rfl,_,_,rfl,rfl,_,rfl,bZ (λ_=>?_) (λhs8=>?_)⟩
 ·exact⟨(by show 2<=sizeLine;decide),λp hp=>q _ (.say "") _ _ ⟨p,rfl,ag⟩ rfl (S2.new hp) (by lia) (B2.new hp)⟩
 refine⟨_,rfl,_,_,rfl,rfl,_,rfl,bZ (λ_=>?_) (λhs10=>?_)⟩
 ·refine⟨_,rfl,_,rfl,st,_,k+2,rfl,S2,by lia,by lia,by lia,λe H3 e0 e1 S3 B3=>⟨(by show 3<=sizeLine;decide),λp hp=>?_⟩⟩
  obtain⟨j,rfl⟩:∃j:Nat,e=(j:Int):=⟨e.toNat,by lia⟩
  exact q _ (.test "" j) _ _ ⟨p,rfl,ag⟩ ⟨rfl,by lia⟩ (S3.new hp) (by lia) ((B2.trans B3).new hp)
 refine⟨_,rfl,_,rfl,st,_,k+2,rfl,S2,by lia,by lia,by lia,λe H3 e0 e1 S3 B3=>⟨(by show 2<=sizeLine;decide),λp hp=>?_⟩⟩
 obtain⟨j,rfl⟩:∃j:Nat,e=(j:Int):=⟨e.toNat,by lia⟩
 refine⟨(by show 2<=sizeLine;decide),λp2 hp2=>⟨(by show 2<=sizeLine;decide),λl hl=>?_⟩⟩
 have n12:p≠p2:=au ag hp2
 have n2l:p2≠l:=au ag hl
 have n1l:p≠l:=au (by rw[aB n12];exact ag) hl
 have S4:=((S3.new (o:=.tup [V.str "jump",V.int (j:Nat)]) hp).new (o:=.tup [V.str "give",V.str ""]) hp2).new (o:=.lst [V.ref p,V.ref p2]) hl
 have B4:=(((B2.trans B3).new (o:=.tup [V.str "jump",V.int (j:Nat)]) hp).new (o:=.tup [V.str "give",V.str ""]) hp2).new (o:=.lst [V.ref p,V.ref p2]) hl
 refine⟨_,rfl,_,_,rfl,rfl,?_⟩
 rcases(by lia:s=10\/s=11) with rfl|rfl
 ·exact kz (cA.of ag) (by decide) rfl (q _ (.jump j) _ _ ⟨p,rfl,by rw[aB n1l,aB n12,ag]⟩ (by show j<n;lia) S4 (by lia) B4)
 ·exact kz (cA.of ag) (by decide) rfl (q _ (.give "") _ _ ⟨p2,rfl,by rw[aB n2l,ag]⟩ rfl S4 (by lia) B4)
theorem O7{K:Fg}{rl nm pr kl la l:Addr}{H H':Hp}{ys ps ls:List Str}{w:Str}{rs:List bJ}{kss0:List (List Str)}{B i mm j0:Nat}{ms:List Nat}{refs:List V}{kss:List (List Str)}{more:Bool}{o8:Option V}{rt:VK}{bk:St->Hp->Prop}
  (hkl:H kl=none) (nla:la≠kl) (nl:l≠kl) (hw:w∈ls) (hm:mm<rs.length) (hmj:ms[j0]?=some mm) (hz:zu ps kss) (hc:more=false->kss=kss0/\vQ rs i kss0/\∀j',j'<j0->∀m km,ms[j']?=some m->kss0[m]?=some km->∀y∈km,y∈ls) (k:KJ kl H ys ps w rs.length H' refs kss) (hB:2*uh kss+more.toNat<=B) (hla:H' la=some (.lst (ls.map V.str))) (hl:H' l=some (.lst (bH ms))) :
  q5 K {nx:=OS rl nm pr kl H ys ps w rs B i la l ls ms kss0 (j0+1),rt:=rt,ct:=OS rl nm pr kl H ys ps w rs B i la l ls ms kss0 (j0+1),bk:=bk} [some (.ref rl),some (.ref nm),some (.ref pr),some (.ref kl),some (.bl more),some (.int (i:Nat)),some (.ref la),some (.int (mm:Nat)),o8] H':=by
 obtain⟨am,km,e1,e2,nam,ham⟩:=k.get hm
 obtain⟨k1,k2,k3⟩:=k.wit mm km e2
 have e1':refs[((mm:Nat):Int).toNat]?=some (.ref am):=by simpa using e1
 refine .inl ⟨_,rfl,_,rfl,kz (cA.of k.at_) (by lia) e1' ⟨am,rfl,⟨_,cA.of ham⟩,λD hD=>?_⟩⟩
 have nD:kl≠D:=au k.at_ hD
 have naD:am≠D:=au ham hD
 have nlaD:la≠D:=au hla hD
 have nlD:l≠D:=au hl hD
 refine nu (xs:=km.map V.str) (λj σ' H2=>∃o,σ'=[some (.ref rl),some (.ref nm),some (.ref pr),some (.ref kl),some (.bl more),some (.int (i:Nat)),some (.ref la),some (.int (mm:Nat)),o8,o]/\H2=upd H' D (.lst (((km.take j).filter λy=>decide (y∈ls)).map V.str))) ?_ ?_ ?_ ?_
 ·exact⟨none,rfl,rfl⟩
 ·rintro j σ' H2 _ ⟨o,_,rfl⟩
  exact cA.of (by rw[aB naD];exact ham)
 ·rintro j x σ' H2 hx ⟨o,rfl,rfl⟩
  rw[aO] at hx
  obtain⟨y,hy,rfl⟩:∃y,km[j]?=some y/\V.str y=x:=by
   cases e:km[j]? with
   |none=>rw[e] at hx;cases hx
   |some y=>rw[e] at hx;exact⟨y,rfl,Option.some.inj hx⟩
  have jl:j<km.length:=(ar.mp hy).1
  have fl:((km.take j).filter λy=>decide (y∈ls)).length<=100:=cq (ef _ _) (by rw[aY];lia)
  have ft:=uu (λy=>decide (y∈ls)) km j y hy
  refine⟨_,rfl,_,rfl,la,_,rfl,.inl (cA.of (by rw[aB nlaD];exact hla)),rfl,lF _,_,rfl,?_⟩
  show if kD (.str y) (ls.map V.str)=true then _ else _
  rw[lV]
  refine bZ (λhin=>?_) (λhin=>?_)
  ·refine⟨_,rfl,_,ag,dW (by rw[ai];lia),_,rfl,?_⟩
   rw[lC,ft,if_pos (by simpa using hin),bg]
   rfl
  ·refine⟨_,rfl,?_⟩
   rw[ft,if_neg (by simpa using hin),d7]
 ·rintro σ' H2 ⟨o,_,rfl⟩
  have et:km.take (km.map V.str).length=km:=cy (by rw[ai];exact aD _)
  rw[et]
  have fl:(km.filter λy=>decide (y∈ls)).length<=km.length:=ef _ _
  have fm:∀y∈km.filter (λy=>decide (y∈ls)),y∈ys:=λy hy=>k2 y (g7.mp hy).1
  have fw:w∈km.filter (λy=>decide (y∈ls))\/(mm=0/\ps=[]):=k3.imp (λz=>g7.mpr ⟨z,by simpa using hw⟩) id
  have fs:∀y∈km.filter (λy=>decide (y∈ls)),y∈km:=λy hy=>(g7.mp hy).1
  have fe:¬(km.filter (λy=>decide (y∈ls))).length<km.length->∀y∈km,y∈ls:=λhn y hy=>by
   have:=List.length_filter_eq_length_iff.mp (Nat.le_antisymm (ef (λy=>decide (y∈ls)) km) (vG.mp hn)) y hy
   simpa using this
  generalize km.filter (λy=>decide (y∈ls))=kp at fl fm fw fs fe
  have k':=k.grown ((aS.refl H').new (o:=.lst (kp.map V.str)) hD)
  have hla':(upd H' D (.lst (kp.map V.str))) la=some (.lst (ls.map V.str)):=by rw[aB nlaD];exact hla
  have hl':(upd H' D (.lst (kp.map V.str))) l=some (.lst (bH ms)):=by rw[aB nlD];exact hl
  have ham':(upd H' D (.lst (kp.map V.str))) am=some (.lst (km.map V.str)):=by rw[aB naD];exact ham
  have hD':(upd H' D (.lst (kp.map V.str))) D=some (.lst (kp.map V.str)):=ag
  generalize upd H' D (.lst (kp.map V.str))=H3 at k' hla' hl' ham' hD'
  show q4 K _ [some (.ref rl),some (.ref nm),some (.ref pr),some (.ref kl),some (.bl more),some (.int (i:Nat)),some (.ref la),some (.int (mm:Nat)),some (.ref D)] H3
  refine⟨_,rfl,_,_,rfl,.inl ⟨_,cA.of hD',rfl⟩,_,rfl,_,rfl,kz (cA.of k'.at_) (by lia) e1' ⟨_,_,rfl,.inl ⟨_,cA.of ham',rfl⟩,_,_,rfl,rfl,_,rfl,bZ (λhlt=>?_) (λhlt=>?_)⟩⟩
  ·rw[ai,ai] at hlt
   refine⟨_,rfl,_,rfl,_,rfl,ph k'.at_ (by lia) (by rw[k'.vlen];simpa using hm) ?_⟩
   have ei:((mm:Nat):Int).toNat=mm:=by simp
   rw[ei]
   have ss:=BD (kp:=kp) e2
   refine⟨_,kss.set mm kp,true,_,_,rfl,k'.set hkl (Ne.symm nD) hD' ⟨by lia,fm,fw⟩,?_,by rw[aB nla];exact hla',by rw[aB nl];exact hl',hz.set e2 fs,λz=>by cases z⟩
   have:(true:Bool).toNat=1:=rfl
   lia
  ·rw[ai,ai] at hlt
   refine⟨refs,kss,more,_,_,rfl,k',hB,hla',hl',hz,λhmo=>?_⟩
   obtain⟨c1,c2,c3⟩:=hc hmo
   refine⟨c1,c2,λj' hj' m km' hm' hk'=>?_⟩
   by_cases cj:j'<j0
   ·exact c3 j' cj m km' hm' hk'
   ·have:j'=j0:=by lia
    subst this
    rw[hmj] at hm';cases hm'
    rw[<-c1,e2] at hk';cases hk'
    exact fe (by lia)
theorem pE{ms:List Nat}{j:Nat}{x:V}(h:(bH ms)[j]?=some x):∃m,ms[j]?=some m/\x=.int (m:Nat):=by
 unfold bH at h
 rw[aO] at h
 cases e:ms[j]? with
 |none=>rw[e] at h;cases h
 |some m=>rw[e] at h;exact⟨m,rfl,(Option.some.inj h).symm⟩
theorem O6{K:Fg}{rl nm pr kl:Addr}{H H':Hp}{ys ps:List Str}{cs:List Nat}{w:Str}{B i:Nat}{rvs:List V}{rs:List bJ}{refs:List V}{kss:List (List Str)}{more:Bool}{o6 o7 o8:Option V}{rt:VK}{bk:St->Hp->Prop}
  (hkl:H kl=none) (hrl:H rl=some (.lst rvs)) (hA:cL (dH H) rvs rs) (hOk:vS ys cs rs) (hE:rs.getLast?.map jF=some true) (hw0:ps=[]->∃z,rs[0]?=some (.num w z)) (hi:i<rs.length) (k:KJ kl H ys ps w rs.length H' refs kss) (hB:2*uh kss+more.toNat<=B) (hz:zu ps kss) (hP:more=false->vQ rs i kss) :
  m7 K {nx:=NO rl nm pr kl H ys ps w rs B (i+1),rt:=rt,ct:=NO rl nm pr kl H ys ps w rs B (i+1),bk:=bk} [some (.ref rl),some (.ref nm),some (.ref pr),some (.ref kl),some (.bl more),some (.int (i:Nat)),o6,o7,o8] H':=by
 obtain⟨a,ks,e1,e2,na,ha⟩:=k.get hi
 obtain⟨k1,k2,k3⟩:=k.wit i ks e2
 obtain⟨v,r,f1,f2,hra⟩:=hA.get (i:=i) hi
 obtain⟨p,xs,rfl,hp⟩:=hra.ref
 have e1':refs[((i:Nat):Int).toNat]?=some (.ref a):=by simpa using e1
 have f1':rvs[((i:Nat):Int).toNat]?=some (.ref p):=by simpa using f1
 have nkl:rl≠kl:=au hrl hkl
 have ways:∀(la:Addr) (ls:List Str) (H2:Hp),la≠kl->w∈ls->(∀y∈ls,y∈ks\/iS r=.str y)->KJ kl H ys ps w rs.length H2 refs kss->H2 la=some (.lst (ls.map V.str))->
   q9 K {nx:=NO rl nm pr kl H ys ps w rs B (i+1),rt:=rt,ct:=NO rl nm pr kl H ys ps w rs B (i+1),bk:=bk} [some (.ref rl),some (.ref nm),some (.ref pr),some (.ref kl),some (.bl more),some (.int (i:Nat)),some (.ref la),o7,o8] H2:=λla ls H2 nla hwl hls k2 hla=>by
  refine .inl ⟨_,rfl,_,rfl,rl,i,rvs,.ref p,r,rfl,.inl (k2.same _ _ hrl),f1,hra.mono (.of_same k2.same),λl hl=>?_⟩
  have nl:l≠kl:=λz=>by rw[z,k2.at_] at hl;cases hl
  have nlal:la≠l:=au hla hl
  refine⟨l,rfl,⟨_,cA.of ag⟩,nv (xs:=bH (cW i r)) (λj=>OS rl nm pr kl H ys ps w rs B i la l ls (cW i r) kss j) ?_ ?_ ?_ ?_⟩
  ·exact⟨refs,kss,more,_,_,rfl,k2.grown ((aS.refl H2).new hl),hB,by rw[aB nlal];exact hla,ag,hz,λhmo=>⟨rfl,hP hmo,λj' hj'=>absurd hj' (bN _)⟩⟩
  ·rintro j σ' H3 _ ⟨_,_,_,_,_,_,_,_,_,h3,_,_⟩
   exact cA.of h3
  ·rintro j x σ' H3 hx ⟨refs3,kss3,more3,o73,o83,rfl,k3',hB3,hla3,hl3,hz3,hc3⟩
   obtain⟨mm,hmm,rfl⟩:=pE hx
   exact O7 hkl nla nl hwl (Hq f2 (hOk.rough r (aH f2)) hE hmm) hmm hz3 hc3 k3' hB3 hla3 hl3
  ·rintro σ' H3 ⟨refs3,kss3,more3,o73,o83,rfl,k3',hB3,hla3,hl3,hz3,hc3⟩
   refine⟨refs3,kss3,more3,_,_,_,_,rfl,k3',hB3,hz3,λhmo=>?_⟩
   obtain⟨c1,c2,c3⟩:=hc3 hmo
   subst c1
   intro n m r' ks' km hn hr' hm' hks' hkm y hy
   by_cases cn:n<i
   ·exact c2 n m r' ks' km cn hr' hm' hks' hkm y hy
   ·have:n=i:=by lia
    subst this
    rw[f2] at hr';cases hr'
    rw[e2] at hks';cases hks'
    obtain⟨j',hj',hmj⟩:=cF.mp hm'
    have hmj':(cW n r)[j']?=some m:=by rw[ao hj',hmj]
    exact hls y (c3 j' (by rw[dD];exact hj') m km hmj' hkm y hy)
 refine⟨_,rfl,_,rfl,kz (cA.of k.at_) (by lia) e1' ?_⟩
 show rf K _ [some (.ref rl),some (.ref nm),some (.ref pr),some (.ref kl),some (.bl more),some (.int (i:Nat)),some (.ref a),o7,o8] H'
 refine⟨_,rfl,_,rfl,kz (cA.of (k.same _ _ hrl)) (by lia) f1' (cb (k.same _ _ hp) (by decide) rfl ⟨(by show 3<=sizeLine;decide),λt ht=>⟨t,_,rfl,.inr (cY.of ag),rfl,rfl,_,rfl,?_⟩⟩)⟩
 have sm:=(aS.refl H').new (o:=.tup [V.str "num",V.str "op",V.str "call"]) ht
 have kt:=k.grown sm
 have hat:=sm _ _ ha
 generalize upd H' t (.tup [V.str "num",V.str "op",V.str "call"])=H1 at sm kt hat ⊢
 refine ny (λhb=>?_) (λhb=>?_)
 ·have hb':kD (.str (qI r)) [V.str "num",V.str "op",V.str "call"]=true:=hb
  obtain⟨x,hx⟩:=JY hb'
  obtain⟨xs',hp'⟩:=Lm hra hx
  refine⟨_,rfl,_,rfl,_,rfl,kz (cA.of (kt.same _ _ hrl)) (by lia) f1' (cb (kt.same _ _ hp') (by decide) rfl ⟨(by show 1<=sizeLine;decide),λp1 hp1=>?_⟩)⟩
  have na1:a≠p1:=au hat hp1
  refine .inr (.inr (.inl ⟨a,p1,_,_,rfl,rfl,by rw[aB na1];exact hat,ag,?_,λp2 hp2=>?_⟩))
  ·have:=dW (n:=101) (by decide)
   rw[ai]
   show ks.length+1<=sizeLine
   lia
  have k5:=(kt.grown ((aS.refl H1).new (o:=.lst [V.str x]) hp1)).grown ((aS.refl _).new (o:=.lst (ks.map V.str++[V.str x])) hp2)
  have np2:p2≠kl:=λz=>by
   have:=(kt.grown ((aS.refl H1).new (o:=.lst [V.str x]) hp1)).at_
   rw[z,this] at hp2;cases hp2
  refine ways p2 (ks++[x]) _ np2 ?_ (λy hy=>(bu.mp hy).imp id λz=>by rw[av.mp z];exact hx) k5 (by rw[ag,bg];rfl)
  rcases k3 with z|⟨z1,z2⟩
  ·exact ck _ z
  ·obtain⟨zz,hz⟩:=hw0 z2
   subst z1
   rw[f2] at hz;cases hz;cases hx
   exact bD _ (av.mpr rfl)
 ·refine ways a ks _ na ?_ (λy hy=>.inl hy) kt hat
  rcases k3 with z|⟨z1,z2⟩
  ·exact z
  ·obtain⟨zz,hz⟩:=hw0 z2
   subst z1
   rw[f2] at hz;cases hz
   exact absurd (show kD (.str "num") [V.str "num",V.str "op",V.str "call"]=false from hb) (by decide +kernel)
theorem Gd{α:Type}(n:Nat)(a:α):bh (n+1) a=bh n a++[a]:=by
 exact List.replicate_succ'
theorem Bq{K:Fg}{vs:List V}{H:Hp}{Q:VK}{E:XK}(h:gY K vs H Q E):uR K {nx:=λ_ H'=>Q .non H',rt:=Q} (cU ko vs) H:=by
 obtain⟨rl,nm,pr,rvs,rs,ys,ps,cs,rfl,hrl,hA,hOk,hE,hnm,ysl,hpr,psl,pin,hnum,q⟩:=h
 have n1:1<=rs.length:=cP.mpr hOk.pos
 obtain⟨w,wy,wp,w0⟩:∃w:Str,w∈ys/\(ps≠[]->w∈ps)/\(ps=[]->∃z,rs[0]?=some (.num w z)):=by
  cases ps with
  |cons p r=>exact⟨p,pin p cJ,λ_=>cJ,λz=>by cases z⟩
  |nil=>
   have h0:=hnum rfl
   rw[jw] at h0
   cases e:rs[0]? with
   |none=>rw[e] at h0;cases h0
   |some r=>
    rw[e,cR] at h0
    cases r with
    |num x z=>exact⟨x,(hOk.rough _ (aH e)).1,λz=>absurd rfl z,λ_=>⟨z,rfl⟩⟩
    |_=>cases h0
 refine .inl ⟨_,rfl,rl,rfl,⟨_,cA.of hrl⟩,λkl hkl=>?_⟩
 have nrl:rl≠kl:=au hrl hkl
 have nnm:nm≠kl:=au hnm hkl
 have npr:pr≠kl:=au hpr hkl
 refine nu (xs:=rvs) (λj σ' H'=>∃(refs:List V) (o:Option V),σ'=[some (.ref rl),some (.ref nm),some (.ref pr),none,none,none,none,none,none,o]/\H' kl=some (.lst refs)/\cL (LL kl H') refs (bh j ys)/\aS H H') ?_ ?_ ?_ ?_
 ·exact⟨[],none,rfl,ag,.nil,(aS.refl H).new hkl⟩
 ·rintro j σ' H' _ ⟨_,_,_,_,_,s⟩
  exact cA.of (s _ _ hrl)
 ·rintro j x σ' H' hx ⟨refs,o,rfl,hk,ha,s⟩
  refine kf ?_
  have jl:j<rvs.length:=(ar.mp hx).1
  have rl100:rvs.length<=100:=by rw[hA.len];exact hOk.few
  have rlen:refs.length=j:=by rw[ha.len,cv]
  refine⟨_,rfl,nm,_,rfl,.inl (cA.of (s _ _ hnm)),λa ha0=>?_⟩
  have nak:kl≠a:=au hk ha0
  refine⟨refs,by rw[aB nak];exact hk,dW (by lia),refs++[.ref a],_,rfl,ag,?_,λb o h=>?_⟩
  ·rw[Gd]
   refine cL.snoc (ha.imp λ_ _ z=>(z.same ((aS.refl H').new ha0)).upd) ⟨a,rfl,Ne.symm nak,?_⟩
   rw[aB (Ne.symm nak),ag]
  ·have h1:=s b o h
   rw[aB (au h hkl),aB (au h1 ha0)];exact h1
 ·rintro σ' H1 ⟨refs,o,_,hk,ha,s⟩
  rw[hA.len] at ha
  have rlen:refs.length=rs.length:=by rw[ha.len,cv]
  show ql K _ [some (.ref rl),some (.ref nm),some (.ref pr),some (.ref kl),none,none,none,none,none] H1
  refine⟨_,rfl,pr,_,rfl,.inl (cA.of (s _ _ hpr)),λa ha0=>?_⟩
  have nak:kl≠a:=au hk ha0
  have K0:KJ kl H ys [] w rs.length H1 refs (bh rs.length ys):=⟨hk,ha,by rw[cv],λi ks e=>by
   have hm:=aH e
   rw[List.mem_replicate] at hm
   rw[hm.2];exact⟨ysl,λy hy=>hy,.inl wy⟩,s⟩
  have K1:=K0.grown ((aS.refl H1).new (o:=.lst (ps.map V.str)) ha0)
  refine⟨_,rfl,ph K1.at_ (by decide) (by rw[rlen];exact n1) ?_⟩
  have K2:KJ kl H ys ps w rs.length (upd (upd H1 a (.lst (ps.map V.str))) kl (.lst (refs.set 0 (.ref a)))) (refs.set 0 (.ref a)) ((bh rs.length ys).set 0 ps):=by
   have z:=K1.set (m:=0) (kp:=ps) (a:=a) hkl (Ne.symm nak) ag ⟨psl,pin,.inr ⟨rfl,rfl⟩⟩
   refine⟨z.at_,z.all,z.len,λi ks e=>?_,z.same⟩
   by_cases c:0=i
   ·subst c
    rw[bB (by rw[cv];exact n1)] at e;cases e
    refine⟨psl,pin,?_⟩
    by_cases e:ps=[]
    ·exact .inr ⟨rfl,e⟩
    ·exact .inl (wp e)
   ·obtain⟨z1,z2,z3⟩:=z.wit i ks e
    refine⟨z1,z2,?_⟩
    rcases z3 with z3|z3
    ·exact .inl z3
    ·exact absurd z3.1.symm c
  show qk K _ [some (.ref rl),some (.ref nm),some (.ref pr),some (.ref kl),none,none,none,none,none] (upd (upd H1 a (.lst (ps.map V.str))) kl (.lst (refs.set 0 (.ref a))))
  generalize upd (upd H1 a (.lst (ps.map V.str))) kl (.lst (refs.set 0 (.ref a)))=H2 at K2 ⊢
  generalize refs.set 0 (.ref a)=refs2 at K2
  have Z2:zu ps ((bh rs.length ys).set 0 ps):=λks e y hy=>by
   rw[bB (by rw[cv];exact n1)] at e;cases e;exact hy
  generalize (bh rs.length ys).set 0 ps=kss2 at K2 Z2
  show qj K _ [some (.ref rl),some (.ref nm),some (.ref pr),some (.ref kl),some (.bl true),none,none,none,none] H2
  refine⟨λm σ' H'=>∃(refs:List V) (kss:List (List Str)) (more:Bool) (o5 o6 o7 o8:Option V),σ'=[some (.ref rl),some (.ref nm),some (.ref pr),some (.ref kl),some (.bl more),o5,o6,o7,o8]/\KJ kl H ys ps w rs.length H' refs kss/\zu ps kss/\(more=false->vQ rs rs.length kss)/\2*uh kss+more.toNat=m,⟨_,refs2,kss2,true,_,_,_,_,rfl,K2,Z2,(λz=>by cases z),rfl⟩,?_⟩
  rintro m σ' H' ⟨refs3,kss3,more,o5,o6,o7,o8,rfl,K3,Z3,P3,hm⟩
  refine⟨_,rfl,more,rfl,ny (λhmore=>?_) (λhmore=>?_)⟩
  ·subst hmore
   refine⟨NO rl nm pr kl H ys ps w rs (2*uh kss3) rs.length,?_,?_⟩
   ·rintro σ4 H4 ⟨refs4,kss4,more4,p5,p6,p7,p8,rfl,K4,hB,Z4,P4⟩
    refine⟨_,?_,refs4,kss4,more4,_,_,_,_,rfl,K4,Z4,P4,rfl⟩
    have:(true:Bool).toNat=1:=rfl
    lia
   ·-- more=False;for n in range(len(rows))
    show rh K _ [some (.ref rl),some (.ref nm),some (.ref pr),some (.ref kl),some (.bl false),o5,o6,o7,o8] H'
    have hlr:=K3.same _ _ hrl
    refine⟨_,rfl,_,_,rfl,.inl ⟨_,cA.of hlr,rfl⟩,_,rfl,by lia,by rw[hA.len];have:=hOk.few;lia,gH (λi=>NO rl nm pr kl H ys ps w rs (2*uh kss3) i) ⟨refs3,kss3,false,_,_,_,_,rfl,K3,by simp,Z3,λ_ n _ _ _ _ hn=>absurd hn (bN _)⟩ ?_ ?_⟩
    ·rintro i σ5 H5 hi ⟨refs5,kss5,more5,p5,p6,p7,p8,rfl,K5,hB,Z5,P5⟩
     have hi:i<rs.length:=by rw[hA.len] at hi;simpa using hi
     have e0:(0:Int)+(i:Int)=((i:Nat):Int):=by lia
     show m7 K _ [some (.ref rl),some (.ref nm),some (.ref pr),some (.ref kl),some (.bl more5),some (.int ((0:Int)+(i:Int))),p6,p7,p8] H5
     rw[e0]
     exact O6 hkl hrl hA hOk hE w0 hi K5 hB Z5 P5
    ·rintro σ5 H5 h5
     rw[hA.len,fQ] at h5
     exact h5
  ·refine⟨_,rfl,q kl refs3 kss3 H' hkl K3.at_ (K3.all.imp λ_ _ ⟨a,e,_,h⟩=>⟨a,e,h⟩) K3.len (λi ks e=>?_) ⟨Z3,λn m r ks km hr hm hks hkm=>P3 hmore n m r ks km (ar.mp hr).1 hr hm hks hkm⟩ K3.same⟩
   obtain⟨z1,z2,z3⟩:=K3.wit i ks e
   refine⟨z1,z2,z3.imp (λz e=>?_) id⟩
   rw[e] at z;cases z
def Pq(st nm cn fd wl:Addr)(m:Nat)(f:Int)(ws ys:List Str)(cs:List Nat)(H:Hp)(K:Fg)(k i:Nat):St->Hp->Prop:=λσ' H'=>∃(pvs:List V) (bs:List d8) (k':Nat) (o7 o8 o9 o10:Option V),σ'=[some (.ref st),some (.int (m:Nat)),some (.int f),some (.ref wl),some (.ref nm),some (.ref cn),some (.ref fd),o7,o8,o9,o10]/\
 H' fd=some (.lst pvs)/\cL (lP H') pvs bs/\bs.length=i/\(∀b∈bs,pC ys cs b/\b.rows.length<=m+1)/\bs.map (·.name)=ws.take i/\bs.map (·.params.length)=cs.take i/\ke K H' st k'/\k'<=k+1001*i/\xG st fd H H'
theorem Gb{K:Fg}{vs:List V}{H:Hp}{Q:VK}{E:XK}(h:jf K vs H Q E):yY K {nx:=λ_ H'=>Q .non H',rt:=Q} (cU qx vs) H:=by
 obtain⟨st,m,k,rfl,S,hk,m1,m50,q⟩:=h
 obtain⟨scr,ns,c,hst,hscr,hns⟩:=id S
 refine⟨_,rfl,kz (cA.of hst) (by decide) rfl ⟨_,rfl,.inl ⟨scr,_,rfl,hscr.sq,λp hp=>?_⟩⟩⟩
 rw[show((1:Int))=((1:Nat):Int) from rfl,kx,<-gg]
 refine⟨p,ns.take 1,rfl,cA.of ag,λz=>⟨_,_,rfl,rfl,⟨by decide,by decide⟩,_,_,rfl,rfl,(by show(0:Int)<16;decide),.inl ⟨rfl,.inr ⟨_,rfl,?_⟩⟩⟩⟩
 have S1:=S.new (o:=.lst ((ns.take 1).map V.int)) hp
 have B1:=(gB.refl st H).new (o:=.lst ((ns.take 1).map V.int)) hp
 generalize upd H p (.lst ((ns.take 1).map V.int))=H1 at S1 B1 ⊢
 obtain⟨f,hf,f01⟩:∃f:Int,(if decide (V.int (z / 4 % 16)=V.int 5)=true then(1:Int) else 0)=f/\(f=0\/f=1):=by
  cases decide (V.int (z / 4 % 16)=V.int 5) with
  |true=>exact⟨1,rfl,.inr rfl⟩
  |false=>exact⟨0,rfl,.inl rfl⟩
 rw[hf]
 show uP K _ [some (.ref st),some (.int (m:Nat)),some (.int f),none,none,none,none,none,none,none,none] H1
 refine⟨_,rfl,st,5,k,rfl,S1,by lia,by decide,λl ws k1 H2 hl wl wnd wok h2 S2 l2 B2=>?_⟩
 have nl:l≠st:=λz=>by obtain⟨_,e⟩:=S1.lst;rw[z,e] at hl;cases hl
 refine⟨_,rfl,st,3,k1,rfl,S2,by lia,by decide,by decide,λd H3 d0 d1 S3 B3=>.inl ⟨_,_,rfl,rfl,(by show 2<=sizeLine;decide),λl4 hl4=>?_⟩⟩
 have h3:=B3 l _ nl h2
 have S4:=S3.new (o:=.lst [V.int (1+d),V.int 5]) hl4
 have B4:=(((B1.trans B2).trans B3).new (o:=.lst [V.int (1+d),V.int 5]) hl4)
 have h4:(upd H3 l4 (.lst [V.int (1+d),V.int 5])) l=some (.lst (ws.map V.str)):=by rw[aB (au h3 hl4)];exact h3
 have g4:(upd H3 l4 (.lst [V.int (1+d),V.int 5])) l4=some (.lst [V.int (1+d),V.int 5]):=ag
 have words:∀c5:Nat,1<=c5->c5<=5->Es K (V.ref l) none (some (c5:Int)) (upd H3 l4 (.lst [V.int (1+d),V.int 5])) λx H1=>uO K {nx:=λ_ H'=>Q .non H',rt:=Q} [some (.ref st),some (.int (m:Nat)),some (.int f),some x,none,none,none,none,none,none,none] H1:=λc5 c1 c2=>by
  generalize upd H3 l4 (.lst [V.int (1+d),V.int 5])=H4 at S4 B4 h4
  refine .inl ⟨l,_,rfl,cA.of h4,λwp hwp=>?_⟩
  rw[kx,<-gg]
  have wlen:(ws.take c5).length=c5:=by rw[aY];lia
  have S5:=S4.new (o:=.lst ((ws.take c5).map V.str)) hwp
  have B5:=B4.new (o:=.lst ((ws.take c5).map V.str)) hwp
  have h5:(upd H4 wp (.lst ((ws.take c5).map V.str))) wp=some (.lst ((ws.take c5).map V.str)):=ag
  have nwp:wp≠st:=λz=>by obtain⟨_,e⟩:=S4.lst;rw[z,e] at hwp;cases hwp
  have wwnd:(ws.take c5).Nodup:=(jx c5 ws).nodup wnd
  have wwnm:∀y∈ws.take c5,Nm y:=λy hy=>wok y (iu hy)
  generalize ws.take c5=ww at wlen S5 B5 h5 wwnd wwnm ⊢
  generalize upd H4 wp (.lst (ww.map V.str))=H5 at S5 B5 h5 ⊢
  refine⟨_,rfl,_,rfl,st,5,k1+1,rfl,S5,by lia,by decide,by decide,λe H6 e0 e1 S6 B6=>.inl ⟨_,_,rfl,rfl,?_⟩⟩
  obtain⟨n,hn,n2,n6⟩:∃n:Nat,(2:Int)+e=(n:Int)/\2<=n/\n<=6:=⟨(2+e).toNat,by lia,by lia,by lia⟩
  refine⟨st,n,k1+2,by show[V.ref st,V.int (2+e)]=_;rw[hn],S6,by lia,by lia,λnm ys k7 H7 hnm yl ynd yok h7 S7 l7 B7=>?_⟩
  have nnm:nm≠st:=λz=>by obtain⟨_,e⟩:=S6.lst;rw[z,e] at hnm;cases hnm
  have nwn:wp≠nm:=au (B6 wp _ nwp h5) hnm
  have w7:=B7 wp _ nwp (B6 wp _ nwp h5)
  have BH7:=(B5.trans B6).trans B7
  have yne:∀y∈ys,y≠"":=λy hy=>(yok y hy).ne
  have ysne:ys≠[]:=λz=>by rw[z] at yl;simp at yl;lia
  show uN K _ [some (.ref st),some (.int (m:Nat)),some (.int f),some (.ref wp),some (.ref nm),none,none,none,none,none,none] H7
  refine .inl ⟨_,rfl,wp,rfl,⟨_,cA.of w7⟩,λcn hcn=>?_⟩
  have ncn:cn≠st:=λz=>by obtain⟨_,e⟩:=S7.lst;rw[z,e] at hcn;cases hcn
  have nwc:wp≠cn:=au w7 hcn
  have nnc:nm≠cn:=au h7 hcn
  refine nu (xs:=ww.map V.str) (λi σ' H'=>∃(cs:List Nat) (k':Nat) (o:Option V),σ'=[some (.ref st),some (.int (m:Nat)),some (.int f),some (.ref wp),some (.ref nm),none,none,o,none,none,none]/\H' cn=some (.lst (bH cs))/\cs.length=i/\(∀x∈cs,x<=4/\x<=ys.length)/\ke K H' st k'/\k'<=k7+i/\gB st H7 H') ?_ ?_ ?_ ?_
  ·exact⟨[],k7,none,rfl,ag,rfl,by simp,S7.new hcn,by lia,(gB.refl st H7).new hcn⟩
  ·rintro i σ' H' _ ⟨_,_,_,_,_,_,_,_,_,B⟩
   exact cA.of (B wp _ nwp w7)
  ·rintro i x σ' H' hx ⟨cs,k',o,rfl,hc,cl,c4,S',hk',B'⟩
   have il:i<ww.length:=by have:=(ar.mp hx).1;rw[ai] at this;exact this
   refine kf ⟨_,rfl,_,rfl,_,_,rfl,.inl ⟨_,cA.of (B' nm _ nnm h7),rfl⟩,_,_,rfl,.inl ⟨_,_,rfl,rfl,?_⟩⟩
   rw[ai]
   refine⟨st,_,k',rfl,S',by lia,?_,?_,λg H8 g0 g1 S8 B8=>?_⟩
   ·by_cases z:((ys.length:Nat):Int)<4
    ·rw[if_pos z];lia
    ·rw[if_neg z];lia
   ·by_cases z:((ys.length:Nat):Int)<4
    ·rw[if_pos z];lia
    ·rw[if_neg z];lia
   obtain⟨gn,rfl⟩:∃j:Nat,g=(j:Int):=⟨g.toNat,by lia⟩
   have g4:gn<=4/\gn<=ys.length:=by
    by_cases z:((ys.length:Nat):Int)<4
    ·rw[if_pos z] at g1;lia
    ·rw[if_neg z] at g1;lia
   have h8:=B8 cn _ ncn hc
   refine⟨_,h8,dW (by rw[dD];lia),cs++[gn],k'+1,_,rfl,?_,by simp[cl],λx hx=>?_,S8.mono .upd_at h8 (Ne.symm ncn),by lia,?_⟩
   ·rw[ag];unfold bH;rw[bg];rfl
   ·rcases bu.mp hx with z|z
    ·exact c4 x z
    ·rw[av.mp z];exact g4
   ·exact gB.past (B'.trans B8) hcn .upd_at
  ·rintro σ' H8 ⟨cs,k8,o,_,hc,cl,c4,S8,hk8,B8⟩
   rw[ai] at cl hk8
   have csne:cs≠[]:=λz=>by rw[z] at cl;simp at cl;lia
   have w8:=B8 wp _ nwp w7
   have n8:=B8 nm _ nnm h7
   have BH8:=BH7.trans B8
   show uM K _ [some (.ref st),some (.int (m:Nat)),some (.int f),some (.ref wp),some (.ref nm),some (.ref cn),none,none,none,none,none] H8
   refine⟨(by show 0<=sizeLine;decide),λfd hfd=>?_⟩
   have nfd:fd≠st:=λz=>by obtain⟨_,e⟩:=S8.lst;rw[z,e] at hfd;cases hfd
   have s9:aS H8 (upd H8 fd (.lst [])):=(aS.refl H8).new hfd
   have g9:(upd H8 fd (.lst [])) fd=some (.lst []):=ag
   have HF:H fd=none:=BH8.free nfd hfd
   have nwf:wp≠fd:=au w8 hfd
   have nnf:nm≠fd:=au n8 hfd
   have ncf:cn≠fd:=au hc hfd
   show uL K _ [some (.ref st),some (.int (m:Nat)),some (.int f),some (.ref wp),some (.ref nm),some (.ref cn),some (.ref fd),none,none,none,none] (upd H8 fd (.lst []))
   generalize upd H8 fd (.lst [])=H9 at s9 g9 ⊢
   refine⟨_,rfl,_,rfl,wp,cn,rfl,⟨_,cA.of (s9 _ _ w8)⟩,⟨_,cA.of (s9 _ _ hc)⟩,JW (xs:=ww.map V.str) (ys:=bH cs) (by rw[ai,dD,cl]) (Pq st nm cn fd wp m f ww ys cs H9 K k8) ?_ ?_ ?_ ?_⟩
   ·exact⟨[],[],k8,none,none,none,none,rfl,g9,.nil,rfl,by simp,rfl,rfl,S8.same s9,by lia,.refl _ _ _⟩
   ·rintro i σ' H' _ ⟨_,_,_,_,_,_,_,_,_,_,_,_,_,_,_,_,B⟩
    exact⟨cA.of (B wp _ nwp nwf (s9 _ _ w8)),cA.of (B cn _ ncn ncf (s9 _ _ hc))⟩
   ·rintro i x y σ' H' tp hx hy htp ⟨pvs,bs,k',o7,o8,o9,o10,rfl,hpv,hA,bl,b100,bnm,bct,S',hk',B'⟩
    have il:i<ww.length:=by have:=(ar.mp hx).1;rw[ai] at this;exact this
    obtain⟨c,hcc,rfl⟩:=pE hy
    rw[aO,ao il] at hx
    obtain⟨w,hw,rfl⟩:∃w:Str,ww[i]?=some w/\x=.str w:=⟨ww[i],ao il,(Option.some.inj hx).symm⟩
    have s2:aS H' (upd H' tp (.tup [.str w,.int (c:Nat)])):=(aS.refl H').new htp
    have g2:(upd H' tp (.tup [.str w,.int (c:Nat)])) tp=some (.tup [.str w,.int (c:Nat)]):=ag
    generalize upd H' tp (.tup [.str w,.int (c:Nat)])=H10 at s2 g2 ⊢
    refine⟨tp,_,rfl,cY.of g2,rfl,_,_,rfl,_,_,rfl,rfl,?_⟩
    show uK K _ [some (.ref st),some (.int (m:Nat)),some (.int f),some (.ref wp),some (.ref nm),some (.ref cn),some (.ref fd),some (.str w),some (.int (c:Nat)),o9,o10] H10
    have nm10:=s2 _ _ (B' nm _ nnm nnf (s9 _ _ n8))
    have cn10:=s2 _ _ (B' cn _ ncn ncf (s9 _ _ hc))
    have fd10:=s2 _ _ hpv
    refine⟨_,rfl,_,rfl,_,_,rfl,.inl ⟨_,cA.of nm10,rfl⟩,st,_,k',rfl,S'.same s2,by lia,by rw[ai];lia,by rw[ai];lia,λt H11 t0 t1 S11 B11=>?_⟩
    obtain⟨tn,rfl⟩:∃j:Nat,t=(j:Int):=⟨t.toNat,by lia⟩
    show uJ K _ [some (.ref st),some (.int (m:Nat)),some (.int f),some (.ref wp),some (.ref nm),some (.ref cn),some (.ref fd),some (.str w),some (.int (c:Nat)),some (.int (tn:Nat)),o10] H11
    have nm11:=B11 nm _ nnm nm10
    have cn11:=B11 cn _ ncn cn10
    have fd11:=B11 fd _ nfd fd10
    refine⟨_,rfl,_,rfl,_,rfl,.inl ⟨nm,_,rfl,cA.of nm11,λa1 ha1=>?_⟩⟩
    rw[vX,<-qJ]
    have nm12:(upd H11 a1 (.lst ((ys.drop tn).map V.str))) nm=some (.lst (ys.map V.str)):=by rw[aB (au nm11 ha1)];exact nm11
    refine⟨_,rfl,_,rfl,_,rfl,.inl ⟨nm,_,rfl,cA.of nm12,λa2 ha2=>?_⟩⟩
    rw[kx,<-gg]
    have n12:a1≠a2:=au ag ha2
    refine .inr (.inr (.inl ⟨a1,a2,_,_,rfl,rfl,by rw[aB n12,ag],ag,?_,λa3 ha3=>?_⟩))
    ·have:=dW (n:=100) (by decide)
     rw[ai,ai,dU,aY];lia
    rw[<-bg]
    refine⟨_,rfl,_,rfl,.inl ⟨a3,_,rfl,cA.of ag,λpr hpr=>?_⟩⟩
    rw[kx,<-gg]
    have pin:∀y∈(ys.drop tn++ys.take tn).take c,y∈ys:=λy hy=>by
     rcases bu.mp (iu hy) with z|z
     ·exact List.mem_of_mem_drop z
     ·exact iu z
    have pnd:((ys.drop tn++ys.take tn).take c).Nodup:=by
     refine(jx c _).nodup ?_
     have z:(ys.take tn++ys.drop tn).Nodup:=by rw[List.take_append_drop];exact ynd
     exact(List.perm_append_comm.nodup_iff).mp z
    have plc:((ys.drop tn++ys.take tn).take c).length=c:=by
     have:=(c4 c (aH hcc)).2
     rw[aY,aN,dU,aY];lia
    have pl:((ys.drop tn++ys.take tn).take c).length<=100:=by
     rw[aY,aN,dU,aY];lia
    have s13:aS H11 (upd (upd (upd (upd H11 a1 (.lst ((ys.drop tn).map V.str))) a2 (.lst ((ys.take tn).map V.str))) a3 (.lst ((ys.drop tn++ys.take tn).map V.str))) pr (.lst (((ys.drop tn++ys.take tn).take c).map V.str))):=((((aS.refl H11).new ha1).new ha2).new ha3).new hpr
    have g13:(upd (upd (upd (upd H11 a1 (.lst ((ys.drop tn).map V.str))) a2 (.lst ((ys.take tn).map V.str))) a3 (.lst ((ys.drop tn++ys.take tn).map V.str))) pr (.lst (((ys.drop tn++ys.take tn).take c).map V.str))) pr=some (.lst (((ys.drop tn++ys.take tn).take c).map V.str)):=ag
    show uI K _ [some (.ref st),some (.int (m:Nat)),some (.int f),some (.ref wp),some (.ref nm),some (.ref cn),some (.ref fd),some (.str w),some (.int (c:Nat)),some (.int (tn:Nat)),some (.ref pr)] (upd (upd (upd (upd H11 a1 (.lst ((ys.drop tn).map V.str))) a2 (.lst ((ys.take tn).map V.str))) a3 (.lst ((ys.drop tn++ys.take tn).map V.str))) pr (.lst (((ys.drop tn++ys.take tn).take c).map V.str)))
    generalize upd (upd (upd (upd H11 a1 (.lst ((ys.drop tn).map V.str))) a2 (.lst ((ys.take tn).map V.str))) a3 (.lst ((ys.drop tn++ys.take tn).map V.str))) pr (.lst (((ys.drop tn++ys.take tn).take c).map V.str))=H13 at s13 g13 ⊢
    generalize (ys.drop tn++ys.take tn).take c=ps at pin pl pnd plc g13
    have S13:=S11.same s13
    have npr:pr≠st:=λz=>by
     have:=ER S13 (v:=.ref pr) ⟨pr,rfl,g13⟩
     exact this (by rw[z])
    have fd13:=s13 _ _ fd11
    refine⟨_,rfl,.inl ⟨rfl,_,cA.of fd13⟩,_,rfl,_,rfl,_,rfl,_,rfl,_,rfl,_,rfl,st,nm,pr,cn,w,m,k'+1,ys,ps,cs,rfl,S13,by lia,s13 _ _ nm11,ysne,by lia,yne,g13,pl,pnd,pin,s13 _ _ cn11,csne,by lia,λx hx=>(c4 x hx).1,m1,m50,nnm,npr,ncn,λv b k14 H14 hv hbn hbp bok br S14 l14 B14=>?_⟩
    have fd14:=B14 fd _ nfd fd13
    obtain⟨_,e11⟩:=(S'.same s2).lst
    obtain⟨_,e13⟩:=S13.lst
    have t14:Tp H' H14:=(((Tp.of_same s2).trans (.of_but B11 e11)).trans (.of_same s13)).trans (.of_but B14 e13)
    have t15:Tp H14 (upd H14 fd (.lst (pvs++[v]))):=(Tp.refl H14).lst fd14
    refine⟨fd,_,_,rfl,rfl,fd14,dW (by rw[hA.len];lia),?_⟩
    refine⟨pvs++[v],bs++[b],k14,_,_,_,_,rfl,ag,(hA.imp λ_ _ z=>(z.mono t14).mono t15).snoc (hv.mono t15),by simp[bl],λb' hb'=>(bu.mp hb').elim (b100 b') (λz=>by rw[av.mp z];exact⟨bok,br⟩),by rw[bg,bnm,dn,hw,List.map_singleton,hbn];rfl,by rw[bg,bct,dn,hcc,List.map_singleton,hbp,plc];rfl,S14.mono .upd_at fd14 (Ne.symm nfd),by lia,?_⟩
    exact λe u n1 n2 h=>by rw[aB n2];exact B14 e u n1 (s13 _ _ (B11 e u n1 (s2 _ _ (B' e u n1 n2 h))))
   ·rintro σ' H' ⟨pvs,bs,k',o7,o8,o9,o10,rfl,hpv,hA,bl,b100,bnm,bct,S',hk',B'⟩
    rw[ai] at bl hk'
    refine⟨_,rfl,fd,_,rfl,.inl ⟨cA.of hpv,λl hl=>?_⟩⟩
    rw[ai,<-cl] at bct
    rw[ai] at bnm
    rw[List.take_length] at bnm bct
    have ok:tO ys cs bs:=⟨ynd,yok,by lia,by lia,by lia,by lia,by rw[bnm];exact wwnd,λb hb=>wwnm _ (by rw[<-bnm];exact List.mem_map_of_mem hb),bct,λx hx=>(c4 x hx).1,λb hb=>(b100 b hb).1⟩
    refine q l pvs bs ys cs k' _ ag (hA.imp λ_ _ z=>z.mono ((Tp.refl H').new hl)) ok (λb hb=>(b100 b hb).2) (S'.new hl) (by lia) (gB.new ?_ hl)
    exact λe u n1 h=>B' e u n1 (au h HF) (s9 _ _ (BH8 e u n1 h))
 rcases f01 with rfl|rfl
 ·refine⟨_,rfl,kz (cA.of g4) (by decide) rfl ⟨_,rfl,?_⟩⟩
  obtain⟨c5,h5,c1,c2⟩:∃c5:Nat,(1:Int)+d=(c5:Int)/\1<=c5/\c5<=5:=⟨(1+d).toNat,by lia,by lia,by lia⟩
  have z:=words c5 c1 c2
  rw[<-h5] at z
  exact z
 ·refine⟨_,rfl,kz (cA.of g4) (by decide) rfl ⟨_,rfl,?_⟩⟩
  exact words 5 (by decide) (by decide)
theorem jD{H H1:Hp}{a:Addr}{o:HO}(s:aS H H1)(h:H a=none):aS H (upd H1 a o):=λb u e=>by
 rw[aB (au e h)];exact s b u e
def kK(F:List Nat):List (hV×V):=F.map λ(n:Nat)=>(Sum.inl ((n:Nat):Int),V.bl true)
theorem Jm:∀(F:List Nat) (m:Nat),(mx (kK F) (Sum.inl (m:Int))).isSome=decide (m∈F)
 |[],m=>rfl
 |a::r,m=>by
  unfold mx kK
  rw[ba,fO]
  by_cases c:m=a
  ·subst c
   rw[decide_eq_true (by rfl:((Sum.inl (m:Int),V.bl true):hV×V).1=Sum.inl (m:Int))]
   rw[decide_eq_true cJ]
   rfl
  ·have e:decide (((Sum.inl (a:Int),V.bl true):hV×V).1=Sum.inl (m:Int))=false:=decide_eq_false λz=>c (by injection z with z;lia)
   rw[e]
   have ih:=Jm r m
   unfold mx kK at ih
   refine Eq.trans ih ?_
   rw[Bool.eq_iff_iff,decide_eq_true_eq,decide_eq_true_eq,aV]
   exact⟨.inr,λz=>z.resolve_left c⟩
theorem mZ{F:List Nat}{m:Nat}(h:m∉F):m5 (kK F) (Sum.inl (m:Int)) (V.bl true)=kK (F++[m]):=by
 have e:mx (kK F) (Sum.inl (m:Int))=none:=by
  have:=Jm F m
  rw[decide_eq_false h] at this
  cases q:mx (kK F) (Sum.inl (m:Int)) with
  |none=>rfl
  |some v=>rw[q] at this;cases this
 rw[Bl _ e]
 unfold kK
 rw[bg]
 rfl
theorem A0(F:List Nat):(kK F).length=F.length:=by unfold kK;rw[ai]
def Jx(rs:List bJ)(un:Option Str)(F:List Nat)(n:Nat):Prop:=∀r,rs[n]?=some r->(∀y,un=some y->iS r≠.str y)->∀m∈cW n r,m∈F
theorem Jx.mono{rs:List bJ}{un:Option Str}{F F':List Nat}{n:Nat}(h:Jx rs un F n)(s:∀x∈F,x∈F'):Jx rs un F' n:=λr e hy m hm=>s m (h r e hy m hm)
structure WI(rs:List bJ)(un:Option Str)(F W:List Nat)(now:Nat->Prop):Prop where
 nd:F.Nodup
 way:∀x∈F,zt rs un x
 zero:0∈F
 sub:∀x∈W,x∈F
 cl:∀x∈F,x∈W\/now x\/Jx rs un F x
theorem WI.add{rs:List bJ}{un:Option Str}{F W:List Nat}{now:Nat->Prop}{m:Nat}(i:WI rs un F W now)(h:m∉F)(w:zt rs un m):WI rs un (F++[m]) (W++[m]) now:=by
 refine⟨sy i.nd h,λx hx=>?_,ck _ i.zero,λx hx=>?_,λx hx=>?_⟩
 ·rcases bu.mp hx with z|z
  ·exact i.way x z
  ·rw[av.mp z];exact w
 ·rcases bu.mp hx with z|z
  ·exact ck _ (i.sub x z)
  ·exact bD _ z
 ·rcases bu.mp hx with z|z
  ·rcases i.cl x z with a|a|a
   ·exact .inl (ck _ a)
   ·exact .inr (.inl a)
   ·exact .inr (.inr (a.mono λy hy=>ck _ hy))
  ·exact .inl (bD _ z)
def OT(rt fd wl:Addr)(H:Hp)(rs:List bJ)(un:Option Str)(m:Nat):St->Hp->Prop:=λσ' H'=>∃(F W:List Nat) (o4 o5:Option V),σ'=[some (.ref rt),some (L7 un),some (.ref fd),some (.ref wl),o4,o5]/\H' fd=some (.dK (kK F))/\H' wl=some (.lst (bH W))/\WI rs un F W (λ_=>False)/\aS H H'/\2*(rs.length-F.length)+W.length<=m
def Pt(rt fd wl tp:Addr)(H:Hp)(rs:List bJ)(un:Option Str)(ms:List Nat)(n m j:Nat):St->Hp->Prop:=λσ' H'=>∃(F W:List Nat) (o5:Option V),σ'=[some (.ref rt),some (L7 un),some (.ref fd),some (.ref wl),some (.int (n:Nat)),o5]/\H' fd=some (.dK (kK F))/\H' wl=some (.lst (bH W))/\H' tp=some (.tup (bH ms))/\WI rs un F W (λx=>x=n)/\aS H H'/\2*(rs.length-F.length)+W.length<=m/\∀i,i<j->∀x,ms[i]?=some x->x∈F
theorem lW(ns:List Nat)(n:Nat):bH (ns++[n])=bH ns++[V.int (n:Nat)]:=by unfold bH;rw[bg];rfl
theorem WI.done{rs:List bJ}{un:Option Str}{F:List Nat}(i:WI rs un F [] (λ_=>False))(m:Nat):m∈F↔zt rs un m:=by
 refine⟨i.way m,λh=>?_⟩
 induction h with
 |zero=>exact i.zero
 |step _ e hy hm ih=>
  rcases i.cl _ ih with z|z|z
  ·cases z
  ·exact z.elim
  ·exact z _ e hy _ hm
theorem WI.len{rs:List bJ}{un:Option Str}{F W:List Nat}{now:Nat->Prop}(g:ku rs)(i:WI rs un F W now):F.length<=rs.length:=kA i.nd λx hx=>(i.way x hx).lt g
theorem L8{K:Fg}{rt fd wl:Addr}{H H1:Hp}{rvs:List V}{rs:List bJ}{un:Option Str}{F W:List Nat}{n m:Nat}{r:bJ}{v:V}{o5:Option V}{D:oZ}(hrt:H rt=some (.tup rvs))(hfd:H fd=none)(hwl:H wl=none)(nfw:fd≠wl)(g:ku rs)
  (e1:rvs[n]?=some v) (e2:rs[n]?=some r) (hra:dH H v r) (hy:∀y,un=some y->iS r≠.str y) (hn:zt rs un n) (h1:H1 fd=some (.dK (kK F))) (h2:H1 wl=some (.lst (bH W))) (i:WI rs un F W (λx=>x=n)) (s:aS H H1) (hm:2*(rs.length-F.length)+W.length<=m) (hmb:m<=1000)
  (q:∀(σ':St) (H':Hp),OT rt fd wl H rs un m σ' H'->D.nx σ' H') :
  jM (lU K (bG (iD K) [] E0 (af (aj 0) (af (aj 4) aE)))) (aR 5) (oH K) D [some (.ref rt),some (L7 un),some (.ref fd),some (.ref wl),some (.int (n:Nat)),o5] H1:=by
 refine .inr ⟨_,rfl,_,rfl,rt,n,rvs,v,r,rfl,s _ _ hrt,e1,hra.mono (.of_same s),λtp H2 htp s2=>⟨tp,rfl,⟨_,cY.of htp⟩,qA (xs:=bH (cW n r)) (Pt rt fd wl tp H rs un (cW n r) n m) ?_ ?_ ?_ ?_⟩⟩
 ·exact⟨F,W,_,rfl,s2 _ _ h1,s2 _ _ h2,htp,i,s.trans s2,hm,λi hi=>absurd hi (bN _)⟩
 ·rintro j σ' H' _ ⟨_,_,_,_,_,_,h3,_⟩
  exact cY.of h3
 ·rintro j x σ' H' hx ⟨F',W',p5,rfl,h3,h4,h5,i',s',hm',hj⟩
  obtain⟨to,hto,rfl⟩:=pE hx
  have hw:zt rs un to:=.step hn e2 hy (aH hto)
  have fl:=i'.len g
  have few:=g.few
  show oH K _ [some (.ref rt),some (L7 un),some (.ref fd),some (.ref wl),some (.int (n:Nat)),some (.int (to:Nat))] H'
  refine⟨_,rfl,_,rfl,fd,_,rfl,AE.k (k:=Sum.inl (to:Int)) h3,_,rfl,?_⟩
  show if(!(mx (kK F') (Sum.inl (to:Int))).isSome)=true then _ else _
  rw[Jm]
  refine jE (λhin=>?_) (λhin=>?_)
  ·have nd':=kA (sy i'.nd hin) (n:=rs.length) λy hy'=>by
    rcases bu.mp hy' with z|z
    ·exact(i'.way y z).lt g
    ·rw[av.mp z];exact hw.lt g
   rw[aN,bF] at nd'
   refine⟨_,rfl,_,rfl,fd,_,rfl,Cp.k (k:=Sum.inl (to:Int)) h3 (dW (by rw[A0];lia)),?_⟩
   rw[mZ hin]
   have h4':(upd H' fd (.dK (kK (F'++[to])))) wl=some (.lst (bH W')):=by rw[aB (Ne.symm nfw)];exact h4
   have nwl:W'.length<=100000:=by lia
   refine⟨_,rfl,.inl ⟨rfl,_,cA.of h4'⟩,_,rfl,wl,_,_,rfl,rfl,h4',dW (by rw[dD];exact nwl),?_⟩
   have ntf:tp≠fd:=λz=>by rw[z,h3] at h5;cases h5
   have ntw:tp≠wl:=λz=>by rw[z,h4] at h5;cases h5
   refine⟨F'++[to],W'++[to],_,rfl,by rw[aB nfw,ag],by rw[ag,lW],by rw[aB ntw,aB ntf];exact h5,i'.add hin hw,jD (jD s' hfd) hwl,?_,λk hk x hxk=>?_⟩
   ·simp only[aN,bF];lia
   ·by_cases c:k<j
    ·exact ck _ (hj k c x hxk)
    ·have:k=j:=by lia
     subst this
     rw[hto] at hxk;cases hxk
     exact bD _ (av.mpr rfl)
  ·refine⟨F',W',_,rfl,h3,h4,h5,i',s',hm',λk hk x hxk=>?_⟩
   by_cases c:k<j
   ·exact hj k c x hxk
   ·have:k=j:=by lia
    subst this
    rw[hto] at hxk;cases hxk
    exact hin
 ·rintro σ' H' ⟨F',W',p5,rfl,h3,h4,h5,i',s',hm',hj⟩
  rw[dD] at hj
  refine q _ _ ⟨F',W',_,_,rfl,h3,h4,⟨i'.nd,i'.way,i'.zero,i'.sub,λx hx=>?_⟩,s',hm'⟩
  rcases i'.cl x hx with z|z|z
  ·exact .inl z
  ·subst z
   refine .inr (.inr λr' e _ m' hm'=>?_)
   rw[e2] at e;cases e
   obtain⟨k,hk,ek⟩:=cF.mp hm'
   exact hj k hk m' (by rw[ao hk,ek])
  ·exact .inr (.inr z)
theorem Dt{K:Fg}{vs:List V}{H:Hp}{Q:VK}{E:XK}(h:iE K vs H Q E):xo K {nx:=λ_ H'=>Q .non H',rt:=Q} (cU rq vs) H:=by
 obtain⟨rt,un,rvs,rs,rfl,hrt,hA,g,q⟩:=h
 refine λfd hfd=>⟨ag,[(Sum.inl 0,V.bl true)],rfl,by decide,?_⟩
 have e0:upd (upd H fd (.dK [])) fd (.dK (pI [] [(Sum.inl 0,V.bl true)]))=upd H fd (.dK (kK [0])):=by
  rw[lC]
  have:pI [] [((Sum.inl 0:hV),V.bl true)]=kK [0]:=by
   show m5 [] (Sum.inl 0) (V.bl true)=_
   rw[Bl _ Jn];rfl
  rw[this]
 show tf K _ [some (.ref rt),some (L7 un),some (.ref fd),none,none,none] (upd (upd H fd (.dK [])) fd (.dK (pI [] [(Sum.inl 0,V.bl true)])))
 rw[e0]
 refine⟨(by show 1<=sizeLine;decide),λwl hwl0=>?_⟩
 have nfw:fd≠wl:=au ag hwl0
 have hwl:H wl=none:=by
  have:(upd H fd (.dK (kK [0]))) wl=H wl:=aB (Ne.symm nfw)
  rw[<-this];exact hwl0
 show sZ K _ [some (.ref rt),some (L7 un),some (.ref fd),some (.ref wl),none,none] (upd (upd H fd (.dK (kK [0]))) wl (.lst [V.int 0]))
 have few0:=g.few
 refine⟨λm σ' H'=>m<=1000/\OT rt fd wl H rs un m σ' H',⟨2*(rs.length-1)+1,by lia,[0],[0],none,none,rfl,by rw[aB nfw,ag],ag,⟨by simp,λx hx=>by rw[av.mp hx];exact .zero,by simp,λx hx=>hx,λx hx=>.inl hx⟩,jD (jD (aS.refl H) hfd) hwl,by simp⟩,?_⟩
 rintro m σ' H1 ⟨hmb,F,W,o4,o5,rfl,h1,h2,i,s,hm⟩
 refine⟨_,rfl,_,_,rfl,.inl ⟨_,cA.of h2,rfl⟩,_,_,rfl,rfl,_,rfl,bZ (λhl=>?_) (λhl=>?_)⟩
 ·rw[dD] at hl
  obtain⟨L,n,rfl⟩:∃L n,W=L++[n]:=by
   rcases List.eq_nil_or_concat W with z|⟨L,n,z⟩
   ·subst z;simp at hl
   ·exact⟨L,n,by rw[z,List.concat_eq_append]⟩
  have hnF:=i.sub n (bD _ (av.mpr rfl))
  have hn:=i.way n hnF
  have nl:=hn.lt g
  obtain⟨v,r,e1,e2,hra⟩:=hA.get nl
  have hm1:2*(rs.length-F.length)+L.length<=m-1:=by rw[aN,bF] at hm;lia
  have m0:0<m:=by rw[aN,bF] at hm;lia
  refine⟨OT rt fd wl H rs un (m-1),λσ4 H4 h4=>⟨m-1,by lia,by lia,h4⟩,?_⟩
  rw[lW] at h2
  refine⟨_,rfl,.inl ⟨rfl,_,cA.of h2⟩,wl,_,V.int (n:Nat),rfl,rfl,h2,?_,?_⟩
  ·rw[aN,bF,Nat.add_sub_cancel,cg (aD _),kQ];rfl
  rw[List.dropLast_concat]
  show sY K _ [some (.ref rt),some (L7 un),some (.ref fd),some (.ref wl),some (.int (n:Nat)),o5] (upd H1 wl (.lst (bH L)))
  have h1':(upd H1 wl (.lst (bH L))) fd=some (.dK (kK F)):=by rw[aB nfw];exact h1
  have h2':(upd H1 wl (.lst (bH L))) wl=some (.lst (bH L)):=ag
  have s':aS H (upd H1 wl (.lst (bH L))):=jD s hwl
  generalize upd H1 wl (.lst (bH L))=H2 at h1' h2' s'
  have i':WI rs un F L (λx=>x=n):=⟨i.nd,i.way,i.zero,λx hx=>i.sub x (ck _ hx),λx hx=>by
   rcases i.cl x hx with z|z|z
   ·rcases bu.mp z with z|z
    ·exact .inl z
    ·exact .inr (.inl (av.mp z))
   ·exact z.elim
   ·exact .inr (.inr z)⟩
  have e1':rvs[((n:Nat):Int).toNat]?=some v:=by simpa using e1
  cases un with
  |none=>
   refine⟨_,rfl,rfl,_,rfl,qG (qG ?_)⟩
   exact L8 hrt hfd hwl nfw g e1 e2 hra (λy z=>by cases z) hn h1' h2' i' s' hm1 (by lia) λ_ _ z=>z
  |some y=>
   refine⟨_,rfl,rfl,_,rfl,iW ?_⟩
   refine⟨_,rfl,_,rfl,cb (s' _ _ hrt) (by lia) e1' ⟨v,r,rfl,hra.mono (.of_same s'),λH3 s3=>⟨_,rfl,.inl ⟨?_,_,rfl,?_⟩⟩⟩⟩
   ·cases r<;>rfl
   ·refine jE (λhne=>?_) (λhe=>?_)
    ·exact L8 hrt hfd hwl nfw g e1 e2 hra (λy' z=>by cases z;exact hne) hn (s3 _ _ h1') (s3 _ _ h2') i' (s'.trans s3) hm1 (by lia) λ_ _ z=>z
    ·refine⟨F,L,_,_,rfl,s3 _ _ h1',s3 _ _ h2',⟨i'.nd,i'.way,i'.zero,i'.sub,λx hx=>?_⟩,s'.trans s3,hm1⟩
     rcases i'.cl x hx with z|z|z
     ·exact .inl z
     ·subst z
      refine .inr (.inr λr' e hy=>?_)
      rw[e2] at e;cases e
      exact absurd he (hy y rfl)
     ·exact .inr (.inr z)
 ·rw[dD] at hl
  have:W=[]:=cD.mp (by lia)
  subst this
  have fl:=i.len g
  have few:=g.few
  refine⟨_,rfl,fd,_,F.map (λn=>((n:Nat):Int)),rfl,h1,?_,by rw[ai];lia,λl ns' hl' hp hs=>?_⟩
  ·unfold kK;rw[dN,dN];rfl
  ·obtain⟨ks,rfl,hk,hr⟩:=FR hp hs i.nd
   have e:(ks.map λn=>((n:Nat):Int)).map V.int=bH ks:=by unfold bH;rw[dN];rfl
   rw[e]
   refine q l ks _ (λm=>(hk m).trans (i.done m)) hr ag (s.free hl') (s.new hl')
theorem sk(a b:List Nat):bH (a++b)=bH a++bH b:=by unfold bH;rw[bg]
theorem Nz{K:Fg}{vs:List V}{H:Hp}{Q:VK}{E:XK}(h:lB K vs H Q E):IZ K {nx:=λ_ H'=>Q .non H',rt:=Q} (cU Cu vs) H:=by
 obtain⟨rt,n,rvs,v,r,rfl,hrt,hv,hr,q⟩:=h
 have hn:rvs[((n:Nat):Int).toNat]?=some v:=by simpa using hv
 have n0:(0:Int)<=((n:Nat):Int):=by omega
 have e1:(((n+1:Nat):Nat):Int)=(n:Int)+1:=by omega
 cases r with
 |num x z=>
  obtain⟨p,rfl,h⟩:=hr
  refine⟨_,rfl,_,rfl,cb hrt n0 hn (cb h (by decide) rfl (.inl ⟨rfl,_,rfl,no (by decide +kernel) ?_⟩))⟩
  refine⟨_,rfl,_,rfl,cb hrt n0 hn (cb h (by decide) rfl (.inl ⟨rfl,_,rfl,no (by decide +kernel) ?_⟩))⟩
  refine⟨_,rfl,_,rfl,cb hrt n0 hn (cb h (by decide) rfl (.inl ⟨rfl,_,rfl,no (by decide +kernel) ?_⟩))⟩
  exact⟨_,rfl,.inl ⟨_,_,rfl,rfl,⟨(by show 1<=sizeLine;decide),λt ht=>(by have z:=q t ht;unfold bH cW at z;simp only[ba,bV,e1] at z;exact z)⟩⟩⟩
 |op x s a b=>
  obtain⟨p,rfl,h⟩:=hr
  refine⟨_,rfl,_,rfl,cb hrt n0 hn (cb h (by decide) rfl (.inl ⟨rfl,_,rfl,no (by decide +kernel) ?_⟩))⟩
  refine⟨_,rfl,_,rfl,cb hrt n0 hn (cb h (by decide) rfl (.inl ⟨rfl,_,rfl,no (by decide +kernel) ?_⟩))⟩
  refine⟨_,rfl,_,rfl,cb hrt n0 hn (cb h (by decide) rfl (.inl ⟨rfl,_,rfl,no (by decide +kernel) ?_⟩))⟩
  exact⟨_,rfl,.inl ⟨_,_,rfl,rfl,⟨(by show 1<=sizeLine;decide),λt ht=>(by have z:=q t ht;unfold bH cW at z;simp only[ba,bV,e1] at z;exact z)⟩⟩⟩
 |call x k as=>
  obtain⟨p,q1,rfl,h,h1⟩:=hr
  refine⟨_,rfl,_,rfl,cb hrt n0 hn (cb h (by decide) rfl (.inl ⟨rfl,_,rfl,no (by decide +kernel) ?_⟩))⟩
  refine⟨_,rfl,_,rfl,cb hrt n0 hn (cb h (by decide) rfl (.inl ⟨rfl,_,rfl,no (by decide +kernel) ?_⟩))⟩
  refine⟨_,rfl,_,rfl,cb hrt n0 hn (cb h (by decide) rfl (.inl ⟨rfl,_,rfl,no (by decide +kernel) ?_⟩))⟩
  exact⟨_,rfl,.inl ⟨_,_,rfl,rfl,⟨(by show 1<=sizeLine;decide),λt ht=>(by have z:=q t ht;unfold bH cW at z;simp only[ba,bV,e1] at z;exact z)⟩⟩⟩
 |say a=>
  obtain⟨p,rfl,h⟩:=hr
  refine⟨_,rfl,_,rfl,cb hrt n0 hn (cb h (by decide) rfl (.inl ⟨rfl,_,rfl,no (by decide +kernel) ?_⟩))⟩
  refine⟨_,rfl,_,rfl,cb hrt n0 hn (cb h (by decide) rfl (.inl ⟨rfl,_,rfl,no (by decide +kernel) ?_⟩))⟩
  refine⟨_,rfl,_,rfl,cb hrt n0 hn (cb h (by decide) rfl (.inl ⟨rfl,_,rfl,no (by decide +kernel) ?_⟩))⟩
  exact⟨_,rfl,.inl ⟨_,_,rfl,rfl,⟨(by show 1<=sizeLine;decide),λt ht=>(by have z:=q t ht;unfold bH cW at z;simp only[ba,bV,e1] at z;exact z)⟩⟩⟩
 |jump to=>
  obtain⟨p,rfl,h⟩:=hr
  refine⟨_,rfl,_,rfl,cb hrt n0 hn (cb h (by decide) rfl (.inl ⟨rfl,_,rfl,Cm ?_⟩))⟩
  exact⟨_,rfl,_,rfl,cb hrt n0 hn (cb h (by decide) rfl ⟨(by show 1<=sizeLine;decide),λt ht=>(by have z:=q t ht;unfold bH cW at z;simp only[ba,bV,e1] at z;exact z)⟩)⟩
 |test a to=>
  obtain⟨p,rfl,h⟩:=hr
  refine⟨_,rfl,_,rfl,cb hrt n0 hn (cb h (by decide) rfl (.inl ⟨rfl,_,rfl,no (by decide +kernel) ?_⟩))⟩
  refine⟨_,rfl,_,rfl,cb hrt n0 hn (cb h (by decide) rfl (.inl ⟨rfl,_,rfl,Cm ?_⟩))⟩
  exact⟨_,rfl,.inl ⟨_,_,rfl,rfl,⟨_,rfl,_,rfl,cb hrt n0 hn (cb h (by decide) rfl ⟨(by show 2<=sizeLine;decide),λt ht=>(by have z:=q t ht;unfold bH cW at z;simp only[ba,bV,e1] at z;exact z)⟩)⟩⟩⟩
 |give a=>
  obtain⟨p,rfl,h⟩:=hr
  refine⟨_,rfl,_,rfl,cb hrt n0 hn (cb h (by decide) rfl (.inl ⟨rfl,_,rfl,no (by decide +kernel) ?_⟩))⟩
  refine⟨_,rfl,_,rfl,cb hrt n0 hn (cb h (by decide) rfl (.inl ⟨rfl,_,rfl,no (by decide +kernel) ?_⟩))⟩
  refine⟨_,rfl,_,rfl,cb hrt n0 hn (cb h (by decide) rfl (.inl ⟨rfl,_,rfl,Cm ?_⟩))⟩
  exact⟨(by show 0<=sizeLine;decide),λt ht=>(by have z:=q t ht;unfold bH cW at z;simp only[ba,bV,e1] at z;exact z)⟩
theorem NB{K:Fg}{vs:List V}{H:Hp}{Q:VK}{E:XK}(h:oF K vs H Q E):Jd K {nx:=λ_ H'=>Q .non H',rt:=Q} (cU Cv vs) H:=by
 obtain⟨v,r,rfl,hr,q⟩:=h
 cases r with
 |num x z=>
  obtain⟨p,rfl,h⟩:=hr
  refine⟨_,rfl,cb h (by decide) rfl (.inl ⟨rfl,_,rfl,no (by decide +kernel) ?_⟩)⟩
  refine⟨_,rfl,cb h (by decide) rfl (.inl ⟨rfl,_,rfl,no (by decide +kernel) ?_⟩)⟩
  refine⟨_,rfl,cb h (by decide) rfl ?_⟩
  refine⟨(by show 3<=sizeLine;decide),λt ht=>⟨t,_,rfl,.inr (cY.of ag),rfl,rfl,_,rfl,xM (by decide +kernel) ?_⟩⟩
  have nt:p≠t:=au h ht
  exact⟨(by show 0<=sizeLine;decide),λt2 ht2=>q t2 _ ag (((aS.refl H).new ht).free ht2) (((aS.refl H).new ht).new ht2)⟩
 |op x s a b=>
  obtain⟨p,rfl,h⟩:=hr
  refine⟨_,rfl,cb h (by decide) rfl (.inl ⟨rfl,_,rfl,Cm ?_⟩)⟩
  exact⟨_,rfl,cb h (by decide) rfl ⟨_,rfl,cb h (by decide) rfl ⟨(by show 2<=sizeLine;decide),λt ht=>q t _ ag ht ((aS.refl H).new ht)⟩⟩⟩
 |call x k as=>
  obtain⟨p,q1,rfl,h,h1⟩:=hr
  refine⟨_,rfl,cb h (by decide) rfl (.inl ⟨rfl,_,rfl,no (by decide +kernel) ?_⟩)⟩
  refine⟨_,rfl,cb h (by decide) rfl (.inl ⟨rfl,_,rfl,Cm ?_⟩)⟩
  exact⟨_,rfl,cb h (by decide) rfl ⟨q1,_,rfl,.inr (cY.of h1),λl nl=>q l _ ag nl ((aS.refl H).new nl)⟩⟩
 |say a=>
  obtain⟨p,rfl,h⟩:=hr
  refine⟨_,rfl,cb h (by decide) rfl (.inl ⟨rfl,_,rfl,no (by decide +kernel) ?_⟩)⟩
  refine⟨_,rfl,cb h (by decide) rfl (.inl ⟨rfl,_,rfl,no (by decide +kernel) ?_⟩)⟩
  refine⟨_,rfl,cb h (by decide) rfl ?_⟩
  refine⟨(by show 3<=sizeLine;decide),λt ht=>⟨t,_,rfl,.inr (cY.of ag),rfl,rfl,_,rfl,wa (by decide +kernel) ?_⟩⟩
  have nt:p≠t:=au h ht
  exact⟨_,rfl,cb (by rw[aB nt];exact h) (by decide) rfl ⟨(by show 1<=sizeLine;decide),λt2 ht2=>q t2 _ ag (((aS.refl H).new ht).free ht2) (((aS.refl H).new ht).new ht2)⟩⟩
 |jump to=>
  obtain⟨p,rfl,h⟩:=hr
  refine⟨_,rfl,cb h (by decide) rfl (.inl ⟨rfl,_,rfl,no (by decide +kernel) ?_⟩)⟩
  refine⟨_,rfl,cb h (by decide) rfl (.inl ⟨rfl,_,rfl,no (by decide +kernel) ?_⟩)⟩
  refine⟨_,rfl,cb h (by decide) rfl ?_⟩
  refine⟨(by show 3<=sizeLine;decide),λt ht=>⟨t,_,rfl,.inr (cY.of ag),rfl,rfl,_,rfl,xM (by decide +kernel) ?_⟩⟩
  have nt:p≠t:=au h ht
  exact⟨(by show 0<=sizeLine;decide),λt2 ht2=>q t2 _ ag (((aS.refl H).new ht).free ht2) (((aS.refl H).new ht).new ht2)⟩
 |test a to=>
  obtain⟨p,rfl,h⟩:=hr
  refine⟨_,rfl,cb h (by decide) rfl (.inl ⟨rfl,_,rfl,no (by decide +kernel) ?_⟩)⟩
  refine⟨_,rfl,cb h (by decide) rfl (.inl ⟨rfl,_,rfl,no (by decide +kernel) ?_⟩)⟩
  refine⟨_,rfl,cb h (by decide) rfl ?_⟩
  refine⟨(by show 3<=sizeLine;decide),λt ht=>⟨t,_,rfl,.inr (cY.of ag),rfl,rfl,_,rfl,wa (by decide +kernel) ?_⟩⟩
  have nt:p≠t:=au h ht
  exact⟨_,rfl,cb (by rw[aB nt];exact h) (by decide) rfl ⟨(by show 1<=sizeLine;decide),λt2 ht2=>q t2 _ ag (((aS.refl H).new ht).free ht2) (((aS.refl H).new ht).new ht2)⟩⟩
 |give a=>
  obtain⟨p,rfl,h⟩:=hr
  refine⟨_,rfl,cb h (by decide) rfl (.inl ⟨rfl,_,rfl,no (by decide +kernel) ?_⟩)⟩
  refine⟨_,rfl,cb h (by decide) rfl (.inl ⟨rfl,_,rfl,no (by decide +kernel) ?_⟩)⟩
  refine⟨_,rfl,cb h (by decide) rfl ?_⟩
  refine⟨(by show 3<=sizeLine;decide),λt ht=>⟨t,_,rfl,.inr (cY.of ag),rfl,rfl,_,rfl,wa (by decide +kernel) ?_⟩⟩
  have nt:p≠t:=au h ht
  exact⟨_,rfl,cb (by rw[aB nt];exact h) (by decide) rfl ⟨(by show 1<=sizeLine;decide),λt2 ht2=>q t2 _ ag (((aS.refl H).new ht).free ht2) (((aS.refl H).new ht).new ht2)⟩⟩
theorem ud{K:Fg}(T:rB K){vs:List V}{H:Hp}{Q:VK}{E:XK}(h:cV K vs H Q E):nK K {nx:=λ_ H'=>Q .non H',rt:=Q} (cU jP vs) H:=by
 obtain⟨x,a,b,c,rfl,hx,q⟩:=h
 refine⟨_,rfl,_,rfl,x,_,rfl,T.clN,T.nNp,.inl ⟨hx,λdx hd ne=>?_⟩⟩
 have gx:∀{fs},(upd (upd (upd H dx (XD dx [("part",a)])) x (XF x (bA K "NoProgram") (some dx))) dx (XD dx fs)) x=some (XF x (bA K "NoProgram") (some dx)):=λ{fs}=>by rw[aB (Ne.symm ne),ag]
 refine⟨_,rfl,_,rfl,x,_,rfl,T.clN,T.nNr,.inr ⟨dx,[("part",a)],ag,ne,by rw[aB ne,ag],by show 1<1000;decide,?_⟩⟩
 refine⟨_,rfl,_,rfl,x,_,rfl,T.clN,T.nNw,.inr ⟨dx,_,gx,ne,ag,by show 2<1000;decide,?_⟩⟩
 refine q dx _ hd ne (by rw[aB (Ne.symm ne),aB (Ne.symm ne),ag]) ?_ λp o n e=>?_
 ·rw[ag]
  rfl
 ·have np:p≠dx:=au e hd
  rw[aB np,aB np,aB n,aB np];exact e
theorem Ds{K:Fg}(T:rB K){vs:List V}{H:Hp}{Q:VK}{E:XK}(h:fk K vs H Q E):xk K E {nx:=λ_ H'=>Q .non H',rt:=Q} (cU rp vs) H:=by
 obtain⟨k,r,wd,rfl,h⟩:=h
 rcases h with⟨rfl,q⟩|⟨n,rfl,q⟩
 ·exact⟨_,rfl,rfl,_,rfl,LO rfl q⟩
 ·refine⟨_,rfl,rfl,_,rfl,?_⟩
  rw[show(!decide (V.int n=V.non))=true from by simp]
  refine qG ?_
  refine⟨_,rfl,_,rfl,_,rfl,λx hx=>⟨x,_,_,_,rfl,ag,λdx H' hd ne gx gd bt=>⟨rfl,x,_,_,rfl,T.clN,gx,(λz=>ne (Option.some.inj z)),λT' hT nT=>?_⟩⟩⟩
  refine q dx _ (λp o e=>?_) ?_
  ·have n1:p≠x:=au e hx
   have e1:H' p=some o:=bt p o n1 (by rw[aB n1];exact e)
   rw[aB n1,aB (au e1 hT)];exact e1
  ·rw[aB ne,aB (au gd hT)];exact gd
def u5(ss:List Str):List (hV×V):=ss.map λy=>(Sum.inr y,V.bl true)
def CA(ss:List Str)(y:Str):List Str:=if y∈ss then ss else ss++[y]
theorem Hm(ss:List Str)(y:Str):((u5 ss).any λkv=>decide (kv.1=(Sum.inr y:hV)))=decide (y∈ss):=by
 unfold u5
 rw[List.any_map,Bool.eq_iff_iff,List.any_eq_true,decide_eq_true_eq]
 constructor
 ·rintro⟨z,hz,e⟩
  have e':(Sum.inr z:hV)=Sum.inr y:=of_decide_eq_true e
  injection e' with e'
  rw[<-e'];exact hz
 ·intro h
  exact⟨y,h,by show decide ((Sum.inr y:hV)=Sum.inr y)=true;simp⟩
theorem O3(ss:List Str)(y:Str):m5 (u5 ss) (Sum.inr y) (V.bl true)=u5 (CA ss y):=by
 unfold m5 CA
 rw[Hm]
 by_cases c:y∈ss
 ·rw[if_pos (decide_eq_true c),if_pos c]
  unfold u5
  rw[dN]
  refine iR λz _=>?_
  show(if(Sum.inr z:hV)=Sum.inr y then((Sum.inr z:hV),V.bl true) else(Sum.inr z,V.bl true))=_
  split<;>rfl
 ·rw[if_neg (by rw[decide_eq_false c];decide),if_neg c]
  unfold u5;rw[bg];rfl
theorem HA{ss:List Str}{y z:Str}:z∈CA ss y↔z∈ss\/z=y:=by
 unfold CA
 split
 ·rename_i h
  exact⟨.inl,λq=>q.elim id λe=>by rw[e];exact h⟩
 ·rw[bu,av]
theorem Hr(ss:List Str)(y:Str):(CA ss y).length<=ss.length+1:=by
 unfold CA
 split
 ·lia
 ·rw[aN,bF];lia
theorem Hn(ss:List Str):(u5 ss).length=ss.length:=by unfold u5;rw[ai]
theorem Ft(ss:List Str):(u5 ss).map (λkv=>kV kv.1)=ss.map V.str:=by unfold u5;rw[dN];rfl
theorem Au{ys:List Str}{i:Nat}{x:V}(h:(ys.map V.str)[i]?=some x):∃y,ys[i]?=some y/\x=.str y:=by
 rw[aO] at h
 obtain⟨y,e,rfl⟩:=cG.mp h
 exact⟨y,e,rfl⟩
theorem wH{K:Fg}{vs:List V}{H:Hp}{Q:VK}{E:XK}(h:e9 K vs H Q E):p0 K {nx:=λ_ H'=>Q .non H',rt:=Q} (cU lH vs) H:=by
 obtain⟨rt,rvs,rs,rfl,hrt,hA,few,rd,q⟩:=h
 refine λfd hfd=>?_
 show nP K _ [some (.ref rt),some (.ref fd),none,none] (upd H fd (.dK []))
 have s0:aS H (upd H fd (.dK [])):=(aS.refl H).new hfd
 refine .inr ⟨_,rfl,rt,rfl,⟨_,cY.of (s0 _ _ hrt)⟩,qA (xs:=rvs) (λi σ' H'=>∃(ss:List Str) (o2 o3:Option V),σ'=[some (.ref rt),some (.ref fd),o2,o3]/\H' fd=some (.dK (u5 ss))/\(∀y,y∈ss↔∃j r,j<i/\rs[j]?=some r/\y∈dP r)/\ss.length<=100*i/\aS H H')
  ⟨[],_,_,rfl,ag,λy=>⟨λz=>(by cases z),λ⟨j,_,z,_⟩=>absurd z (bN _)⟩,dA _,s0⟩ ?_ ?_ ?_⟩
 ·rintro i σ' H' _ ⟨_,_,_,_,_,_,_,s⟩
  exact cY.of (s _ _ hrt)
 ·rintro i x σ' H1 hx ⟨ss,o2,o3,rfl,hd,mm,ln,s1⟩
  obtain⟨r,hr,ra⟩:=hA.of_v hx
  have ir:i<rs.length:=(ar.mp hr).1
  have r100:=rd r (aH hr)
  show nO K _ [some (.ref rt),some (.ref fd),some x,o3] H1
  refine .inr ⟨_,rfl,x,r,rfl,ra.mono (.of_same s1),λtp H2 htp s2=>⟨tp,rfl,⟨_,cY.of htp⟩,qA (xs:=(dP r).map V.str) (λj σ' H'=>∃(ss':List Str) (o3:Option V),σ'=[some (.ref rt),some (.ref fd),some x,o3]/\H' fd=some (.dK (u5 ss'))/\H' tp=some (.tup ((dP r).map V.str))/\
   (∀y,y∈ss'↔y∈ss\/y∈(dP r).take j)/\ss'.length<=100*i+j/\aS H H') ⟨ss,_,rfl,s2 _ _ hd,htp,λy=>by simp,by lia,s1.trans s2⟩ ?_ ?_ ?_⟩⟩
  ·rintro j σ' H' _ ⟨_,_,_,_,h3,_⟩
   exact cY.of h3
  ·rintro j z σ' H' hz ⟨ss',p3,rfl,hd',ht',mm',ln',s'⟩
   obtain⟨y,hy,rfl⟩:=Au hz
   have jl:j<(dP r).length:=(ar.mp hy).1
   show nM K _ [some (.ref rt),some (.ref fd),some x,some (.str y)] H'
   refine⟨_,rfl,_,rfl,fd,_,rfl,Cp.k (k:=Sum.inr y) hd' (dW (by rw[Hn];lia)),?_⟩
   rw[O3]
   have ntf:tp≠fd:=λz=>by rw[z,hd'] at ht';cases ht'
   refine⟨CA ss' y,_,rfl,ag,by rw[aB ntf];exact ht',λw=>?_,by have:=Hr ss' y;lia,jD s' hfd⟩
   rw[HA,mm',dn,hy]
   simp only[Option.toList_some,bu,av,or_assoc]
  ·rintro σ' H' ⟨ss',p3,rfl,hd',ht',mm',ln',s'⟩
   rw[ai] at mm' ln'
   rw[cy (aD _)] at mm'
   refine⟨ss',_,_,rfl,hd',λy=>?_,by lia,s'⟩
   rw[mm',mm]
   constructor
   ·rintro(⟨j,r',lt,e,h⟩|h)
    ·exact⟨j,r',by lia,e,h⟩
    ·exact⟨i,r,by lia,hr,h⟩
   ·rintro⟨j,r',lt,e,h⟩
    rcases cz.mp lt with z|z
    ·exact .inl ⟨j,r',z,e,h⟩
    ·subst z;rw[hr] at e;cases e;exact .inr h
 ·rintro σ' H1 ⟨ss,o2,o3,rfl,hd,mm,ln,s1⟩
  rw[hA.len] at mm ln
  refine⟨_,rfl,fd,_,rfl,.inl hd,λl hl=>?_⟩
  rw[Ft]
  refine q l ss _ (λy=>?_) (by lia) (s1.free hl) ag (s1.new hl)
  rw[mm]
  constructor
  ·rintro⟨j,r,_,e,h⟩
   exact⟨r,aH e,h⟩
  ·rintro⟨r,hr,h⟩
   obtain⟨j,hj,e⟩:=cF.mp hr
   exact⟨j,r,hj,by rw[ao hj,e],h⟩
def xZ(rs:List bJ)(y:Str)(m:Nat):Bool:=match rs[m]? with
 |some r=>decide (y∈dP r)
 |none=>false
theorem Br{rs:List bJ}{y:Str}{m:Nat}:xZ rs y m=true↔∃r,rs[m]?=some r/\y∈dP r:=by
 unfold xZ
 cases e:rs[m]? with
 |none=>exact⟨(λz=>by cases z),(λ⟨r,z,_⟩=>by cases z)⟩
 |some r=>exact⟨λz=>⟨r,rfl,of_decide_eq_true z⟩,(λ⟨r',z,q⟩=>by cases z;exact decide_eq_true q)⟩
theorem CS(ns:List Nat):bH ns=(ns.map λ(n:Nat)=>(n:Int)).map V.int:=by unfold bH;rw[dN];rfl
theorem xY{K:Fg}{vs:List V}{H:Hp}{Q:VK}{E:XK}(h:fK K vs H Q E):qZ K {nx:=λ_ H'=>Q .non H',rt:=Q} (cU kc vs) H:=by
 obtain⟨v,b,cs,rfl,⟨pt,pa,rt,rvs,rfl,hpt,hpa,hrt,hR⟩,sh,q1,q2⟩:=h
 have g:=sh.good
 have few:=g.few
 refine⟨_,rfl,cb hpt (by decide) rfl ?_⟩
 show oW K _ [some (.ref pt),some (.ref rt),none,none] H
 refine⟨(by show 0<=sizeLine;decide),λdu hdu=>?_⟩
 show oV K _ [some (.ref pt),some (.ref rt),some (.ref du),none] (upd H du (.lst []))
 have s0:aS H (upd H du (.lst [])):=(aS.refl H).new hdu
 refine .inl ⟨_,rfl,rt,rvs,b.rows,rfl,s0 _ _ hrt,hR.imp λ_ _ z=>z.mono (.of_same s0),few,sh.rd,λl ss H1 mss lss hl0 hl s1=>⟨l,rfl,⟨_,cA.of hl⟩,nv (xs:=ss.map V.str) (λi σ' H'=>∃(DU:List Nat) (o:Option V),σ'=[some (.ref pt),some (.ref rt),some (.ref du),o]/\H' du=some (.lst (bH DU))/\H' l=some (.lst (ss.map V.str))/\
  (∀m,m∈DU↔∃y,y∈ss.take i/\y∉b.params/\zt b.rows (some y) m/\xZ b.rows y m=true)/\DU.length<=64*i/\aS H H') ⟨[],_,rfl,s1 _ _ ag,hl,λm=>by simp,dA _,s0.trans s1⟩ ?_ ?_ ?_⟩⟩
 ·rintro i σ' H' _ ⟨_,_,_,_,h3,_⟩
  exact cA.of h3
 ·rintro i x σ' H2 hx ⟨DU,o,rfl,hd,hl2,mm,ln,s2⟩
  obtain⟨y,hy,rfl⟩:=Au hx
  have il:i<ss.length:=(ar.mp hy).1
  have tk:∀z,z∈ss.take (i+1)↔z∈ss.take i\/z=y:=λz=>by rw[dn,hy];simp
  show oU K _ [some (.ref pt),some (.ref rt),some (.ref du),some (.str y)] H2
  refine⟨_,rfl,_,rfl,cb (s2 _ _ hpt) (by decide) rfl ⟨pa,_,rfl,.inr (cY.of (s2 _ _ hpa)),rfl,lF _,_,rfl,?_⟩⟩
  rw[lV]
  refine jE (λhny=>?_) (λhin=>?_)
  ·refine⟨_,rfl,.inl ⟨rfl,_,cA.of hd⟩,?_⟩
   refine .inl ⟨_,rfl,_,rfl,rt,some y,rvs,b.rows,rfl,s2 _ _ hrt,hR.imp λ_ _ z=>z.mono (.of_same s2),g,λlw ns H3 hns hr hlw hlw0 s3=>⟨lw,rfl,⟨_,cA.of hlw⟩,λD hD=>?_⟩⟩
   have s3':=s2.trans s3
   have nD:lw≠D:=au hlw hD
   have nlt:∀m∈ns,m<b.rows.length:=λm hm=>((hns m).mp hm).lt g
   have nsl:ns.length<=b.rows.length:=kA (hr.imp λh=>bj h) nlt
   refine nu (xs:=bH ns) (λj σ' H'=>∃o,σ'=[some (.ref pt),some (.ref rt),some (.ref du),some (.str y),o]/\H' D=some (.lst (bH ((ns.take j).filter (xZ b.rows y))))/\aS H3 H') ?_ ?_ ?_ ?_
   ·exact⟨none,rfl,ag,(aS.refl H3).new hD⟩
   ·rintro j σ' H' _ ⟨o,_,_,s⟩
    exact cA.of (s _ _ hlw)
   ·rintro j x σ' H4 hx4 ⟨o4,rfl,hD4,s4⟩
    obtain⟨m,hm,rfl⟩:=pE hx4
    have ml:=nlt m (aH hm)
    have s4':=s3'.trans s4
    obtain⟨w,r,e1,e2,hra⟩:=(hR.imp λ_ _ z=>z.mono (Tp.of_same s4')).get ml
    have e1':rvs[((m:Nat):Int).toNat]?=some w:=by simpa using e1
    have ft:=uu (xZ b.rows y) ns j m hm
    have jl:j<ns.length:=(ar.mp hm).1
    have fl:((ns.take j).filter (xZ b.rows y)).length<=100:=cq (ef _ _) (by rw[aY];lia)
    refine⟨_,rfl,_,rfl,_,rfl,cb (s4' _ _ hrt) (by lia) e1' ⟨w,r,rfl,hra,λtp H5 htp s5=>⟨tp,_,rfl,.inr (cY.of htp),rfl,lF _,_,rfl,?_⟩⟩⟩
    rw[lV]
    have rv:xZ b.rows y m=decide (y∈dP r):=by unfold xZ;rw[e2]
    show if decide (y∈dP r)=true then _ else _
    rw[<-rv]
    refine ny (λhb=>?_) (λhb=>?_)
    ·refine⟨_,rfl,_,s5 _ _ hD4,dW (by rw[dD];lia),_,rfl,?_,jD (s4.trans s5) hD⟩
     rw[ag,ft,if_pos hb,sk]
     rfl
    ·refine⟨_,rfl,?_,s4.trans s5⟩
     rw[ft,if_neg (by rw[hb];decide),d7]
     exact s5 _ _ hD4
   ·rintro σ' H4 ⟨o4,_,hD4,s4⟩
    rw[dD,cy (aD _)] at hD4
    have dl:(ns.filter (xZ b.rows y)).length<=64:=cq (ef _ _) (by lia)
    have hd4:=s4 _ _ (s3 _ _ hd)
    refine⟨du,D,_,_,rfl,rfl,hd4,hD4,?_,?_⟩
    ·rw[dD,dD]
     have:(7000:Nat)*64+64<=sizeLine:=by decide
     lia
    ·have n1:l≠du:=λz=>by rw[z,ag] at hl0;cases hl0
     refine⟨DU++ns.filter (xZ b.rows y),_,rfl,by rw[ag,sk],by rw[aB n1];exact s4 _ _ (s3 _ _ hl2),λm=>?_,by rw[aN];lia,jD (s3'.trans s4) hdu⟩
     rw[bu,mm,g7,hns]
     constructor
     ·rintro(⟨z,hz,q⟩|⟨wy,rdm⟩)
      ·exact⟨z,(tk z).mpr (.inl hz),q⟩
      ·exact⟨y,(tk y).mpr (.inr rfl),hny,wy,rdm⟩
     ·rintro⟨z,hz,np,q⟩
      rcases(tk z).mp hz with z1|z1
      ·exact .inl ⟨z,z1,np,q⟩
      ·subst z1;exact .inr q
  ·refine⟨DU,_,rfl,hd,hl2,λm=>?_,by lia,s2⟩
   rw[mm]
   constructor
   ·rintro⟨z,hz,q⟩;exact⟨z,(tk z).mpr (.inl hz),q⟩
   ·rintro⟨z,hz,q⟩
    rcases(tk z).mp hz with z1|z1
    ·exact⟨z,z1,q⟩
    ·subst z1;exact absurd hin q.1
 ·rintro σ' H2 ⟨DU,o,rfl,hd,hl2,mm,ln,s2⟩
  rw[ai,cy (aD _)] at mm
  have mu:∀m,m∈DU↔JE b m:=λm=>by
   rw[mm]
   constructor
   ·rintro⟨y,hy,np,wy,rdm⟩
    obtain⟨r,er,yr⟩:=Br.mp rdm
    exact⟨r,y,er,yr,np,wy⟩
   ·rintro⟨r,y,er,yr,np,wy⟩
    exact⟨y,(mss y).mpr ⟨r,aH er,yr⟩,np,wy,Br.mpr ⟨r,er,yr⟩⟩
  refine⟨_,rfl,du,DU.map λ(n:Nat)=>(n:Int),rfl,cA.of (by rw[<-CS];exact hd),λe=>?_,λz hz mn=>?_⟩
  ·refine q1 (λn u=>?_) H2 s2
   have:=(mu n).mpr u
   rw[List.map_eq_nil_iff.mp e] at this;cases this
  ·obtain⟨n,hn,rfl⟩:=cB.mp hz
   refine q2 n ((mu n).mp hn) (λm lt u=>?_) H2 s2
   have:=mn (m:Int) (cB.mpr ⟨m,(mu m).mpr u,rfl⟩)
   lia
def se(N:Nat)(F:List Nat):List V:=(cw N).map λm=>V.bl (decide (m∈F))
theorem sf(N:Nat)(F:List Nat):(se N F).length=N:=by unfold se;rw[ai,dF]
theorem vw{N m:Nat}(F:List Nat)(h:m<N):(se N F)[m]?=some (.bl (decide (m∈F))):=by
 unfold se
 rw[aO,fb h];rfl
theorem JI{N m:Nat}{F:List Nat}(h:m<N):(se N F).set m (.bl true)=se N (F++[m]):=by
 apply mz
 intro j
 by_cases hj:j<N
 ·rw[vw _ hj]
  by_cases c:m=j
  ·subst c
   rw[bB (by rw[sf];exact h)]
   simp
  ·rw[bP c,vw _ hj]
   have:(j∈F++[m])↔j∈F:=by rw[bu,av];exact⟨λz=>z.resolve_right (Ne.symm c),.inl⟩
   simp only[this]
 ·rw[cO (by rw[dC,sf];lia),cO (by rw[sf];lia)]
def N1(pt rt th wl:Addr)(y:Str)(H:Hp)(rs:List bJ)(m:Nat):St->Hp->Prop:=λσ' H'=>∃(F W:List Nat) (o5 o6:Option V),σ'=[some (.ref pt),some (.ref rt),some (.str y),some (.ref th),some (.ref wl),o5,o6]/\H' th=some (.lst (se rs.length F))/\H' wl=some (.lst (bH W))/\WI rs (some y) F W (λ_=>False)/\aS H H'/\2*(rs.length-F.length)+W.length<=m
def Pr(pt rt th wl ln:Addr)(y:Str)(H:Hp)(rs:List bJ)(ms:List Nat)(n m j:Nat):St->Hp->Prop:=λσ' H'=>∃(F W:List Nat) (o6:Option V),σ'=[some (.ref pt),some (.ref rt),some (.str y),some (.ref th),some (.ref wl),some (.int (n:Nat)),o6]/\H' th=some (.lst (se rs.length F))/\H' wl=some (.lst (bH W))/\H' ln=some (.lst (bH ms))/\
 WI rs (some y) F W (λx=>x=n)/\aS H H'/\2*(rs.length-F.length)+W.length<=m/\∀k,k<j->∀x,ms[k]?=some x->x∈F
theorem OG{K:Fg}{pt rt th wl:Addr}{y:Str}{H H1:Hp}{rvs:List V}{rs:List bJ}{F W:List Nat}{n m:Nat}{r:bJ}{v:V}{o6:Option V}{D:oZ}(hrt:H rt=some (.tup rvs))(hth:H th=none)(hwl:H wl=none)(ntw:th≠wl)(g:ku rs)
  (e1:rvs[n]?=some v) (e2:rs[n]?=some r) (hra:dH H v r) (hy:iS r≠.str y) (hn:zt rs (some y) n) (h1:H1 th=some (.lst (se rs.length F))) (h2:H1 wl=some (.lst (bH W))) (i:WI rs (some y) F W (λx=>x=n)) (s:aS H H1) (hm:2*(rs.length-F.length)+W.length<=m) (hmb:m<=1000)
  (q:∀(σ':St) (H':Hp),N1 pt rt th wl y H rs m σ' H'->D.nx σ' H') :
  jM (lU K (bG (lB K) [] E0 (af (aj 1) (af (aj 5) aE)))) (aR 6) (mT K) D [some (.ref pt),some (.ref rt),some (.str y),some (.ref th),some (.ref wl),some (.int (n:Nat)),o6] H1:=by
 refine .inl ⟨_,rfl,_,rfl,rt,n,rvs,v,r,rfl,s _ _ hrt,e1,hra.mono (.of_same s),λln hln=>⟨ln,rfl,⟨_,cA.of ag⟩,nv (xs:=bH (cW n r)) (Pr pt rt th wl ln y H rs (cW n r) n m) ?_ ?_ ?_ ?_⟩⟩
 ·exact⟨F,W,_,rfl,by rw[aB (au h1 hln)];exact h1,by rw[aB (au h2 hln)];exact h2,ag,i,s.new hln,hm,λi hi=>absurd hi (bN _)⟩
 ·rintro j σ' H' _ ⟨_,_,_,_,_,_,h3,_⟩
  exact cA.of h3
 ·rintro j x σ' H' hx ⟨F',W',p6,rfl,h3,h4,h5,i',s',hm',hj⟩
  obtain⟨to,hto,rfl⟩:=pE hx
  have hw:zt rs (some y) to:=.step hn e2 (λy' z=>by cases z;exact hy) (aH hto)
  have tl:=hw.lt g
  have fl:=i'.len g
  have few:=g.few
  show mT K _ [some (.ref pt),some (.ref rt),some (.str y),some (.ref th),some (.ref wl),some (.int (n:Nat)),some (.int (to:Nat))] H'
  have gt:(se rs.length F')[((to:Nat):Int).toNat]?=some (.bl (decide (to∈F'))):=by simpa using vw F' tl
  refine⟨_,rfl,_,rfl,kz (cA.of h3) (by lia) gt ⟨_,rfl,jE (λhin=>?_) (λhin=>?_)⟩⟩
  ·have nd':=kA (sy i'.nd hin) (n:=rs.length) λy hy'=>by
    rcases bu.mp hy' with z|z
    ·exact(i'.way y z).lt g
    ·rw[av.mp z];exact tl
   rw[aN,bF] at nd'
   refine⟨_,rfl,_,rfl,ph h3 (by lia) (by rw[sf];simpa using tl) ?_⟩
   have e:(se rs.length F').set ((to:Nat):Int).toNat (.bl true)=se rs.length (F'++[to]):=by
    rw[show((to:Nat):Int).toNat=to from by simp];exact JI tl
   rw[e]
   have h4':(upd H' th (.lst (se rs.length (F'++[to])))) wl=some (.lst (bH W')):=by rw[aB (Ne.symm ntw)];exact h4
   refine⟨_,rfl,.inl ⟨rfl,_,cA.of h4'⟩,_,rfl,wl,_,_,rfl,rfl,h4',dW (by rw[dD];lia),?_⟩
   have nlt:ln≠th:=Ne.symm (au h1 hln)
   have nlw:ln≠wl:=Ne.symm (au h2 hln)
   refine⟨F'++[to],W'++[to],_,rfl,by rw[aB ntw,ag],by rw[ag,lW],by rw[aB nlw,aB nlt];exact h5,i'.add hin hw,jD (jD s' hth) hwl,?_,λk hk x hxk=>?_⟩
   ·simp only[aN,bF];lia
   ·by_cases c:k<j
    ·exact ck _ (hj k c x hxk)
    ·have:k=j:=by lia
     subst this
     rw[hto] at hxk;cases hxk
     exact bD _ (av.mpr rfl)
  ·refine⟨F',W',_,rfl,h3,h4,h5,i',s',hm',λk hk x hxk=>?_⟩
   by_cases c:k<j
   ·exact hj k c x hxk
   ·have:k=j:=by lia
    subst this
    rw[hto] at hxk;cases hxk
    exact hin
 ·rintro σ' H' ⟨F',W',p6,rfl,h3,h4,h5,i',s',hm',hj⟩
  rw[dD] at hj
  refine q _ _ ⟨F',W',_,_,rfl,h3,h4,⟨i'.nd,i'.way,i'.zero,i'.sub,λx hx=>?_⟩,s',hm'⟩
  rcases i'.cl x hx with z|z|z
  ·exact .inl z
  ·subst z
   refine .inr (.inr λr' e _ m' hm'=>?_)
   rw[e2] at e;cases e
   obtain⟨k,hk,ek⟩:=cF.mp hm'
   exact hj k hk m' (by rw[ao hk,ek])
  ·exact .inr (.inr z)
theorem AU(W:List Nat):mX (bH W) []=decide (W=[]):=by
 cases W with
 |nil=>decide
 |cons a r=>rw[zJ (by simp[bH])];simp
theorem yx(W:List Nat):(bH W).all jO=true:=by
 unfold bH
 rw[gE]
 intro v hv
 obtain⟨y,_,rfl⟩:=cB.mp hv
 rfl
theorem Ln{H:Hp}{v:V}{r:bJ}(h:dH H v r):(∃p x xs,v=.ref p/\iS r=.str x/\H p=some (.tup (.str (qI r)::.str x::xs))/\kD (.str (qI r)) [.str "num",.str "op",.str "call"]=true)\/
  (∃p xs,v=.ref p/\iS r=.non/\H p=some (.tup (.str (qI r)::xs))/\kD (.str (qI r)) [.str "num",.str "op",.str "call"]=false):=by
 cases r with
 |num x z=>obtain⟨p,e,h⟩:=h;exact .inl ⟨p,x,_,e,rfl,h,by show kD (.str "num") _=true;decide +kernel⟩
 |op x s a b=>obtain⟨p,e,h⟩:=h;exact .inl ⟨p,x,_,e,rfl,h,by show kD (.str "op") _=true;decide +kernel⟩
 |call x k as=>obtain⟨p,q,e,h,_⟩:=h;exact .inl ⟨p,x,_,e,rfl,h,by show kD (.str "call") _=true;decide +kernel⟩
 |say a=>obtain⟨p,e,h⟩:=h;exact .inr ⟨p,_,e,rfl,h,by show kD (.str "say") _=false;decide +kernel⟩
 |jump t=>obtain⟨p,e,h⟩:=h;exact .inr ⟨p,_,e,rfl,h,by show kD (.str "jump") _=false;decide +kernel⟩
 |test a t=>obtain⟨p,e,h⟩:=h;exact .inr ⟨p,_,e,rfl,h,by show kD (.str "test") _=false;decide +kernel⟩
 |give a=>obtain⟨p,e,h⟩:=h;exact .inr ⟨p,_,e,rfl,h,by show kD (.str "give") _=false;decide +kernel⟩
theorem Gc{K:Fg}{vs:List V}{H:Hp}{Q:VK}{E:XK}(h:jg K vs H Q E):y9 K {nx:=λ_ H'=>Q .non H',rt:=Q} (cU nj vs) H:=by
 obtain⟨pt,rt,y,ps,rvs,rs,rfl,hpt,p100,hrt,hA,g,q⟩:=h
 have rl:=hA.len
 have few:=g.few
 have pos:=g.pos
 obtain⟨F0,f0a,f0b⟩:∃F0:List Nat,(y∈ps->F0=[])/\(y∉ps->F0=[0]):=by
  by_cases c:y∈ps
  ·exact⟨[],λ_=>rfl,λz=>absurd c z⟩
  ·exact⟨[0],λz=>absurd z c,λ_=>rfl⟩
 have f0m:∀i,i∈F0↔i=0/\y∉ps:=λi=>by
  by_cases c:y∈ps
  ·rw[f0a c];exact⟨λz=>(by cases z),λz=>absurd c z.2⟩
  ·rw[f0b c,av];exact⟨λz=>⟨z,c⟩,λz=>z.1⟩
 refine⟨_,rfl,_,_,rfl,.inr ⟨_,cY.of hrt,rfl⟩,_,rfl,by lia,by lia,λth hth=>?_⟩
 refine lR (λi σ' H'=>∃o,σ'=[some (.ref pt),some (.ref rt),some (.str y),none,none,o,none]/\H'=upd H th (.lst (se i F0))) ⟨none,rfl,rfl⟩ ?_ ?_
 ·rintro i σ' H' hi ⟨o,rfl,rfl⟩
  have npt:pt≠th:=au hpt hth
  have il:i<rs.length:=by lia
  show vg th rL _ _ [some (.ref pt),some (.ref rt),some (.str y),none,none,some (.int (0+(i:Int))),none] _
  rw[fR]
  have nx:∀c,c=decide (i∈F0)->∃ys,upd H th (.lst (se i F0)) th=some (.lst ys)/\ys.length<sizeLine/\∃o,[some (V.ref pt),some (.ref rt),some (.str y),none,none,some (.int (i:Int)),none]=[some (.ref pt),some (.ref rt),some (.str y),none,none,o,none]/\upd (upd H th (.lst (se i F0))) th (.lst (ys++[.bl c]))=upd H th (.lst (se (i+1) F0)):=λc ec=>by
   refine⟨_,ag,dW (by rw[sf];lia),_,rfl,?_⟩
   rw[lC,ec]
   unfold se
   rw[fP,bg];rfl
  refine kf ⟨_,rfl,.inl ⟨rfl,_,rfl,bZ (λz=>?_) λz=>nx false ?_⟩⟩
  ·have i0:i=0:=by injection z with z;lia
   refine⟨_,rfl,_,rfl,pt,_,rfl,.inr (cY.of (by rw[aB npt];exact hpt)),rfl,lF _,?_⟩
   have:=nx (!kD (.str y) (ps.map V.str)) (by rw[lV,Bool.eq_iff_iff,Bool.not_eq_true',decide_eq_false_iff_not,decide_eq_true_eq,f0m];exact⟨λz=>⟨i0,z⟩,λz=>z.2⟩)
   exact this
  ·have i0:i≠0:=λe=>z (by rw[e];rfl)
   exact(decide_eq_false λz=>i0 ((f0m i).mp z).1).symm
 rintro σ' H1 ⟨o,_,rfl⟩
 rw[show((rvs.length:Nat):Int).toNat=rs.length from by simp[rl]]
 have s1:aS H (upd H th (.lst (se rs.length F0))):=(aS.refl H).new hth
 have h1:upd H th (.lst (se rs.length F0)) th=some (.lst (se rs.length F0)):=ag
 generalize upd H th (.lst (se rs.length F0))=H1 at s1 h1 ⊢
 show uU K _ [some (.ref pt),some (.ref rt),some (.str y),some (.ref th),none,none,none] H1
 refine⟨_,rfl,_,_,rfl,.inr ⟨_,cY.of (s1 _ _ hrt),rfl⟩,_,rfl,by lia,by lia,λwl hwl=>?_⟩
 have ntw:th≠wl:=au h1 hwl
 refine lR (λi σ' H'=>∃o,σ'=[some (.ref pt),some (.ref rt),some (.str y),some (.ref th),none,o,none]/\H'=upd H1 wl (.lst (bH ((cw i).filter λm=>decide (m∈F0))))) ⟨none,rfl,rfl⟩ ?_ ?_
 ·rintro i σ' H' hi ⟨o,rfl,rfl⟩
  have il:i<rs.length:=by lia
  show vg wl _ _ _ [some (.ref pt),some (.ref rt),some (.str y),some (.ref th),none,some (.int (0+(i:Int))),none] _
  rw[fR]
  have gt:(se rs.length F0)[((i:Nat):Int).toNat]?=some (.bl (decide (i∈F0))):=by simpa using vw _ il
  refine⟨_,rfl,_,rfl,kz (cA.of (by rw[aB ntw];exact h1)) (by lia) gt ⟨_,rfl,ny (λhb=>?_) λhb=>?_⟩⟩
  ·refine⟨_,rfl,_,ag,dW (by rw[dD];exact cq (ef _ _) (by rw[dF];lia)),_,rfl,?_⟩
   rw[lC,fP,lG,m9,if_pos hb,List.filter_nil]
   unfold bH;rw[bg];rfl
  ·refine⟨_,rfl,?_⟩
   rw[fP,lG,m9,if_neg (by rw[hb];decide),List.filter_nil,d7]
 rintro σ' H2 ⟨o,_,rfl⟩
 rw[show((rvs.length:Nat):Int).toNat=rs.length from by simp[rl]]
 have s2:aS H (upd H1 wl (.lst (bH ((cw rs.length).filter λm=>decide (m∈F0))))):=s1.new hwl
 have fl0:((cw rs.length).filter λm=>decide (m∈F0))=F0:=by
  by_cases c:y∈ps
  ·rw[f0a c];simp
  ·rw[f0b c]
   obtain⟨N,eN⟩:∃N,rs.length=N+1:=⟨rs.length-1,by lia⟩
   rw[eN,List.range_succ_eq_map,m9,if_pos (by simp)]
   congr 1
   rw[List.filter_eq_nil_iff]
   intro a ha
   obtain⟨b,_,rfl⟩:=cB.mp ha
   simp
 rw[fl0] at s2 ⊢
 have h2:upd H1 wl (.lst (bH F0)) wl=some (.lst (bH F0)):=ag
 have h1':upd H1 wl (.lst (bH F0)) th=some (.lst (se rs.length F0)):=by rw[aB ntw];exact h1
 generalize upd H1 wl (.lst (bH F0))=H2 at s2 h2 h1' ⊢
 show uT K _ [some (.ref pt),some (.ref rt),some (.str y),some (.ref th),some (.ref wl),none,none] H2
 have hwl0:H wl=none:=s1.free hwl
 have done:∀(F:List Nat) (H':Hp) (o5 o6:Option V),H' th=some (.lst (se rs.length F))->(∀m,m∈F↔y∉ps/\zt rs (some y) m)->aS H H'->qm K {nx:=λ_ H'=>Q .non H',rt:=Q} [some (.ref pt),some (.ref rt),some (.str y),some (.ref th),some (.ref wl),o5,o6] H':=λF H' o5 o6 ht mf s=>by
  refine⟨_,rfl,q th ((cw rs.length).map λm=>decide (m∈F)) H' (by rw[ai,dF]) (λm b e=>?_) hth (by rw[ht];unfold se;rw[dN];rfl) s⟩
  have lt:m<rs.length:=by have:=(ar.mp e).1;rw[ai,dF] at this;exact this
  rw[aO,fb lt] at e
  cases e
  rw[decide_eq_true_eq,mf]
 refine⟨λm σ' H'=>m<=1000/\((y∉ps/\N1 pt rt th wl y H rs m σ' H')\/(y∈ps/\∃o5 o6,σ'=[some (.ref pt),some (.ref rt),some (.str y),some (.ref th),some (.ref wl),o5,o6]/\H' th=some (.lst (se rs.length []))/\H' wl=some (.lst (bH []))/\aS H H')),⟨2*rs.length+1,by lia,?_⟩,?_⟩
 ·by_cases c:y∈ps
  ·have:=f0a c
   subst this
   exact .inr ⟨c,_,_,rfl,h1',h2,s2⟩
  ·have:=f0b c
   subst this
   exact .inl ⟨c,[0],[0],_,_,rfl,h1',h2,⟨by simp,λx hx=>by rw[av.mp hx];exact .zero,by simp,λx hx=>hx,λx hx=>.inl hx⟩,s2,by simp;lia⟩
 rintro m σ' H3 ⟨hmb,⟨c,F,W,o5,o6,rfl,h3,h4,i,s,hm⟩|⟨c,o5,o6,rfl,h3,h4,s⟩⟩
 ·refine⟨_,rfl,(by show 0<=sizeLine;decide),λe he=>?_⟩
  have s':aS H (upd H3 e (.lst [])):=s.new he
  have h3':upd H3 e (.lst []) th=some (.lst (se rs.length F)):=by rw[aB (au h3 he)];exact h3
  have h4':upd H3 e (.lst []) wl=some (.lst (bH W)):=by rw[aB (au h4 he)];exact h4
  have he':upd H3 e (.lst []) e=some (.lst []):=ag
  generalize upd H3 e (.lst [])=H4 at s' h3' h4' he' ⊢
  refine .inr (.inr ⟨wl,e,_,_,rfl,rfl,cA.of h4',cA.of he',yx _,rfl,_,rfl,?_⟩)
  show if(!mX (bH W) [])=true then _ else _
  rw[AU]
  refine jE (λhne=>?_) (λhnil=>?_)
  ·obtain⟨L,n,rfl⟩:∃L n,W=L++[n]:=by
    rcases List.eq_nil_or_concat W with z|⟨L,n,z⟩
    ·exact absurd z hne
    ·exact⟨L,n,by rw[z,List.concat_eq_append]⟩
   have hnF:=i.sub n (bD _ (av.mpr rfl))
   have hn:=i.way n hnF
   have nl:=hn.lt g
   obtain⟨v,r,e1,e2,hra⟩:=hA.get nl
   have hm1:2*(rs.length-F.length)+L.length<=m-1:=by rw[aN,bF] at hm;lia
   have m0:0<m:=by rw[aN,bF] at hm;lia
   refine⟨N1 pt rt th wl y H rs (m-1),λσ4 H5 h5=>⟨m-1,by lia,by lia,.inl ⟨c,h5⟩⟩,?_⟩
   rw[lW] at h4'
   refine⟨_,rfl,.inl ⟨rfl,_,cA.of h4'⟩,wl,_,V.int (n:Nat),rfl,rfl,h4',?_,?_⟩
   ·rw[aN,bF,Nat.add_sub_cancel,cg (aD _),kQ];rfl
   rw[List.dropLast_concat]
   show uS K _ [some (.ref pt),some (.ref rt),some (.str y),some (.ref th),some (.ref wl),some (.int (n:Nat)),o6] (upd H4 wl (.lst (bH L)))
   have h5:(upd H4 wl (.lst (bH L))) th=some (.lst (se rs.length F)):=by rw[aB ntw];exact h3'
   have h6:(upd H4 wl (.lst (bH L))) wl=some (.lst (bH L)):=ag
   have s5:aS H (upd H4 wl (.lst (bH L))):=jD s' hwl0
   generalize upd H4 wl (.lst (bH L))=H5 at h5 h6 s5 ⊢
   have i':WI rs (some y) F L (λx=>x=n):=⟨i.nd,i.way,i.zero,λx hx=>i.sub x (ck _ hx),λx hx=>by
    rcases i.cl x hx with z|z|z
    ·rcases bu.mp z with z|z
     ·exact .inl z
     ·exact .inr (.inl (av.mp z))
    ·exact z.elim
    ·exact .inr (.inr z)⟩
   have e1':rvs[((n:Nat):Int).toNat]?=some v:=by simpa using e1
   have go:∀H6,aS H5 H6->iS r≠.str y->jM (lU K (bG (lB K) [] E0 (af (aj 1) (af (aj 5) aE)))) (aR 6) (mT K) {nx:=N1 pt rt th wl y H rs (m-1),rt:=Q,bk:=qm K {nx:=λ_ H'=>Q .non H',rt:=Q},ct:=N1 pt rt th wl y H rs (m-1)} [some (.ref pt),some (.ref rt),some (.str y),some (.ref th),some (.ref wl),some (.int (n:Nat)),o6] H6:=λH6 s6 hy=>
    OG hrt hth hwl0 ntw g e1 e2 hra hy hn (s6 _ _ h5) (s6 _ _ h6) i' (s5.trans s6) hm1 (by lia) λ_ _ z=>z
   rcases Ln (hra.mono (.of_same s5)) with⟨p,x,xs,rfl,es,hp,iv⟩|⟨p,xs,rfl,es,hp,iv⟩
   ·refine⟨_,rfl,_,rfl,cb (s5 _ _ hrt) (by lia) e1' (cb hp (by decide) rfl ⟨(by show 3<=sizeLine;decide),λa ha=>⟨a,_,rfl,.inr (cY.of ag),rfl,rfl,_,rfl,xM (by show(!kD _ _)=false;rw[iv];rfl) ?_⟩⟩)⟩
    have s6:aS H5 (upd H5 a (.tup [.str "num",.str "op",.str "call"])):=(aS.refl H5).new ha
    generalize upd H5 a (.tup [.str "num",.str "op",.str "call"])=H6 at s6 ⊢
    refine⟨_,rfl,_,rfl,cb (s6 _ _ (s5 _ _ hrt)) (by lia) e1' (cb (s6 _ _ hp) (by decide) rfl ⟨_,rfl,.inl ⟨rfl,_,rfl,jE (λz=>?_) λz=>?_⟩⟩)⟩
    ·exact go H6 s6 (by rw[es];exact z)
    ·have ez:iS r=.str y:=by rw[es];exact z
     refine⟨F,L,_,_,rfl,s6 _ _ h5,s6 _ _ h6,⟨i'.nd,i'.way,i'.zero,i'.sub,λx hx=>?_⟩,s5.trans s6,hm1⟩
     rcases i'.cl x hx with w|w|w
     ·exact .inl w
     ·subst w
      refine .inr (.inr λr' e hy=>?_)
      rw[e2] at e;cases e
      exact absurd ez (hy y rfl)
     ·exact .inr (.inr w)
   ·refine⟨_,rfl,_,rfl,cb (s5 _ _ hrt) (by lia) e1' (cb hp (by decide) rfl ⟨(by show 3<=sizeLine;decide),λa ha=>⟨a,_,rfl,.inr (cY.of ag),rfl,rfl,_,rfl,wa (by show(!kD _ _)=true;rw[iv];rfl) (qG ?_)⟩⟩)⟩
    exact go _ ((aS.refl H5).new ha) (by rw[es];intro z;cases z)
  ·subst hnil
   exact done F H4 o5 o6 h3' (λm'=>(i.done m').trans ⟨λz=>⟨c,z⟩,λz=>z.2⟩) s'
 ·refine⟨_,rfl,(by show 0<=sizeLine;decide),λe he=>?_⟩
  have s':aS H (upd H3 e (.lst [])):=s.new he
  refine .inr (.inr ⟨wl,e,_,_,rfl,rfl,cA.of (by rw[aB (au h4 he)];exact h4),cA.of ag,yx _,rfl,_,rfl,?_⟩)
  show if(!mX (bH []) [])=true then _ else _
  rw[AU]
  refine iW ?_
  exact done [] _ o5 o6 (by rw[aB (au h3 he)];exact h3) (λm'=>⟨λz=>(by cases z),λz=>absurd c z.1⟩) s'
theorem J8{ns:List Nat}{n:Nat}(h:ns.Pairwise (·<=·))(b:∀m∈ns,m<=n):(ns++[n]).Pairwise (·<=·):=by
 rw[ki]
 exact⟨h,List.pairwise_singleton _ _,λa ha c hc=>by rw[av.mp hc];exact b a ha⟩
theorem Lh{K:Fg}{vs:List V}{H:Hp}{Q:VK}{E:XK}(h:mi K vs H Q E):EN K {nx:=λ_ H'=>Q .non H',rt:=Q} (cU zo vs) H:=by
 obtain⟨pt,rt,rvs,b,cs,rfl,hpt,hrt,hR,sh,q⟩:=h
 have rl:=hR.len
 have g:=sh.good
 have few:=g.few
 refine⟨(by show 0<=sizeLine;decide),λfl hfl=>?_⟩
 show y8 K _ [some (.ref pt),some (.ref rt),some (.ref fl),none,none] (upd H fl (.lst []))
 have s0:aS H (upd H fl (.lst [])):=(aS.refl H).new hfl
 refine⟨_,rfl,_,_,rfl,.inr ⟨_,cY.of (s0 _ _ hrt),rfl⟩,_,rfl,by lia,by lia,gH (λi σ' H'=>∃(ns:List Nat) (o3 o4:Option V),σ'=[some (.ref pt),some (.ref rt),some (.ref fl),o3,o4]/\H' fl=some (.lst (bH ns))/\(∀m,m∈ns↔m<i/\JE b m)/\ns.Pairwise (·<=·)/\ns.length<=100*i/\aS H H')
  ⟨[],_,_,rfl,ag,λm=>⟨λz=>(by cases z),λz=>absurd z.1 (bN _)⟩,.nil,dA _,s0⟩ ?_ ?_⟩
 ·rintro i σ' H1 hi ⟨ns,o3,o4,rfl,hf,mm,pw,ln,s1⟩
  have il:i<b.rows.length:=by lia
  obtain⟨v,r,e1,e2,ra⟩:=hR.get il
  have e1':rvs[((i:Nat):Int).toNat]?=some v:=by simpa using e1
  have rm:=aH e2
  have r100:=sh.rd r rm
  show y7 K _ [some (.ref pt),some (.ref rt),some (.ref fl),some (.int (0+(i:Int))),o4] H1
  rw[fR]
  refine .inl ⟨_,rfl,_,rfl,cb (s1 _ _ hrt) (by lia) e1' ⟨v,r,rfl,ra.mono (.of_same s1),λlr H2 hlr hlr0 s2=>⟨lr,rfl,⟨_,cA.of hlr⟩,nv (xs:=(dP r).map V.str) (λj σ' H'=>∃(ns':List Nat) (o4:Option V),σ'=[some (.ref pt),some (.ref rt),some (.ref fl),some (.int (i:Nat)),o4]/\H' fl=some (.lst (bH ns'))/\H' lr=some (.lst ((dP r).map V.str))/\
   (∀m,m∈ns'↔m∈ns\/(m=i/\∃y,y∈(dP r).take j/\y∉b.params/\zt b.rows (some y) i))/\ns'.Pairwise (·<=·)/\ns'.length<=100*i+j/\aS H H') ⟨ns,_,rfl,s2 _ _ hf,hlr,λm=>by simp,pw,by lia,s1.trans s2⟩ ?_ ?_ ?_⟩⟩⟩
  ·rintro j σ' H' _ ⟨_,_,_,_,h3,_⟩
   exact cA.of h3
  ·rintro j x σ' H3 hx ⟨ns',p4,rfl,hf3,hl3,mm',pw',ln',s3⟩
   obtain⟨y,hy,rfl⟩:=Au hx
   have jl:j<(dP r).length:=(ar.mp hy).1
   have tk:∀z,z∈(dP r).take (j+1)↔z∈(dP r).take j\/z=y:=λz=>by rw[dn,hy];simp
   show y4 K _ [some (.ref pt),some (.ref rt),some (.ref fl),some (.int (i:Nat)),some (.str y)] H3
   refine⟨_,rfl,_,rfl,_,rfl,pt,rt,y,b.params,rvs,b.rows,rfl,s3 _ _ hpt,sh.p9,s3 _ _ hrt,hR.imp λ_ _ z=>z.mono (.of_same s3),g,λlb bl H4 bll blm hlb0 hlb s4=>?_⟩
   have ib:i<bl.length:=by rw[bll];exact il
   have gb:(bl.map V.bl)[((i:Nat):Int).toNat]?=some (.bl bl[i]):=by
    rw[show((i:Nat):Int).toNat=i from by simp,aO,ao ib];rfl
   have bm:=blm i bl[i] (ao ib)
   refine⟨_,rfl,kz (cA.of hlb) (by lia) gb ⟨_,rfl,ny (λhb=>?_) λhb=>?_⟩⟩
   ·have hf4:=s4 _ _ hf3
    refine⟨_,rfl,.inl ⟨rfl,_,cA.of hf4⟩,_,rfl,fl,_,_,rfl,rfl,hf4,dW (by rw[dD];lia),?_⟩
    have nlf:lr≠fl:=λz=>by
     rw[z,hf] at hlr0;cases hlr0
    refine⟨ns'++[i],_,rfl,by rw[ag,lW],by rw[aB nlf];exact s4 _ _ hl3,λm=>?_,J8 pw' λm hm=>?_,by rw[aN,bF];lia,jD (s3.trans s4) hfl⟩
    ·rw[bu,mm',av]
     constructor
     ·rintro((z|⟨z,y',hy',w⟩)|z)
      ·exact .inl z
      ·exact .inr ⟨z,y',(tk y').mpr (.inl hy'),w⟩
      ·exact .inr ⟨z,y,(tk y).mpr (.inr rfl),bm.mp hb⟩
     ·rintro(z|⟨z,_⟩)
      ·exact .inl (.inl z)
      ·exact .inr z
    ·rcases(mm' m).mp hm with z|⟨z,_⟩
     ·exact jy ((mm m).mp z).1
     ·exact rP z
   ·refine⟨ns',_,rfl,s4 _ _ hf3,s4 _ _ hl3,λm=>?_,pw',by lia,s3.trans s4⟩
    rw[mm']
    constructor
    ·rintro(z|⟨z,y',hy',w⟩)
     ·exact .inl z
     ·exact .inr ⟨z,y',(tk y').mpr (.inl hy'),w⟩
    ·rintro(z|⟨z,y',hy',w⟩)
     ·exact .inl z
     ·rcases(tk y').mp hy' with k|k
      ·exact .inr ⟨z,y',k,w⟩
      ·subst k
       have:=bm.mpr w
       rw[hb] at this;cases this
  ·rintro σ' H3 ⟨ns',p4,rfl,hf3,hl3,mm',pw',ln',s3⟩
   rw[ai] at mm' ln'
   rw[cy (aD _)] at mm'
   refine⟨ns',_,_,rfl,hf3,λm=>?_,pw',by lia,s3⟩
   rw[mm',mm]
   constructor
   ·rintro(⟨z,u⟩|⟨rfl,y,hy,np,wy⟩)
    ·exact⟨by lia,u⟩
    ·exact⟨by lia,r,y,e2,hy,np,wy⟩
   ·rintro⟨lt,u⟩
    rcases cz.mp lt with z|z
    ·exact .inl ⟨z,u⟩
    ·subst z
     obtain⟨r',y,e,hy,np,wy⟩:=u
     rw[e2] at e;cases e
     exact .inr ⟨rfl,y,hy,np,wy⟩
 ·rintro σ' H1 ⟨ns,o3,o4,rfl,hf,mm,pw,ln,s1⟩
  rw[show((rvs.length:Nat):Int).toNat=b.rows.length from by simp[rl]] at mm ln
  refine⟨_,rfl,q fl ns H1 (λm=>?_) pw (by lia) hfl hf s1⟩
  rw[mm]
  exact⟨λz=>z.2,λu=>⟨by obtain⟨r,y,e,_⟩:=u;exact(ar.mp e).1,u⟩⟩
theorem Iz{K:Fg}{vs:List V}{H:Hp}{Q:VK}{E:XK}(h:j4 K vs H Q E):xi K {nx:=λ_ H'=>Q .non H',rt:=Q} (cU rZ vs) H:=by
 obtain⟨v,r,rfl,hr,q⟩:=h
 cases r with
 |num x z=>
  obtain⟨p,rfl,h⟩:=hr
  refine⟨_,rfl,cb h (by decide) rfl (.inl ⟨rfl,_,rfl,no (by decide +kernel) ?_⟩)⟩
  exact⟨_,rfl,cb h (by decide) rfl (.inl ⟨rfl,_,rfl,no (by decide +kernel) q⟩)⟩
 |op x s a b=>
  obtain⟨p,rfl,h⟩:=hr
  refine⟨_,rfl,cb h (by decide) rfl (.inl ⟨rfl,_,rfl,no (by decide +kernel) ?_⟩)⟩
  exact⟨_,rfl,cb h (by decide) rfl (.inl ⟨rfl,_,rfl,no (by decide +kernel) q⟩)⟩
 |call x k as=>
  obtain⟨p,q1,rfl,h,h1⟩:=hr
  refine⟨_,rfl,cb h (by decide) rfl (.inl ⟨rfl,_,rfl,no (by decide +kernel) ?_⟩)⟩
  exact⟨_,rfl,cb h (by decide) rfl (.inl ⟨rfl,_,rfl,no (by decide +kernel) q⟩)⟩
 |say a=>
  obtain⟨p,rfl,h⟩:=hr
  refine⟨_,rfl,cb h (by decide) rfl (.inl ⟨rfl,_,rfl,no (by decide +kernel) ?_⟩)⟩
  exact⟨_,rfl,cb h (by decide) rfl (.inl ⟨rfl,_,rfl,no (by decide +kernel) q⟩)⟩
 |give a=>
  obtain⟨p,rfl,h⟩:=hr
  refine⟨_,rfl,cb h (by decide) rfl (.inl ⟨rfl,_,rfl,no (by decide +kernel) ?_⟩)⟩
  exact⟨_,rfl,cb h (by decide) rfl (.inl ⟨rfl,_,rfl,no (by decide +kernel) q⟩)⟩
 |jump to=>
  obtain⟨p,rfl,h⟩:=hr
  refine⟨_,rfl,cb h (by decide) rfl (.inl ⟨rfl,_,rfl,bZ (λ_=>?_) λz=>absurd rfl z⟩)⟩
  exact⟨_,rfl,cb h (by decide) rfl q⟩
 |test a to=>
  obtain⟨p,rfl,h⟩:=hr
  refine⟨_,rfl,cb h (by decide) rfl (.inl ⟨rfl,_,rfl,no (by decide +kernel) ?_⟩)⟩
  refine⟨_,rfl,cb h (by decide) rfl (.inl ⟨rfl,_,rfl,bZ (λ_=>?_) λz=>absurd rfl z⟩)⟩
  exact⟨_,rfl,cb h (by decide) rfl q⟩
theorem xX{K:Fg}(T:rB K){vs:List V}{H:Hp}{Q:VK}{E:XK}(h:fJ K vs H Q E):qU K {nx:=λ_ H'=>Q .non H',rt:=Q} (cU mW vs) H:=by
 obtain⟨x,a,rfl,hx,q⟩:=h
 refine⟨_,rfl,_,rfl,x,_,rfl,T.clL,T.nLl,.inl ⟨hx,λdx hd ne=>?_⟩⟩
 refine q dx _ hd ne ag (by rw[aB ne,ag]) λp o n e=>?_
 rw[aB n,aB (au e hd)];exact e
theorem Aj{K:Fg}(T:rB K){vs:List V}{H:Hp}{Q:VK}{E:XK}(h:gr K vs H Q E):sO K {nx:=λ_ H'=>Q .non H',rt:=Q} (cU nY vs) H:=by
 obtain⟨x,a,b,c,d,rfl,hx,q⟩:=h
 refine⟨_,rfl,_,rfl,x,_,rfl,T.clS,T.nSp,.inl ⟨hx,λdx hd ne=>?_⟩⟩
 have gx:∀{fs},(upd (upd (upd H dx (XD dx [("part",a)])) x (XF x (bA K "Short") (some dx))) dx (XD dx fs)) x=some (XF x (bA K "Short") (some dx)):=λ{fs}=>by rw[aB (Ne.symm ne),ag]
 refine⟨_,rfl,_,rfl,x,_,rfl,T.clS,T.nSr,.inr ⟨dx,[("part",a)],ag,ne,by rw[aB ne,ag],by show 1<1000;decide,?_⟩⟩
 refine⟨_,rfl,_,rfl,x,_,rfl,T.clS,T.nSw,.inr ⟨dx,_,gx,ne,ag,by show 2<1000;decide,?_⟩⟩
 rw[lC]
 refine⟨_,rfl,_,rfl,x,_,rfl,T.clS,T.nSn,.inr ⟨dx,_,gx,ne,ag,by show 3<1000;decide,?_⟩⟩
 rw[lC]
 refine q dx _ hd ne gx ?_ λp o n e=>?_
 ·rw[ag];rfl
 ·have np:p≠dx:=au e hd
  rw[aB np,aB n,aB np];exact e
theorem vf{K:Fg}{vs:List V}{H:Hp}{Q:VK}{E:XK}(h:eK K vs H Q E):oS K {nx:=λ_ H'=>Q .non H',rt:=Q} (cU kI vs) H:=by
 obtain⟨rt,v,rvs,r,rfl,hrt,ra,q⟩:=h
 refine⟨_,rfl,v,r,rfl,ra,?_⟩
 show ik K _ [some (.ref rt),some v,some (yA r)] H
 have non:yA r=.non->¬zd rvs.length r->ik K {nx:=λ_ H'=>Q .non H',rt:=Q} [some (.ref rt),some v,some (yA r)] H:=λe na=>by
  rw[e]
  exact⟨_,rfl,rfl,_,rfl,LO rfl (q false ⟨λz=>(by cases z),λz=>absurd z na⟩)⟩
 have int:∀t:Int,yA r=.int t->(zd rvs.length r↔t<0\/(rvs.length:Int)<=t)->ik K {nx:=λ_ H'=>Q .non H',rt:=Q} [some (.ref rt),some v,some (yA r)] H:=λt e ia=>by
  rw[e]
  refine⟨_,rfl,rfl,_,rfl,?_⟩
  rw[show(!decide (V.int t=V.non))=true from by simp]
  refine qG ⟨_,rfl,_,_,rfl,rfl,_,rfl,bZ (λz=>q true ⟨λ_=>ia.mpr (.inl z),λ_=>rfl⟩) λnz=>⟨_,rfl,_,rfl,_,_,rfl,.inr ⟨_,cY.of hrt,rfl⟩,_,_,rfl,rfl,?_⟩⟩
  refine q _ ⟨λz=>ia.mpr (.inr (of_decide_eq_true z)),λz=>decide_eq_true ?_⟩
  rcases ia.mp z with y|y
  ·exact absurd y nz
  ·exact y
 cases r with
 |jump t=>exact int t rfl Iff.rfl
 |test a t=>exact int t rfl Iff.rfl
 |num x z=>exact non rfl id
 |op x s a b=>exact non rfl id
 |call x k as=>exact non rfl id
 |say a=>exact non rfl id
 |give a=>exact non rfl id
theorem vd{K:Fg}{vs:List V}{H:Hp}{Q:VK}{E:XK}(h:eI K vs H Q E):kM K {nx:=λ_ H'=>Q .non H',rt:=Q} (cU i6 vs) H:=by
 obtain⟨p,v,bs,r,rfl,⟨pvs,hpt,hA⟩,ra,q⟩:=h
 have other:(∀p' xs,v=.ref p'->H p'=some (.tup (.str (rj r)::xs))->rj r≠"call"->¬GF (jN bs) r->kM K {nx:=λ_ H'=>Q .non H',rt:=Q} (cU i6 [.ref p,v]) H):=λp' xs ev hp' ne na=>by
  subst ev
  refine⟨_,rfl,cb hp' (by decide) rfl (.inl ⟨rfl,_,rfl,?_⟩)⟩
  exact jE (λ_=>q false ⟨λz=>(by cases z),λz=>absurd z na⟩) λz=>absurd (by injection z) ne
 cases r with
 |call x k as=>
  obtain⟨p',q1,rfl,hp',hq1⟩:=ra
  refine⟨_,rfl,cb hp' (by decide) rfl (.inl ⟨rfl,_,rfl,jE (λz=>absurd rfl z) λ_=>?_⟩)⟩
  refine⟨_,rfl,cb hp' (by decide) rfl ?_⟩
  show mQ K _ [some (.ref p),some (.ref p'),some (.int k)] H
  refine⟨_,rfl,_,_,rfl,rfl,_,rfl,bZ (λz=>q true ⟨λ_=>.inl z,λ_=>rfl⟩) λk0=>⟨_,rfl,_,rfl,_,_,rfl,.inr ⟨_,cY.of hpt,rfl⟩,_,_,rfl,rfl,_,rfl,bZ (λz=>q true ⟨λ_=>.inr ?_,λ_=>rfl⟩) λkl=>?_⟩⟩
  ·rw[cO (by show(bs.map _).length<=_;rw[ai,<-hA.len];lia)]
   intro y;cases y
  ·have kb:k.toNat<bs.length:=by rw[<-hA.len];lia
   obtain⟨w,b,e1,e2,hP⟩:=hA.get kb
   obtain⟨pt,pa,rt,rvs,rfl,hpt4,hpa4,hrt4,hR4⟩:=hP
   have ec:(jN bs)[k.toNat]?=some b.params.length:=by show(bs.map _)[k.toNat]?=_;rw[aO,e2];rfl
   refine⟨_,rfl,cb hp' (by decide) rfl ⟨_,_,rfl,.inr ⟨_,cY.of hq1,rfl⟩,_,rfl,_,rfl,cb hpt (by lia) e1 (cb hpt4 (by decide) rfl ⟨_,_,rfl,.inr ⟨_,cY.of hpa4,rfl⟩,.inl ⟨rfl,?_⟩⟩)⟩⟩
   rw[ai,ai]
   refine q _ ⟨λz=>.inr λy=>?_,λz=>?_⟩
   ·rw[ec] at y
    have y':=Option.some.inj y
    rw[y'] at z;simp at z
   ·rcases z with z|z
    ·exact absurd z k0
    ·rw[ec] at z
     rw[Bool.not_eq_true',decide_eq_false_iff_not]
     intro y
     injection y with y
     exact z (by rw[show b.params.length=as.length from by lia])
 |num x z=>obtain⟨p',e,h⟩:=ra;exact other p' _ e h (show("num":Str)≠"call" by decide +kernel) id
 |op x s a b=>obtain⟨p',e,h⟩:=ra;exact other p' _ e h (show("op":Str)≠"call" by decide +kernel) id
 |say a=>obtain⟨p',e,h⟩:=ra;exact other p' _ e h (show("say":Str)≠"call" by decide +kernel) id
 |jump t=>obtain⟨p',e,h⟩:=ra;exact other p' _ e h (show("jump":Str)≠"call" by decide +kernel) id
 |test a t=>obtain⟨p',e,h⟩:=ra;exact other p' _ e h (show("test":Str)≠"call" by decide +kernel) id
 |give a=>obtain⟨p',e,h⟩:=ra;exact other p' _ e h (show("give":Str)≠"call" by decide +kernel) id
theorem ve{K:Fg}{vs:List V}{H:Hp}{Q:VK}{E:XK}(h:eJ K vs H Q E):oR K {nx:=λ_ H'=>Q .non H',rt:=Q} (cU kH vs) H:=by
 obtain⟨rt,n,rvs,rs,rfl,hrt,hA,few,hg,hn,q⟩:=h
 refine λfd hfd=>⟨_,rfl,?_⟩
 show mS K _ [some (.ref rt),some (.int (n:Nat)),some (.ref fd),some (.int (n:Nat))] (upd H fd (.dK []))
 refine⟨λm σ' H'=>∃k,m=rs.length-k/\σ'=[some (.ref rt),some (.int (n:Nat)),some (.ref fd),some (.int (runJ rs k n:Nat))]/\H' fd=some (.dK (kK ((cw k).map λj=>runJ rs j n)))/\((cw k).map λj=>runJ rs j n).Nodup/\
  (∀i,i<k->kG rs (runJ rs i n))/\aS H H',⟨_,0,rfl,rfl,ag,List.nodup_nil,(λi z=>absurd z (bN _)),(aS.refl H).new hfd⟩,?_⟩
 rintro m σ' H1 ⟨k,rfl,rfl,hd,nd,jp,s1⟩
 have kl:k<=rs.length:=by
  have:=kA nd (n:=rs.length) λx hx=>by
   obtain⟨j,_,rfl⟩:=cB.mp hx
   exact qC hg j hn
  rw[ai,dF] at this;exact this
 have lt:=qC hg k hn
 obtain⟨v,r,e1,e2,hra⟩:=hA.get lt
 have hra1:=hra.mono (.of_same s1)
 obtain⟨p,xs,rfl,hp⟩:=hra1.ref
 have hrt1:=s1 _ _ hrt
 have e1':rvs[((runJ rs k n:Nat):Int).toNat]?=some (.ref p):=by simpa using e1
 have df:∀a b,a<b->b<k->runJ rs a n≠runJ rs b n:=λa b ab bk z=>by
  have la:a<((cw k).map λj=>runJ rs j n).length:=by rw[ai,dF];lia
  have:=(List.getElem?_inj la nd (j:=b)).mp (by
   rw[aO,aO,fb (by lia),fb bk]
   exact congrArg some z)
  lia
 have n0:n∈((cw k).map λj=>runJ rs j n)↔0<k/\n∈((cw k).map λj=>runJ rs j n):=⟨λz=>⟨by
   obtain⟨j,hj,_⟩:=cB.mp z
   have:=iw.mp hj;lia,z⟩,λz=>z.2⟩
 have fin:(¬kG rs (runJ rs k n)\/∃j,j<k/\runJ rs k n=runJ rs j n)->mR K {nx:=λ_ H'=>Q .non H',rt:=Q} [some (.ref rt),some (.int (n:Nat)),some (.ref fd),some (.int (runJ rs k n:Nat))] H1:=λen=>by
  have is:=IE hg hn df jp en
  refine⟨_,rfl,_,rfl,.inl ⟨rfl,_,rfl,bZ (λz=>?_) λnz=>q false H1 ⟨λz=>(by cases z),λrg=>absurd (by rw[(is.mpr rg).1]) nz⟩ s1⟩⟩
  have ez:runJ rs k n=n:=by injection z with z;lia
  refine⟨_,rfl,_,rfl,fd,_,rfl,AE.k (k:=Sum.inl (n:Int)) hd,?_⟩
  show Q (.bl (mx (kK ((cw k).map λj=>runJ rs j n)) (Sum.inl (n:Int))).isSome) H1
  rw[Jm]
  refine q _ H1 ⟨λb=>is.mp ⟨ez,(n0.mp (of_decide_eq_true b)).1⟩,λrg=>decide_eq_true ?_⟩ s1
  exact cB.mpr ⟨0,iw.mpr (is.mpr rg).2,rfl⟩
 refine⟨_,rfl,_,rfl,cb hrt1 (by lia) e1' (cb hp (by decide) rfl (.inl ⟨rfl,_,rfl,bZ (λhw=>?_) (λhw=>?_)⟩))⟩
 ·refine⟨_,rfl,_,rfl,fd,_,rfl,AE.k (k:=Sum.inl (runJ rs k n:Int)) hd,_,rfl,?_⟩
  show if(!(mx (kK ((cw k).map λj=>runJ rs j n)) (Sum.inl (runJ rs k n:Int))).isSome)=true then _ else _
  rw[Jm]
  obtain⟨t',rfl⟩:=nQ (qE hw)
  refine jE (λhin=>?_) (λhin=>?_)
  ·have nd2:((cw (k+1)).map λj=>runJ rs j n).Nodup:=by
    rw[fP,bg];exact sy nd hin
   have kl2:k+1<=rs.length:=by
    have:=kA nd2 (n:=rs.length) λx hx=>by
     obtain⟨j,_,rfl⟩:=cB.mp hx
     exact qC hg j hn
    rw[ai,dF] at this;exact this
   refine⟨λσ' H''=>∃m',m'<rs.length-k/\_,λσ4 H4 z=>z,?_⟩
   refine⟨_,rfl,_,rfl,fd,_,rfl,Cp.k (k:=Sum.inl (runJ rs k n:Int)) hd (dW (by rw[A0,ai,dF];lia)),?_⟩
   rw[mZ hin]
   have nrt:rt≠fd:=λz=>by rw[z,hd] at hrt1;cases hrt1
   have npf:p≠fd:=λz=>by rw[z,hd] at hp;cases hp
   have s2:aS H (upd H1 fd (.dK (kK (((cw k).map λj=>runJ rs j n)++[runJ rs k n])))):=jD s1 hfd
   refine⟨_,rfl,_,rfl,cb (by rw[aB nrt];exact hrt1) (by lia) e1' ⟨_,.jump t',rfl,hra.mono (.of_same s2),?_⟩⟩
   have e:runJ rs (k+1) n=t':=by rw[nE];unfold stp;rw[e2]
   refine⟨rs.length-(k+1),by lia,k+1,rfl,by rw[e];rfl,?_,nd2,λi hi=>?_,s2⟩
   ·rw[ag,fP,bg];rfl
   ·rcases cz.mp hi with z|z
    ·exact jp i z
    ·subst z;exact⟨_,e2,rfl⟩
  ·obtain⟨j,hj,ej⟩:=cB.mp hin
   exact fin (.inr ⟨j,iw.mp hj,ej.symm⟩)
 ·refine iW ?_
  refine fin (.inl ?_)
  rintro⟨r',er,jr⟩
  rw[e2] at er;cases er
  rw[pJ λz=>hw (by rw[z])] at jr;cases jr
theorem Am{K:Fg}{vs:List V}{H:Hp}{Q:VK}{E:XK}(h:gA K vs H Q E):sX K {nx:=λ_ H'=>Q .non H',rt:=Q} (cU nZ vs) H:=by
 obtain⟨rt,rvs,rs,rfl,hrt,hA,r64,hg,q1,q2⟩:=h
 have rl:=hA.len
 refine⟨_,rfl,_,_,rfl,.inr ⟨_,cY.of hrt,rfl⟩,_,rfl,by lia,by lia,gH (λi σ' H'=>∃o1,σ'=[some (.ref rt),o1]/\aS H H'/\∀m,m<i->¬pe rs m) ⟨_,rfl,aS.refl H,λm z=>absurd z (bN _)⟩ ?_ ?_⟩
 ·rintro i σ' H1 hi ⟨o1,rfl,s1,ah⟩
  have hi':i<rs.length:=by lia
  show qb K _ [some (.ref rt),some (.int (0+(i:Int)))] H1
  rw[fR]
  refine⟨_,rfl,_,rfl,rt,i,rvs,rs,rfl,s1 _ _ hrt,hA.imp λ_ _ z=>z.mono (.of_same s1),r64,hg,hi',λb H2 ib s2=>⟨_,rfl,ny (λhb=>?_) λhb=>?_⟩⟩
  ·exact⟨_,rfl,q1 i ⟨ib.mp hb,ah⟩ H2 (s1.trans s2)⟩
  ·refine⟨_,rfl,s1.trans s2,λm lt=>?_⟩
   rcases cz.mp lt with z|z
   ·exact ah m z
   ·subst z;intro rg;rw[ib.mpr rg] at hb;cases hb
 ·rintro σ' H1 ⟨o1,rfl,s1,ah⟩
  refine q2 (λm rg=>ah m ?_ rg) H1 s1
  obtain⟨⟨r,e,_⟩,_⟩:=rg
  have:=(ar.mp e).1
  lia
theorem Aq{rs:List bJ}(hg:vj rs){n:Nat}:∀(k:Nat) {m:Nat},m<rs.length->uf rs n k m<rs.length
 |0,_,h=>h
 |k+1,m,h=>by
  show oY rs n (uf rs n k m)<rs.length
  unfold oY
  split
  ·exact Aq hg k h
  ·exact Dy hg (Aq hg k h)
theorem Lg{K:Fg}{vs:List V}{H:Hp}{Q:VK}{E:XK}(h:mh K vs H Q E):EM K {nx:=λ_ H'=>Q .non H',rt:=Q} (cU zm vs) H:=by
 obtain⟨rt,n,rvs,rs,rfl,hrt,hA,hg,hn,q⟩:=h
 obtain⟨v,r,e1,e2,ra⟩:=hA.get hn
 have e1':rvs[((n:Nat):Int).toNat]?=some v:=by simpa using e1
 obtain⟨p,xs,rfl,hp⟩:=ra.ref
 refine⟨_,rfl,_,rfl,cb hrt (by lia) e1' (cb hp (by decide) rfl (.inl ⟨rfl,_,rfl,jE (λhw=>q false H ⟨λz=>(by cases z),λrg=>?_⟩ (aS.refl H)) λhw=>?_⟩))⟩
 ·obtain⟨⟨r',er,jr⟩,_⟩:=rg
  rw[e2] at er;cases er
  rw[pJ λz=>hw (by rw[z])] at jr;cases jr
 obtain⟨t,rfl⟩:=nQ (qE hw)
 obtain⟨p',er,hp'⟩:=ra
 cases er
 have et:stp rs n=t:=by unfold stp;rw[e2]
 have jn:kG rs n:=⟨_,e2,rfl⟩
 show y3 K _ [some (.ref rt),some (.int (n:Nat)),none,none] H
 refine⟨_,rfl,_,rfl,cb hrt (by lia) e1' (cb hp' (by decide) rfl ?_)⟩
 show y0 K _ [some (.ref rt),some (.int (n:Nat)),some (.int (t:Nat)),none] H
 refine .inr ⟨_,rfl,rt,rfl,⟨_,cY.of hrt⟩,qA (xs:=rvs) (λi σ' H'=>∃o,σ'=[some (.ref rt),some (.int (n:Nat)),some (.int (uf rs n i (stp rs n):Nat)),o]/\H'=H)
  ⟨_,by rw[et];rfl,rfl⟩ ?_ ?_ ?_⟩
 ·rintro i σ' H' _ ⟨_,_,rfl⟩
  exact cY.of hrt
 ·rintro i x σ' H' hx ⟨o,rfl,rfl⟩
  have lt:=Aq hg (n:=n) i (Dy hg hn)
  have nx:uf rs n (i+1) (stp rs n)=oY rs n (uf rs n i (stp rs n)):=rfl
  generalize uf rs n i (stp rs n)=m at lt nx ⊢
  obtain⟨v2,r2,f1,f2,ra2⟩:=hA.get lt
  have f1':rvs[((m:Nat):Int).toNat]?=some v2:=by simpa using f1
  obtain⟨p2,xs2,rfl,hp2⟩:=ra2.ref
  show yZ K _ [some (.ref rt),some (.int (n:Nat)),some (.int (m:Nat)),some x] H'
  refine⟨_,rfl,_,rfl,.inl ⟨rfl,_,rfl,jE (λz=>?_) λz=>iW ⟨some x,?_,rfl⟩⟩⟩
  ·have ne:m≠n:=λy=>z (by rw[y])
   have tn:oY rs n m=stp rs m:=by unfold oY;rw[if_neg ne]
   refine⟨_,rfl,_,rfl,cb hrt (by lia) f1' (cb hp2 (by decide) rfl (.inl ⟨rfl,_,rfl,bZ (λhw2=>?_) λhw2=>⟨some x,?_,rfl⟩⟩))⟩
   ·obtain⟨t2,rfl⟩:=nQ (qE hw2)
    obtain⟨p3,er,hp3⟩:=ra2
    cases er
    refine⟨_,rfl,_,rfl,cb hrt (by lia) f1' (cb hp3 (by decide) rfl ⟨some x,?_,rfl⟩)⟩
    have:stp rs m=t2:=by unfold stp;rw[f2]
    rw[nx,tn,this];rfl
   ·have:stp rs m=m:=wU λr' e'=>by
     rw[f2] at e';cases e'
     exact pJ λy=>hw2 (by rw[y])
    rw[nx,tn,this]
  ·have ez:m=n:=by injection z with z;lia
   have tn:oY rs n m=m:=by unfold oY;rw[if_pos ez]
   rw[nx,tn]
 ·rintro σ' H' ⟨o,rfl,rfl⟩
  rw[hA.len]
  refine⟨_,rfl,_,rfl,.inl ⟨rfl,q _ H' ?_ (aS.refl H')⟩⟩
  rw[<-Gf hg hn jn]
  constructor
  ·intro z
   have:=of_decide_eq_true z
   injection this with this
   lia
  ·intro z
   exact decide_eq_true (by rw[z])
theorem wz{ss ss':List Str}(nd:ss.Nodup)(nd':ss'.Nodup)(h:∀x,x∈ss'↔x∈ss):ss'.length=ss.length:=
 Nat.le_antisymm (Hu nd' λy hy=>(h y).mp hy) (Hu nd λy hy=>(h y).mpr hy)
theorem LM:∀(l:List Str),∃d:List Str,d.Nodup/\(∀x,x∈d↔x∈l)/\d.length<=l.length/\(¬l.Nodup->d.length<l.length)
 |[]=>⟨[],.nil,λx=>Iff.rfl,aD _,λh=>absurd .nil h⟩
 |a::l=>by
  obtain⟨d,nd,mm,le,lt⟩:=LM l
  by_cases c:a∈l
  ·refine⟨d,nd,λx=>?_,by rw[bK];lia,λ_=>by rw[bK];lia⟩
   rw[mm,aV]
   exact⟨λz=>.inr z,λz=>z.elim (λe=>by rw[e];exact c) id⟩
  ·refine⟨a::d,dO.mpr ⟨λz=>c ((mm a).mp z),nd⟩,λx=>by rw[aV,aV,mm],by rw[bK,bK];lia,λh=>?_⟩
   rw[bK,bK]
   have:=lt λz=>h (dO.mpr ⟨c,z⟩)
   lia
theorem qN{l ss:List Str}(nd:ss.Nodup)(mm:∀x,x∈ss↔x∈l):ss.length<l.length↔¬l.Nodup:=by
 constructor
 ·intro lt z
  have:=wz z nd mm
  lia
 ·intro z
  obtain⟨d,nd',mm',_,lt⟩:=LM l
  have:=lt z
  have e:=wz nd' nd λx=>(mm x).trans (mm' x).symm
  lia
theorem wA{xs:List V}{k:Nat}(h:k<xs.length):¬(HT.sIx xs.length 0 none=0/\HT.sIx xs.length xs.length (some (k:Int))=xs.length):=λz=>by
 have:=z.2
 rw[HT.sIx_nat] at this
 lia
theorem GO{α:Type}{xs:List α}{v:α}(e:xs.getLast?=some v):JG xs (-1)=some v:=by
 have ne:xs≠[]:=λz=>by rw[z] at e;cases e
 have l1:0<xs.length:=cP.mpr ne
 rw[cx] at e
 unfold JG LP
 rw[if_neg (by decide),if_pos (by lia)]
 have:(-1+(xs.length:Int)).toNat=xs.length-1:=by lia
 rw[this];exact e
theorem CT{K:Fg}{p:Addr}{xs:List V}{v:V}{H:Hp}{Q:VK}(h:H p=some (.tup xs))(e:xs.getLast?=some v)(q:Q v H):cS K (.ref p) (.int (-1)) H Q:=
 .inr (.inl ⟨p,xs,-1,v,rfl,rfl,cY.of h,GO e,q⟩)
theorem N6(r:gG):kD (.str (rj r)) [V.str "jump",V.str "give"]=rD r:=by
 cases r with
 |num x z=>show kD (.str "num") _=false;decide +kernel
 |op x s a b=>show kD (.str "op") _=false;decide +kernel
 |call x k as=>show kD (.str "call") _=false;decide +kernel
 |say a=>show kD (.str "say") _=false;decide +kernel
 |jump t=>show kD (.str "jump") _=true;decide +kernel
 |test a t=>show kD (.str "test") _=false;decide +kernel
 |give a=>show kD (.str "give") _=true;decide +kernel
theorem Al{K:Fg}{vs:List V}{H:Hp}{Q:VK}{E:XK}(h:gy K vs H Q E):sW K {nx:=λ_ H'=>Q .non H',rt:=Q} (cU lg vs) H:=by
 obtain⟨p,k,bs,b,rfl,⟨pvs,hpt,hA⟩,wd,e2,q1,q2⟩:=h
 have kb:k<bs.length:=(ar.mp e2).1
 obtain⟨w,b0,e1,e2',hP⟩:=hA.get kb
 rw[e2] at e2';cases e2'
 obtain⟨pt,pa,rt,rvs,rfl,hp1,hp2,hp3,hp4⟩:=id hP
 have e1':pvs[((k:Nat):Int).toNat]?=some (.ref pt):=by simpa using e1
 have ps:=wd.part b (aH e2)
 have few:=wd.few
 refine⟨_,rfl,_,rfl,cb hpt (by lia) e1' (cb hp1 (by decide) rfl ?_)⟩
 show pZ K _ [some (.ref p),some (.int (k:Nat)),some (.str b.name),none] H
 refine⟨_,rfl,_,rfl,cb hpt (by lia) e1' (cb hp1 (by decide) rfl ?_)⟩
 show pY K _ [some (.ref p),some (.int (k:Nat)),some (.str b.name),some (.ref pa)] H
 refine⟨_,rfl,.inr ⟨_,rfl,_,rfl,_,rfl,.inr ⟨p,pvs,rfl,cY.of hpt,wA (by rw[hA.len];exact kb),λtp htp=>?_⟩⟩⟩
 rw[kx]
 have s1:aS H (upd H tp (.tup (pvs.take k))):=(aS.refl H).new htp
 have ht1:upd H tp (.tup (pvs.take k)) tp=some (.tup (pvs.take k)):=ag
 generalize upd H tp (.tup (pvs.take k))=H1 at s1 ht1 ⊢
 refine⟨tp,rfl,⟨_,cY.of ht1⟩,λD hD=>?_⟩
 refine vW (xs:=pvs.take k) (λj σ' H'=>∃o,σ'=[some (.ref p),some (.int (k:Nat)),some (.str b.name),some (.ref pa),o]/\H'=upd H1 D (.lst (((bs.take j).map (·.name)).map V.str))) ⟨none,rfl,rfl⟩ ?_ ?_ ?_
 ·rintro j σ' H' _ ⟨o,_,rfl⟩
  exact cY.of (by rw[aB (au ht1 hD)];exact ht1)
 ·rintro j x σ' H' hx ⟨o,rfl,rfl⟩
  have jk:j<k:=by have:=(ar.mp hx).1;rw[aY] at this;lia
  rw[gf jk] at hx
  obtain⟨b',hb',hP'⟩:=hA.of_v hx
  obtain⟨pt',pa',rt',rvs',rfl,hp1',_⟩:=hP'
  refine kf ⟨_,rfl,cb (by rw[aB (au (s1 _ _ hp1') hD)];exact s1 _ _ hp1') (by decide) rfl ⟨_,ag,dW (by rw[ai,ai,aY];lia),_,rfl,?_⟩⟩
  rw[lC,dn,hb']
  simp
 ·rintro σ' H' ⟨o,_,rfl⟩
  have tl:(pvs.take k).length=k:=by rw[aY,hA.len];lia
  rw[tl]
  refine⟨D,_,rfl,.inl (cA.of ag),rfl,lF _,_,rfl,?_⟩
  have s2:aS H (upd H1 D (.lst (((bs.take k).map (·.name)).map V.str))):=s1.new hD
  show if(kD (.str b.name) (((bs.take k).map (·.name)).map V.str))=true then _ else _
  rw[lV]
  generalize upd H1 D (.lst (((bs.take k).map (·.name)).map V.str))=H2 at s2 ⊢
  refine bZ (λz=>q1 (.inl z) H2 s2) λnz=>?_
  show pX K _ [some (.ref p),some (.int (k:Nat)),some (.str b.name),some (.ref pa)] H2
  refine⟨_,rfl,pa,true,b.params,rfl,cY.of (s2 _ _ hp2),by have:=ps.p9;lia,λss nd' mm=>⟨_,rfl,_,_,rfl,.inr ⟨_,cY.of (s2 _ _ hp2),rfl⟩,_,_,rfl,rfl,_,rfl,?_⟩⟩
  have il:=qN nd' mm
  refine bZ (λz=>q1 (.inr (il.mp (by rw[ai] at z;lia))) H2 s2) λz=>q2 (λnf=>?_) H2 s2
  rcases nf with y|y
  ·exact nz y
  ·exact z (by rw[ai];have:=il.mpr y;lia)
theorem Bo{K:Fg}{vs:List V}{H:Hp}{Q:VK}{E:XK}(h:gW K vs H Q E):uH K {nx:=λ_ H'=>Q .non H',rt:=Q} (cU pA vs) H:=by
 obtain⟨p,k,bs,b,rfl,hp,wd,e2,q1,q2⟩:=h
 obtain⟨pvs,hpt,hA⟩:=id hp
 have kb:k<bs.length:=(ar.mp e2).1
 obtain⟨w,b0,e1,e2',hP⟩:=hA.get kb
 rw[e2] at e2';cases e2'
 obtain⟨pt,pa,rt,rvs,rfl,hp1,hp2,hrt,hR⟩:=id hP
 have e1':pvs[((k:Nat):Int).toNat]?=some (.ref pt):=by simpa using e1
 have rl:=hR.len
 refine⟨_,rfl,_,rfl,cb hpt (by lia) e1' (cb hp1 (by decide) rfl ?_)⟩
 show qY K _ [some (.ref p),some (.int (k:Nat)),some (.ref rt),none,none] H
 refine⟨_,rfl,_,_,rfl,.inr ⟨_,cY.of hrt,rfl⟩,.inl ⟨rfl,_,rfl,bZ (λz=>?_) λnz=>?_⟩⟩
 ·have e0:b.rows=[]:=cD.mp (by injection z with z;lia)
  exact q1 0 ⟨.inl ⟨e0,rfl⟩,λm z=>absurd z (bN _)⟩ H (aS.refl H)
 have ne:b.rows≠[]:=λz=>nz (by rw[rl,z];rfl)
 have pos:0<b.rows.length:=cP.mpr ne
 show qX K _ [some (.ref p),some (.int (k:Nat)),some (.ref rt),none,none] H
 refine⟨_,rfl,rt,rfl,⟨_,cY.of hrt⟩,yz (xs:=rvs) (λi σ' H'=>∃o3 o4,σ'=[some (.ref p),some (.int (k:Nat)),some (.ref rt),o3,o4]/\aS H H'/\∀(m:Nat) r,m<i->b.rows[m]?=some r->¬DT (jN bs) b.rows.length r) ⟨_,_,rfl,aS.refl H,λm r z=>absurd z (bN _)⟩ ?_ ?_ ?_⟩
 ·rintro i σ' H' _ ⟨_,_,_,s,_⟩
  exact cY.of (s _ _ hrt)
 ·rintro i x σ' H1 a hx na ⟨o3,o4,rfl,s1,ah⟩
  obtain⟨r,hr,ra⟩:=hR.of_v hx
  have il:i<b.rows.length:=(ar.mp hr).1
  refine⟨a,_,rfl,cY.of ag,rfl,_,_,rfl,_,_,rfl,rfl,?_⟩
  have s2:aS H (upd H1 a (.tup [.int (i:Nat),x])):=s1.new na
  show qW K _ [some (.ref p),some (.int (k:Nat)),some (.ref rt),some (.int (i:Nat)),some x] _
  generalize upd H1 a (.tup [.int (i:Nat),x])=H2 at s2 ⊢
  have lst:DT (jN bs) b.rows.length r->rX (r8 (jN bs) b) i:=λbd=>⟨.inr ⟨r,hr,.inl bd⟩,λm lt=>by
   rintro(⟨z,_⟩|⟨r',e',z|⟨z,_⟩⟩)
   ·exact ne z
   ·exact ah m r' lt e' z
   ·lia⟩
  refine⟨_,rfl,_,rfl,rt,x,rvs,r,rfl,s2 _ _ hrt,ra.mono (.of_same s2),λb1 i1=>⟨_,rfl,ny (λh1=>qG ⟨_,rfl,q1 i (lst (zx.mpr (.inl (by rw[<-rl];exact i1.mp h1)))) H2 s2⟩) λh1=>?_⟩⟩
  refine⟨_,rfl,_,rfl,p,x,bs,r,rfl,hp.mono (.of_same s2),ra.mono (.of_same s2),λb2 i2=>⟨_,rfl,ny (λh2=>⟨_,rfl,q1 i (lst (zx.mpr (.inr (i2.mp h2)))) H2 s2⟩) λh2=>⟨_,_,rfl,s2,λm r' lt e'=>?_⟩⟩⟩
  rcases cz.mp lt with z|z
  ·exact ah m r' z e'
  ·subst z;rw[hr] at e';cases e'
   intro bd
   rcases zx.mp bd with y|y
   ·rw[i1.mpr (by rw[rl];exact y)] at h1;cases h1
   ·rw[i2.mpr y] at h2;cases h2
 ·rintro σ' H1 ⟨o3,o4,rfl,s1,ah⟩
  rw[rl] at ah
  have lt:b.rows.length-1<b.rows.length:=by lia
  obtain⟨v,r,ev,er,ra⟩:=hR.get lt
  obtain⟨p',xs,rfl,hp'⟩:=ra.ref
  have ev':rvs.getLast?=some (.ref p'):=by rw[cx,rl];exact ev
  show qV K _ [some (.ref p),some (.int (k:Nat)),some (.ref rt),o3,o4] H1
  refine⟨_,rfl,1,rfl,CT (s1 _ _ hrt) ev' (cb (s1 _ _ hp') (by decide) rfl ⟨(by show 2<=sizeLine;decide),λt ht=>⟨t,_,rfl,.inr (cY.of ag),rfl,rfl,_,rfl,?_⟩⟩)⟩
  have s2:aS H (upd H1 t (.tup [.str "jump",.str "give"])):=s1.new ht
  show if(!kD (.str (rj r)) [V.str "jump",V.str "give"])=true then _ else _
  rw[N6]
  generalize upd H1 t (.tup [.str "jump",.str "give"])=H2 at s2 ⊢
  cases c:rD r with
  |true=>
   refine iW (q2 (λm=>?_) H2 s2)
   rintro(⟨z,_⟩|⟨r',e',z|⟨z,y⟩⟩)
   ·exact ne z
   ·exact ah m r' ((ar.mp e').1) e' z
   ·rw[show m=b.rows.length-1 from by lia,er] at e';cases e'
    rw[c] at y;cases y
  |false=>
   refine qG ⟨_,rfl,_,_,rfl,.inr ⟨_,cY.of (s2 _ _ hrt),rfl⟩,_,_,rfl,rfl,?_⟩
   show Q (.int ((rvs.length:Int)-1)) H2
   rw[rl,show((b.rows.length:Nat):Int)-1=((b.rows.length-1:Nat):Int) from by lia]
   refine q1 _ ⟨.inr ⟨r,er,.inr ⟨by lia,c⟩⟩,λm lt'=>?_⟩ H2 s2
   rintro(⟨z,_⟩|⟨r',e',z|⟨z,y⟩⟩)
   ·exact ne z
   ·exact ah m r' ((ar.mp e').1) e' z
   ·lia
theorem FW{K:Fg}{vs:List V}{H:Hp}{Q:VK}{E:XK}(h:jd K vs H Q E):yN K {nx:=λ_ H'=>Q .non H',rt:=Q} (cU tI vs) H:=by
 obtain⟨p,rt,n,rvs,bs,ws,rfl,hp,hrt,hR,hn,q⟩:=h
 obtain⟨pvs,hpt,hA⟩:=id hp
 obtain⟨v,r,e1,e2,ra⟩:=hR.get hn
 have e1':rvs[((n:Nat):Int).toNat]?=some v:=by simpa using e1
 have rl:=hR.len
 obtain⟨pr,xs,rfl,hpr⟩:=ra.ref
 have rowF:∀{X:Prop},(X↔DT (jN bs) ws.length r\/(n+1=ws.length/\rD r=false))->(X↔Mb (jN bs) ws n):=λ{X} i=>by
  rw[i]
  constructor
  ·intro z;exact⟨r,e2,z⟩
  ·rintro⟨r',e',z⟩
   rw[e2] at e';cases e';exact z
 refine⟨_,rfl,_,rfl,cb hrt (by lia) e1' ?_⟩
 show pQ K _ [some (.ref p),some (.ref rt),some (.int (n:Nat)),some (.ref pr)] H
 have f1:¬DT (jN bs) ws.length r->∀H',aS H H'->uD K {nx:=λ_ H'=>Q .non H',rt:=Q} [some (.ref p),some (.ref rt),some (.int (n:Nat)),some (.ref pr)] H':=λnb H1 s1=>by
  refine⟨_,rfl,_,rfl,_,_,rfl,.inr ⟨_,cY.of (s1 _ _ hrt),rfl⟩,_,_,rfl,rfl,.inl ⟨rfl,_,rfl,bZ (λz=>?_) λnz=>q false H1 (rowF ⟨λz=>(by cases z),λz=>?_⟩) s1⟩⟩
  ·have en:n+1=ws.length:=by injection z with z;lia
   refine⟨_,rfl,cb (s1 _ _ hpr) (by decide) rfl ⟨(by show 2<=sizeLine;decide),λt ht=>⟨t,_,rfl,.inr (cY.of ag),rfl,rfl,?_⟩⟩⟩
   show Q (.bl (!kD (.str (rj r)) [V.str "jump",V.str "give"])) _
   rw[N6]
   refine q _ _ (rowF ⟨λz=>.inr ⟨en,by simpa using z⟩,λz=>?_⟩) (s1.new ht)
   rcases z with z|z
   ·exact absurd z nb
   ·rw[z.2];rfl
  ·rcases z with z|z
   ·exact absurd z nb
   ·refine absurd ?_ nz
    show V.int (n:Nat)=V.int ((rvs.length:Int)-1);rw[rl,show((ws.length:Nat):Int)-1=((n:Nat):Int) from by lia]
 have goalc:∀(t:Int),(DT (jN bs) ws.length r↔t<0\/(ws.length:Int)<=t)->(V.str (rj r)::xs).getLast?=some (.int t)->kD (.str (rj r)) [.str "jump",.str "test"]=true->pP K {nx:=λ_ H'=>Q .non H',rt:=Q} [some (.ref p),some (.ref rt),some (.int (n:Nat)),some (.ref pr)] H:=λt ib el iv=>by
  refine⟨_,rfl,cb hpr (by decide) rfl ⟨(by show 2<=sizeLine;decide),λa ha=>⟨a,_,rfl,.inr (cY.of ag),rfl,rfl,_,rfl,wa iv ?_⟩⟩⟩
  have s1:aS H (upd H a (.tup [.str "jump",.str "test"])):=(aS.refl H).new ha
  have yes':DT (jN bs) ws.length r->Q (.bl true) (upd H a (.tup [.str "jump",.str "test"])):=λbd=>q true _ (rowF ⟨λ_=>.inl bd,λ_=>rfl⟩) s1
  refine⟨_,rfl,1,rfl,CT (s1 _ _ hpr) el ⟨_,_,rfl,rfl,_,rfl,bZ (λz=>qG (yes' (ib.mpr (.inl z)))) λz=>?_⟩⟩
  refine⟨_,rfl,1,rfl,CT (s1 _ _ hpr) el ⟨_,rfl,_,_,rfl,.inr ⟨_,cY.of (s1 _ _ hrt),rfl⟩,_,_,rfl,rfl,_,rfl,bZ (λy=>yes' (ib.mpr (.inr (by rw[rl] at y;exact y)))) λy=>f1 (λbd=>?_) _ s1⟩⟩
  rcases ib.mp bd with w|w
  ·exact z w
  ·exact y (by rw[rl];exact w)
 have other:rj r≠"call"->kD (.str (rj r)) [.str "jump",.str "test"]=false->¬DT (jN bs) ws.length r->pQ K {nx:=λ_ H'=>Q .non H',rt:=Q} [some (.ref p),some (.ref rt),some (.int (n:Nat)),some (.ref pr)] H:=λnc iv nb=>by
  refine⟨_,rfl,cb hpr (by decide) rfl (.inl ⟨rfl,_,rfl,no (λz=>nc (by injection z)) ?_⟩)⟩
  show pP K _ _ H
  refine⟨_,rfl,cb hpr (by decide) rfl ⟨(by show 2<=sizeLine;decide),λa ha=>⟨a,_,rfl,.inr (cY.of ag),rfl,rfl,_,rfl,xM iv (iW (f1 nb _ ((aS.refl H).new ha)))⟩⟩⟩
 cases r with
 |call x k as=>
  obtain⟨pr',qa,er,hpr',hqa⟩:=ra
  cases er
  rw[hpr] at hpr'
  cases hpr'
  have yes':(k<0\/(jN bs)[k.toNat]?≠some as.length)->Q (.bl true) H:=λbd=>q true _ (rowF ⟨λ_=>.inl bd,λ_=>rfl⟩) (aS.refl H)
  refine⟨_,rfl,cb hpr (by decide) rfl (.inl ⟨rfl,_,rfl,Cm ?_⟩)⟩
  refine⟨_,rfl,cb hpr (by decide) rfl ⟨_,_,rfl,rfl,_,rfl,bZ (λz=>qG (yes' (.inl z))) λk0=>?_⟩⟩
  refine⟨_,rfl,cb hpr (by decide) rfl ⟨_,rfl,_,_,rfl,.inr ⟨_,cY.of hpt,rfl⟩,_,_,rfl,rfl,_,rfl,bZ (λz=>yes' (.inr ?_)) λkl=>?_⟩⟩
  ·rw[cO (by show(bs.map _).length<=_;rw[ai,<-hA.len];lia)]
   intro y;cases y
  have kb:k.toNat<bs.length:=by rw[<-hA.len];lia
  obtain⟨w,b'',k1,k2,hP⟩:=hA.get kb
  obtain⟨pt',pa',rt',rvs',rfl,hp1,hp2,_⟩:=hP
  have ec:(jN bs)[k.toNat]?=some b''.params.length:=by show(bs.map _)[k.toNat]?=_;rw[aO,k2];rfl
  show uE K _ _ H
  refine⟨_,rfl,cb hpr (by decide) rfl ⟨_,_,rfl,.inr ⟨_,cY.of hqa,rfl⟩,_,rfl,_,rfl,cb hpr (by decide) rfl (cb hpt (by lia) k1 (cb hp1 (by decide) rfl ⟨_,_,rfl,.inr ⟨_,cY.of hp2,rfl⟩,.inl ⟨rfl,_,rfl,jE (λz=>yes' (.inr λy=>?_)) λz=>?_⟩⟩))⟩⟩
  ·rw[ec] at y
   exact z (by rw[ai,ai,Option.some.inj y])
  refine⟨_,rfl,_,rfl,_,_,rfl,.inr ⟨_,cY.of hrt,rfl⟩,_,_,rfl,rfl,.inl ⟨rfl,?_⟩⟩
  have eq:b''.params.length=as.length:=by
   rw[ai,ai] at z
   injection z with z;lia
  refine q _ H (rowF ⟨λy=>.inr ⟨?_,rfl⟩,λy=>decide_eq_true ?_⟩) (aS.refl H)
  ·have:=of_decide_eq_true y
   injection this with this;lia
  ·rcases y with y|y
   ·rcases(show k<0\/(jN bs)[k.toNat]?≠some as.length from y) with u|u
    ·exact absurd u k0
    ·exact absurd (by rw[ec,eq]) u
   ·show V.int (n:Nat)=V.int ((rvs.length:Int)-1);rw[rl,show((ws.length:Nat):Int)-1=((n:Nat):Int) from by lia]
 |jump t=>
  obtain⟨pr',er,hpr'⟩:=ra
  cases er
  rw[hpr] at hpr';cases hpr'
  refine⟨_,rfl,cb hpr (by decide) rfl (.inl ⟨rfl,_,rfl,no (show ¬V.str "jump"=V.str "call" by decide +kernel) ?_⟩)⟩
  exact goalc t Iff.rfl rfl (by show kD (.str "jump") _=true;decide +kernel)
 |test a t=>
  obtain⟨pr',er,hpr'⟩:=ra
  cases er
  rw[hpr] at hpr';cases hpr'
  refine⟨_,rfl,cb hpr (by decide) rfl (.inl ⟨rfl,_,rfl,no (show ¬V.str "test"=V.str "call" by decide +kernel) ?_⟩)⟩
  exact goalc t Iff.rfl rfl (by show kD (.str "test") _=true;decide +kernel)
 |num x z=>exact other (show("num":Str)≠"call" by decide +kernel) (by show kD (.str "num") _=false;decide +kernel) id
 |op x s a b=>exact other (show("op":Str)≠"call" by decide +kernel) (by show kD (.str "op") _=false;decide +kernel) id
 |say a=>exact other (show("say":Str)≠"call" by decide +kernel) (by show kD (.str "say") _=false;decide +kernel) id
 |give a=>exact other (show("give":Str)≠"call" by decide +kernel) (by show kD (.str "give") _=false;decide +kernel) id
theorem MT{E:XK}{k n:Int}{wd:Str}{C:Addr}{H:Hp}(h:∀(dx:Addr) (H':Hp),aS H H'->H' dx=some (XD dx (vL k n wd))->E (.ref C) (some dx) H') :
  ∀(dx:Addr) (H':Hp),aS H H'->H' dx=some (XD dx (vL k n wd))->(sC λ_=>E) (.ref C) (some dx) H':=λdx H' s g x C' T' ec hx nd hT nx=>
 h dx _ (s.new hT) (by rw[aB (au g hT)];exact g)
theorem Ap{cs:List Nat}{H:Hp}{rvs:List V}{b:dc}(hR:cL (eS H) rvs b.rows)(ok:∀m,¬r8 cs b m):cL (dH H) rvs b.low.rows:=by
 refine⟨by rw[hR.len];exact(ai ..).symm,λi v r' ev er=>?_⟩
 have er:(b.rows.map gG.low)[i]?=some r':=er
 rw[aO] at er
 obtain⟨r0,e0,rfl⟩:=cG.mp er
 exact(hR.at_ i v r0 ev e0).low (DT.ok0 (vC ok r0 (aH e0)))
theorem FY{K:Fg}{vs:List V}{H:Hp}{Q:VK}{E:XK}(h:gu K vs H Q E):yV K E {nx:=λ_ H'=>Q .non H',rt:=Q} (cU tK vs) H:=by
 obtain⟨p,bs,rfl,hp,wd,q1,q2⟩:=h
 obtain⟨pvs,hpt,hA⟩:=id hp
 refine⟨_,rfl,p,rfl,⟨_,cY.of hpt⟩,yz (xs:=pvs) (λi σ' H'=>∃o1 o2,σ'=[some (.ref p),o1,o2]/\aS H H'/\∀(j:Nat) b,j<i->bs[j]?=some b->ym bs j b) ⟨_,_,rfl,aS.refl H,λj b z=>absurd z (bN _)⟩ ?_ ?_ ?_⟩
 ·rintro i σ' H' _ ⟨_,_,_,s,_⟩
  exact cY.of (s _ _ hpt)
 ·rintro i x σ' H1 a hx na ⟨o1,o2,rfl,s1,ah⟩
  obtain⟨b,hb,hP⟩:=hA.of_v hx
  have ps:=wd.part b (aH hb)
  refine⟨a,_,rfl,cY.of ag,rfl,_,_,rfl,_,_,rfl,rfl,?_⟩
  have s2:aS H (upd H1 a (.tup [.int (i:Nat),x])):=s1.new na
  show uG K E _ [some (.ref p),some (.int (i:Nat)),some x] _
  generalize upd H1 a (.tup [.int (i:Nat),x])=H2 at s2 ⊢
  have out:∀(n:Nat) (w:Str),nq bs i b n w->∀H3,aS H H3->∀(dx:Addr) (H':Hp),aS H3 H'->H' dx=some (XD dx (vL (i:Nat) (n:Nat) w))->(sC λ_=>E) (.ref (bA K "NoProgram")) (some dx) H':=λn w pf H3 s3=>
   MT λdx H' s g=>q2 i n w ⟨⟨b,hb,pf⟩,ah⟩ dx H' (s3.trans s) g
  refine⟨_,rfl,_,rfl,_,rfl,p,i,bs,b,rfl,hp.mono (.of_same s2),wd,hb,λnf H3 s3=>⟨i,_,"name",rfl,.inr ⟨0,rfl,out 0 _ (.name nf) H3 (s2.trans s3)⟩⟩,λnn H3 s3=>⟨i,.non,"name",rfl,.inl ⟨rfl,?_⟩⟩⟩
  have s3':=s2.trans s3
  refine⟨_,rfl,_,rfl,_,rfl,p,i,bs,b,rfl,hp.mono (.of_same s3'),wd,hb,λn lf H4 s4=>⟨i,_,"row",rfl,.inr ⟨(n:Nat),rfl,out n _ (.row nn lf) H4 (s3'.trans s4)⟩⟩,λnr H4 s4=>⟨i,.non,"row",rfl,.inl ⟨rfl,?_⟩⟩⟩
  have s4':=s3'.trans s4
  obtain⟨pt,pa,rt,rvs,rfl,hpt4,hpa4,hrt4,hR4⟩:=hP.mono (.of_same s4')
  have R4:=Ap hR4 nr
  have few:b.low.rows.length<64:=by show(b.rows.map gG.low).length<64;rw[ai];exact ps.few
  refine⟨_,rfl,_,rfl,cb hpt4 (by decide) rfl ⟨rt,rvs,b.low.rows,rfl,hrt4,R4,few,v9 nr,λn lf H5 s5=>⟨i,_,"ring",rfl,.inr ⟨(n:Nat),rfl,out n _ (.ring nn nr lf) H5 (s4'.trans s5)⟩⟩,λng H5 s5=>⟨i,.non,"ring",rfl,.inl ⟨rfl,?_⟩⟩⟩⟩
  have s5':=s4'.trans s5
  refine⟨_,rfl,_,rfl,_,b.low,_,rfl,(hP.mono (.of_same s5')).low nr,BA ps nn nr ng,λcl H6 s6=>⟨i,.non,"unset",rfl,.inl ⟨rfl,?_⟩⟩,λn un mn H6 s6=>⟨i,_,"unset",rfl,.inr ⟨(n:Nat),rfl,out n _ (.unset nn nr ng ⟨un,mn⟩) H6 (s5'.trans s6)⟩⟩⟩
  refine⟨_,_,rfl,s5'.trans s6,λj b' lt e=>?_⟩
  rcases cz.mp lt with z|z
  ·exact ah j b' z e
  ·subst z;rw[hb] at e;cases e;exact⟨nn,nr,ng,cl⟩
 ·rintro σ' H' ⟨_,_,_,s,ah⟩
  refine q1 (λk b e=>ah k b ?_ e) H' s
  have:=(ar.mp e).1
  rw[hA.len];exact this
theorem NC{K:Fg}(T:rB K){vs:List V}{H:Hp}{Q:VK}{E:XK}(h:oG K vs H Q E):Jh K {nx:=λ_ H'=>Q .non H',rt:=Q} (cU Cw vs) H:=by
 obtain⟨p,bs,rfl,hp,sh,q⟩:=h
 refine⟨(by show 3<=sizeLine;decide),λa ha=>?_⟩
 show Cd K _ [some (.ref p),some (.ref a),none] _
 have s1:aS H (upd H a (.tup [.str "none",.int 0,.str ""])):=(aS.refl H).new ha
 refine⟨_,rfl,p,bs,rfl,hp.mono (Tp.of_same s1),sh,λc H' s2=>⟨rfl,_,rfl,Cm ?_⟩,λk n w f dx H' s2 gd=>?_⟩
 ·refine⟨1,rfl,(by show 3<=sizeLine;decide),λb hb=>?_⟩
  exact⟨_,rfl,q b _ ⟨_,_,_,.inl ⟨c,rfl,rfl,rfl⟩,ag⟩ ((s1.trans s2).new hb)⟩
 ·intro x C T' ec hx ndx hT' nx
  cases ec
  refine⟨_,rfl,T.mNN,?_⟩
  have gx:(upd H' T' (TB T')) x=some (XL x (bA K "NoProgram") (some dx)):=by rw[aB (Ne.symm nx)];exact hx
  have gd2:(upd H' T' (TB T')) dx=some (XD dx (vL k n w)):=by rw[aB (au gd hT')];exact gd
  refine⟨_,rfl,x,_,dx,_,_,rfl,.inr gx,gd2,T.clN,T.nNp,rfl,?_⟩
  refine⟨_,rfl,x,_,dx,_,_,rfl,.inr gx,gd2,T.clN,T.nNr,rfl,?_⟩
  refine⟨_,rfl,x,_,dx,_,_,rfl,.inr gx,gd2,T.clN,T.nNw,rfl,(by show 3<=sizeLine;decide),λb hb=>?_⟩
  exact⟨_,rfl,q b _ ⟨_,_,_,.inr ⟨k,n,f,rfl,rfl⟩,ag⟩ (((s1.trans s2).new hT').new hb)⟩
theorem FX{K:Fg}(T:rB K){vs:List V}{H:Hp}{Q:VK}{E:XK}(h:je K vs H Q E):yO K {nx:=λ_ H'=>Q .non H',rt:=Q} (cU tJ vs) H:=by
 obtain⟨p,bs,rfl,hp,sh,nc,q⟩:=h
 refine⟨(by show 0<=sizeLine;decide),λa ha=>?_⟩
 show uF K _ [some (.ref p),some (.ref a),none] _
 have s1:aS H (upd H a (.lst [])):=(aS.refl H).new ha
 refine⟨_,rfl,p,bs,rfl,hp.mono (Tp.of_same s1),sh,λc=>absurd c nc,λk n w f dx H' s2 gd=>?_⟩
 intro x C T' ec hx ndx hT' nx
 cases ec
 refine⟨_,rfl,T.mNB,?_⟩
 have gx:(upd H' T' (TB T')) x=some (XL x (bA K "NoProgram") (some dx)):=by rw[aB (Ne.symm nx)];exact hx
 have gd2:(upd H' T' (TB T')) dx=some (XD dx (vL k n w)):=by rw[aB (au gd hT')];exact gd
 have s3:aS H (upd H' T' (TB T')):=(s1.trans s2).new hT'
 refine⟨_,rfl,x,_,dx,_,rfl,.inr gx,⟨_,gd2⟩,T.clN,T.wyN,.inl ⟨rfl,?_⟩⟩
 refine⟨_,rfl,x,_,dx,_,rfl,.inr gx,⟨_,gd2⟩,T.clN,T.wyN,.inr (.inl ⟨_,_,rfl,T.iNN,?_⟩)⟩
 refine⟨_,rfl,(by show 2<=sizeLine;decide),λt ht=>?_⟩
 have n1:x≠t:=au gx ht
 have n2:dx≠t:=au gd2 ht
 refine⟨x,_,dx,_,rfl,.inr (by rw[aB n1];exact gx),⟨_,by rw[aB n2];exact gd2⟩,T.clN,T.wyN,.inr (.inr ⟨t,_,_,_,_,rfl,ag,T.iNL,T.iNS,(by show 3<=sizeLine;decide),λb hb=>?_⟩)⟩
 exact⟨_,rfl,q b _ ag ((s3.new ht).new hb)⟩
theorem Hf{ns:List Nat}{i:Nat}{x:V}(h:(bH ns)[i]?=some x):∃n,ns[i]?=some n/\x=.int (n:Nat):=by
 unfold bH at h
 rw[aO] at h
 obtain⟨n,e,rfl⟩:=cG.mp h
 exact⟨n,e,rfl⟩
def ze(H:Hp)(v:V)(n:Nat):Prop:=∃q,v=.ref q/\H q=some (.tup [.int (n:Nat),.str "unset"])
theorem ze.mono{H H':Hp}{v:V}{n:Nat}(h:ze H v n)(s:Tp H H'):ze H' v n:=by
 obtain⟨q,e,z⟩:=h;exact⟨q,e,s _ _ z⟩
theorem Du{K:Fg}{vs:List V}{H:Hp}{Q:VK}{E:XK}(h:iF K vs H Q E):xp K {nx:=λ_ H'=>Q .non H',rt:=Q} (cU lI vs) H:=by
 obtain⟨p,k,bs,b,rfl,hp,wd,hb,q⟩:=h
 obtain⟨pvs,hpt,hA⟩:=id hp
 have kb:k<bs.length:=(ar.mp hb).1
 obtain⟨w,b',e1,e2,hP⟩:=hA.get kb
 rw[hb] at e2;cases e2
 obtain⟨pt,pa,rt,rvs,rfl,hp1,hp2,hrt,hR⟩:=id hP
 have e1':pvs[((k:Nat):Int).toNat]?=some (.ref pt):=by simpa using e1
 have ps:=wd.part b (aH hb)
 have few:=ps.few
 have rl:=hR.len
 have bf:=wd.few
 have one:∀(n:Nat) (w:Str) (H1:Hp),aS H H1->nq bs k b n w->∀t,H1 t=none->∀l,(upd H1 t (.tup [.int (n:Nat),.str w])) l=none->Q (.ref l) (upd (upd H1 t (.tup [.int (n:Nat),.str w])) l (.lst [.ref t])):=λn w H1 s1 pf t ht l hl=>by
  refine q l [.ref t] _ ag (.inr ⟨t,n,w,[],rfl,?_,pf⟩) ((s1.new ht).new hl)
  rw[aB (au ag hl)];exact ag
 refine⟨_,rfl,_,rfl,cb hpt (by lia) e1' ⟨pt,_,rfl,cY.of hp1,rfl,_,_,rfl,_,_,rfl,_,_,rfl,rfl,?_⟩⟩
 show tD K _ [some (.ref p),some (.int (k:Nat)),some (.str b.name),some (.ref pa),some (.ref rt),none] H
 refine⟨_,rfl,.inr ⟨_,rfl,_,rfl,_,rfl,.inr ⟨p,pvs,rfl,cY.of hpt,wA (by rw[hA.len];exact kb),λtp htp=>?_⟩⟩⟩
 rw[kx]
 have s1:aS H (upd H tp (.tup (pvs.take k))):=(aS.refl H).new htp
 have ht1:upd H tp (.tup (pvs.take k)) tp=some (.tup (pvs.take k)):=ag
 generalize upd H tp (.tup (pvs.take k))=H1 at s1 ht1 ⊢
 refine⟨tp,rfl,⟨_,cY.of ht1⟩,λD hD=>?_⟩
 refine vW (xs:=pvs.take k) (λj σ' H'=>∃o,σ'=[some (.ref p),some (.int (k:Nat)),some (.str b.name),some (.ref pa),some (.ref rt),none,o]/\H'=upd H1 D (.lst (((bs.take j).map (·.name)).map V.str))) ⟨none,rfl,rfl⟩ ?_ ?_ ?_
 ·rintro j σ' H' _ ⟨o,_,rfl⟩
  exact cY.of (by rw[aB (au ht1 hD)];exact ht1)
 ·rintro j x σ' H' hx ⟨o,rfl,rfl⟩
  have jk:j<k:=by have:=(ar.mp hx).1;rw[aY] at this;lia
  rw[gf jk] at hx
  obtain⟨b',hb',hP'⟩:=hA.of_v hx
  obtain⟨pt',pa',rt',rvs',rfl,hp1',_⟩:=hP'
  refine kf ⟨_,rfl,cb (by rw[aB (au (s1 _ _ hp1') hD)];exact s1 _ _ hp1') (by decide) rfl ⟨_,ag,dW (by rw[ai,ai,aY];lia),_,rfl,?_⟩⟩
  rw[lC,dn,hb']
  simp
 rintro σ' H' ⟨o,_,rfl⟩
 have tl:(pvs.take k).length=k:=by rw[aY,hA.len];lia
 rw[tl]
 refine⟨D,_,rfl,.inl (cA.of ag),rfl,lF _,_,rfl,?_⟩
 have s2:aS H (upd H1 D (.lst (((bs.take k).map (·.name)).map V.str))):=s1.new hD
 show if(kD (.str b.name) (((bs.take k).map (·.name)).map V.str))=true then _ else _
 rw[lV]
 generalize upd H1 D (.lst (((bs.take k).map (·.name)).map V.str))=H2 at s2 ⊢
 have nameR:qL bs k b->cE (fL (af (dM (af (tC (.int 0)) (af (tC (.str "name")) aE))) aE)) {nx:=λσ2 H2=>oJ K {nx:=λ_ H'=>Q .non H',rt:=Q} σ2 H2,rt:=Q} [some (.ref p),some (.int (k:Nat)),some (.str b.name),some (.ref pa),some (.ref rt),none] H2:=λnf=>
  ⟨(by show 2<=sizeLine;decide),λt ht=>⟨(by show 1<=sizeLine;decide),λl hl=>one 0 "name" H2 s2 (.name nf) t ht l hl⟩⟩
 refine bZ (λz=>qG (nameR (.inl z))) λnz=>?_
 refine⟨_,rfl,pa,true,b.params,rfl,cY.of (s2 _ _ hp2),by have:=ps.p9;lia,λss nd' mm=>⟨_,rfl,_,_,rfl,.inr ⟨_,cY.of (s2 _ _ hp2),rfl⟩,_,_,rfl,rfl,_,rfl,?_⟩⟩
 have il:=qN nd' mm
 refine bZ (λz=>nameR (.inr (il.mp (by rw[ai] at z;lia)))) λz=>?_
 have nn:¬qL bs k b:=λnf=>by
  rcases nf with y|y
  ·exact nz y
  ·exact z (by rw[ai];have:=il.mpr y;lia)
 show oJ K _ [some (.ref p),some (.int (k:Nat)),some (.str b.name),some (.ref pa),some (.ref rt),none] H2
 refine⟨_,rfl,_,_,rfl,.inr ⟨_,cY.of (s2 _ _ hrt),rfl⟩,.inl ⟨rfl,_,rfl,bZ (λz=>?_) λnz=>?_⟩⟩
 ·have e0:b.rows=[]:=cD.mp (by injection z with z;lia)
  exact⟨(by show 2<=sizeLine;decide),λt ht=>⟨(by show 1<=sizeLine;decide),λl hl=>one 0 "row" H2 s2 (.row nn ⟨.inl ⟨e0,rfl⟩,λm z=>absurd z (bN _)⟩) t ht l hl⟩⟩
 have ne:b.rows≠[]:=λz=>nz (by rw[rl,z];rfl)
 show tw K _ [some (.ref p),some (.int (k:Nat)),some (.str b.name),some (.ref pa),some (.ref rt),none] H2
 refine⟨_,rfl,_,_,rfl,.inr ⟨_,cY.of (s2 _ _ hrt),rfl⟩,_,rfl,by lia,by lia,gH (λi σ' H'=>∃o,σ'=[some (.ref p),some (.int (k:Nat)),some (.str b.name),some (.ref pa),some (.ref rt),o]/\aS H H'/\∀m,m<i->¬r8 (jN bs) b m) ⟨_,rfl,s2,λm z=>absurd z (bN _)⟩ ?_ ?_⟩
 ·rintro i σ' H3 hi ⟨o,rfl,s3,ah⟩
  show tu K _ [some (.ref p),some (.int (k:Nat)),some (.str b.name),some (.ref pa),some (.ref rt),some (.int (0+(i:Int)))] H3
  rw[fR]
  refine⟨_,rfl,_,rfl,_,rfl,p,rt,i,rvs,bs,b.rows,rfl,hp.mono (.of_same s3),s3 _ _ hrt,hR.imp (λ_ _ z=>z.mono (.of_same s3)),by lia,λb1 H4 i1 s4=>⟨_,rfl,ny (λh1=>?_) λh1=>?_⟩⟩
  ·exact⟨_,rfl,(by show 2<=sizeLine;decide),λt ht=>⟨(by show 1<=sizeLine;decide),λl hl=>one i "row" H4 (s3.trans s4) (.row nn ⟨.inr (i1.mp h1),ah⟩) t ht l hl⟩⟩
  ·refine⟨_,rfl,s3.trans s4,λm lt=>?_⟩
   rcases cz.mp lt with z|z
   ·exact ah m z
   ·subst z
    rintro(⟨y,_⟩|y)
    ·exact ne y
    ·rw[i1.mpr y] at h1;cases h1
 rintro σ' H3 ⟨o,rfl,s3,ah⟩
 have nr:∀m,¬r8 (jN bs) b m:=λm z=>by
  refine ah m ?_ z
  rcases z with⟨y,_⟩|⟨r,e,_⟩
  ·exact absurd y ne
  ·have:=(ar.mp e).1
   lia
 have ll:b.low.rows.length=b.rows.length:=ai ..
 show tq K _ [some (.ref p),some (.int (k:Nat)),some (.str b.name),some (.ref pa),some (.ref rt),o] H3
 refine⟨_,rfl,_,_,rfl,.inr ⟨_,cY.of (s3 _ _ hrt),rfl⟩,_,rfl,by lia,by lia,gH (λi σ' H'=>∃o,σ'=[some (.ref p),some (.int (k:Nat)),some (.str b.name),some (.ref pa),some (.ref rt),o]/\aS H H'/\∀m,m<i->¬pe b.low.rows m) ⟨_,rfl,s3,λm z=>absurd z (bN _)⟩ ?_ ?_⟩
 ·rintro i σ' H4 hi ⟨o,rfl,s4,ah⟩
  show tm K _ [some (.ref p),some (.int (k:Nat)),some (.str b.name),some (.ref pa),some (.ref rt),some (.int (0+(i:Int)))] H4
  rw[fR]
  refine⟨_,rfl,_,rfl,rt,i,rvs,b.low.rows,rfl,s4 _ _ hrt,Ap (hR.imp (λ_ _ z=>z.mono (.of_same s4))) nr,v9 nr,by lia,λb1 H5 i1 s5=>⟨_,rfl,ny (λh1=>?_) λh1=>?_⟩⟩
  ·exact⟨_,rfl,(by show 2<=sizeLine;decide),λt ht=>⟨(by show 1<=sizeLine;decide),λl hl=>one i "ring" H5 (s4.trans s5) (.ring nn nr ⟨i1.mp h1,ah⟩) t ht l hl⟩⟩
  ·refine⟨_,rfl,s4.trans s5,λm lt=>?_⟩
   rcases cz.mp lt with z|z
   ·exact ah m z
   ·subst z
    intro y
    rw[i1.mpr y] at h1;cases h1
 rintro σ' H4 ⟨o,rfl,s4,ah⟩
 have ng:∀m,¬pe b.low.rows m:=λm z=>by
  refine ah m ?_ z
  obtain⟨⟨r,e,_⟩,_⟩:=z
  have:=(ar.mp e).1
  lia
 show tj K _ [some (.ref p),some (.int (k:Nat)),some (.str b.name),some (.ref pa),some (.ref rt),o] H4
 refine .inl ⟨_,rfl,_,rfl,pa,rt,rvs,b.low,_,rfl,s4 _ _ hp2,s4 _ _ hrt,Ap (hR.imp (λ_ _ z=>z.mono (.of_same s4))) nr,BA ps nn nr ng,λl ns H5 mm pw nl hl0 hl s5=>⟨l,rfl,⟨_,cA.of hl⟩,λD hD=>?_⟩⟩
 refine nu (xs:=bH ns) (λj σ' H'=>∃(refs:List V) (o:Option V),σ'=[some (.ref p),some (.int (k:Nat)),some (.str b.name),some (.ref pa),some (.ref rt),o]/\H' D=some (.lst refs)/\cL (ze H') refs (ns.take j)/\aS H5 H') ⟨[],none,rfl,ag,cL.nil,(aS.refl H5).new hD⟩ ?_ ?_ ?_
 ·rintro j σ' H' _ ⟨_,_,_,_,_,s⟩
  exact cA.of (s _ _ hl)
 ·rintro j x σ' H6 hx ⟨refs,o,rfl,hD6,aa,s6⟩
  obtain⟨m,hm,rfl⟩:=Hf hx
  have jl:j<ns.length:=(ar.mp hm).1
  have rfl':=aa.len
  rw[aY] at rfl'
  refine kf ⟨_,rfl,(by show 2<=sizeLine;decide),λt ht=>⟨_,by rw[aB (au hD6 ht)];exact hD6,dW (by lia),refs++[.ref t],_,rfl,ag,?_,?_⟩⟩
  ·have sx:Tp H6 (upd (upd H6 t (.tup [.int (m:Nat),.str "unset"])) D (.lst (refs++[.ref t]))):=((Tp.refl H6).new ht).lst (ys:=refs) (by rw[aB (au hD6 ht)];exact hD6)
   rw[dn,hm]
   exact(aa.imp λ_ _ z=>z.mono sx).snoc ⟨t,rfl,by rw[aB (by intro z;rw[z,hD6] at ht;cases ht),ag]⟩
  ·exact jD (s6.new ht) hD
 rintro σ' H6 ⟨refs,o,_,hD6,aa,s6⟩
 rw[dD,cy (aD _)] at aa
 refine q D refs H6 hD6 ?_ ((s4.trans s5).trans s6)
 by_cases c:refs=[]
 ·refine .inl ⟨⟨nn,nr,ng,λm u=>?_⟩,c⟩
  have:=(mm m).mpr u
  have l0:ns=[]:=cD.mp (by rw[<-aa.len,c];rfl)
  rw[l0] at this;cases this
 ·have l0:0<ns.length:=by rw[<-aa.len];exact cP.mpr c
  obtain⟨v,n,f1,f2,dv⟩:=aa.get l0
  obtain⟨t,rfl,ht⟩:=dv
  have un:=(mm n).mp (aH f2)
  obtain⟨v0,rest,rfl⟩:=List.exists_cons_of_ne_nil c
  have e0:v0=.ref t:=by simpa using f1
  subst e0
  refine .inr ⟨t,n,"unset",rest,rfl,ht,.unset nn nr ng ⟨un,λm lt um=>?_⟩⟩
  obtain⟨j,hj,ej⟩:=cF.mp ((mm m).mpr um)
  have e0:ns[0]=n:=by rw[ao l0] at f2;exact Option.some.inj f2
  by_cases cj:j=0
  ·subst cj;lia
  ·have:=iP.mp pw 0 j l0 hj (by lia)
   lia
theorem Kf{K:Fg}{H:Hp}{l e:Addr}{refs:List V}{Q:VK}(hl:H l=some (.lst refs))(he:H e=some (.lst []))(q1:refs≠[]->Q (.bl true) H)(q2:refs=[]->Q (.bl false) H):Ai K (.ref l) (.ref e) H Q:=by
 by_cases c:refs=[]
 ·subst c
  exact .inl ⟨l,e,_,_,rfl,rfl,.inl ⟨cA.of hl,cA.of he⟩,.inr ⟨[],rfl,rfl,(λj a b e h=>by cases h),q2 rfl⟩⟩
 ·exact .inl ⟨l,e,_,_,rfl,rfl,.inl ⟨cA.of hl,cA.of he⟩,.inl ⟨(λz=>c (cD.mp z)),q1 c⟩⟩
theorem OD{K:Fg}{vs:List V}{H:Hp}{Q:VK}{E:XK}(h:rK K vs H Q E):L5 K {nx:=λ_ H'=>Q .non H',rt:=Q} (cU GI vs) H:=by
 obtain⟨p,bs,rfl,hp,wd,q⟩:=h
 obtain⟨pvs,hpt,hA⟩:=id hp
 have few:=wd.few
 have al:=hA.len
 refine⟨_,rfl,_,_,rfl,.inr ⟨_,cY.of hpt,rfl⟩,_,rfl,by lia,by lia,gH (λi σ' H'=>∃o1 o2,σ'=[some (.ref p),o1,o2]/\aS H H'/\∀(j:Nat) b,j<i->bs[j]?=some b->ym bs j b) ⟨_,_,rfl,aS.refl H,λj b z=>absurd z (bN _)⟩ ?_ ?_⟩
 ·rintro i σ' H1 hi ⟨o1,o2,rfl,s1,ah⟩
  have ib:i<bs.length:=by lia
  have hb:bs[i]?=some bs[i]:=ao ib
  show EC K _ [some (.ref p),some (.int (0+(i:Int))),o2] H1
  rw[fR]
  refine⟨_,rfl,_,rfl,p,i,bs,bs[i],rfl,hp.mono (.of_same s1),wd,hb,λl refs H2 hl is s2=>?_⟩
  show EB K _ [some (.ref p),some (.int (i:Nat)),some (.ref l)] H2
  refine⟨_,rfl,(by show 0<=sizeLine;decide),λe he=>?_⟩
  have s3:aS H2 (upd H2 e (.lst [])):=(aS.refl H2).new he
  have he3:upd H2 e (.lst []) e=some (.lst []):=ag
  generalize upd H2 e (.lst [])=H3 at s3 he3 ⊢
  have S3:=(s1.trans s2).trans s3
  refine Kf (s3 _ _ hl) he3 (λne=>⟨_,rfl,qG ?_⟩) λen=>⟨_,rfl,iW ⟨_,_,rfl,S3,λj b lt e=>?_⟩⟩
  ·rcases is with⟨_,z⟩|⟨t,n,w,rest,rfl,ht,pf⟩
   ·exact absurd z ne
   refine⟨_,rfl,_,rfl,kz (cA.of (s3 _ _ hl)) (by decide) rfl (cb (s3 _ _ ht) (by decide) rfl ⟨_,rfl,kz (cA.of (s3 _ _ hl)) (by decide) rfl (cb (s3 _ _ ht) (by decide) rfl ⟨(by show 3<=sizeLine;decide),λa ha=>?_⟩)⟩)⟩
   exact q a _ ⟨_,_,_,.inr ⟨i,n,⟨⟨_,hb,pf⟩,ah⟩,rfl,rfl⟩,ag⟩ (S3.new ha)
  ·rcases cz.mp lt with z|z
   ·exact ah j b z e
   ·subst z
    rw[hb] at e;cases e
    rcases is with⟨c,_⟩|⟨t,n,w,rest,z,_⟩
    ·exact c
    ·rw[en] at z;cases z
 ·rintro σ' H1 ⟨o1,o2,rfl,s1,ah⟩
  refine⟨1,rfl,(by show 3<=sizeLine;decide),λa ha=>q a _ ⟨_,_,_,.inl ⟨λk b e=>ah k b ?_ e,rfl,rfl,rfl⟩,ag⟩ (s1.new ha)⟩
  have:=(ar.mp e).1
  lia
theorem Jj{K:Fg}{neg:Bool}{H:Hp}{p u:Addr}{i j:Int}{w:Str}{Q:VK}(hp:H p=some (.tup [.int i,.int j,.str w]))(hu:H u=some (.tup [.int i,.int j,.str w]))(h:Q (.bl (!neg)) H):Ik K neg (.ref p) (.ref u) H Q:=by
 refine⟨p,u,_,_,rfl,rfl,.inr ⟨cY.of hp,cY.of hu,rfl⟩,.inr ⟨[true,true,true],rfl,rfl,λk x y b hx hy hb=>?_,?_⟩⟩
 ·match k with
  |0=>cases hx;cases hy;cases hb;have:=tH.flat (K:=K) (H:=H) (d:=4) (x:=V.int i) (y:=V.int i) rfl rfl;simpa[AB] using this
  |1=>cases hx;cases hy;cases hb;have:=tH.flat (K:=K) (H:=H) (d:=4) (x:=V.int j) (y:=V.int j) rfl rfl;simpa[AB] using this
  |2=>cases hx;cases hy;cases hb;have:=tH.flat (K:=K) (H:=H) (d:=4) (x:=V.str w) (y:=V.str w) rfl rfl;simpa[AB] using this
  |k+3=>cases hb
 ·cases neg<;>exact h
theorem Le{K:Fg}{vs:List V}{H:Hp}{Q:VK}{E:XK}(h:jL K vs H Q E):EK K {nx:=λ_ H'=>Q .non H',rt:=Q} (cU zk vs) H:=by
 obtain⟨p,q1,bs,rfl,hp,wd,t1,q⟩:=h
 refine⟨_,rfl,p,bs,rfl,hp,wd,λq2 H2 t2 S2=>?_⟩
 show yQ K _ [some (.ref p),some (.ref q1),some (.ref q2)] H2
 obtain⟨i,j,w,tl,h1⟩:=t1
 obtain⟨i',j',w',tl',h2⟩:=t2
 obtain⟨rfl,rfl,rfl⟩:=tl.one tl'
 have h1':=S2 _ _ h1
 refine⟨_,rfl,_,rfl,.inl (Jj h2 h1' ⟨_,rfl,iW ?_⟩)⟩
 refine⟨_,rfl,cb h2 (by decide) rfl ⟨_,rfl,.inr ⟨_,rfl⟩,_,rfl,iW ⟨_,rfl,cb h2 (by decide) rfl ⟨_,rfl,.inr ⟨_,rfl⟩,_,rfl,iW ?_⟩⟩⟩⟩
 show yP K _ [some (.ref p),some (.ref q1),some (.ref q2)] H2
 refine⟨_,rfl,cb h1' (by decide) rfl ⟨1,rfl,.inr (.inr (.inl ⟨rfl,_,rfl,bZ (λ_=>q H2 S2) λz=>?_⟩))⟩⟩
 rcases tl with⟨c,rfl,_⟩|⟨k,n,f,_⟩
 ·exact absurd rfl z
 refine⟨_,rfl,p,bs,rfl,hp.mono (.of_same S2),wd,f.clean,λl H3 hl s3=>⟨(by show 3<=sizeLine;decide),λe he=>?_⟩⟩
 refine .inr (.inr (.inr (.inr (.inr ⟨l,e,_,_,rfl,rfl,cA.of (by rw[aB (au hl he)];exact hl),cA.of ag,rfl,rfl,?_⟩))))
 have:mX [V.bl true,.bl true,.bl false] [V.bl true,.bl true,.bl false]=true:=by decide
 show Q (.bl (mX _ _)) _
 rw[this]
 exact q _ ((S2.trans s3).new he)
def d8.up(b:d8):dc:=⟨b.name,b.params,b.rows.map bJ.up⟩
theorem d8.up_low(b:d8):b.up.low=b:=by
 have:(b.rows.map bJ.up).map gG.low=b.rows:=by
  rw[dN]
  exact(iR λr _=>bJ.up_low r).trans (uq _)
 show(⟨b.name,b.params,(b.rows.map bJ.up).map gG.low⟩:d8)=b
 rw[this]
theorem NJ(r:bJ):rD r.up=jF r:=by cases r<;>rfl
theorem FE{bs:List d8}{k:Nat}{b:d8}(nd:(bs.map (·.name)).Nodup)(e:bs[k]?=some b):b.name∉(bs.take k).map (·.name):=λz=>by
 obtain⟨b',hb',en⟩:=cB.mp z
 obtain⟨j,hj,ej⟩:=cF.mp hb'
 rw[aY] at hj
 have lt:j<k:=by lia
 rw[List.getElem_take] at ej
 have e1:(bs.map (·.name))[j]?=some b.name:=by rw[aO,ao (by lia),ej];exact congrArg some en
 have e2:(bs.map (·.name))[k]?=some b.name:=by rw[aO,e];rfl
 have lk:=(ar.mp e2).1
 have lj:=(ar.mp e1).1
 have:=(List.getElem?_inj lj nd).mp (e1.trans e2.symm)
 lia
theorem Me(bs:List d8):jN (bs.map d8.up)=bs.map (·.params.length):=by
 show(bs.map d8.up).map _=_
 rw[dN];rfl
theorem CP{ys:List Str}{cs:List Nat}{bs:List d8}(ok:tO ys cs bs):vJ (bs.map d8.up):=λk b' e=>by
 rw[aO] at e
 obtain⟨b,hb,rfl⟩:=cG.mp e
 have bm:=aH hb
 have sh:=ok.sh.part b bm
 have pos:=sh.good.pos
 refine⟨?_,λm=>?_,λm rg=>?_,λm u=>?_⟩
 ·rintro(z|z)
  ·refine FE ok.nnd hb ?_
   have:((bs.map d8.up).take k).map (·.name)=(bs.take k).map (·.name):=by rw[<-gg,dN];rfl
   rw[this] at z;exact z
  ·exact z sh.pnd
 ·rintro(⟨z,_⟩|⟨r,er,z⟩)
  ·have:(b.rows.map bJ.up).length=0:=by rw[show b.rows.map bJ.up=[] from z];rfl
   rw[ai] at this;lia
  ·have er:(b.rows.map bJ.up)[m]?=some r:=er
   have ll:b.up.rows.length=b.rows.length:=ai ..
   rw[aO] at er
   obtain⟨r0,e0,rfl⟩:=cG.mp er
   have rm:=aH e0
   rw[ll,Me] at z
   rcases z with z|⟨z,y⟩
   ·cases r0 with
    |call x k as=>
     rcases(show((k:Nat):Int)<0\/_ from z) with w|w
     ·lia
     ·exact w (by rw[fQ];exact sh.calls x k as rm)
    |jump t=>
     have:=sh.gl _ rm t rfl
     rcases(show((t:Nat):Int)<0\/(b.rows.length:Int)<=(t:Nat) from z) with w|w<;>lia
    |test a t=>
     have:=sh.gl _ rm t rfl
     rcases(show((t:Nat):Int)<0\/(b.rows.length:Int)<=(t:Nat) from z) with w|w<;>lia
    |num x z'=>exact z
    |op x s a b=>exact z
    |say a=>exact z
    |give a=>exact z
   ·rw[NJ] at y
    have la:=sh.last
    rw[cx,show b.rows.length-1=m from by lia,e0] at la
    have:=Option.some.inj la
    rw[y] at this;cases this
 ·rw[d8.up_low] at rg
  obtain⟨⟨r0,e0,_⟩,_⟩:=id rg
  have lt:=(ar.mp e0).1
  obtain⟨r,er,jr⟩:=rg.jumps b.rows.length
  rw[sh.good.ring m lt r er] at jr;cases jr
 ·rw[d8.up_low] at u
  exact(ok.part b bm).clean m u
theorem Ed{ys:List Str}{cs:List Nat}{bs:List d8}(ok:tO ys cs bs):kJ (bs.map d8.up):=by
 refine⟨by rw[ai];have:=ok.few;lia,λb' hb'=>?_⟩
 obtain⟨b,hb,rfl⟩:=cB.mp hb'
 have sh:=ok.sh.part b hb
 refine⟨sh.p9,by show(b.rows.map bJ.up).length<64;rw[ai];exact sh.good.few,λr hr=>?_⟩
 obtain⟨r0,h0,rfl⟩:=cB.mp hr
 show(dP r0.up.low).length<=100
 rw[bJ.up_low];exact sh.rd r0 h0
theorem lP.up{H:Hp}{v:V}{b:d8}(h:lP H v b):lh H v b.up:=by
 obtain⟨p,q,r,rs,e,h1,h2,h3,h4⟩:=h
 refine⟨p,q,r,rs,e,h1,h2,h3,by rw[h4.len];exact(ai ..).symm,λi v r' ev er=>?_⟩
 have er:(b.rows.map bJ.up)[i]?=some r':=er
 rw[aO] at er
 obtain⟨r0,e0,rfl⟩:=cG.mp er
 exact(h4.at_ i v r0 ev e0).up
theorem N2{H:Hp}{pvs:List V}{bs:List d8}(h:cL (lP H) pvs bs):cL (lh H) pvs (bs.map d8.up):=by
 refine⟨by rw[h.len,ai],λi v b' ev eb=>?_⟩
 rw[aO] at eb
 obtain⟨b,e0,rfl⟩:=cG.mp eb
 exact(h.at_ i v b ev e0).up
theorem OE{K:Fg}{vs:List V}{H:Hp}{Q:VK}{E:XK}(h:sp_law K vs H Q E):L6 K {nx:=λ_ H'=>Q .non H',rt:=Q} (cU GJ vs) H:=by
 obtain⟨scr,ns,rfl,hscr,hns,q⟩:=h
 refine⟨_,rfl,(by show 3<=sizeLine;decide),λst hst=>?_⟩
 have S1:ke K (upd H st (.lst [.ref scr,.int 0,.int 0])) st 0:=⟨scr,ns,0,ag,hscr.mono (.of_same ((aS.refl H).new hst)),hns⟩
 show EI K _ [some (.ref scr),some (.ref st),none,none,none,none,none] (upd H st (.lst [.ref scr,.int 0,.int 0]))
 generalize upd H st (.lst [.ref scr,.int 0,.int 0])=H1 at S1 ⊢
 refine⟨_,rfl,st,3,0,rfl,S1,by decide,by decide,by decide,λd H2 d0 d1 S2 B2=>.inl ⟨_,_,rfl,rfl,?_⟩⟩
 show EH K _ [some (.ref scr),some (.ref st),some (.int (1+d)),none,none,none,none] H2
 refine⟨_,rfl,st,10,1,rfl,S2,by decide,by decide,by decide,λp pvs bs ys cs k3 H3 hp hA ok _ S3 l3 B3=>⟨_,rfl,?_⟩⟩
 have P3:fV H3 p (bs.map d8.up):=⟨pvs,hp,N2 hA⟩
 show EG K _ [some (.ref scr),some (.ref st),some (.int (1+d)),some (.ref p),some (.ref p),none,none] H3
 obtain⟨ys3,hst3⟩:=S3.lst
 refine⟨_,rfl,_,rfl,by lia,by lia,gH (λi σ' H'=>∃(p':Addr) (ps':List dc) (k':Nat) (o5:Option V),σ'=[some (.ref scr),some (.ref st),some (.int (1+d)),some (.ref p),some (.ref p'),o5,none]/\fV H' p' ps'/\kJ ps'/\0<ps'.length/\ke K H' st k'/\k'<=k3+30*i/\gB st H3 H')
  ⟨p,_,k3,_,rfl,P3,Ed ok,by rw[ai];exact ok.pos,S3,by lia,.refl _ _⟩ ?_ ?_⟩
 ·rintro i σ' H4 hi ⟨p',ps',k',o5,rfl,P4,wd4,pos4,S4,l4,B4⟩
  have hi:i<3:=by lia
  refine⟨_,rfl,_,rfl,st,p',k',ps',rfl,S4,by lia,P4,wd4,pos4,λp2 ps2 k2 H5 P5 wd5 ln5 S5 l5 B5=>?_⟩
  exact⟨p2,ps2,k2,_,rfl,P5,wd5,by lia,S5,by lia,B4.trans B5⟩
 ·rintro σ' H4 ⟨p',ps',k',o5,rfl,P4,wd4,pos4,S4,l4,B4⟩
  have hi:(1+d).toNat<=3:=by lia
  have G4:=P3.mono (.of_but B4 hst3)
  show EF K _ [some (.ref scr),some (.ref st),some (.int (1+d)),some (.ref p),some (.ref p'),o5,none] H4
  refine⟨_,rfl,p',ps',rfl,P4,wd4,λdq H5 t5 s5=>?_⟩
  show EE K _ [some (.ref scr),some (.ref st),some (.int (1+d)),some (.ref p),some (.ref p'),o5,some (.ref dq)] H5
  have t5':∀{H':Hp},aS H5 H'->vv H' dq ps':=λ{H'} s=>by
   obtain⟨i,j,w,t,e⟩:=t5
   exact⟨i,j,w,t,s _ _ e⟩
  refine⟨_,rfl,_,rfl,p',dq,ps',rfl,P4.mono (.of_same s5),wd4,t5,λH6 s6=>⟨_,rfl,iW ?_⟩⟩
  refine⟨_,rfl,1,rfl,(by show 3<=sizeLine;decide),λa ha=>?_⟩
  have s7:aS H6 (upd H6 a (.tup [.int (-1),.int 0,.str ""])):=(aS.refl H6).new ha
  have s47:=(s5.trans s6).trans s7
  refine⟨p,a,bs.map d8.up,rfl,G4.mono (.of_same s47),Ed ok,⟨_,_,_,.inl ⟨CP ok,rfl,rfl,rfl⟩,ag⟩,λH8 s8=>⟨_,rfl,iW ?_⟩⟩
  have s48:=s47.trans s8
  refine⟨_,rfl,_,rfl,p',dq,ps',rfl,P4.mono (.of_same s48),wd4,t5' ((s6.trans s7).trans s8),λH9 s9=>⟨_,rfl,iW ?_⟩⟩
  have s49:=s48.trans s9
  show ED K _ [some (.ref scr),some (.ref st),some (.int (1+d)),some (.ref p),some (.ref p'),o5,some (.ref dq)] H9
  refine⟨_,rfl,st,9,k',rfl,S4.same s49,by lia,by decide,by decide,λd1 H10 _ _ S10 _=>⟨_,rfl,st,99,k'+1,rfl,S10,by lia,by decide,by decide,λd2 H11 _ _ _ _=>?_⟩⟩
  exact⟨d1,d2,"unset",rfl,λH12=>q H12⟩
theorem Pl{K:Fg}{H:Hp}{l m:Addr}{a b c d d':V}{Q:VK}(hl:H l=some (.lst [a,b,c,d]))(hm:H m=some (.lst [a,b,c,d']))(ha:tH K H 4 a a true)(hb:tH K H 4 b b true)(hc:tH K H 4 c c true)(hd:tH K H 4 d d' true)(q:Q (.bl false) H):Ai K (.ref l) (.ref m) H Q:=by
 refine .inl ⟨l,m,_,_,rfl,rfl,.inl ⟨cA.of hl,cA.of hm⟩,.inr ⟨[true,true,true,true],rfl,rfl,λk x y e hx hy he=>?_,q⟩⟩
 match k with
 |0=>cases hx;cases hy;cases he;exact ha
 |1=>cases hx;cases hy;cases he;exact hb
 |2=>cases hx;cases hy;cases he;exact hc
 |3=>cases hx;cases hy;cases he;exact hd
 |k+4=>cases he
theorem Pz{K:Fg}{H:Hp}{l m:Addr}{a b c:V}{Q:VK}(hl:H l=some (.lst [a,b,c]))(hm:H m=some (.lst [a,b,c]))(ha:tH K H 4 a a true)(hb:tH K H 4 b b true)(hc:tH K H 4 c c true)(q:Q (.bl false) H):Ai K (.ref l) (.ref m) H Q:=by
 refine .inl ⟨l,m,_,_,rfl,rfl,.inl ⟨cA.of hl,cA.of hm⟩,.inr ⟨[true,true,true],rfl,rfl,λk x y e hx hy he=>?_,q⟩⟩
 match k with
 |0=>cases hx;cases hy;cases he;exact ha
 |1=>cases hx;cases hy;cases he;exact hb
 |2=>cases hx;cases hy;cases he;exact hc
 |k+3=>cases he
theorem N7{K:Fg}{H:Hp}{d:Nat}(i:Int):tH K H d (.int i) (.int i) true:=by
 have:=tH.flat (K:=K) (H:=H) (d:=d) (x:=V.int i) (y:=V.int i) rfl rfl
 simpa[AB] using this
theorem OX{K:Fg}{H:Hp}{d:Nat}(w:Str):tH K H d (.str w) (.str w) true:=by
 have:=tH.flat (K:=K) (H:=H) (d:=d) (x:=V.str w) (y:=V.str w) rfl rfl
 simpa[AB] using this
theorem OW{K:Fg}{H:Hp}{d:Nat}(b:Bool):tH K H d (.bl b) (.bl b) true:=by
 have:=tH.flat (K:=K) (H:=H) (d:=d) (x:=V.bl b) (y:=V.bl b) rfl rfl
 cases b<;>simpa[AB] using this
theorem Ak{K:Fg}(T:rB K){vs:List V}{H:Hp}{Q:VK}{E:XK}(h:gs K vs H Q E):sQ K {nx:=λ_ H'=>Q .non H',rt:=Q} (cU kZ vs) H:=by
 obtain⟨k,n,w,rfl,q⟩:=h
 refine⟨_,rfl,_,rfl,_,rfl,λx1 hx1=>⟨x1,_,_,_,rfl,ag,λd1 H1 hd1 ne1 g1 gd1 B1=>⟨rfl,?_⟩⟩⟩
 refine⟨_,rfl,λx2 hx2=>⟨x2,_,rfl,ag,λd2 H2 hd2 ne2 g2 gd2 B2=>⟨rfl,?_⟩⟩⟩
 have s12:aS H1 H2:=(aS.refl H1).through hx2 B2
 refine⟨_,rfl,_,rfl,_,rfl,_,rfl,(by show 1<=sizeLine;decide),λt ht=>λx3 hx3=>⟨x3,_,_,_,_,rfl,ag,λd3 H3 hd3 ne3' g3 gd3 B3=>⟨rfl,(by show 3<=sizeLine;decide),λl hl=>?_⟩⟩⟩
 have s2t:aS H2 (upd H2 t (.tup [.str w])):=(aS.refl H2).new ht
 have ht2:upd H2 t (.tup [.str w]) t=some (.tup [.str w]):=ag
 have s23:aS (upd H2 t (.tup [.str w])) H3:=(aS.refl _).through hx3 B3
 have s34:aS H3 (upd H3 l (.lst [.ref x1,.ref x2,.ref x3])):=(aS.refl H3).new hl
 have hl4:upd H3 l (.lst [.ref x1,.ref x2,.ref x3]) l=some (.lst [.ref x1,.ref x2,.ref x3]):=ag
 have S24:=(s2t.trans s23).trans s34
 have S14:=s12.trans S24
 have G1:=S14 _ _ g1
 have D1:=S14 _ _ gd1
 have G2:=S24 _ _ g2
 have D2:=S24 _ _ gd2
 have G3:=s34 _ _ g3
 have D3:=s34 _ _ gd3
 have Ht:=(s23.trans s34) _ _ ht2
 show pW K _ [some (.int k),some (.int n),some (.str w),some (.ref l),none] (upd H3 l (.lst [.ref x1,.ref x2,.ref x3]))
 generalize upd H3 l (.lst [.ref x1,.ref x2,.ref x3])=H4 at hl4 G1 D1 G2 D2 G3 D3 Ht ⊢
 clear S14 S24 s34 s23 s2t s12
 refine⟨_,rfl,kz (cA.of hl4) (by decide) rfl ⟨x1,_,d1,_,_,rfl,.inl G1,D1,T.clN,T.nNp,rfl,?_⟩⟩
 refine⟨_,rfl,kz (cA.of hl4) (by decide) rfl ⟨x1,_,d1,_,_,rfl,.inl G1,D1,T.clN,T.nNr,rfl,?_⟩⟩
 refine⟨_,rfl,kz (cA.of hl4) (by decide) rfl ⟨x1,_,d1,_,_,rfl,.inl G1,D1,T.clN,T.nNw,rfl,?_⟩⟩
 refine⟨_,rfl,kz (cA.of hl4) (by decide) rfl ⟨x2,_,d2,_,_,rfl,.inl G2,D2,T.clL,T.nLl,rfl,(by show 4<=sizeLine;decide),λla hla=>?_⟩⟩
 refine⟨_,rfl,_,rfl,_,rfl,_,rfl,(by show 4<=sizeLine;decide),λlb hlb=>?_⟩
 have s5:aS H4 (upd (upd H4 la (.lst [.int k,.int n,.str w,.int n])) lb (.lst [.int k,.int n,.str w,.int n])):=((aS.refl H4).new hla).new hlb
 refine Pl (by rw[aB (au ag hlb)];exact ag) ag (N7 k) (N7 n) (OX w) (N7 n) ⟨_,rfl,iW ?_⟩
 show pV K _ [some (.int k),some (.int n),some (.str w),some (.ref l),none] _
 generalize upd (upd H4 la (.lst [.int k,.int n,.str w,.int n])) lb (.lst [.int k,.int n,.str w,.int n])=H5 at s5 ⊢
 refine⟨_,rfl,kz (cA.of (s5 _ _ hl4)) (by decide) rfl ⟨x3,_,d3,_,_,rfl,.inl (s5 _ _ G3),s5 _ _ D3,T.clS,T.nSp,rfl,?_⟩⟩
 refine⟨_,rfl,kz (cA.of (s5 _ _ hl4)) (by decide) rfl ⟨x3,_,d3,_,_,rfl,.inl (s5 _ _ G3),s5 _ _ D3,T.clS,T.nSr,rfl,?_⟩⟩
 refine⟨_,rfl,kz (cA.of (s5 _ _ hl4)) (by decide) rfl ⟨x3,_,d3,_,_,rfl,.inl (s5 _ _ G3),s5 _ _ D3,T.clS,T.nSw,rfl,?_⟩⟩
 refine⟨_,rfl,kz (cA.of (s5 _ _ hl4)) (by decide) rfl ⟨x3,_,d3,_,_,rfl,.inl (s5 _ _ G3),s5 _ _ D3,T.clS,T.nSn,rfl,(by show 4<=sizeLine;decide),λla hla=>?_⟩⟩
 refine⟨_,rfl,_,rfl,_,rfl,_,rfl,(by show 1<=sizeLine;decide),λt2 ht2'=>⟨(by show 4<=sizeLine;decide),λlb hlb=>?_⟩⟩
 have Ht5:upd H5 la (.lst [.int k,.int n,.str w,.ref t]) t=some (.tup [.str w]):=by rw[aB (au (s5 _ _ Ht) hla)];exact s5 _ _ Ht
 have ntt:t≠t2:=au Ht5 ht2'
 have Ht6:upd (upd H5 la (.lst [.int k,.int n,.str w,.ref t])) t2 (.tup [.str w]) t=some (.tup [.str w]):=by rw[aB ntt];exact Ht5
 have h26:upd (upd H5 la (.lst [.int k,.int n,.str w,.ref t])) t2 (.tup [.str w]) t2=some (.tup [.str w]):=ag
 have hla6:upd (upd H5 la (.lst [.int k,.int n,.str w,.ref t])) t2 (.tup [.str w]) la=some (.lst [.int k,.int n,.str w,.ref t]):=by rw[aB (au ag ht2')];exact ag
 have s6:aS H5 (upd (upd (upd H5 la (.lst [.int k,.int n,.str w,.ref t])) t2 (.tup [.str w])) lb (.lst [.int k,.int n,.str w,.ref t2])):=(((aS.refl H5).new hla).new ht2').new hlb
 refine Pl (by rw[aB (au hla6 hlb)];exact hla6) ag (N7 k) (N7 n) (OX w) ?_ ⟨_,rfl,iW ?_⟩
 ·have:=tH.tups (K:=K) (H:=upd (upd (upd H5 la (.lst [.int k,.int n,.str w,.ref t])) t2 (.tup [.str w])) lb (.lst [.int k,.int n,.str w,.ref t2])) (d:=3) (es:=[true]) ntt (cY.of (by rw[aB (au Ht6 hlb)];exact Ht6)) (cY.of (by rw[aB (au h26 hlb)];exact h26)) rfl rfl (λj x y e hx hy he=>by
   match j with
   |0=>cases hx;cases hy;cases he;exact OX w
   |j+1=>cases he)
  exact this
 show pU K _ [some (.int k),some (.int n),some (.str w),some (.ref l),none] _
 generalize upd (upd (upd H5 la (.lst [.int k,.int n,.str w,.ref t])) t2 (.tup [.str w])) lb (.lst [.int k,.int n,.str w,.ref t2])=H6 at s6 ⊢
 have s46:=s5.trans s6
 refine⟨_,rfl,by decide,by decide,gH (λi σ' H'=>∃o0 o4,σ'=[o0,some (.int n),some (.str w),some (.ref l),o4]/\aS H4 H') ⟨_,_,rfl,s46⟩ ?_ λσ' H' _=>q H'⟩
 rintro i σ' H7 hi ⟨o0,o4,rfl,s7⟩
 have hi:i<3:=hi
 show pT K _ [some (.int (0+(i:Int))),some (.int n),some (.str w),some (.ref l),o4] H7
 rw[fR]
 have turn:∀(x d:Addr) (C:Addr) (fs:List (Str×V)) (b0 b1 b2:Bool),H4 x=some (XF x C (some d))->H4 d=some (XD d fs)->tG K C->Cz K C->lQ K C (bA K "BeltError") true->lQ K C (bA K "NoProgram") b0->lQ K C (bA K "NoLine") b1->lQ K C (bA K "Short") b2->
   b0=decide (V.int (0:Nat)=V.int (i:Nat))->b1=decide (V.int (1:Nat)=V.int (i:Nat))->b2=decide (V.int (2:Nat)=V.int (i:Nat))->∀D:oZ,(∀H',aS H4 H'->D.nx [some (.int (i:Nat)),some (.int n),some (.str w),some (.ref l),some (.ref x)] H')->pS K D [some (.int (i:Nat)),some (.int n),some (.str w),some (.ref l),some (.ref x)] H7:=by
  intro x d C fs b0 b1 b2 gx0 gd0 cl wy iB i0 i1 i2 hb0 hb1 hb2 D nx
  have gx:=s7 _ _ gx0
  have gd:=s7 _ _ gd0
  refine⟨_,rfl,x,_,d,_,rfl,.inl gx,⟨_,gd⟩,cl,wy,.inr (.inl ⟨_,_,rfl,iB,⟨_,rfl,iW ?_⟩⟩)⟩
  refine⟨_,rfl,x,_,d,_,rfl,.inl gx,⟨_,gd⟩,cl,wy,.inl ⟨rfl,⟨_,rfl,iW ?_⟩⟩⟩
  show pR K D [some (.int (i:Nat)),some (.int n),some (.str w),some (.ref l),some (.ref x)] H7
  refine⟨_,rfl,x,_,d,_,rfl,.inl gx,⟨_,gd⟩,cl,wy,.inr (.inl ⟨_,_,rfl,i0,?_⟩)⟩
  refine⟨_,rfl,x,_,d,_,rfl,.inl gx,⟨_,gd⟩,cl,wy,.inr (.inl ⟨_,_,rfl,i1,?_⟩)⟩
  refine⟨_,rfl,x,_,d,_,rfl,.inl gx,⟨_,gd⟩,cl,wy,.inr (.inl ⟨_,_,rfl,i2,(by show 3<=sizeLine;decide),λla hla=>⟨_,rfl,by decide,by decide,λD' hD'=>?_⟩⟩)⟩
  have s8:aS H7 (upd H7 la (.lst [.bl b0,.bl b1,.bl b2])):=(aS.refl H7).new hla
  have hla8:upd H7 la (.lst [.bl b0,.bl b1,.bl b2]) la=some (.lst [.bl b0,.bl b1,.bl b2]):=ag
  generalize upd H7 la (.lst [.bl b0,.bl b1,.bl b2])=H8 at s8 hla8 hD' ⊢
  refine lR (λj σ' H'=>∃o,σ'=[some (.int (i:Nat)),some (.int n),some (.str w),some (.ref l),some (.ref x),o]/\H'=upd H8 D' (.lst ((cw j).map λm=>V.bl (decide (V.int (m:Nat)=V.int (i:Nat)))))) ⟨none,rfl,rfl⟩ ?_ ?_
  ·rintro j σ' H' hj ⟨o,rfl,rfl⟩
   have hj:j<3:=hj
   rw[fR]
   refine kf ⟨_,rfl,_,rfl,.inr (.inr (.inl ⟨rfl,_,ag,dW (by rw[ai,dF];lia),_,rfl,?_⟩))⟩
   rw[lC,fP,bg];rfl
  ·rintro σ' H' ⟨o,_,rfl⟩
   have e:((cw (3:Int).toNat).map λm=>V.bl (decide (V.int (m:Nat)=V.int (i:Nat))))=[V.bl b0,V.bl b1,V.bl b2]:=by rw[hb0,hb1,hb2];rfl
   rw[e]
   refine Pz (by rw[aB (au hla8 hD')];exact hla8) ag (OW b0) (OW b1) (OW b2) ⟨_,rfl,iW (nx _ ((s7.trans s8).new hD'))⟩
 have three:i=0\/i=1\/i=2:=by lia
 rcases three with rfl|rfl|rfl
 ·refine⟨_,rfl,_,rfl,kz (cA.of (s7 _ _ hl4)) (by decide) rfl ?_⟩
  exact turn x1 d1 _ _ true false false G1 D1 T.clN T.wyN T.iNB T.iNN T.iNL T.iNS (by decide) (by decide) (by decide) _ λH' s=>⟨_,_,rfl,s⟩
 ·refine⟨_,rfl,_,rfl,kz (cA.of (s7 _ _ hl4)) (by decide) rfl ?_⟩
  exact turn x2 d2 _ _ false true false G2 D2 T.clL T.wyL T.iLB T.iLN T.iLL T.iLS (by decide) (by decide) (by decide) _ λH' s=>⟨_,_,rfl,s⟩
 ·refine⟨_,rfl,_,rfl,kz (cA.of (s7 _ _ hl4)) (by decide) rfl ?_⟩
  exact turn x3 d3 _ _ false false true G3 D3 T.clS T.wyS T.iSB T.iSN T.iSL T.iSS (by decide) (by decide) (by decide) _ λH' s=>⟨_,_,rfl,s⟩
structure SW(K:Fg)(st sl:Addr)(H0:Hp)(L:Nat)(H':Hp)(rvs:List V)(ws:List gG)(k':Nat):Prop where
 at_:H' sl=some (.lst rvs)
 all:cL (eS H') rvs ws
 len:ws.length=L
 rd:∀r∈ws,(ue r).length<=100
 S:ke K H' st k'
 but:gB st H0 H'
section
variable{K:Fg}{st sl:Addr}{H0 H':Hp}{L k':Nat}{rvs:List V}{ws:List gG}
theorem SW.vlen(m:SW K st sl H0 L H' rvs ws k'):rvs.length=L:=m.all.len.trans m.len
theorem SW.new(m:SW K st sl H0 L H' rvs ws k'){t:Addr}{o:HO}(ht:H' t=none):SW K st sl H0 L (upd H' t o) rvs ws k':=
 ⟨by rw[aB (au m.at_ ht)];exact m.at_,m.all.imp λ_ _ z=>z.mono ((Tp.refl H').new ht),m.len,m.rd,m.S.new ht,m.but.new ht⟩
theorem SW.drawn(m:SW K st sl H0 L H' rvs ws k'){H2:Hp}{k2:Nat}(ne:sl≠st)(S:ke K H2 st k2)(B:gB st H' H2):SW K st sl H0 L H2 rvs ws k2:=by
 obtain⟨ys,hst⟩:=m.S.lst
 exact⟨B _ _ ne m.at_,m.all.imp λ_ _ z=>z.mono (.of_but B hst),m.len,m.rd,S,m.but.trans B⟩
theorem SW.set(m:SW K st sl H0 L H' rvs ws k')(ne:sl≠st)(n0:H0 sl=none)(j:Nat){v:V}{r:gG}(q:eS H' v r)(hr:(ue r).length<=100):SW K st sl H0 L (upd H' sl (.lst (rvs.set j v))) (rvs.set j v) (ws.set j r) k':=by
 have t:Tp H' (upd H' sl (.lst (rvs.set j v))):=(Tp.refl H').lst m.at_
 refine⟨ag,(m.all.set q).imp λ_ _ z=>z.mono t,by rw[dC];exact m.len,λr' hr'=>?_,m.S.mono .upd_at m.at_ ne.symm,λb o nb e=>?_⟩
 ·rcases iO hr' with z|z
  ·exact m.rd r' z
  ·rw[z];exact hr
 ·rw[aB (au e n0)];exact m.but b o nb e
end
theorem OZ{a b c:Int}{i:Nat}(h:i<3):∃z,([V.int a,.int b,.int c])[i]?=some (.int z):=
 match i,h with
 |0,_=>⟨a,rfl⟩
 |1,_=>⟨b,rfl⟩
 |2,_=>⟨c,rfl⟩
theorem O0{a b c d e:Int}{i:Nat}(h:i<5):∃z,([V.int a,.int b,.int c,.int d,.int e])[i]?=some (.int z):=
 match i,h with
 |0,_=>⟨a,rfl⟩
 |1,_=>⟨b,rfl⟩
 |2,_=>⟨c,rfl⟩
 |3,_=>⟨d,rfl⟩
 |4,_=>⟨e,rfl⟩
theorem OY{a b:Int}{i:Nat}(h:i<2):∃z,([V.int a,.int b])[i]?=some (.int z)/\(z=a\/z=b):=
 match i,h with
 |0,_=>⟨a,rfl,.inl rfl⟩
 |1,_=>⟨b,rfl,.inr rfl⟩
theorem JV(c:Nat):(bh c [V.str "zz"]).flatten=(bh c ("zz":Str)).map V.str:=by
 induction c with
 |zero=>rfl
 |succ c ih=>rw[di,fS,ih,di,ba];rfl
theorem An{K:Fg}{vs:List V}{H:Hp}{Q:VK}{E:XK}(h:eP K vs H Q E):tE K {nx:=λ_ H'=>Q .non H',rt:=Q} (cU n5 vs) H:=by
 obtain⟨st,p,rt,k,pvs,rvs,ws,rfl,S,hk,hp,pp,pl,hrt,hR,wpos,wfew,wrd,q⟩:=h
 have rl:=hR.len
 obtain⟨ys0,hst⟩:=S.lst
 refine⟨_,rfl,_,rfl,_,_,rfl,.inr ⟨_,cY.of hrt,rfl⟩,st,_,k,rfl,S,by lia,by lia,by lia,λn H1 n0 n1 S1 B1=>?_⟩
 have T1:=Tp.of_but B1 hst
 show oX K _ [some (.ref st),some (.ref p),some (.ref rt),some (.int n),none,none,none,none,none,none] H1
 refine⟨_,rfl,_,rfl,_,_,rfl,.inr ⟨_,cY.of (T1 _ _ hrt),rfl⟩,st,_,k+1,rfl,S1,by lia,by lia,by lia,λm H2 m0 m1 S2 B2'=>?_⟩
 have B2:gB st H H2:=B1.trans B2'
 have T2:=Tp.of_but B2 hst
 show qi K _ [some (.ref st),some (.ref p),some (.ref rt),some (.int n),some (.int m),none,none,none,none,none] H2
 refine⟨_,rfl,st,6,k+2,rfl,S2,by lia,by decide,by decide,λso H3 so0 so1 S3 B3'=>?_⟩
 have B3:gB st H H3:=B2.trans B3'
 have T3:=Tp.of_but B3 hst
 show qh K _ [some (.ref st),some (.ref p),some (.ref rt),some (.int n),some (.int m),some (.int so),none,none,none,none] H3
 refine⟨1,rfl,2,rfl,_,rfl,_,_,rfl,.inr ⟨_,cY.of (T3 _ _ hrt),rfl⟩,_,rfl,_,_,rfl,.inr ⟨_,cY.of (T3 _ _ hrt),rfl⟩,.inl ⟨_,_,rfl,rfl,_,rfl,(by show 5<=sizeLine;decide),λla hla=>?_⟩⟩
 have nla:la≠st:=λz=>by obtain⟨ys3,e3⟩:=S3.lst;rw[z,e3] at hla;cases hla
 refine⟨_,rfl,st,5,k+3,rfl,S3.new hla,by lia,by decide,by decide,λe H4 e0 e1 S4 B4'=>?_⟩
 have hla4:H4 la=some (.lst [.int (-1),.int (-2),.int (rvs.length:Nat),.int ((rvs.length:Nat)+1),.int m]):=B4' _ _ nla ag
 have B4:gB st H H4:=(B3.new hla).trans B4'
 have T4:=Tp.of_but B4 hst
 obtain⟨z,hz⟩:=O0 (a:=-1) (b:=-2) (c:=(rvs.length:Nat)) (d:=(rvs.length:Nat)+1) (e:=m) (i:=e.toNat) (by lia)
 refine kz (cA.of hla4) e0 hz ?_
 show qg K _ [some (.ref st),some (.ref p),some (.ref rt),some (.int n),some (.int m),some (.int so),some (.int z),none,none,none] H4
 refine⟨_,rfl,rt,_,rfl,.inr (cY.of (T4 _ _ hrt)),λsl hsl=>?_⟩
 have nsl:sl≠st:=λy=>by obtain⟨ys4,e4⟩:=S4.lst;rw[y,e4] at hsl;cases hsl
 have sl0:H sl=none:=B4.free nsl hsl
 have M0:SW K st sl H ws.length (upd H4 sl (.lst rvs)) rvs ws (k+4):=⟨ag,hR.imp λ_ _ y=>y.mono (T4.new hsl),rfl,wrd,S4.new hsl,B4.new hsl⟩
 show qf K _ [some (.ref st),some (.ref p),some (.ref rt),some (.int n),some (.int m),some (.int so),some (.int z),some (.ref sl),none,none] (upd H4 sl (.lst rvs))
 generalize upd H4 sl (.lst rvs)=H5 at M0 ⊢
 have T5:Tp H H5:=.of_but M0.but hst
 have nN:n.toNat<ws.length:=by lia
 have mN:m.toNat<ws.length:=by lia
 have fin:∀{H':Hp} {rvs':List V} {ws':List gG} {k':Nat} (o8 o9:Option V),SW K st sl H ws.length H' rvs' ws' k'->k'<=k+20->qc K {nx:=λ_ H'=>Q .non H',rt:=Q} [some (.ref st),some (.ref p),some (.ref rt),some (.int n),some (.int m),some (.int so),some (.int z),some (.ref sl),o8,o9] H':=λ{H' rvs' ws' k'} o8 o9 M hk'=>by
  refine⟨_,rfl,sl,_,rfl,.inl ⟨cA.of M.at_,λt ht=>?_⟩⟩
  have M2:=M.new (o:=.tup rvs') ht
  exact q t rvs' ws' k' _ ag M2.all M2.len M2.rd M2.S hk' M2.but
 refine⟨_,rfl,.inl ⟨rfl,_,rfl,bZ (λ_=>?_) λ_=>?_⟩⟩
 ·refine⟨_,rfl,(by show 2<=sizeLine;decide),λt ht=>?_⟩
  have M1:=M0.new (o:=.tup [.str "jump",.int z]) ht
  refine⟨_,rfl,_,rfl,ph M1.at_ n0 (by rw[M1.vlen];exact nN) ?_⟩
  exact fin _ _ (M1.set nsl sl0 n.toNat (r:=.jump z) ⟨t,rfl,ag⟩ (by show 0<=100;decide)) (by lia)
 refine⟨_,rfl,.inl ⟨rfl,_,rfl,bZ (λ_=>?_) λ_=>?_⟩⟩
 ·refine⟨_,rfl,(by show 3<=sizeLine;decide),λt ht=>?_⟩
  have M1:=M0.new (o:=.tup [.str "test",.str "zz",.int z]) ht
  refine⟨_,rfl,_,rfl,ph M1.at_ n0 (by rw[M1.vlen];exact nN) ?_⟩
  exact fin _ _ (M1.set nsl sl0 n.toNat (r:=.test "zz" z) ⟨t,rfl,ag⟩ (by show 1<=100;decide)) (by lia)
 refine⟨_,rfl,.inl ⟨rfl,_,rfl,bZ (λ_=>?_) λ_=>?_⟩⟩
 ·refine⟨1,rfl,_,rfl,_,_,rfl,.inr ⟨_,cY.of (T5 _ _ hp),rfl⟩,_,rfl,_,rfl,_,_,rfl,.inr ⟨_,cY.of (T5 _ _ hp),rfl⟩,st,_,k+4,rfl,M0.S,by lia,by lia,by lia,λd H6 d0 d1 S6 B6=>?_⟩
  have M6:=M0.drawn nsl S6 B6
  refine⟨(by show 3<=sizeLine;decide),λlb hlb=>?_⟩
  have nlb:lb≠st:=λy=>by obtain⟨ys4,e4⟩:=S6.lst;rw[y,e4] at hlb;cases hlb
  have M7:=M6.new (o:=.lst [.int (-1),.int (pvs.length:Nat),.int d]) hlb
  refine⟨_,rfl,st,3,k+5,rfl,M7.S,by lia,by decide,by decide,λf H8 f0 f1 S8 B8=>?_⟩
  have M8:=M7.drawn nsl S8 B8
  have hlb8:H8 lb=some (.lst [.int (-1),.int (pvs.length:Nat),.int d]):=B8 _ _ nlb ag
  obtain⟨kk,hkk⟩:=OZ (a:=-1) (b:=(pvs.length:Nat)) (c:=d) (i:=f.toNat) (by lia)
  refine kz (cA.of hlb8) f0 hkk ?_
  show qd K _ [some (.ref st),some (.ref p),some (.ref rt),some (.int n),some (.int m),some (.int so),some (.int z),some (.ref sl),some (.int kk),none] H8
  refine⟨_,rfl,(by show 1<=sizeLine;decide),λp1 hp1=>?_⟩
  have M9:=M8.new (o:=.tup [.str "zz"]) hp1
  have np1:p1≠st:=λy=>by obtain⟨ys4,e4⟩:=S8.lst;rw[y,e4] at hp1;cases hp1
  refine⟨_,rfl,st,6,k+6,rfl,M9.S,by lia,by decide,by decide,λg H10 g0 g1 S10 B10=>?_⟩
  have M10:=M9.drawn nsl S10 B10
  have hp10:H10 p1=some (.tup [.str "zz"]):=B10 _ _ np1 ag
  obtain⟨c,rfl⟩:∃c:Nat,g=(c:Int):=⟨g.toNat,by lia⟩
  have c5:1*c<=sizeLine:=cq (by lia) (show 100<=sizeLine by decide)
  refine .inr ⟨p1,c,[V.str "zz"],rfl,rfl,cY.of hp10,by simp,c5,λh1=>⟨(by show 4<=sizeLine;decide),λt ht=>?_⟩,λhne p2 hp2=>⟨(by show 4<=sizeLine;decide),λt ht=>?_⟩⟩
  ·have M11:=M10.new (o:=.tup [.str "call",.str "zz",.int kk,.ref p1]) ht
   refine⟨_,rfl,_,rfl,ph M11.at_ n0 (by rw[M11.vlen];exact nN) ?_⟩
   refine fin _ _ (M11.set nsl sl0 n.toNat (r:=.call "zz" kk ["zz"]) ⟨t,p1,rfl,ag,by rw[aB (au hp10 ht)];exact hp10⟩ (by show 1<=100;decide)) (by lia)
  ·have M11:=(M10.new (o:=.tup ((bh c [V.str "zz"]).flatten)) hp2).new (o:=.tup [.str "call",.str "zz",.int kk,.ref p2]) ht
   refine⟨_,rfl,_,rfl,ph M11.at_ n0 (by rw[M11.vlen];exact nN) ?_⟩
   refine fin _ _ (M11.set nsl sl0 n.toNat (r:=.call "zz" kk (bh c "zz")) ⟨t,p2,rfl,ag,by rw[aB (au ag ht),ag,JV]⟩ (by show(bh c ("zz":Str)).length<=100;rw[cv];lia)) (by lia)
 refine⟨_,rfl,.inl ⟨rfl,_,rfl,bZ (λ_=>?_) λ_=>?_⟩⟩
 ·refine⟨(by show 3<=sizeLine;decide),λt1 ht1=>⟨(by show 2<=sizeLine;decide),λt2 ht2=>⟨(by show 2<=sizeLine;decide),λt3 ht3=>⟨(by show 3<=sizeLine;decide),λlb hlb=>?_⟩⟩⟩⟩
  have M1:=M0.new (o:=.tup [.str "num",.str "zz",.int 5]) ht1
  have M2:=M1.new (o:=.tup [.str "say",.str "zz"]) ht2
  have M3:=M2.new (o:=.tup [.str "give",.str "zz"]) ht3
  have M4:=M3.new (o:=.lst [.ref t1,.ref t2,.ref t3]) hlb
  have nlb:lb≠st:=λy=>by obtain⟨ys4,e4⟩:=M3.S.lst;rw[y,e4] at hlb;cases hlb
  have r1:eS _ (.ref t1) (.num "zz" 5):=(show eS (upd H5 t1 (.tup [.str "num",.str "zz",.int 5])) (.ref t1) (.num "zz" 5) from⟨t1,rfl,ag⟩).mono ((((Tp.refl _).new (o:=.tup [.str "say",.str "zz"]) ht2).new (o:=.tup [.str "give",.str "zz"]) ht3).new (o:=.lst [.ref t1,.ref t2,.ref t3]) hlb)
  have r2:eS _ (.ref t2) (.say "zz"):=(show eS (upd (upd H5 t1 (.tup [.str "num",.str "zz",.int 5])) t2 (.tup [.str "say",.str "zz"])) (.ref t2) (.say "zz") from⟨t2,rfl,ag⟩).mono (((Tp.refl _).new (o:=.tup [.str "give",.str "zz"]) ht3).new (o:=.lst [.ref t1,.ref t2,.ref t3]) hlb)
  have r3:eS _ (.ref t3) (.give "zz"):=(show eS (upd (upd (upd H5 t1 (.tup [.str "num",.str "zz",.int 5])) t2 (.tup [.str "say",.str "zz"])) t3 (.tup [.str "give",.str "zz"])) (.ref t3) (.give "zz") from⟨t3,rfl,ag⟩).mono ((Tp.refl _).new (o:=.lst [.ref t1,.ref t2,.ref t3]) hlb)
  refine⟨_,rfl,st,3,k+4,rfl,M4.S,by lia,by decide,by decide,λf H8 f0 f1 S8 B8=>?_⟩
  have M8:=M4.drawn nsl S8 B8
  have hlb8:H8 lb=some (.lst [.ref t1,.ref t2,.ref t3]):=B8 _ _ nlb ag
  obtain⟨ys4,e4⟩:=M4.S.lst
  have T8:=Tp.of_but B8 e4
  have T08:Tp H H8:=.of_but M8.but hst
  have row:∃v r,([V.ref t1,.ref t2,.ref t3])[f.toNat]?=some v/\eS H8 v r/\(ue r).length<=100:=by
   have c3:f.toNat=0\/f.toNat=1\/f.toNat=2:=by lia
   rcases c3 with y|y|y<;>rw[y]
   ·exact⟨_,_,rfl,r1.mono T8,by show 0<=100;decide⟩
   ·exact⟨_,_,rfl,r2.mono T8,by show 1<=100;decide⟩
   ·exact⟨_,_,rfl,r3.mono T8,by show 1<=100;decide⟩
  obtain⟨v,r,ev,rv,rr⟩:=row
  refine kz (cA.of hlb8) f0 ev ⟨_,rfl,_,rfl,_,_,rfl,.inr ⟨_,cY.of (T08 _ _ hrt),rfl⟩,_,_,rfl,rfl,ph M8.at_ (by lia) (by rw[M8.vlen];lia) ?_⟩
  exact fin _ _ (M8.set nsl sl0 _ rv rr) (by lia)
 refine⟨_,rfl,.inl ⟨rfl,_,rfl,bZ (λ_=>?_) λ_=>?_⟩⟩
 ·refine⟨_,rfl,_,rfl,_,rfl,_,_,rfl,.inr ⟨_,cY.of (T5 _ _ hrt),rfl⟩,st,_,k+4,rfl,M0.S,by lia,by lia,by lia,λd H6 d0 d1 S6 B6=>?_⟩
  have M6:=M0.drawn nsl S6 B6
  refine⟨(by show 2<=sizeLine;decide),λlb hlb=>?_⟩
  have nlb:lb≠st:=λy=>by obtain⟨ys4,e4⟩:=S6.lst;rw[y,e4] at hlb;cases hlb
  have M7:=M6.new (o:=.lst [.int n,.int d]) hlb
  refine⟨_,rfl,st,2,k+5,rfl,M7.S,by lia,by decide,by decide,λf H8 f0 f1 S8 B8=>?_⟩
  have M8:=M7.drawn nsl S8 B8
  have hlb8:H8 lb=some (.lst [.int n,.int d]):=B8 _ _ nlb ag
  obtain⟨pz,hpz,opz⟩:=OY (a:=n) (b:=d) (i:=f.toNat) (by lia)
  have pz0:0<=pz:=by rcases opz with y|y<;>lia
  have pz1:pz.toNat<ws.length:=by rcases opz with y|y<;>lia
  refine kz (cA.of hlb8) f0 hpz ?_
  show qe K _ [some (.ref st),some (.ref p),some (.ref rt),some (.int n),some (.int m),some (.int so),some (.int z),some (.ref sl),none,some (.int pz)] H8
  refine⟨_,rfl,(by show 2<=sizeLine;decide),λt1 ht1=>?_⟩
  have M9:=M8.new (o:=.tup [.str "jump",.int m]) ht1
  refine⟨_,rfl,_,rfl,ph M9.at_ n0 (by rw[M9.vlen];exact nN) ?_⟩
  have M10:=M9.set nsl sl0 n.toNat (r:=.jump m) ⟨t1,rfl,ag⟩ (by show 0<=100;decide)
  refine⟨_,rfl,(by show 2<=sizeLine;decide),λt2 ht2=>?_⟩
  have M11:=M10.new (o:=.tup [.str "jump",.int pz]) ht2
  refine⟨_,rfl,_,rfl,ph M11.at_ m0 (by rw[M11.vlen];exact mN) ?_⟩
  have M12:=M11.set nsl sl0 m.toNat (r:=.jump pz) ⟨t2,rfl,ag⟩ (by show 0<=100;decide)
  refine⟨_,rfl,_,rfl,.inl ⟨rfl,_,rfl,jE (λ_=>?_) λ_=>fin _ _ M12 (by lia)⟩⟩
  refine⟨_,rfl,(by show 2<=sizeLine;decide),λt3 ht3=>?_⟩
  have M13:=M12.new (o:=.tup [.str "jump",.int n]) ht3
  refine⟨_,rfl,_,rfl,ph M13.at_ pz0 (by rw[M13.vlen];exact pz1) ?_⟩
  exact fin _ _ (M13.set nsl sl0 pz.toNat (r:=.jump n) ⟨t3,rfl,ag⟩ (by show 0<=100;decide)) (by lia)
 ·refine⟨(by show 5<=sizeLine;decide),λt ht=>?_⟩
  have M1:=M0.new (o:=.tup [.str "op",.str "zz",.str "+",.str "zz",.str "zy"]) ht
  refine⟨_,rfl,_,rfl,ph M1.at_ n0 (by rw[M1.vlen];exact nN) ?_⟩
  exact fin _ _ (M1.set nsl sl0 n.toNat (r:=.op "zz" "+" "zz" "zy") ⟨t,rfl,ag⟩ (by show 2<=100;decide)) (by lia)
theorem Em{K:Fg}{H:Hp}{a b:Addr}{xs ys:List V}{Q:VK}(ha:H a=some (.tup xs))(hb:H b=some (.tup ys))(hz:xs.length+ys.length<=100000)(q:∀(t:Addr) (H':Hp),H' t=some (.tup (xs++ys))->aS H H'->Q (.ref t) H'):rJ K (.ref a) (.ref b) H Q:=by
 by_cases c:xs=[]
 ·subst c
  exact .inl ⟨a,b,ys,rfl,rfl,cY.of ha,cY.of hb,q b H (by rw[List.nil_append];exact hb) (aS.refl H)⟩
 ·refine .inr (.inr (.inr (.inr ⟨a,b,xs,ys,rfl,rfl,cY.of ha,cY.of hb,c,cq hz (by decide),λe=>?_,λ_ t ht=>q t _ ag ((aS.refl H).new ht)⟩)))
  subst e
  exact q a H (by rw[d7];exact ha) (aS.refl H)
theorem BB{K:Fg}{H:Hp}{p:Addr}{xs:List V}{k:Nat}{Q:VK}(hp:H p=some (.tup xs))(q:∀(t:Addr) (H':Hp),H' t=some (.tup (xs.take k))->aS H H'->Q (.ref t) H'):FV K (.ref p) none (some ((k:Nat):Int)) H Q:=by
 by_cases c:k<xs.length
 ·refine .inr (.inr ⟨p,xs,rfl,cY.of hp,λz=>?_,λt ht=>q t _ (by rw[ag,kx]) ((aS.refl H).new ht)⟩)
  have:=z.2
  rw[HT.sIx_nat] at this
  lia
 ·refine .inl ⟨p,xs,rfl,cY.of hp,⟨rfl,by rw[HT.sIx_nat];lia⟩,q p H (by rw[cy (by lia)];exact hp) (aS.refl H)⟩
theorem IJ{K:Fg}{H:Hp}{p:Addr}{xs:List V}{k:Nat}{Q:VK}(hp:H p=some (.tup xs))(k0:0<k)(x0:0<xs.length)(q:∀(t:Addr) (H':Hp),H' t=some (.tup (xs.drop k))->aS H H'->Q (.ref t) H'):FV K (.ref p) (some ((k:Nat):Int)) none H Q:=by
 refine .inr (.inr ⟨p,xs,rfl,cY.of hp,λz=>?_,λt ht=>q t _ (by rw[ag,vX]) ((aS.refl H).new ht)⟩)
 have:=z.1
 rw[HT.sIx_nat] at this
 lia
theorem Iy{K:Fg}{vs:List V}{H:Hp}{Q:VK}{E:XK}(h:jZ K vs H Q E):Cc K {nx:=λ_ H'=>Q .non H',rt:=Q} (cU vO vs) H:=by
 obtain⟨st,p,k,ps,rfl,S,hk,hp,wd,pos,q⟩:=h
 obtain⟨pvs,hpt,hA⟩:=id hp
 obtain⟨ys0,hst⟩:=S.lst
 have al:=hA.len
 have few:=wd.few
 refine⟨_,rfl,_,rfl,_,_,rfl,.inr ⟨_,cY.of hpt,rfl⟩,st,_,k,rfl,S,by lia,by lia,by lia,λd H1 d0 d1 S1 B1=>?_⟩
 obtain⟨j,rfl⟩:∃j:Nat,d=(j:Int):=⟨d.toNat,by lia⟩
 have jl:j<ps.length:=by lia
 have T1:=Tp.of_but B1 hst
 obtain⟨v,b,e1,e2,hP⟩:=hA.get jl
 obtain⟨pt,pa,rt,rvs,rfl,hp1,hp2,hrt,hR⟩:=hP
 have e1':pvs[((j:Nat):Int).toNat]?=some (.ref pt):=by simpa using e1
 have pw:=wd.part b (aH e2)
 show xw K _ [some (.ref st),some (.ref p),some (.int (j:Nat)),none,none,none,none] H1
 refine⟨_,rfl,_,rfl,cb (T1 _ _ hpt) (by lia) e1' ⟨pt,_,rfl,cY.of (T1 _ _ hp1),rfl,_,_,rfl,_,_,rfl,_,_,rfl,rfl,?_⟩⟩
 show xu K _ [some (.ref st),some (.ref p),some (.int (j:Nat)),some (.str b.name),some (.ref pa),some (.ref rt),none] H1
 refine⟨_,rfl,st,8,k+1,rfl,S1,by lia,by decide,by decide,λso H2 so0 so1 S2 B2'=>?_⟩
 have B2:gB st H H2:=B1.trans B2'
 have T2:=Tp.of_but B2 hst
 show xt K _ [some (.ref st),some (.ref p),some (.int (j:Nat)),some (.str b.name),some (.ref pa),some (.ref rt),some (.int so)] H2
 have fin:∀(b':dc) (pa' rt':Addr) (rvs':List V) (k':Nat) (H':Hp),Cy b'->H' pa'=some (.tup (b'.params.map V.str))->H' rt'=some (.tup rvs')->cL (eS H') rvs' b'.rows->ke K H' st k'->k'<=k+30->gB st H H'->
   mr K {nx:=λ_ H'=>Q .non H',rt:=Q} [some (.ref st),some (.ref p),some (.int (j:Nat)),some (.str b'.name),some (.ref pa'),some (.ref rt'),some (.int so)] H':=λb' pa' rt' rvs' k' H' pw' g1 g2 g3 S' hk' B'=>by
  have T':=Tp.of_but B' hst
  have A':=hA.imp λ_ _ z=>z.mono T'
  refine⟨_,rfl,_,rfl,_,rfl,BB (k:=j) (T' _ _ hpt) λt1 H3 h3 s3=>⟨_,rfl,_,rfl,_,rfl,(by show 3<=sizeLine;decide),λt2 ht2=>⟨(by show 1<=sizeLine;decide),λt3 ht3=>?_⟩⟩⟩
  have h4:upd H3 t2 (.tup [.str b'.name,.ref pa',.ref rt']) t2=some (.tup [.str b'.name,.ref pa',.ref rt']):=ag
  have s4:aS H3 (upd H3 t2 (.tup [.str b'.name,.ref pa',.ref rt'])):=(aS.refl H3).new ht2
  have h5:upd (upd H3 t2 (.tup [.str b'.name,.ref pa',.ref rt'])) t3 (.tup [.ref t2]) t3=some (.tup [.ref t2]):=ag
  have s5:=s4.new (o:=.tup [.ref t2]) ht3
  have h45:upd (upd H3 t2 (.tup [.str b'.name,.ref pa',.ref rt'])) t3 (.tup [.ref t2]) t2=some (.tup [.str b'.name,.ref pa',.ref rt']):=by rw[aB (au h4 ht3)];exact h4
  refine Em (s5 _ _ h3) h5 (by rw[aY];show _+1<=100000;lia) λt4 H6 h6 s6=>?_
  have s36:=(s3.trans s5).trans s6
  refine⟨_,rfl,_,rfl,.inr (.inl ⟨_,_,rfl,rfl,_,rfl,?_⟩)⟩
  refine IJ (k:=j+1) (s36 _ _ (T' _ _ hpt)) (by lia) (by lia) λt5 H7 h7 s7=>?_
  refine Em (s7 _ _ h6) h7 (by rw[aN,aY,dU];show _+1+_<=100000;lia) λt6 H8 h8 s8=>?_
  have s38:=(s36.trans s7).trans s8
  have e8:(pvs.take j++[V.ref t2])++pvs.drop (j+1)=pvs.set j (.ref t2):=by
   rw[List.set_eq_take_append_cons_drop,if_pos (by lia),my];rfl
  rw[e8] at h8
  have P8:lh H8 (.ref t2) b':=⟨t2,pa',rt',rvs',rfl,s8 _ _ (s7 _ _ (s6 _ _ h45)),s38 _ _ g1,s38 _ _ g2,g3.imp λ_ _ z=>z.mono (.of_same s38)⟩
  refine q t6 (ps.set j b') k' H8 ⟨_,h8,(A'.imp λ_ _ z=>z.mono (.of_same s38)).set P8⟩ ⟨by rw[dC];exact few,λb2 hb2=>?_⟩ (dC ..) (S'.same s38) hk' (B'.trans s38.but)
  rcases iO hb2 with z|z
  ·exact wd.part b2 z
  ·rw[z];exact pw'
 have same:∀(k':Nat) (H':Hp),ke K H' st k'->k'<=k+30->gB st H H'->mr K {nx:=λ_ H'=>Q .non H',rt:=Q} [some (.ref st),some (.ref p),some (.int (j:Nat)),some (.str b.name),some (.ref pa),some (.ref rt),some (.int so)] H':=λk' H' S' hk' B'=>
  fin b pa rt rvs k' H' pw (Tp.of_but B' hst _ _ hp2) (Tp.of_but B' hst _ _ hrt) (hR.imp λ_ _ z=>z.mono (.of_but B' hst)) S' hk' B'
 have rest:∀(k':Nat) (H3:Hp),ke K H3 st k'->k'<=k+5->gB st H H3->cM (bI (bb (FU) (fN (eA K) (af (aj 5) aE)) (tC (.int 0)))) (bR (bG (eP K) [] E0 (af (aj 0) (af (aj 1) (af (aj 5) aE)))) (aR 5)) bY {nx:=λσ2 H2=>mr K {nx:=λ_ H'=>Q .non H',rt:=Q} σ2 H2,rt:=Q} [some (.ref st),some (.ref p),some (.int (j:Nat)),some (.str b.name),some (.ref pa),some (.ref rt),some (.int so)] H3:=λk' H3 S3 hk' B3=>by
  have T3:=Tp.of_but B3 hst
  refine⟨_,rfl,_,_,rfl,.inr ⟨_,cY.of (T3 _ _ hrt),rfl⟩,_,_,rfl,rfl,_,rfl,bZ (λz=>?_) λ_=>same k' H3 S3 (by lia) B3⟩
  have rl:=hR.len
  refine⟨_,rfl,_,rfl,_,rfl,st,p,rt,k',pvs,rvs,b.rows,rfl,S3,by lia,T3 _ _ hpt,by lia,by lia,T3 _ _ hrt,hR.imp λ_ _ z=>z.mono T3,by lia,pw.few,pw.rd,λrt' rvs' ws' k2 H4 g1 g2 g3 g4 S4 l4 B4=>?_⟩
  have B':=B3.trans B4
  exact fin ⟨b.name,b.params,ws'⟩ pa rt' rvs' k2 H4 ⟨pw.p9,by show ws'.length<64;rw[g3];exact pw.few,g4⟩ (Tp.of_but B' hst _ _ hp2) g1 g2 S4 (by lia) B'
 refine⟨_,rfl,.inr (.inl ⟨rfl,_,rfl,bZ (λ_=>?_) λ_=>?_⟩)⟩
 ·refine⟨_,rfl,_,rfl,_,rfl,_,_,rfl,.inr ⟨_,cY.of (T2 _ _ hpt),rfl⟩,st,_,k+2,rfl,S2,by lia,by lia,by lia,λe H3 e0 e1 S3 B3'=>?_⟩
  have B3:gB st H H3:=B2.trans B3'
  have T3:=Tp.of_but B3 hst
  have el:e.toNat<ps.length:=by lia
  obtain⟨v',b',f1,f2,hP'⟩:=hA.get el
  obtain⟨pt',pa',rt',rvs',rfl,hp1',_⟩:=hP'
  refine cb (T3 _ _ hpt) e0 f1 (cb (T3 _ _ hp1') (by decide) rfl ?_)
  exact fin ⟨b'.name,b.params,b.rows⟩ pa rt rvs (k+3) H3 ⟨pw.p9,pw.few,pw.rd⟩ (T3 _ _ hp2) (T3 _ _ hrt) (hR.imp λ_ _ z=>z.mono T3) S3 (by lia) B3
 have three:cM (vh (bI (bb (Dq K) (aj 6) (tC (.int 2)))) (bI (bb (Dq K) (bG (bC K) [] E0 (af (aj 0) (af (tC (.int 4)) aE))) (tC (.int 0))))) (bR (dM aE) (aR 5)) (cM (bI (bb (FU) (fN (eA K) (af (aj 5) aE)) (tC (.int 0)))) (bR (bG (eP K) [] E0 (af (aj 0) (af (aj 1) (af (aj 5) aE)))) (aR 5)) bY) {nx:=λσ2 H2=>mr K {nx:=λ_ H'=>Q .non H',rt:=Q} σ2 H2,rt:=Q} [some (.ref st),some (.ref p),some (.int (j:Nat)),some (.str b.name),some (.ref pa),some (.ref rt),some (.int so)] H2:=by
  refine⟨_,rfl,.inr (.inl ⟨rfl,_,rfl,bZ (λ_=>?_) λ_=>iW (rest (k+2) H2 S2 (by lia) B2)⟩)⟩
  refine⟨_,rfl,st,4,k+2,rfl,S2,by lia,by decide,by decide,λe H3 e0 e1 S3 B3'=>.inr (.inl ⟨rfl,_,rfl,?_⟩)⟩
  have B3:gB st H H3:=B2.trans B3'
  have T3:=Tp.of_but B3 hst
  refine bZ (λ_=>⟨(by show 0<=sizeLine;decide),λt ht=>?_⟩) λ_=>rest (k+3) H3 S3 (by lia) B3
  exact fin ⟨b.name,b.params,[]⟩ pa t [] (k+3) _ ⟨pw.p9,by show 0<64;decide,λr hr=>(by cases hr)⟩ (T3.new ht _ _ hp2) ag .nil (S3.new ht) (by lia) (B3.new ht)
 refine⟨_,rfl,.inr (.inl ⟨rfl,_,rfl,bZ (λ_=>?_) λ_=>iW three⟩)⟩
 refine⟨_,rfl,_,_,rfl,.inr ⟨_,cY.of (T2 _ _ hp2),rfl⟩,_,_,rfl,rfl,_,rfl,bZ (λz=>?_) λ_=>three⟩
 have p4:b.params.length<4:=by rw[ai] at z;lia
 refine⟨_,rfl,_,rfl,(by show 1<=sizeLine;decide),λt ht=>?_⟩
 have T3:=T2.new (o:=.tup [.str "zz"]) ht
 refine Em (T3 _ _ hp2) ag (by rw[ai];show _+1<=100000;lia) λt4 H4 h4 s4=>?_
 refine⟨_,rfl,BB (k:=1) h4 λt5 H5 h5 s5=>?_⟩
 have s25:aS H2 H5:=(((aS.refl H2).new (o:=.tup [.str "zz"]) ht).trans s4).trans s5
 have T5:=T2.trans (.of_same s25)
 refine Em (T5 _ _ hp2) h5 (by rw[ai,aY];lia) λt6 H6 h6 s6=>?_
 have s26:=s25.trans s6
 have T6:=T2.trans (.of_same s26)
 have em:b.params.map V.str++(b.params.map V.str++[V.str "zz"]).take 1=(b.params++(b.params++(["zz"]:List Str)).take 1).map V.str:=by
  rw[bg,gg,bg];rfl
 rw[em] at h6
 exact fin ⟨b.name,b.params++(b.params++(["zz"]:List Str)).take 1,b.rows⟩ t6 rt rvs (k+2) H6 ⟨by show(b.params++_).length<=100;rw[aN,aY];lia,pw.few,pw.rd⟩ h6 (T6 _ _ hrt) (hR.imp λ_ _ z=>z.mono T6) (S2.same s26) (by lia) (B2.trans s26.but)
end Bg
end
namespace Bg
open PySem PySem.Spec PyProof.Rows L2
section
variable{P:Program}{w:World}{K:Fg}{mg:Str->Option Value}{base:Heap}
theorem Hs{vs:List V}{H:Hp}{Q:VK}{E:XK}(h:bC K vs H Q E):vs.length=dZ.length:=by
 first|(obtain⟨_,_,_,rfl,_⟩:=h;rfl)
theorem Kh{f:Addr}{fd:FuncData}(F:kS K "_law_draw" "_law_draw" oz f fd)(B:gc mg) :dY P w K mg base fB gF f fd dZ (bC K):=
 F.ok Et (λvs H Q E h=>Hs h) λcdv A outer s H vs Q E hr h=>⟨_,Mf B hr,Ny (E:=E) h⟩
theorem rE{vs:List V}{H:Hp}{Q:VK}{E:XK}(h:cV K vs H Q E):vs.length=dw.length:=by
 first|(obtain⟨_,_,_,_,rfl,_⟩:=h;rfl)
theorem sA{f:Addr}{fd:FuncData}(F:kS K "__init__" "NoProgram.__init__" dE f fd)(B:gc mg)(T:rB K) :dY P w K mg base fB fz f fd dw (cV K):=
 F.ok mP (λvs H Q E h=>rE h) λcdv A outer s H vs Q E hr h=>⟨_,tR B hr,ud T (E:=E) h⟩
theorem u6{vs:List V}{H:Hp}{Q:VK}{E:XK}(h:fJ K vs H Q E):vs.length=fE.length:=by
 first|(obtain⟨_,_,rfl,_⟩:=h;rfl)
theorem wB{f:Addr}{fd:FuncData}(F:kS K "__init__" "NoLine.__init__" eL f fd)(B:gc mg)(T:rB K) :dY P w K mg base fB j8 f fd fE (fJ K):=
 F.ok pN (λvs H Q E h=>u6 h) λcdv A outer s H vs Q E hr h=>⟨_,xI B hr,xX T (E:=E) h⟩
theorem wj{vs:List V}{H:Hp}{Q:VK}{E:XK}(h:gr K vs H Q E):vs.length=gi.length:=by
 first|(obtain⟨_,_,_,_,_,rfl,_⟩:=h;rfl)
theorem xS{f:Addr}{fd:FuncData}(F:kS K "__init__" "Short.__init__" fh f fd)(B:gc mg)(T:rB K) :dY P w K mg base fB kT f fd gi (gr K):=
 F.ok qP (λvs H Q E h=>wj h) λcdv A outer s H vs Q E hr h=>⟨_,zD B hr,Aj T (E:=E) h⟩
theorem wk{vs:List V}{H:Hp}{Q:VK}{E:XK}(h:gs K vs H Q E):vs.length=gj.length:=by
 first|(obtain⟨_,_,_,rfl,_⟩:=h;rfl)
theorem xT{f:Addr}{fd:FuncData}(F:kS K "_law_made_right" "_law_made_right" eM f fd)(B:gc mg)(T:rB K)(g_NoProgram:mg "NoProgram"=some (.ref (bA K "NoProgram")))(g_NoLine:mg "NoLine"=some (.ref (bA K "NoLine")))(g_Short:mg "Short"=some (.ref (bA K "Short")))(z_ValueError:mg "ValueError"=none)(g_BeltError:mg "BeltError"=some (.ref (bA K "BeltError")))(mx_NoProgram:oN P w K mg base "NoProgram" (bA K "NoProgram") dw fz (cV K))(mx_NoLine:oN P w K mg base "NoLine" (bA K "NoLine") fE j8 (fJ K))(mx_Short:oN P w K mg base "Short" (bA K "Short") gi kT (gr K)):dY P w K mg base fB kU f fd gj (gs K):=
 F.ok qQ (λvs H Q E h=>wk h) λcdv A outer s H vs Q E hr h=>⟨_,zE B g_NoProgram g_NoLine g_Short z_ValueError g_BeltError mx_NoProgram mx_NoLine mx_Short hr,Ak T (E:=E) h⟩
theorem A6{vs:List V}{H:Hp}{Q:VK}{E:XK}(h:gz K vs H Q E):vs.length=gN.length:=by
 first|(obtain⟨rfl,_⟩:=h;rfl)|(obtain⟨_,rfl,_⟩:=h;rfl)|(obtain⟨_,_,rfl,_⟩:=h;rfl)|(obtain⟨_,_,_,rfl,_⟩:=h;rfl)|(obtain⟨_,_,_,_,rfl,_⟩:=h;rfl)|(obtain⟨_,_,_,_,_,rfl,_⟩:=h;rfl)|(obtain⟨_,_,_,_,_,_,rfl,_⟩:=h;rfl)|(obtain⟨_,_,_,_,_,_,_,rfl,_⟩:=h;rfl)|(obtain⟨_,_,_,_,_,_,_,_,rfl,_⟩:=h;rfl)|(obtain⟨_,_,_,_,_,_,_,_,_,rfl,_⟩:=h;rfl)|(obtain⟨_,_,_,_,_,_,_,_,_,_,rfl,_⟩:=h;rfl)|(obtain⟨_,_,_,_,_,_,_,_,_,_,_,rfl,_⟩:=h;rfl)|(obtain⟨_,_,_,_,_,_,_,_,_,_,_,_,rfl,_⟩:=h;rfl)|(obtain⟨_,_,_,_,_,_,_,_,_,_,_,_,_,rfl,_⟩:=h;rfl)|(obtain⟨_,_,_,_,_,_,_,_,_,_,_,_,_,_,rfl,_⟩:=h;rfl)|(obtain⟨_,_,_,_,_,_,_,_,_,_,_,_,_,_,_,rfl,_⟩:=h;rfl)|(obtain⟨_,_,_,_,_,_,_,_,_,_,_,_,_,_,_,_,rfl,_⟩:=h;rfl)|(obtain⟨_,_,_,_,_,_,_,_,_,_,_,_,_,_,_,_,_,rfl,_⟩:=h;rfl)|(obtain⟨_,_,_,_,_,_,_,_,_,_,_,_,_,_,_,_,_,_,rfl,_⟩:=h;rfl)|(obtain⟨_,_,_,_,_,_,_,_,_,_,_,_,_,_,_,_,_,_,_,rfl,_⟩:=h;rfl)|(obtain⟨_,_,_,_,_,_,_,_,_,_,_,_,_,_,_,_,_,_,_,_,rfl,_⟩:=h;rfl)|(obtain⟨_,_,_,_,_,_,_,_,_,_,_,_,_,_,_,_,_,_,_,_,_,rfl,_⟩:=h;rfl)|(obtain⟨_,_,_,_,_,_,_,_,_,_,_,_,_,_,_,_,_,_,_,_,_,_,rfl,_⟩:=h;rfl)|(obtain⟨_,_,_,_,_,_,_,_,_,_,_,_,_,_,_,_,_,_,_,_,_,_,_,rfl,_⟩:=h;rfl)|(obtain⟨_,_,_,_,_,_,_,_,_,_,_,_,_,_,_,_,_,_,_,_,_,_,_,_,rfl,_⟩:=h;rfl)|(obtain⟨_,_,_,_,_,_,_,_,_,_,_,_,_,_,_,_,_,_,_,_,_,_,_,_,_,rfl,_⟩:=h;rfl)
theorem Di{f:Addr}{fd:FuncData}(F:kS K "reads" "reads" iN f fd)(B:gc mg) :dY P w K mg base fB lE f fd gN (gz K):=
 F.ok wM (λvs H Q E h=>A6 h) λcdv A outer s H vs Q E hr h=>⟨_,E5 B hr,Ga (E:=E) h⟩
theorem tW{vs:List V}{H:Hp}{Q:VK}{E:XK}(h:e9 K vs H Q E):vs.length=e6.length:=by
 first|(obtain⟨_,_,_,rfl,_⟩:=h;rfl)
theorem u9{f:Addr}{fd:FuncData}(F:kS K "names_read" "names_read" d6 f fd)(B:gc mg)(c_p_reads:aK P w K mg base "reads" gN lE (gz K)):dY P w K mg base fB jB f fd e6 (e9 K):=
 F.ok oQ (λvs H Q E h=>tW h) λcdv A outer s H vs Q E hr h=>⟨_,vY B c_p_reads hr,wH (E:=E) h⟩
theorem C3{vs:List V}{H:Hp}{Q:VK}{E:XK}(h:jY K vs H Q E):vs.length=jS.length:=by
 first|(obtain⟨_,_,rfl,_⟩:=h;rfl)
theorem FM{f:Addr}{fd:FuncData}(F:kS K "sets" "sets" jJ f fd)(B:gc mg) :dY P w K mg base fB rV f fd jS (jY K):=
 F.ok yJ (λvs H Q E h=>C3 h) λcdv A outer s H vs Q E hr h=>⟨_,GV B hr,Iw (E:=E) h⟩
theorem C2{vs:List V}{H:Hp}{Q:VK}{E:XK}(h:gK K vs H Q E):vs.length=eW.length:=by
 first|(obtain⟨_,_,rfl,_⟩:=h;rfl)
theorem FL{f:Addr}{fd:FuncData}(F:kS K "goal" "goal" iY f fd)(B:gc mg) :dY P w K mg base fB iV f fd eW (gK K):=
 F.ok ug (λvs H Q E h=>C2 h) λcdv A outer s H vs Q E hr h=>⟨_,AM B hr,Iv (E:=E) h⟩
theorem A5{vs:List V}{H:Hp}{Q:VK}{E:XK}(h:iD K vs H Q E):vs.length=ja.length:=by
 first|(obtain⟨rfl,_⟩:=h;rfl)|(obtain⟨_,rfl,_⟩:=h;rfl)|(obtain⟨_,_,rfl,_⟩:=h;rfl)|(obtain⟨_,_,_,rfl,_⟩:=h;rfl)|(obtain⟨_,_,_,_,rfl,_⟩:=h;rfl)|(obtain⟨_,_,_,_,_,rfl,_⟩:=h;rfl)|(obtain⟨_,_,_,_,_,_,rfl,_⟩:=h;rfl)|(obtain⟨_,_,_,_,_,_,_,rfl,_⟩:=h;rfl)|(obtain⟨_,_,_,_,_,_,_,_,rfl,_⟩:=h;rfl)|(obtain⟨_,_,_,_,_,_,_,_,_,rfl,_⟩:=h;rfl)|(obtain⟨_,_,_,_,_,_,_,_,_,_,rfl,_⟩:=h;rfl)|(obtain⟨_,_,_,_,_,_,_,_,_,_,_,rfl,_⟩:=h;rfl)|(obtain⟨_,_,_,_,_,_,_,_,_,_,_,_,rfl,_⟩:=h;rfl)|(obtain⟨_,_,_,_,_,_,_,_,_,_,_,_,_,rfl,_⟩:=h;rfl)|(obtain⟨_,_,_,_,_,_,_,_,_,_,_,_,_,_,rfl,_⟩:=h;rfl)|(obtain⟨_,_,_,_,_,_,_,_,_,_,_,_,_,_,_,rfl,_⟩:=h;rfl)|(obtain⟨_,_,_,_,_,_,_,_,_,_,_,_,_,_,_,_,rfl,_⟩:=h;rfl)|(obtain⟨_,_,_,_,_,_,_,_,_,_,_,_,_,_,_,_,_,rfl,_⟩:=h;rfl)|(obtain⟨_,_,_,_,_,_,_,_,_,_,_,_,_,_,_,_,_,_,rfl,_⟩:=h;rfl)|(obtain⟨_,_,_,_,_,_,_,_,_,_,_,_,_,_,_,_,_,_,_,rfl,_⟩:=h;rfl)|(obtain⟨_,_,_,_,_,_,_,_,_,_,_,_,_,_,_,_,_,_,_,_,rfl,_⟩:=h;rfl)|(obtain⟨_,_,_,_,_,_,_,_,_,_,_,_,_,_,_,_,_,_,_,_,_,rfl,_⟩:=h;rfl)|(obtain⟨_,_,_,_,_,_,_,_,_,_,_,_,_,_,_,_,_,_,_,_,_,_,rfl,_⟩:=h;rfl)|(obtain⟨_,_,_,_,_,_,_,_,_,_,_,_,_,_,_,_,_,_,_,_,_,_,_,rfl,_⟩:=h;rfl)|(obtain⟨_,_,_,_,_,_,_,_,_,_,_,_,_,_,_,_,_,_,_,_,_,_,_,_,rfl,_⟩:=h;rfl)|(obtain⟨_,_,_,_,_,_,_,_,_,_,_,_,_,_,_,_,_,_,_,_,_,_,_,_,_,rfl,_⟩:=h;rfl)
theorem Dh{f:Addr}{fd:FuncData}(F:kS K "leads" "leads" iM f fd)(B:gc mg)(c_p_goal:aK P w K mg base "goal" eW iV (gK K)):dY P w K mg base fB qt f fd ja (iD K):=
 F.ok wL (λvs H Q E h=>A5 h) λcdv A outer s H vs Q E hr h=>⟨_,E4 B c_p_goal hr,FZ (E:=E) h⟩
theorem zX{vs:List V}{H:Hp}{Q:VK}{E:XK}(h:iE K vs H Q E):vs.length=iz.length:=by
 first|(obtain⟨_,_,_,_,rfl,_⟩:=h;rfl)
theorem Bi{f:Addr}{fd:FuncData}{dV:Value}(F:Jy K "walked" "walked" e7 dV f fd)(B:gc mg)(c_p_sets:aK P w K mg base "sets" jS rV (jY K))(c_p_leads:aK P w K mg base "leads" ja qt (iD K)):dY P w K mg base fB nW f fd iz (iE K):=
 F.ok uB (λvs H Q E h=>zX h) λcdv A outer s H vs Q E hr h=>⟨_,CI B c_p_sets c_p_leads hr,Dt (E:=E) h⟩
theorem u7{vs:List V}{H:Hp}{Q:VK}{E:XK}(h:fK K vs H Q E):vs.length=fF.length:=by
 first|(obtain⟨_,_,_,rfl,_⟩:=h;rfl)
theorem wC{f:Addr}{fd:FuncData}(F:kS K "unset_due" "unset_due" dX f fd)(B:gc mg)(c_p_names_read:aK P w K mg base "names_read" e6 jB (e9 K))(c_p_walked:aK P w K mg base "walked" iz nW (iE K))(c_p_reads:aK P w K mg base "reads" gN lE (gz K)):dY P w K mg base fB j9 f fd fF (fK K):=
 F.ok pO (λvs H Q E h=>u7 h) λcdv A outer s H vs Q E hr h=>⟨_,xJ B c_p_names_read c_p_walked c_p_reads hr,xY (E:=E) h⟩
theorem zW{vs:List V}{H:Hp}{Q:VK}{E:XK}(h:fk K vs H Q E):vs.length=iy.length:=by
 first|(obtain⟨_,_,_,rfl,_⟩:=h;rfl)
theorem Bh{f:Addr}{fd:FuncData}(F:kS K "refuse" "refuse" gU f fd)(B:gc mg)(T:rB K)(mx_NoProgram:oN P w K mg base "NoProgram" (bA K "NoProgram") dw fz (cV K)):dY P w K mg base (Cn P w) nV f fd iy (fk K):=
 Ec F uA (λvs H Q E h=>zW h) λcdv A outer s H vs Q E hr h=>⟨_,CH B mx_NoProgram hr,Ds T (E:=E) h⟩
theorem su{vs:List V}{H:Hp}{Q:VK}{E:XK}(h:eJ K vs H Q E):vs.length=eC.length:=by
 first|(obtain⟨_,_,_,_,rfl,_⟩:=h;rfl)
theorem t9{f:Addr}{fd:FuncData}(F:kS K "comes_round" "comes_round" dR f fd)(B:gc mg)(c_p_goal:aK P w K mg base "goal" eW iV (gK K)):dY P w K mg base fB i4 f fd eC (eJ K):=
 F.ok nG (λvs H Q E h=>su h) λcdv A outer s H vs Q E hr h=>⟨_,uW B c_p_goal hr,ve (E:=E) h⟩
theorem wq{vs:List V}{H:Hp}{Q:VK}{E:XK}(h:gA K vs H Q E):vs.length=gm.length:=by
 first|(obtain⟨_,_,_,rfl,_⟩:=h;rfl)
theorem xV{f:Addr}{fd:FuncData}(F:kS K "ring_due" "ring_due" fi f fd)(B:gc mg)(c_p_comes_round:aK P w K mg base "comes_round" eC i4 (eJ K)):dY P w K mg base fB kX f fd gm (gA K):=
 F.ok qS (λvs H Q E h=>wq h) λcdv A outer s H vs Q E hr h=>⟨_,zG B c_p_comes_round hr,Am (E:=E) h⟩
theorem sr{vs:List V}{H:Hp}{Q:VK}{E:XK}(h:eI K vs H Q E):vs.length=eB.length:=by
 first|(obtain⟨_,_,_,_,rfl,_⟩:=h;rfl)
theorem t8{f:Addr}{fd:FuncData}(F:kS K "calls_amiss" "calls_amiss" dQ f fd)(B:gc mg) :dY P w K mg base fB iZ f fd eB (eI K):=
 F.ok nF (λvs H Q E h=>sr h) λcdv A outer s H vs Q E hr h=>⟨_,uV B hr,vd (E:=E) h⟩
theorem sv{vs:List V}{H:Hp}{Q:VK}{E:XK}(h:eK K vs H Q E):vs.length=eD.length:=by
 first|(obtain⟨_,_,_,_,rfl,_⟩:=h;rfl)
theorem ua{f:Addr}{fd:FuncData}(F:kS K "goes_astray" "goes_astray" dS f fd)(B:gc mg)(c_w_goal:aK P w K mg base "goal" eW iV (j4 K)):dY P w K mg base fB i5 f fd eD (eK K):=
 F.ok nH (λvs H Q E h=>sv h) λcdv A outer s H vs Q E hr h=>⟨_,uX B c_w_goal hr,vf (E:=E) h⟩
theorem xP{vs:List V}{H:Hp}{Q:VK}{E:XK}(h:gW K vs H Q E):vs.length=gO.length:=by
 first|(obtain⟨_,_,_,rfl,_⟩:=h;rfl)|(obtain⟨_,_,_,_,rfl,_⟩:=h;rfl)
theorem zZ{f:Addr}{fd:FuncData}(F:kS K "row_due" "row_due" fY f fd)(B:gc mg)(c_p_calls_amiss:aK P w K mg base "calls_amiss" eB iZ (eI K))(c_p_goes_astray:aK P w K mg base "goes_astray" eD i5 (eK K)):dY P w K mg base fB mG f fd gO (gW K):=
 F.ok sJ (λvs H Q E h=>xP h) λcdv A outer s H vs Q E hr h=>⟨_,AN B c_p_calls_amiss c_p_goes_astray hr,Bo (E:=E) h⟩
theorem wo{vs:List V}{H:Hp}{Q:VK}{E:XK}(h:gy K vs H Q E):vs.length=gk.length:=by
 first|(obtain⟨_,_,_,rfl,_⟩:=h;rfl)|(obtain⟨_,_,_,_,rfl,_⟩:=h;rfl)
theorem xU{f:Addr}{fd:FuncData}(F:kS K "name_due" "name_due" eO f fd)(B:gc mg) :dY P w K mg base fB kW f fd gk (gy K):=
 F.ok qR (λvs H Q E h=>wo h) λcdv A outer s H vs Q E hr h=>⟨_,zF B hr,Al (E:=E) h⟩
theorem A4{vs:List V}{H:Hp}{Q:VK}{E:XK}(h:gu K vs H Q E):vs.length=gM.length:=by
 first|(obtain⟨_,_,rfl,_⟩:=h;rfl)
theorem Dg{f:Addr}{fd:FuncData}(F:kS K "check" "check" iL f fd)(B:gc mg)(c_p_unset_due:aK P w K mg base "unset_due" fF j9 (fK K))(c_p_refuse:kR P w K mg base "refuse" iy nV (fk K))(c_p_ring_due:aK P w K mg base "ring_due" gm kX (gA K))(c_p_row_due:aK P w K mg base "row_due" gO mG (gW K))(c_p_name_due:aK P w K mg base "name_due" gk kW (gy K)):dY P w K mg base (Cn P w) lD f fd gM (gu K):=
 Ec F wK (λvs H Q E h=>A4 h) λcdv A outer s H vs Q E hr h=>⟨_,E3 B c_p_unset_due c_p_refuse c_p_ring_due c_p_row_due c_p_name_due hr,FY (E:=E) h⟩
theorem A3{vs:List V}{H:Hp}{Q:VK}{E:XK}(h:je K vs H Q E):vs.length=i9.length:=by
 first|(obtain⟨_,_,rfl,_⟩:=h;rfl)
theorem Df{f:Addr}{fd:FuncData}(F:kS K "_law_classes" "_law_classes" iK f fd)(B:gc mg)(T:rB K)(g_BeltError:mg "BeltError"=some (.ref (bA K "BeltError")))(z_ValueError:mg "ValueError"=none)(g_NoProgram:mg "NoProgram"=some (.ref (bA K "NoProgram")))(g_NoLine:mg "NoLine"=some (.ref (bA K "NoLine")))(g_Short:mg "Short"=some (.ref (bA K "Short")))(c_p_check:kR P w K mg base "check" gM lD (gu K)):dY P w K mg base fB qr f fd i9 (je K):=
 F.ok wJ (λvs H Q E h=>A3 h) λcdv A outer s H vs Q E hr h=>⟨_,E2 B g_BeltError z_ValueError g_NoProgram g_NoLine g_Short c_p_check hr,FX T (E:=E) h⟩
theorem Hz{vs:List V}{H:Hp}{Q:VK}{E:XK}(h:oG K vs H Q E):vs.length=oi.length:=by
 first|(obtain⟨_,_,rfl,_⟩:=h;rfl)
theorem Kl{f:Addr}{fd:FuncData}(F:kS K "_law_told" "_law_told" oC f fd)(B:gc mg)(T:rB K)(g_NoProgram:mg "NoProgram"=some (.ref (bA K "NoProgram")))(c_p_check:kR P w K mg base "check" gM lD (gu K)):dY P w K mg base fB zi f fd oi (oG K):=
 F.ok Ey (λvs H Q E h=>Hz h) λcdv A outer s H vs Q E hr h=>⟨_,Mj B g_NoProgram c_p_check hr,NC T (E:=E) h⟩
theorem Fv{vs:List V}{H:Hp}{Q:VK}{E:XK}(h:jL K vs H Q E):vs.length=lK.length:=by
 first|(obtain⟨_,_,rfl,_⟩:=h;rfl)|(obtain⟨_,_,_,rfl,_⟩:=h;rfl)
theorem HG{f:Addr}{fd:FuncData}(F:kS K "_law_meets" "_law_meets" lx f fd)(B:gc mg)(c_classes:aK P w K mg base "_law_classes" i9 qr (je K))(c_told:aK P w K mg base "_law_told" oi zi (oG K)):dY P w K mg base fB vm f fd lK (jL K):=
 F.ok Bu (λvs H Q E h=>Fv h) λcdv A outer s H vs Q E hr h=>⟨_,JL B c_classes c_told hr,Le (E:=E) h⟩
theorem Hx{vs:List V}{H:Hp}{Q:VK}{E:XK}(h:oF K vs H Q E):vs.length=oh.length:=by
 first|(obtain⟨_,_,rfl,_⟩:=h;rfl)
theorem Kk{f:Addr}{fd:FuncData}(F:kS K "_law_read" "_law_read" oB f fd)(B:gc mg) :dY P w K mg base fB zh f fd oh (oF K):=
 F.ok Ex (λvs H Q E h=>Hx h) λcdv A outer s H vs Q E hr h=>⟨_,Mi B hr,NB (E:=E) h⟩
theorem Hv{vs:List V}{H:Hp}{Q:VK}{E:XK}(h:lB K vs H Q E):vs.length=oa.length:=by
 first|(obtain⟨_,_,_,_,_,rfl,_⟩:=h;rfl)
theorem Ki{f:Addr}{fd:FuncData}(F:kS K "_law_next" "_law_next" oA f fd)(B:gc mg) :dY P w K mg base fB zf f fd oa (lB K):=
 F.ok Eu (λvs H Q E h=>Hv h) λcdv A outer s H vs Q E hr h=>⟨_,Mg B hr,Nz (E:=E) h⟩
theorem A8{vs:List V}{H:Hp}{Q:VK}{E:XK}(h:jg K vs H Q E):vs.length=jc.length:=by
 first|(obtain⟨_,_,_,_,_,_,rfl,_⟩:=h;rfl)
theorem Dk{f:Addr}{fd:FuncData}(F:kS K "_law_without" "_law_without" gJ f fd)(B:gc mg)(c_next:aK P w K mg base "_law_next" oa zf (lB K)):dY P w K mg base fB qw f fd jc (jg K):=
 F.ok wO (λvs H Q E h=>A8 h) λcdv A outer s H vs Q E hr h=>⟨_,E8 B c_next hr,Gc (E:=E) h⟩
theorem Fy{vs:List V}{H:Hp}{Q:VK}{E:XK}(h:mi K vs H Q E):vs.length=lN.length:=by
 first|(obtain⟨_,_,_,_,_,rfl,_⟩:=h;rfl)
theorem HJ{f:Addr}{fd:FuncData}(F:kS K "_law_unset" "_law_unset" lz f fd)(B:gc mg)(c_read:aK P w K mg base "_law_read" oh zh (oF K))(c_without:aK P w K mg base "_law_without" jc qw (jg K)):dY P w K mg base fB vp f fd lN (mi K):=
 F.ok Bx (λvs H Q E h=>Fy h) λcdv A outer s H vs Q E hr h=>⟨_,JP B c_read c_without hr,Lh (E:=E) h⟩
theorem Fx{vs:List V}{H:Hp}{Q:VK}{E:XK}(h:mh K vs H Q E):vs.length=lM.length:=by
 first|(obtain⟨_,_,_,_,rfl,_⟩:=h;rfl)
theorem HI{f:Addr}{fd:FuncData}(F:kS K "_law_round" "_law_round" ly f fd)(B:gc mg) :dY P w K mg base fB vo f fd lM (mh K):=
 F.ok Bw (λvs H Q E h=>Fx h) λcdv A outer s H vs Q E hr h=>⟨_,JO B hr,Lg (E:=E) h⟩
theorem A2{vs:List V}{H:Hp}{Q:VK}{E:XK}(h:jd K vs H Q E):vs.length=i8.length:=by
 first|(obtain⟨_,_,_,_,_,_,rfl,_⟩:=h;rfl)
theorem De{f:Addr}{fd:FuncData}(F:kS K "_law_bad_row" "_law_bad_row" iJ f fd)(B:gc mg) :dY P w K mg base fB qp f fd i8 (jd K):=
 F.ok wI (λvs H Q E h=>A2 h) λcdv A outer s H vs Q E hr h=>⟨_,EZ B hr,FW (E:=E) h⟩
theorem zY{vs:List V}{H:Hp}{Q:VK}{E:XK}(h:iF K vs H Q E):vs.length=iA.length:=by
 first|(obtain⟨_,_,_,_,rfl,_⟩:=h;rfl)
theorem Bj{f:Addr}{fd:FuncData}(F:kS K "_law_part_due" "_law_part_due" fH f fd)(B:gc mg)(c_unset:aK P w K mg base "_law_unset" lN vp (mi K))(c_round:aK P w K mg base "_law_round" lM vo (mh K))(c_bad_row:aK P w K mg base "_law_bad_row" i8 qp (jd K)):dY P w K mg base fB nX f fd iA (iF K):=
 F.ok uC (λvs H Q E h=>zY h) λcdv A outer s H vs Q E hr h=>⟨_,CJ B c_unset c_round c_bad_row hr,Du (E:=E) h⟩
theorem J9{vs:List V}{H:Hp}{Q:VK}{E:XK}(h:rK K vs H Q E):vs.length=rz.length:=by
 first|(obtain⟨_,_,rfl,_⟩:=h;rfl)|(obtain⟨_,_,_,_,_,rfl,_⟩:=h;rfl)|(obtain⟨_,_,_,_,_,_,rfl,_⟩:=h;rfl)
theorem MD{f:Addr}{fd:FuncData}(F:kS K "_law_due" "_law_due" sI f fd)(B:gc mg)(c_part_due:aK P w K mg base "_law_part_due" iA nX (iF K)):dY P w K mg base fB DV f fd rz (rK K):=
 F.ok IG (λvs H Q E h=>J9 h) λcdv A outer s H vs Q E hr h=>⟨_,N3 B c_part_due hr,OD (E:=E) h⟩
theorem wt{vs:List V}{H:Hp}{Q:VK}{E:XK}(h:eP K vs H Q E):vs.length=gp.length:=by
 first|(obtain⟨_,_,_,_,_,_,_,rfl,_⟩:=h;rfl)
theorem xW{f:Addr}{fd:FuncData}(F:kS K "_law_row_spoilt" "_law_row_spoilt" fj f fd)(B:gc mg)(c_draw:aK P w K mg base "_law_draw" dZ gF (bC K)):dY P w K mg base fB kY f fd gp (eP K):=
 F.ok qT (λvs H Q E h=>wt h) λcdv A outer s H vs Q E hr h=>⟨_,zH B c_draw hr,An (E:=E) h⟩
theorem C4{vs:List V}{H:Hp}{Q:VK}{E:XK}(h:jZ K vs H Q E):vs.length=jT.length:=by
 first|(obtain⟨_,_,_,_,rfl,_⟩:=h;rfl)
theorem FN{f:Addr}{fd:FuncData}(F:kS K "_law_spoilt" "_law_spoilt" jK f fd)(B:gc mg)(c_draw:aK P w K mg base "_law_draw" dZ gF (bC K))(c_row_spoilt:aK P w K mg base "_law_row_spoilt" gp kY (eP K)):dY P w K mg base fB rW f fd jT (jZ K):=
 F.ok yK (λvs H Q E h=>C4 h) λcdv A outer s H vs Q E hr h=>⟨_,GW B c_draw c_row_spoilt hr,Iy (E:=E) h⟩
theorem CZ{vs:List V}{H:Hp}{Q:VK}{E:XK}(h:jW K vs H Q E):vs.length=jQ.length:=by
 first|(obtain⟨_,_,_,_,_,_,_,_,_,_,rfl,_⟩:=h;rfl)
theorem FJ{f:Addr}{fd:FuncData}(F:kS K "_law_filled" "_law_filled" iX f fd)(B:gc mg)(c_draw:aK P w K mg base "_law_draw" dZ gF (bC K)):dY P w K mg base fB rS f fd jQ (jW K):=
 F.ok yH (λvs H Q E h=>CZ h) λcdv A outer s H vs Q E hr h=>⟨_,GT B c_draw hr,Ir (E:=E) h⟩
theorem Fu{vs:List V}{H:Hp}{Q:VK}{E:XK}(h:md K vs H Q E):vs.length=lJ.length:=by
 first|(obtain⟨_,_,_,_,_,rfl,_⟩:=h;rfl)
theorem HE{f:Addr}{fd:FuncData}(F:kS K "_law_leads" "_law_leads" lu f fd)(B:gc mg) :dY P w K mg base fB vk f fd lJ (md K):=
 F.ok Bt (λvs H Q E h=>Fu h) λcdv A outer s H vs Q E hr h=>⟨_,JK B hr,Ld (E:=E) h⟩
theorem xR{vs:List V}{H:Hp}{Q:VK}{E:XK}(h:gY K vs H Q E):vs.length=gQ.length:=by
 first|(obtain⟨_,_,_,_,_,_,_,_,rfl,_⟩:=h;rfl)
theorem z9{f:Addr}{fd:FuncData}(F:kS K "_law_set_names" "_law_set_names" eT f fd)(B:gc mg)(c_leads:aK P w K mg base "_law_leads" lJ vk (md K)):dY P w K mg base fB mI f fd gQ (gY K):=
 F.ok sM (λvs H Q E h=>xR h) λcdv A outer s H vs Q E hr h=>⟨_,AQ B c_leads hr,Bq (E:=E) h⟩
theorem C1{vs:List V}{H:Hp}{Q:VK}{E:XK}(h:jX K vs H Q E):vs.length=jR.length:=by
 first|(obtain⟨_,_,_,_,_,_,_,rfl,_⟩:=h;rfl)
theorem FK{f:Addr}{fd:FuncData}(F:kS K "_law_mended" "_law_mended" jI f fd)(B:gc mg) :dY P w K mg base fB rT f fd jR (jX K):=
 F.ok yI (λvs H Q E h=>C1 h) λcdv A outer s H vs Q E hr h=>⟨_,GU B hr,Iu (E:=E) h⟩
theorem FA{vs:List V}{H:Hp}{Q:VK}{E:XK}(h:mj K vs H Q E):vs.length=lO.length:=by
 first|(obtain⟨_,_,rfl,_⟩:=h;rfl)
theorem HK{f:Addr}{fd:FuncData}(F:kS K "_law_worth" "_law_worth" lA f fd)(B:gc mg)(c_draw:aK P w K mg base "_law_draw" dZ gF (bC K)):dY P w K mg base fB vq f fd lO (mj K):=
 F.ok By (λvs H Q E h=>FA h) λcdv A outer s H vs Q E hr h=>⟨_,JQ B c_draw hr,Li (E:=E) h⟩
theorem xQ{vs:List V}{H:Hp}{Q:VK}{E:XK}(h:gX K vs H Q E):vs.length=gP.length:=by
 first|(obtain⟨_,_,_,_,_,_,_,rfl,_⟩:=h;rfl)
theorem z7{f:Addr}{fd:FuncData}(F:kS K "_law_rough_row" "_law_rough_row" fZ f fd)(B:gc mg)(c_draw:aK P w K mg base "_law_draw" dZ gF (bC K))(c_worth:aK P w K mg base "_law_worth" lO vq (mj K)):dY P w K mg base fB mH f fd gP (gX K):=
 F.ok sL (λvs H Q E h=>xQ h) λcdv A outer s H vs Q E hr h=>⟨_,AO B c_draw c_worth hr,Bp (E:=E) h⟩
theorem Hw{vs:List V}{H:Hp}{Q:VK}{E:XK}(h:oE K vs H Q E):vs.length=og.length:=by
 first|(obtain⟨_,_,_,_,_,_,_,_,_,_,rfl,_⟩:=h;rfl)
theorem Kj{f:Addr}{fd:FuncData}(F:kS K "_law_part" "_law_part" m6 f fd)(B:gc mg)(c_filled:aK P w K mg base "_law_filled" jQ rS (jW K))(c_set_names:aK P w K mg base "_law_set_names" gQ mI (gY K))(c_mended:aK P w K mg base "_law_mended" jR rT (jX K))(c_rough_row:aK P w K mg base "_law_rough_row" gP mH (gX K))(c_draw:aK P w K mg base "_law_draw" dZ gF (bC K)):dY P w K mg base fB zg f fd og (oE K):=
 F.ok Ew (λvs H Q E h=>Hw h) λcdv A outer s H vs Q E hr h=>⟨_,Mh B c_filled c_set_names c_mended c_rough_row c_draw hr,NA (E:=E) h⟩
theorem Fw{vs:List V}{H:Hp}{Q:VK}{E:XK}(h:kB K vs H Q E):vs.length=lL.length:=by
 first|(obtain⟨_,_,_,rfl,_⟩:=h;rfl)
theorem HH{f:Addr}{fd:FuncData}(F:kS K "_law_names" "_law_names" kh f fd)(B:gc mg)(c_draw:aK P w K mg base "_law_draw" dZ gF (bC K)):dY P w K mg base fB vn f fd lL (kB K):=
 F.ok Bv (λvs H Q E h=>Fw h) λcdv A outer s H vs Q E hr h=>⟨_,JM B c_draw hr,Lf (E:=E) h⟩
theorem A7{vs:List V}{H:Hp}{Q:VK}{E:XK}(h:jf K vs H Q E):vs.length=jb.length:=by
 first|(obtain⟨_,_,_,rfl,_⟩:=h;rfl)
theorem Dj{f:Addr}{fd:FuncData}(F:kS K "_law_program" "_law_program" hZ f fd)(B:gc mg)(c_part:aK P w K mg base "_law_part" og zg (oE K))(c_draw:aK P w K mg base "_law_draw" dZ gF (bC K))(c_names:aK P w K mg base "_law_names" lL vn (kB K)):dY P w K mg base fB qu f fd jb (jf K):=
 F.ok wN (λvs H Q E h=>A7 h) λcdv A outer s H vs Q E hr h=>⟨_,E6 B c_part c_draw c_names hr,Gb (E:=E) h⟩
theorem Ka{vs:List V}{H:Hp}{Q:VK}{E:XK}(h:sp_law K vs H Q E):vs.length=vP.length:=by
 first|(obtain⟨_,_,rfl,_⟩:=h;rfl)
theorem ME{f:Addr}{fd:FuncData}(F:kS K "law" "law" oP f fd)(B:gc mg)(c_draw:aK P w K mg base "_law_draw" dZ gF (bC K))(c_made_right:aK P w K mg base "_law_made_right" gj kU (gs K))(c_meets:aK P w K mg base "_law_meets" lK vm (jL K))(c_due:aK P w K mg base "_law_due" rz DV (rK K))(c_spoilt:aK P w K mg base "_law_spoilt" jT rW (jZ K))(c_program:aK P w K mg base "_law_program" jb qu (jf K)):dY P w K mg base fB DW f fd vP (sp_law K):=
 F.ok IH (λvs H Q E h=>Ka h) λcdv A outer s H vs Q E hr h=>⟨_,N4 B c_draw c_made_right c_meets c_due c_spoilt c_program hr,OE (E:=E) h⟩
theorem C5{vs:List V}{H:Hp}{Q:VK}{E:XK}(h:j4 K vs H Q E):vs.length=eW.length:=by
 first|(obtain⟨_,_,rfl,_⟩:=h;rfl)
theorem FO{f:Addr}{fd:FuncData}(F:kS K "goal" "goal" iY f fd)(B:gc mg):dY P w K mg base fB iV f fd eW (j4 K):=
 F.ok ug (λvs H Q E h=>C5 h) λcdv A outer s H vs Q E hr h=>⟨_,AM B hr,Iz (E:=E) h⟩
end
theorem all_mk{l:PySem.W.OpenLaw}{w:World}{K:Fg}{h:Heap}{mg:Str->Option Value}{fa:Addr}(X:K.In h)(G:h.Ns mainGlobals mg)(hfa:mg "law"=some (.ref fa))
  {C_BeltError:Addr} (zc_BeltError:aC K mainGlobals "BeltError"=some (some (.ref C_BeltError)))
  {C_NoLine:Addr} (zc_NoLine:aC K mainGlobals "NoLine"=some (some (.ref C_NoLine)))
  {C_NoProgram:Addr} (zc_NoProgram:aC K mainGlobals "NoProgram"=some (some (.ref C_NoProgram)))
  {C_Short:Addr} (zc_Short:aC K mainGlobals "Short"=some (some (.ref C_Short)))
  {nm_NoLine q_NoLine:Str} {N_NoLine B_NoLine:Addr} {bs_NoLine:List Value} {sn_NoLine:List Str} {sub_NoLine:List Value} {ab_NoLine:Bool} {col_NoLine:Option Bool} {dd_NoLine:Option Addr} {k0_NoLine k1_NoLine k2_NoLine k3_NoLine k5_NoLine:Option Value}
  (lx_NoLine:K.lookup C_NoLine=some (Ci nm_NoLine q_NoLine C_NoLine N_NoLine B_NoLine bs_NoLine true sn_NoLine sub_NoLine ab_NoLine col_NoLine dd_NoLine k0_NoLine k1_NoLine k2_NoLine k3_NoLine k5_NoLine)) (ga_NoLine:bw K (.ref C_NoLine) "__getattribute__"=some (some (.builtin "BaseException.__getattribute__"))) (gh_NoLine:bw K (.ref C_NoLine) "__getattr__"=some none) (sa_NoLine:bw K (.ref C_NoLine) "__setattr__"=some (some (.builtin "object.__setattr__")))
  {nm_NoProgram q_NoProgram:Str} {N_NoProgram B_NoProgram:Addr} {bs_NoProgram:List Value} {sn_NoProgram:List Str} {sub_NoProgram:List Value} {ab_NoProgram:Bool} {col_NoProgram:Option Bool} {dd_NoProgram:Option Addr} {k0_NoProgram k1_NoProgram k2_NoProgram k3_NoProgram k5_NoProgram:Option Value}
  (lx_NoProgram:K.lookup C_NoProgram=some (Ci nm_NoProgram q_NoProgram C_NoProgram N_NoProgram B_NoProgram bs_NoProgram true sn_NoProgram sub_NoProgram ab_NoProgram col_NoProgram dd_NoProgram k0_NoProgram k1_NoProgram k2_NoProgram k3_NoProgram k5_NoProgram)) (ga_NoProgram:bw K (.ref C_NoProgram) "__getattribute__"=some (some (.builtin "BaseException.__getattribute__"))) (gh_NoProgram:bw K (.ref C_NoProgram) "__getattr__"=some none) (sa_NoProgram:bw K (.ref C_NoProgram) "__setattr__"=some (some (.builtin "object.__setattr__")))
  {nm_Short q_Short:Str} {N_Short B_Short:Addr} {bs_Short:List Value} {sn_Short:List Str} {sub_Short:List Value} {ab_Short:Bool} {col_Short:Option Bool} {dd_Short:Option Addr} {k0_Short k1_Short k2_Short k3_Short k5_Short:Option Value}
  (lx_Short:K.lookup C_Short=some (Ci nm_Short q_Short C_Short N_Short B_Short bs_Short true sn_Short sub_Short ab_Short col_Short dd_Short k0_Short k1_Short k2_Short k3_Short k5_Short)) (ga_Short:bw K (.ref C_Short) "__getattribute__"=some (some (.builtin "BaseException.__getattribute__"))) (gh_Short:bw K (.ref C_Short) "__getattr__"=some none) (sa_Short:bw K (.ref C_Short) "__setattr__"=some (some (.builtin "object.__setattr__")))
  {nm2_BeltError q2_BeltError:Str} {N2_BeltError:Addr} {bs2_BeltError bm2_BeltError:List Value} {hd2_BeltError:Bool} {sn2_BeltError:List Str} {sub2_BeltError:List Value} {ab2_BeltError:Bool} {col2_BeltError:Option Bool} {dd2_BeltError:Option Addr} {k02_BeltError k12_BeltError k22_BeltError k32_BeltError k52_BeltError:Option Value} {nid_BeltError:String}
  (le_BeltError:K.lookup C_BeltError=some (excClassObj nm2_BeltError q2_BeltError C_BeltError N2_BeltError bs2_BeltError bm2_BeltError hd2_BeltError sn2_BeltError sub2_BeltError ab2_BeltError col2_BeltError dd2_BeltError k02_BeltError k12_BeltError k22_BeltError k32_BeltError k52_BeltError nid_BeltError)) (me_BeltError:dh K C_BeltError (.type "BaseException")=some true)
  {nm2_NoProgram q2_NoProgram:Str} {N2_NoProgram:Addr} {bs2_NoProgram bm2_NoProgram:List Value} {hd2_NoProgram:Bool} {sn2_NoProgram:List Str} {sub2_NoProgram:List Value} {ab2_NoProgram:Bool} {col2_NoProgram:Option Bool} {dd2_NoProgram:Option Addr} {k02_NoProgram k12_NoProgram k22_NoProgram k32_NoProgram k52_NoProgram:Option Value} {nid_NoProgram:String}
  (le_NoProgram:K.lookup C_NoProgram=some (excClassObj nm2_NoProgram q2_NoProgram C_NoProgram N2_NoProgram bs2_NoProgram bm2_NoProgram hd2_NoProgram sn2_NoProgram sub2_NoProgram ab2_NoProgram col2_NoProgram dd2_NoProgram k02_NoProgram k12_NoProgram k22_NoProgram k32_NoProgram k52_NoProgram nid_NoProgram)) (me_NoProgram:dh K C_NoProgram (.type "BaseException")=some true)
  (kp_NoLine:aF K (.ref C_NoLine)=true)
  (kp_NoProgram:aF K (.ref C_NoProgram)=true)
  (kp_Short:aF K (.ref C_Short)=true)
  (xw_4:bw K (.ref C_NoProgram) "__class__"=some (some (.builtin "object.__class__")))
  (xm_5:dh K C_NoProgram (.ref C_NoProgram)=some true)
  (xm_6:dh K C_NoProgram (.ref C_BeltError)=some true)
  (xi_7:iH K (.ref C_NoProgram) C_NoProgram=true)
  (xn_8:C_NoProgram≠C_NoLine) (xi_8:eZ K C_NoLine=true) (xt_8:eQ K (.ref C_NoLine)=some (.type "type")) (xs_8:hU K (.ref C_NoProgram) (.ref C_NoLine)=some false)
  (xn_9:C_NoProgram≠C_Short) (xi_9:eZ K C_Short=true) (xt_9:eQ K (.ref C_Short)=some (.type "type")) (xs_9:hU K (.ref C_NoProgram) (.ref C_Short)=some false)
  (xi_10:iH K (.ref C_NoProgram) C_BeltError=true)
  (xw_13:bw K (.ref C_NoLine) "__class__"=some (some (.builtin "object.__class__")))
  (xi_14:iH K (.ref C_NoLine) C_BeltError=true)
  (xn_15:C_NoLine≠C_NoProgram) (xi_15:eZ K C_NoProgram=true) (xt_15:eQ K (.ref C_NoProgram)=some (.type "type")) (xs_15:hU K (.ref C_NoLine) (.ref C_NoProgram)=some false)
  (xi_16:iH K (.ref C_NoLine) C_NoLine=true)
  (xn_17:C_NoLine≠C_Short) (xi_17:eZ K C_Short=true) (xt_17:eQ K (.ref C_Short)=some (.type "type")) (xs_17:hU K (.ref C_NoLine) (.ref C_Short)=some false)
  (xw_23:bw K (.ref C_Short) "__class__"=some (some (.builtin "object.__class__")))
  (xi_24:iH K (.ref C_Short) C_BeltError=true)
  (xn_25:C_Short≠C_NoProgram) (xi_25:eZ K C_NoProgram=true) (xt_25:eQ K (.ref C_NoProgram)=some (.type "type")) (xs_25:hU K (.ref C_Short) (.ref C_NoProgram)=some false)
  (xn_26:C_Short≠C_NoLine) (xi_26:eZ K C_NoLine=true) (xt_26:eQ K (.ref C_NoLine)=some (.type "type")) (xs_26:hU K (.ref C_Short) (.ref C_NoLine)=some false)
  (xi_27:iH K (.ref C_Short) C_Short=true)
  (z_ValueError:aC K mainGlobals "ValueError"=some none)
  (no_0:bw K (.ref C_NoProgram) "part"=some none)
  (no_1:bw K (.ref C_NoProgram) "row"=some none)
  (no_2:bw K (.ref C_NoProgram) "word"=some none)
  (no_3:bw K (.ref C_NoLine) "line"=some none)
  (no_4:bw K (.ref C_Short) "part"=some none)
  (no_5:bw K (.ref C_Short) "row"=some none)
  (no_6:bw K (.ref C_Short) "word"=some none)
  (no_7:bw K (.ref C_Short) "names"=some none)
  {od0 an0:Option Addr} {sl0:Array (Option Value)} {oc0 kV0 dc0 pm0 cd0 ct0:Value} {f0:Addr}
  (a0:aC K mainGlobals "_law_draw"=some (some (.ref f0)))
  (l0:K.lookup f0=some ⟨oc0,od0,.func (aL "_law_draw" "_law_draw" (bL oz) (aP oz) (aq oz) .none kV0 dc0 pm0 an0 cd0 ct0),sl0⟩) (c0:aI K cd0 "_law_draw"=true) (k0:aF K (.ref f0)=true)
  {od1 an1:Option Addr} {sl1:Array (Option Value)} {oc1 kV1 dc1 pm1 cd1 ct1:Value} {f1:Addr}
  (a1:bw K (.ref C_NoProgram) "__init__"=some (some (.ref f1)))
  (l1:K.lookup f1=some ⟨oc1,od1,.func (aL "__init__" "NoProgram.__init__" (bL dE) (aP dE) (aq dE) .none kV1 dc1 pm1 an1 cd1 ct1),sl1⟩) (c1:aI K cd1 "NoProgram.__init__"=true) (k1:aF K (.ref f1)=true)
  (i1:nU K (.ref f1)=true)
  {od2 an2:Option Addr} {sl2:Array (Option Value)} {oc2 kV2 dc2 pm2 cd2 ct2:Value} {f2:Addr}
  (a2:bw K (.ref C_NoLine) "__init__"=some (some (.ref f2)))
  (l2:K.lookup f2=some ⟨oc2,od2,.func (aL "__init__" "NoLine.__init__" (bL eL) (aP eL) (aq eL) .none kV2 dc2 pm2 an2 cd2 ct2),sl2⟩) (c2:aI K cd2 "NoLine.__init__"=true) (k2:aF K (.ref f2)=true)
  (i2:nU K (.ref f2)=true)
  {od3 an3:Option Addr} {sl3:Array (Option Value)} {oc3 kV3 dc3 pm3 cd3 ct3:Value} {f3:Addr}
  (a3:bw K (.ref C_Short) "__init__"=some (some (.ref f3)))
  (l3:K.lookup f3=some ⟨oc3,od3,.func (aL "__init__" "Short.__init__" (bL fh) (aP fh) (aq fh) .none kV3 dc3 pm3 an3 cd3 ct3),sl3⟩) (c3:aI K cd3 "Short.__init__"=true) (k3:aF K (.ref f3)=true)
  (i3:nU K (.ref f3)=true)
  {od4 an4:Option Addr} {sl4:Array (Option Value)} {oc4 kV4 dc4 pm4 cd4 ct4:Value} {f4:Addr}
  (a4:aC K mainGlobals "_law_made_right"=some (some (.ref f4)))
  (l4:K.lookup f4=some ⟨oc4,od4,.func (aL "_law_made_right" "_law_made_right" (bL eM) (aP eM) (aq eM) .none kV4 dc4 pm4 an4 cd4 ct4),sl4⟩) (c4:aI K cd4 "_law_made_right"=true) (k4:aF K (.ref f4)=true)
  {od5 an5:Option Addr} {sl5:Array (Option Value)} {oc5 kV5 dc5 pm5 cd5 ct5:Value} {f5:Addr}
  (a5:aC K mainGlobals "reads"=some (some (.ref f5)))
  (l5:K.lookup f5=some ⟨oc5,od5,.func (aL "reads" "reads" (bL iN) (aP iN) (aq iN) .none kV5 dc5 pm5 an5 cd5 ct5),sl5⟩) (c5:aI K cd5 "reads"=true) (k5:aF K (.ref f5)=true)
  {od6 an6:Option Addr} {sl6:Array (Option Value)} {oc6 kV6 dc6 pm6 cd6 ct6:Value} {f6:Addr}
  (a6:aC K mainGlobals "names_read"=some (some (.ref f6)))
  (l6:K.lookup f6=some ⟨oc6,od6,.func (aL "names_read" "names_read" (bL d6) (aP d6) (aq d6) .none kV6 dc6 pm6 an6 cd6 ct6),sl6⟩) (c6:aI K cd6 "names_read"=true) (k6:aF K (.ref f6)=true)
  {od7 an7:Option Addr} {sl7:Array (Option Value)} {oc7 kV7 dc7 pm7 cd7 ct7:Value} {f7:Addr}
  (a7:aC K mainGlobals "sets"=some (some (.ref f7)))
  (l7:K.lookup f7=some ⟨oc7,od7,.func (aL "sets" "sets" (bL jJ) (aP jJ) (aq jJ) .none kV7 dc7 pm7 an7 cd7 ct7),sl7⟩) (c7:aI K cd7 "sets"=true) (k7:aF K (.ref f7)=true)
  {od8 an8:Option Addr} {sl8:Array (Option Value)} {oc8 kV8 dc8 pm8 cd8 ct8:Value} {f8:Addr}
  (a8:aC K mainGlobals "goal"=some (some (.ref f8)))
  (l8:K.lookup f8=some ⟨oc8,od8,.func (aL "goal" "goal" (bL iY) (aP iY) (aq iY) .none kV8 dc8 pm8 an8 cd8 ct8),sl8⟩) (c8:aI K cd8 "goal"=true) (k8:aF K (.ref f8)=true)
  {od9 an9:Option Addr} {sl9:Array (Option Value)} {oc9 kV9 dc9 pm9 cd9 ct9:Value} {f9:Addr}
  (a9:aC K mainGlobals "leads"=some (some (.ref f9)))
  (l9:K.lookup f9=some ⟨oc9,od9,.func (aL "leads" "leads" (bL iM) (aP iM) (aq iM) .none kV9 dc9 pm9 an9 cd9 ct9),sl9⟩) (c9:aI K cd9 "leads"=true) (k9:aF K (.ref f9)=true)
  {od10 an10:Option Addr} {sl10:Array (Option Value)} {oc10 kV10 dc10 pm10 cd10 ct10:Value} {f10:Addr}
  {T10:Addr} {ocT10:Value} {odT10:Option Addr} {nT10:Nat} {slT10:Array (Option Value)}
  (a10:aC K mainGlobals "walked"=some (some (.ref f10)))
  (l10:K.lookup f10=some ⟨oc10,od10,.func (aL "walked" "walked" (bL e7) (aP e7) (aq e7) (.ref T10) kV10 dc10 pm10 an10 cd10 ct10),sl10⟩) (c10:aI K cd10 "walked"=true) (k10:aF K (.ref f10)=true)
  (t10:K.lookup T10=some ⟨ocT10,odT10,.seq #[Value.none] nT10,slT10⟩)
  {od11 an11:Option Addr} {sl11:Array (Option Value)} {oc11 kV11 dc11 pm11 cd11 ct11:Value} {f11:Addr}
  (a11:aC K mainGlobals "unset_due"=some (some (.ref f11)))
  (l11:K.lookup f11=some ⟨oc11,od11,.func (aL "unset_due" "unset_due" (bL dX) (aP dX) (aq dX) .none kV11 dc11 pm11 an11 cd11 ct11),sl11⟩) (c11:aI K cd11 "unset_due"=true) (k11:aF K (.ref f11)=true)
  {od12 an12:Option Addr} {sl12:Array (Option Value)} {oc12 kV12 dc12 pm12 cd12 ct12:Value} {f12:Addr}
  (a12:aC K mainGlobals "refuse"=some (some (.ref f12)))
  (l12:K.lookup f12=some ⟨oc12,od12,.func (aL "refuse" "refuse" (bL gU) (aP gU) (aq gU) .none kV12 dc12 pm12 an12 cd12 ct12),sl12⟩) (c12:aI K cd12 "refuse"=true) (k12:aF K (.ref f12)=true)
  {od13 an13:Option Addr} {sl13:Array (Option Value)} {oc13 kV13 dc13 pm13 cd13 ct13:Value} {f13:Addr}
  (a13:aC K mainGlobals "comes_round"=some (some (.ref f13)))
  (l13:K.lookup f13=some ⟨oc13,od13,.func (aL "comes_round" "comes_round" (bL dR) (aP dR) (aq dR) .none kV13 dc13 pm13 an13 cd13 ct13),sl13⟩) (c13:aI K cd13 "comes_round"=true) (k13:aF K (.ref f13)=true)
  {od14 an14:Option Addr} {sl14:Array (Option Value)} {oc14 kV14 dc14 pm14 cd14 ct14:Value} {f14:Addr}
  (a14:aC K mainGlobals "ring_due"=some (some (.ref f14)))
  (l14:K.lookup f14=some ⟨oc14,od14,.func (aL "ring_due" "ring_due" (bL fi) (aP fi) (aq fi) .none kV14 dc14 pm14 an14 cd14 ct14),sl14⟩) (c14:aI K cd14 "ring_due"=true) (k14:aF K (.ref f14)=true)
  {od15 an15:Option Addr} {sl15:Array (Option Value)} {oc15 kV15 dc15 pm15 cd15 ct15:Value} {f15:Addr}
  (a15:aC K mainGlobals "calls_amiss"=some (some (.ref f15)))
  (l15:K.lookup f15=some ⟨oc15,od15,.func (aL "calls_amiss" "calls_amiss" (bL dQ) (aP dQ) (aq dQ) .none kV15 dc15 pm15 an15 cd15 ct15),sl15⟩) (c15:aI K cd15 "calls_amiss"=true) (k15:aF K (.ref f15)=true)
  {od16 an16:Option Addr} {sl16:Array (Option Value)} {oc16 kV16 dc16 pm16 cd16 ct16:Value} {f16:Addr}
  (a16:aC K mainGlobals "goes_astray"=some (some (.ref f16)))
  (l16:K.lookup f16=some ⟨oc16,od16,.func (aL "goes_astray" "goes_astray" (bL dS) (aP dS) (aq dS) .none kV16 dc16 pm16 an16 cd16 ct16),sl16⟩) (c16:aI K cd16 "goes_astray"=true) (k16:aF K (.ref f16)=true)
  {od17 an17:Option Addr} {sl17:Array (Option Value)} {oc17 kV17 dc17 pm17 cd17 ct17:Value} {f17:Addr}
  (a17:aC K mainGlobals "row_due"=some (some (.ref f17)))
  (l17:K.lookup f17=some ⟨oc17,od17,.func (aL "row_due" "row_due" (bL fY) (aP fY) (aq fY) .none kV17 dc17 pm17 an17 cd17 ct17),sl17⟩) (c17:aI K cd17 "row_due"=true) (k17:aF K (.ref f17)=true)
  {od18 an18:Option Addr} {sl18:Array (Option Value)} {oc18 kV18 dc18 pm18 cd18 ct18:Value} {f18:Addr}
  (a18:aC K mainGlobals "name_due"=some (some (.ref f18)))
  (l18:K.lookup f18=some ⟨oc18,od18,.func (aL "name_due" "name_due" (bL eO) (aP eO) (aq eO) .none kV18 dc18 pm18 an18 cd18 ct18),sl18⟩) (c18:aI K cd18 "name_due"=true) (k18:aF K (.ref f18)=true)
  {od19 an19:Option Addr} {sl19:Array (Option Value)} {oc19 kV19 dc19 pm19 cd19 ct19:Value} {f19:Addr}
  (a19:aC K mainGlobals "check"=some (some (.ref f19)))
  (l19:K.lookup f19=some ⟨oc19,od19,.func (aL "check" "check" (bL iL) (aP iL) (aq iL) .none kV19 dc19 pm19 an19 cd19 ct19),sl19⟩) (c19:aI K cd19 "check"=true) (k19:aF K (.ref f19)=true)
  {od20 an20:Option Addr} {sl20:Array (Option Value)} {oc20 kV20 dc20 pm20 cd20 ct20:Value} {f20:Addr}
  (a20:aC K mainGlobals "_law_classes"=some (some (.ref f20)))
  (l20:K.lookup f20=some ⟨oc20,od20,.func (aL "_law_classes" "_law_classes" (bL iK) (aP iK) (aq iK) .none kV20 dc20 pm20 an20 cd20 ct20),sl20⟩) (c20:aI K cd20 "_law_classes"=true) (k20:aF K (.ref f20)=true)
  {od21 an21:Option Addr} {sl21:Array (Option Value)} {oc21 kV21 dc21 pm21 cd21 ct21:Value} {f21:Addr}
  (a21:aC K mainGlobals "_law_told"=some (some (.ref f21)))
  (l21:K.lookup f21=some ⟨oc21,od21,.func (aL "_law_told" "_law_told" (bL oC) (aP oC) (aq oC) .none kV21 dc21 pm21 an21 cd21 ct21),sl21⟩) (c21:aI K cd21 "_law_told"=true) (k21:aF K (.ref f21)=true)
  {od22 an22:Option Addr} {sl22:Array (Option Value)} {oc22 kV22 dc22 pm22 cd22 ct22:Value} {f22:Addr}
  (a22:aC K mainGlobals "_law_meets"=some (some (.ref f22)))
  (l22:K.lookup f22=some ⟨oc22,od22,.func (aL "_law_meets" "_law_meets" (bL lx) (aP lx) (aq lx) .none kV22 dc22 pm22 an22 cd22 ct22),sl22⟩) (c22:aI K cd22 "_law_meets"=true) (k22:aF K (.ref f22)=true)
  {od23 an23:Option Addr} {sl23:Array (Option Value)} {oc23 kV23 dc23 pm23 cd23 ct23:Value} {f23:Addr}
  (a23:aC K mainGlobals "_law_read"=some (some (.ref f23)))
  (l23:K.lookup f23=some ⟨oc23,od23,.func (aL "_law_read" "_law_read" (bL oB) (aP oB) (aq oB) .none kV23 dc23 pm23 an23 cd23 ct23),sl23⟩) (c23:aI K cd23 "_law_read"=true) (k23:aF K (.ref f23)=true)
  {od24 an24:Option Addr} {sl24:Array (Option Value)} {oc24 kV24 dc24 pm24 cd24 ct24:Value} {f24:Addr}
  (a24:aC K mainGlobals "_law_next"=some (some (.ref f24)))
  (l24:K.lookup f24=some ⟨oc24,od24,.func (aL "_law_next" "_law_next" (bL oA) (aP oA) (aq oA) .none kV24 dc24 pm24 an24 cd24 ct24),sl24⟩) (c24:aI K cd24 "_law_next"=true) (k24:aF K (.ref f24)=true)
  {od25 an25:Option Addr} {sl25:Array (Option Value)} {oc25 kV25 dc25 pm25 cd25 ct25:Value} {f25:Addr}
  (a25:aC K mainGlobals "_law_without"=some (some (.ref f25)))
  (l25:K.lookup f25=some ⟨oc25,od25,.func (aL "_law_without" "_law_without" (bL gJ) (aP gJ) (aq gJ) .none kV25 dc25 pm25 an25 cd25 ct25),sl25⟩) (c25:aI K cd25 "_law_without"=true) (k25:aF K (.ref f25)=true)
  {od26 an26:Option Addr} {sl26:Array (Option Value)} {oc26 kV26 dc26 pm26 cd26 ct26:Value} {f26:Addr}
  (a26:aC K mainGlobals "_law_unset"=some (some (.ref f26)))
  (l26:K.lookup f26=some ⟨oc26,od26,.func (aL "_law_unset" "_law_unset" (bL lz) (aP lz) (aq lz) .none kV26 dc26 pm26 an26 cd26 ct26),sl26⟩) (c26:aI K cd26 "_law_unset"=true) (k26:aF K (.ref f26)=true)
  {od27 an27:Option Addr} {sl27:Array (Option Value)} {oc27 kV27 dc27 pm27 cd27 ct27:Value} {f27:Addr}
  (a27:aC K mainGlobals "_law_round"=some (some (.ref f27)))
  (l27:K.lookup f27=some ⟨oc27,od27,.func (aL "_law_round" "_law_round" (bL ly) (aP ly) (aq ly) .none kV27 dc27 pm27 an27 cd27 ct27),sl27⟩) (c27:aI K cd27 "_law_round"=true) (k27:aF K (.ref f27)=true)
  {od28 an28:Option Addr} {sl28:Array (Option Value)} {oc28 kV28 dc28 pm28 cd28 ct28:Value} {f28:Addr}
  (a28:aC K mainGlobals "_law_bad_row"=some (some (.ref f28)))
  (l28:K.lookup f28=some ⟨oc28,od28,.func (aL "_law_bad_row" "_law_bad_row" (bL iJ) (aP iJ) (aq iJ) .none kV28 dc28 pm28 an28 cd28 ct28),sl28⟩) (c28:aI K cd28 "_law_bad_row"=true) (k28:aF K (.ref f28)=true)
  {od29 an29:Option Addr} {sl29:Array (Option Value)} {oc29 kV29 dc29 pm29 cd29 ct29:Value} {f29:Addr}
  (a29:aC K mainGlobals "_law_part_due"=some (some (.ref f29)))
  (l29:K.lookup f29=some ⟨oc29,od29,.func (aL "_law_part_due" "_law_part_due" (bL fH) (aP fH) (aq fH) .none kV29 dc29 pm29 an29 cd29 ct29),sl29⟩) (c29:aI K cd29 "_law_part_due"=true) (k29:aF K (.ref f29)=true)
  {od30 an30:Option Addr} {sl30:Array (Option Value)} {oc30 kV30 dc30 pm30 cd30 ct30:Value} {f30:Addr}
  (a30:aC K mainGlobals "_law_due"=some (some (.ref f30)))
  (l30:K.lookup f30=some ⟨oc30,od30,.func (aL "_law_due" "_law_due" (bL sI) (aP sI) (aq sI) .none kV30 dc30 pm30 an30 cd30 ct30),sl30⟩) (c30:aI K cd30 "_law_due"=true) (k30:aF K (.ref f30)=true)
  {od31 an31:Option Addr} {sl31:Array (Option Value)} {oc31 kV31 dc31 pm31 cd31 ct31:Value} {f31:Addr}
  (a31:aC K mainGlobals "_law_row_spoilt"=some (some (.ref f31)))
  (l31:K.lookup f31=some ⟨oc31,od31,.func (aL "_law_row_spoilt" "_law_row_spoilt" (bL fj) (aP fj) (aq fj) .none kV31 dc31 pm31 an31 cd31 ct31),sl31⟩) (c31:aI K cd31 "_law_row_spoilt"=true) (k31:aF K (.ref f31)=true)
  {od32 an32:Option Addr} {sl32:Array (Option Value)} {oc32 kV32 dc32 pm32 cd32 ct32:Value} {f32:Addr}
  (a32:aC K mainGlobals "_law_spoilt"=some (some (.ref f32)))
  (l32:K.lookup f32=some ⟨oc32,od32,.func (aL "_law_spoilt" "_law_spoilt" (bL jK) (aP jK) (aq jK) .none kV32 dc32 pm32 an32 cd32 ct32),sl32⟩) (c32:aI K cd32 "_law_spoilt"=true) (k32:aF K (.ref f32)=true)
  {od33 an33:Option Addr} {sl33:Array (Option Value)} {oc33 kV33 dc33 pm33 cd33 ct33:Value} {f33:Addr}
  (a33:aC K mainGlobals "_law_filled"=some (some (.ref f33)))
  (l33:K.lookup f33=some ⟨oc33,od33,.func (aL "_law_filled" "_law_filled" (bL iX) (aP iX) (aq iX) .none kV33 dc33 pm33 an33 cd33 ct33),sl33⟩) (c33:aI K cd33 "_law_filled"=true) (k33:aF K (.ref f33)=true)
  {od34 an34:Option Addr} {sl34:Array (Option Value)} {oc34 kV34 dc34 pm34 cd34 ct34:Value} {f34:Addr}
  (a34:aC K mainGlobals "_law_leads"=some (some (.ref f34)))
  (l34:K.lookup f34=some ⟨oc34,od34,.func (aL "_law_leads" "_law_leads" (bL lu) (aP lu) (aq lu) .none kV34 dc34 pm34 an34 cd34 ct34),sl34⟩) (c34:aI K cd34 "_law_leads"=true) (k34:aF K (.ref f34)=true)
  {od35 an35:Option Addr} {sl35:Array (Option Value)} {oc35 kV35 dc35 pm35 cd35 ct35:Value} {f35:Addr}
  (a35:aC K mainGlobals "_law_set_names"=some (some (.ref f35)))
  (l35:K.lookup f35=some ⟨oc35,od35,.func (aL "_law_set_names" "_law_set_names" (bL eT) (aP eT) (aq eT) .none kV35 dc35 pm35 an35 cd35 ct35),sl35⟩) (c35:aI K cd35 "_law_set_names"=true) (k35:aF K (.ref f35)=true)
  {od36 an36:Option Addr} {sl36:Array (Option Value)} {oc36 kV36 dc36 pm36 cd36 ct36:Value} {f36:Addr}
  (a36:aC K mainGlobals "_law_mended"=some (some (.ref f36)))
  (l36:K.lookup f36=some ⟨oc36,od36,.func (aL "_law_mended" "_law_mended" (bL jI) (aP jI) (aq jI) .none kV36 dc36 pm36 an36 cd36 ct36),sl36⟩) (c36:aI K cd36 "_law_mended"=true) (k36:aF K (.ref f36)=true)
  {od37 an37:Option Addr} {sl37:Array (Option Value)} {oc37 kV37 dc37 pm37 cd37 ct37:Value} {f37:Addr}
  (a37:aC K mainGlobals "_law_worth"=some (some (.ref f37)))
  (l37:K.lookup f37=some ⟨oc37,od37,.func (aL "_law_worth" "_law_worth" (bL lA) (aP lA) (aq lA) .none kV37 dc37 pm37 an37 cd37 ct37),sl37⟩) (c37:aI K cd37 "_law_worth"=true) (k37:aF K (.ref f37)=true)
  {od38 an38:Option Addr} {sl38:Array (Option Value)} {oc38 kV38 dc38 pm38 cd38 ct38:Value} {f38:Addr}
  (a38:aC K mainGlobals "_law_rough_row"=some (some (.ref f38)))
  (l38:K.lookup f38=some ⟨oc38,od38,.func (aL "_law_rough_row" "_law_rough_row" (bL fZ) (aP fZ) (aq fZ) .none kV38 dc38 pm38 an38 cd38 ct38),sl38⟩) (c38:aI K cd38 "_law_rough_row"=true) (k38:aF K (.ref f38)=true)
  {od39 an39:Option Addr} {sl39:Array (Option Value)} {oc39 kV39 dc39 pm39 cd39 ct39:Value} {f39:Addr}
  (a39:aC K mainGlobals "_law_part"=some (some (.ref f39)))
  (l39:K.lookup f39=some ⟨oc39,od39,.func (aL "_law_part" "_law_part" (bL m6) (aP m6) (aq m6) .none kV39 dc39 pm39 an39 cd39 ct39),sl39⟩) (c39:aI K cd39 "_law_part"=true) (k39:aF K (.ref f39)=true)
  {od40 an40:Option Addr} {sl40:Array (Option Value)} {oc40 kV40 dc40 pm40 cd40 ct40:Value} {f40:Addr}
  (a40:aC K mainGlobals "_law_names"=some (some (.ref f40)))
  (l40:K.lookup f40=some ⟨oc40,od40,.func (aL "_law_names" "_law_names" (bL kh) (aP kh) (aq kh) .none kV40 dc40 pm40 an40 cd40 ct40),sl40⟩) (c40:aI K cd40 "_law_names"=true) (k40:aF K (.ref f40)=true)
  {od41 an41:Option Addr} {sl41:Array (Option Value)} {oc41 kV41 dc41 pm41 cd41 ct41:Value} {f41:Addr}
  (a41:aC K mainGlobals "_law_program"=some (some (.ref f41)))
  (l41:K.lookup f41=some ⟨oc41,od41,.func (aL "_law_program" "_law_program" (bL hZ) (aP hZ) (aq hZ) .none kV41 dc41 pm41 an41 cd41 ct41),sl41⟩) (c41:aI K cd41 "_law_program"=true) (k41:aF K (.ref f41)=true)
  {od42 an42:Option Addr} {sl42:Array (Option Value)} {oc42 kV42 dc42 pm42 cd42 ct42:Value} {f42:Addr}
  (a42:aC K mainGlobals "law"=some (some (.ref f42)))
  (l42:K.lookup f42=some ⟨oc42,od42,.func (aL "law" "law" (bL oP) (aP oP) (aq oP) .none kV42 dc42 pm42 an42 cd42 ct42),sl42⟩) (c42:aI K cd42 "law"=true) (k42:aF K (.ref f42)=true)
  (z_len:aC K mainGlobals "len"=some none) (z_range:aC K mainGlobals "range"=some none) (z_divmod:aC K mainGlobals "divmod"=some none) (z_max:aC K mainGlobals "max"=some none) (z_min:aC K mainGlobals "min"=some none) (z_sum:aC K mainGlobals "sum"=some none) (z_all:aC K mainGlobals "all"=some none) (z_isinstance:aC K mainGlobals "isinstance"=some none) (z_int:aC K mainGlobals "int"=some none) (z_bool:aC K mainGlobals "bool"=some none) (z_list:aC K mainGlobals "list"=some none) (z_tuple:aC K mainGlobals "tuple"=some none) (z_enumerate:aC K mainGlobals "enumerate"=some none) (z_zip:aC K mainGlobals "zip"=some none) (z_sorted:aC K mainGlobals "sorted"=some none) (z_set:aC K mainGlobals "set"=some none) (z_dict:aC K mainGlobals "dict"=some none) (z_str:aC K mainGlobals "str"=some none) (z_any:aC K mainGlobals "any"=some none) (z_reversed:aC K mainGlobals "reversed"=some none) (z_abs:aC K mainGlobals "abs"=some none) :
  ∃fd:FuncData,(∀(s:Shared) (v:Value),BindsTo s fd ⟨[v],[]⟩ [("_law_script",v)])/\∀base:Heap,K.In base->base.Ns mainGlobals mg->dY l.prog w K mg base fB DW fa fd vP (sp_law K):=by
 have e:=hfa.symm.trans (aM X G a42)
 cases e
 have B:gc mg:=⟨bp X G z_len,bp X G z_range,bp X G z_divmod,bp X G z_max,bp X G z_min,bp X G z_sum,bp X G z_all,bp X G z_isinstance,bp X G z_int,bp X G z_bool,bp X G z_list,bp X G z_tuple,bp X G z_enumerate,bp X G z_zip,bp X G z_sorted,bp X G z_set,bp X G z_dict,bp X G z_str,bp X G z_any,bp X G z_reversed,bp X G z_abs⟩
 have eC_BeltError:bA K "BeltError"=C_BeltError:=si zc_BeltError
 have eC_NoLine:bA K "NoLine"=C_NoLine:=si zc_NoLine
 have eC_NoProgram:bA K "NoProgram"=C_NoProgram:=si zc_NoProgram
 have eC_Short:bA K "Short"=C_Short:=si zc_Short
 have xc_NoLine:tG K C_NoLine:=⟨⟨_,_,_,_,_,_,_,_,_,_,_,_,_,_,_,lx_NoLine⟩,ga_NoLine,gh_NoLine,sa_NoLine⟩
 have xc_NoProgram:tG K C_NoProgram:=⟨⟨_,_,_,_,_,_,_,_,_,_,_,_,_,_,_,lx_NoProgram⟩,ga_NoProgram,gh_NoProgram,sa_NoProgram⟩
 have xc_Short:tG K C_Short:=⟨⟨_,_,_,_,_,_,_,_,_,_,_,_,_,_,_,lx_Short⟩,ga_Short,gh_Short,sa_Short⟩
 have xe_BeltError:Mc K C_BeltError:=⟨⟨_,_,_,_,_,_,_,_,_,_,_,_,_,_,_,_,_,le_BeltError⟩,me_BeltError⟩
 have xe_NoProgram:Mc K C_NoProgram:=⟨⟨_,_,_,_,_,_,_,_,_,_,_,_,_,_,_,_,_,le_NoProgram⟩,me_NoProgram⟩
 have g_NoProgram:mg "NoProgram"=some (.ref (bA K "NoProgram")):=aM X G zc_NoProgram |>.trans (by rw[eC_NoProgram])
 have g_NoLine:mg "NoLine"=some (.ref (bA K "NoLine")):=aM X G zc_NoLine |>.trans (by rw[eC_NoLine])
 have g_Short:mg "Short"=some (.ref (bA K "Short")):=aM X G zc_Short |>.trans (by rw[eC_Short])
 have z_ValueError:mg "ValueError"=none:=bp X G z_ValueError
 have g_BeltError:mg "BeltError"=some (.ref (bA K "BeltError")):=aM X G zc_BeltError |>.trans (by rw[eC_BeltError])
 have T:rB K:=⟨(by rw[eC_NoProgram];exact xc_NoProgram),(by rw[eC_NoProgram];exact no_0),(by rw[eC_NoProgram];exact no_1),(by rw[eC_NoProgram];exact no_2),(by rw[eC_NoProgram];exact xw_4),(by rw[eC_NoProgram];exact⟨xc_NoProgram,xe_NoProgram,xm_5⟩),(by rw[eC_NoProgram,eC_BeltError];exact⟨xc_NoProgram,xe_BeltError,xm_6⟩),(by rw[eC_NoProgram];exact xi_7),(by rw[eC_NoProgram,eC_NoLine];exact⟨xn_8,xi_8,xt_8,xs_8⟩),(by rw[eC_NoProgram,eC_Short];exact⟨xn_9,xi_9,xt_9,xs_9⟩),(by rw[eC_NoProgram,eC_BeltError];exact xi_10),(by rw[eC_NoLine];exact xc_NoLine),(by rw[eC_NoLine];exact no_3),(by rw[eC_NoLine];exact xw_13),(by rw[eC_NoLine,eC_BeltError];exact xi_14),(by rw[eC_NoLine,eC_NoProgram];exact⟨xn_15,xi_15,xt_15,xs_15⟩),(by rw[eC_NoLine];exact xi_16),(by rw[eC_NoLine,eC_Short];exact⟨xn_17,xi_17,xt_17,xs_17⟩),(by rw[eC_Short];exact xc_Short),(by rw[eC_Short];exact no_4),(by rw[eC_Short];exact no_5),(by rw[eC_Short];exact no_6),(by rw[eC_Short];exact no_7),(by rw[eC_Short];exact xw_23),(by rw[eC_Short,eC_BeltError];exact xi_24),(by rw[eC_Short,eC_NoProgram];exact⟨xn_25,xi_25,xt_25,xs_25⟩),(by rw[eC_Short,eC_NoLine];exact⟨xn_26,xi_26,xt_26,xs_26⟩),(by rw[eC_Short];exact xi_27)⟩
 have F0:=cN (st:=oz) l0 c0 k0
 have b0:=F0.binds (ps:=dZ) λ_ _ _ _ _ _ us hl=>by(obtain⟨_,_,rfl⟩:=AD (us:=us) hl);rfl
 have F1:=cN (st:=dE) l1 c1 k1
 have b1:=F1.binds (ps:=dw) λ_ _ _ _ _ _ us hl=>by(obtain⟨_,_,_,_,rfl⟩:=Pe (us:=us) hl);rfl
 have F2:=cN (st:=eL) l2 c2 k2
 have b2:=F2.binds (ps:=fE) λ_ _ _ _ _ _ us hl=>by(obtain⟨_,_,rfl⟩:=AD (us:=us) hl);rfl
 have F3:=cN (st:=fh) l3 c3 k3
 have b3:=F3.binds (ps:=gi) λ_ _ _ _ _ _ us hl=>by(obtain⟨_,_,_,_,_,rfl⟩:=Pu (us:=us) hl);rfl
 have F4:=cN (st:=eM) l4 c4 k4
 have b4:=F4.binds (ps:=gj) λ_ _ _ _ _ _ us hl=>by(obtain⟨_,_,_,rfl⟩:=LQ (us:=us) hl);rfl
 have F5:=cN (st:=iN) l5 c5 k5
 have b5:=F5.binds (ps:=gN) λ_ _ _ _ _ _ us hl=>by(obtain⟨_,rfl⟩:=GD (us:=us) hl);rfl
 have F6:=cN (st:=d6) l6 c6 k6
 have b6:=F6.binds (ps:=e6) λ_ _ _ _ _ _ us hl=>by(obtain⟨_,rfl⟩:=GD (us:=us) hl);rfl
 have F7:=cN (st:=jJ) l7 c7 k7
 have b7:=F7.binds (ps:=jS) λ_ _ _ _ _ _ us hl=>by(obtain⟨_,rfl⟩:=GD (us:=us) hl);rfl
 have F8:=cN (st:=iY) l8 c8 k8
 have b8:=F8.binds (ps:=eW) λ_ _ _ _ _ _ us hl=>by(obtain⟨_,rfl⟩:=GD (us:=us) hl);rfl
 have F9:=cN (st:=iM) l9 c9 k9
 have b9:=F9.binds (ps:=ja) λ_ _ _ _ _ _ us hl=>by(obtain⟨_,_,rfl⟩:=AD (us:=us) hl);rfl
 have F10:=JX (st:=e7) l10 c10 k10
 have F11:=cN (st:=dX) l11 c11 k11
 have b11:=F11.binds (ps:=fF) λ_ _ _ _ _ _ us hl=>by(obtain⟨_,rfl⟩:=GD (us:=us) hl);rfl
 have F12:=cN (st:=gU) l12 c12 k12
 have b12:=F12.binds (ps:=iy) λ_ _ _ _ _ _ us hl=>by(obtain⟨_,_,_,rfl⟩:=LQ (us:=us) hl);rfl
 have F13:=cN (st:=dR) l13 c13 k13
 have b13:=F13.binds (ps:=eC) λ_ _ _ _ _ _ us hl=>by(obtain⟨_,_,rfl⟩:=AD (us:=us) hl);rfl
 have F14:=cN (st:=fi) l14 c14 k14
 have b14:=F14.binds (ps:=gm) λ_ _ _ _ _ _ us hl=>by(obtain⟨_,rfl⟩:=GD (us:=us) hl);rfl
 have F15:=cN (st:=dQ) l15 c15 k15
 have b15:=F15.binds (ps:=eB) λ_ _ _ _ _ _ us hl=>by(obtain⟨_,_,rfl⟩:=AD (us:=us) hl);rfl
 have F16:=cN (st:=dS) l16 c16 k16
 have b16:=F16.binds (ps:=eD) λ_ _ _ _ _ _ us hl=>by(obtain⟨_,_,rfl⟩:=AD (us:=us) hl);rfl
 have F17:=cN (st:=fY) l17 c17 k17
 have b17:=F17.binds (ps:=gO) λ_ _ _ _ _ _ us hl=>by(obtain⟨_,_,rfl⟩:=AD (us:=us) hl);rfl
 have F18:=cN (st:=eO) l18 c18 k18
 have b18:=F18.binds (ps:=gk) λ_ _ _ _ _ _ us hl=>by(obtain⟨_,_,rfl⟩:=AD (us:=us) hl);rfl
 have F19:=cN (st:=iL) l19 c19 k19
 have b19:=F19.binds (ps:=gM) λ_ _ _ _ _ _ us hl=>by(obtain⟨_,rfl⟩:=GD (us:=us) hl);rfl
 have F20:=cN (st:=iK) l20 c20 k20
 have b20:=F20.binds (ps:=i9) λ_ _ _ _ _ _ us hl=>by(obtain⟨_,rfl⟩:=GD (us:=us) hl);rfl
 have F21:=cN (st:=oC) l21 c21 k21
 have b21:=F21.binds (ps:=oi) λ_ _ _ _ _ _ us hl=>by(obtain⟨_,rfl⟩:=GD (us:=us) hl);rfl
 have F22:=cN (st:=lx) l22 c22 k22
 have b22:=F22.binds (ps:=lK) λ_ _ _ _ _ _ us hl=>by(obtain⟨_,_,rfl⟩:=AD (us:=us) hl);rfl
 have F23:=cN (st:=oB) l23 c23 k23
 have b23:=F23.binds (ps:=oh) λ_ _ _ _ _ _ us hl=>by(obtain⟨_,rfl⟩:=GD (us:=us) hl);rfl
 have F24:=cN (st:=oA) l24 c24 k24
 have b24:=F24.binds (ps:=oa) λ_ _ _ _ _ _ us hl=>by(obtain⟨_,_,rfl⟩:=AD (us:=us) hl);rfl
 have F25:=cN (st:=gJ) l25 c25 k25
 have b25:=F25.binds (ps:=jc) λ_ _ _ _ _ _ us hl=>by(obtain⟨_,_,_,rfl⟩:=LQ (us:=us) hl);rfl
 have F26:=cN (st:=lz) l26 c26 k26
 have b26:=F26.binds (ps:=lN) λ_ _ _ _ _ _ us hl=>by(obtain⟨_,_,rfl⟩:=AD (us:=us) hl);rfl
 have F27:=cN (st:=ly) l27 c27 k27
 have b27:=F27.binds (ps:=lM) λ_ _ _ _ _ _ us hl=>by(obtain⟨_,_,rfl⟩:=AD (us:=us) hl);rfl
 have F28:=cN (st:=iJ) l28 c28 k28
 have b28:=F28.binds (ps:=i8) λ_ _ _ _ _ _ us hl=>by(obtain⟨_,_,_,rfl⟩:=LQ (us:=us) hl);rfl
 have F29:=cN (st:=fH) l29 c29 k29
 have b29:=F29.binds (ps:=iA) λ_ _ _ _ _ _ us hl=>by(obtain⟨_,_,rfl⟩:=AD (us:=us) hl);rfl
 have F30:=cN (st:=sI) l30 c30 k30
 have b30:=F30.binds (ps:=rz) λ_ _ _ _ _ _ us hl=>by(obtain⟨_,rfl⟩:=GD (us:=us) hl);rfl
 have F31:=cN (st:=fj) l31 c31 k31
 have b31:=F31.binds (ps:=gp) λ_ _ _ _ _ _ us hl=>by(obtain⟨_,_,_,rfl⟩:=LQ (us:=us) hl);rfl
 have F32:=cN (st:=jK) l32 c32 k32
 have b32:=F32.binds (ps:=jT) λ_ _ _ _ _ _ us hl=>by(obtain⟨_,_,rfl⟩:=AD (us:=us) hl);rfl
 have F33:=cN (st:=iX) l33 c33 k33
 have b33:=F33.binds (ps:=jQ) λ_ _ _ _ _ _ us hl=>by(obtain⟨_,_,_,rfl⟩:=LQ (us:=us) hl);rfl
 have F34:=cN (st:=lu) l34 c34 k34
 have b34:=F34.binds (ps:=lJ) λ_ _ _ _ _ _ us hl=>by(obtain⟨_,_,rfl⟩:=AD (us:=us) hl);rfl
 have F35:=cN (st:=eT) l35 c35 k35
 have b35:=F35.binds (ps:=gQ) λ_ _ _ _ _ _ us hl=>by(obtain⟨_,_,_,rfl⟩:=LQ (us:=us) hl);rfl
 have F36:=cN (st:=jI) l36 c36 k36
 have b36:=F36.binds (ps:=jR) λ_ _ _ _ _ _ us hl=>by(obtain⟨_,_,_,rfl⟩:=LQ (us:=us) hl);rfl
 have F37:=cN (st:=lA) l37 c37 k37
 have b37:=F37.binds (ps:=lO) λ_ _ _ _ _ _ us hl=>by(obtain⟨_,rfl⟩:=GD (us:=us) hl);rfl
 have F38:=cN (st:=fZ) l38 c38 k38
 have b38:=F38.binds (ps:=gP) λ_ _ _ _ _ _ us hl=>by(obtain⟨_,_,_,_,rfl⟩:=Pe (us:=us) hl);rfl
 have F39:=cN (st:=m6) l39 c39 k39
 have b39:=F39.binds (ps:=og) λ_ _ _ _ _ _ us hl=>by(obtain⟨_,_,_,_,_,_,rfl⟩:=Pw (us:=us) hl);rfl
 have F40:=cN (st:=kh) l40 c40 k40
 have b40:=F40.binds (ps:=lL) λ_ _ _ _ _ _ us hl=>by(obtain⟨_,_,rfl⟩:=AD (us:=us) hl);rfl
 have F41:=cN (st:=hZ) l41 c41 k41
 have b41:=F41.binds (ps:=jb) λ_ _ _ _ _ _ us hl=>by(obtain⟨_,_,rfl⟩:=AD (us:=us) hl);rfl
 have F42:=cN (st:=oP) l42 c42 k42
 refine⟨aL "law" "law" (bL oP) (aP oP) (aq oP) .none kV42 dc42 pm42 an42 cd42 ct42,λs v=>.of_eq rfl,λbase _ _=>?_⟩
 have c_draw:aK l.prog w K mg base "_law_draw" dZ gF (bC K):=⟨⟨_,_,aM X G a0,k0,b0,Kh F0 B⟩⟩
 have mx_NoProgram:oN l.prog w K mg base "NoProgram" (bA K "NoProgram") dw fz (cV K):=⟨⟨f1,_,aM X G zc_NoProgram |>.trans (by rw[eC_NoProgram]),by rw[eC_NoProgram];exact⟨xc_NoProgram,a1,i1,kp_NoProgram⟩,b1,sA F1 B T⟩⟩
 have mx_NoLine:oN l.prog w K mg base "NoLine" (bA K "NoLine") fE j8 (fJ K):=⟨⟨f2,_,aM X G zc_NoLine |>.trans (by rw[eC_NoLine]),by rw[eC_NoLine];exact⟨xc_NoLine,a2,i2,kp_NoLine⟩,b2,wB F2 B T⟩⟩
 have mx_Short:oN l.prog w K mg base "Short" (bA K "Short") gi kT (gr K):=⟨⟨f3,_,aM X G zc_Short |>.trans (by rw[eC_Short]),by rw[eC_Short];exact⟨xc_Short,a3,i3,kp_Short⟩,b3,xS F3 B T⟩⟩
 have c_made_right:aK l.prog w K mg base "_law_made_right" gj kU (gs K):=⟨⟨_,_,aM X G a4,k4,b4,xT F4 B T g_NoProgram g_NoLine g_Short z_ValueError g_BeltError mx_NoProgram mx_NoLine mx_Short⟩⟩
 have c_p_reads:aK l.prog w K mg base "reads" gN lE (gz K):=⟨⟨_,_,aM X G a5,k5,b5,Di F5 B⟩⟩
 have c_p_names_read:aK l.prog w K mg base "names_read" e6 jB (e9 K):=⟨⟨_,_,aM X G a6,k6,b6,u9 F6 B c_p_reads⟩⟩
 have c_p_sets:aK l.prog w K mg base "sets" jS rV (jY K):=⟨⟨_,_,aM X G a7,k7,b7,FM F7 B⟩⟩
 have c_p_goal:aK l.prog w K mg base "goal" eW iV (gK K):=⟨⟨_,_,aM X G a8,k8,b8,FL F8 B⟩⟩
 have c_w_goal:aK l.prog w K mg base "goal" eW iV (j4 K):=⟨⟨_,_,aM X G a8,k8,b8,FO F8 B⟩⟩
 have c_p_leads:aK l.prog w K mg base "leads" ja qt (iD K):=⟨⟨_,_,aM X G a9,k9,b9,Dh F9 B c_p_goal⟩⟩
 have b10_0:px K _ iz []:=λs us X hl=>by(obtain⟨_,_,rfl⟩:=AD (us:=us) (show us.length=2 from by rw[d7] at hl;exact hl));exact PySem.W.binds_K (fd:=aL "walked" "walked" (bL e7) (aP e7) (aq e7) (.ref T10) kV10 dc10 pm10 an10 cd10 ct10) X rfl t10 rfl rfl rfl
 have c_p_walked:aK l.prog w K mg base "walked" iz nW (iE K):=⟨⟨_,_,aM X G a10,k10,b10_0,Bi F10 B c_p_sets c_p_leads⟩⟩
 have c_p_unset_due:aK l.prog w K mg base "unset_due" fF j9 (fK K):=⟨⟨_,_,aM X G a11,k11,b11,wC F11 B c_p_names_read c_p_walked c_p_reads⟩⟩
 have c_p_refuse:kR l.prog w K mg base "refuse" iy nV (fk K):=⟨⟨_,_,aM X G a12,k12,b12,Bh F12 B T mx_NoProgram⟩⟩
 have c_p_comes_round:aK l.prog w K mg base "comes_round" eC i4 (eJ K):=⟨⟨_,_,aM X G a13,k13,b13,t9 F13 B c_p_goal⟩⟩
 have c_p_ring_due:aK l.prog w K mg base "ring_due" gm kX (gA K):=⟨⟨_,_,aM X G a14,k14,b14,xV F14 B c_p_comes_round⟩⟩
 have c_p_calls_amiss:aK l.prog w K mg base "calls_amiss" eB iZ (eI K):=⟨⟨_,_,aM X G a15,k15,b15,t8 F15 B⟩⟩
 have c_p_goes_astray:aK l.prog w K mg base "goes_astray" eD i5 (eK K):=⟨⟨_,_,aM X G a16,k16,b16,ua F16 B c_w_goal⟩⟩
 have c_p_row_due:aK l.prog w K mg base "row_due" gO mG (gW K):=⟨⟨_,_,aM X G a17,k17,b17,zZ F17 B c_p_calls_amiss c_p_goes_astray⟩⟩
 have c_p_name_due:aK l.prog w K mg base "name_due" gk kW (gy K):=⟨⟨_,_,aM X G a18,k18,b18,xU F18 B⟩⟩
 have c_p_check:kR l.prog w K mg base "check" gM lD (gu K):=⟨⟨_,_,aM X G a19,k19,b19,Dg F19 B c_p_unset_due c_p_refuse c_p_ring_due c_p_row_due c_p_name_due⟩⟩
 have c_classes:aK l.prog w K mg base "_law_classes" i9 qr (je K):=⟨⟨_,_,aM X G a20,k20,b20,Df F20 B T g_BeltError z_ValueError g_NoProgram g_NoLine g_Short c_p_check⟩⟩
 have c_told:aK l.prog w K mg base "_law_told" oi zi (oG K):=⟨⟨_,_,aM X G a21,k21,b21,Kl F21 B T g_NoProgram c_p_check⟩⟩
 have c_meets:aK l.prog w K mg base "_law_meets" lK vm (jL K):=⟨⟨_,_,aM X G a22,k22,b22,HG F22 B c_classes c_told⟩⟩
 have c_read:aK l.prog w K mg base "_law_read" oh zh (oF K):=⟨⟨_,_,aM X G a23,k23,b23,Kk F23 B⟩⟩
 have c_next:aK l.prog w K mg base "_law_next" oa zf (lB K):=⟨⟨_,_,aM X G a24,k24,b24,Ki F24 B⟩⟩
 have c_without:aK l.prog w K mg base "_law_without" jc qw (jg K):=⟨⟨_,_,aM X G a25,k25,b25,Dk F25 B c_next⟩⟩
 have c_unset:aK l.prog w K mg base "_law_unset" lN vp (mi K):=⟨⟨_,_,aM X G a26,k26,b26,HJ F26 B c_read c_without⟩⟩
 have c_round:aK l.prog w K mg base "_law_round" lM vo (mh K):=⟨⟨_,_,aM X G a27,k27,b27,HI F27 B⟩⟩
 have c_bad_row:aK l.prog w K mg base "_law_bad_row" i8 qp (jd K):=⟨⟨_,_,aM X G a28,k28,b28,De F28 B⟩⟩
 have c_part_due:aK l.prog w K mg base "_law_part_due" iA nX (iF K):=⟨⟨_,_,aM X G a29,k29,b29,Bj F29 B c_unset c_round c_bad_row⟩⟩
 have c_due:aK l.prog w K mg base "_law_due" rz DV (rK K):=⟨⟨_,_,aM X G a30,k30,b30,MD F30 B c_part_due⟩⟩
 have c_row_spoilt:aK l.prog w K mg base "_law_row_spoilt" gp kY (eP K):=⟨⟨_,_,aM X G a31,k31,b31,xW F31 B c_draw⟩⟩
 have c_spoilt:aK l.prog w K mg base "_law_spoilt" jT rW (jZ K):=⟨⟨_,_,aM X G a32,k32,b32,FN F32 B c_draw c_row_spoilt⟩⟩
 have c_filled:aK l.prog w K mg base "_law_filled" jQ rS (jW K):=⟨⟨_,_,aM X G a33,k33,b33,FJ F33 B c_draw⟩⟩
 have c_leads:aK l.prog w K mg base "_law_leads" lJ vk (md K):=⟨⟨_,_,aM X G a34,k34,b34,HE F34 B⟩⟩
 have c_set_names:aK l.prog w K mg base "_law_set_names" gQ mI (gY K):=⟨⟨_,_,aM X G a35,k35,b35,z9 F35 B c_leads⟩⟩
 have c_mended:aK l.prog w K mg base "_law_mended" jR rT (jX K):=⟨⟨_,_,aM X G a36,k36,b36,FK F36 B⟩⟩
 have c_worth:aK l.prog w K mg base "_law_worth" lO vq (mj K):=⟨⟨_,_,aM X G a37,k37,b37,HK F37 B c_draw⟩⟩
 have c_rough_row:aK l.prog w K mg base "_law_rough_row" gP mH (gX K):=⟨⟨_,_,aM X G a38,k38,b38,z7 F38 B c_draw c_worth⟩⟩
 have c_part:aK l.prog w K mg base "_law_part" og zg (oE K):=⟨⟨_,_,aM X G a39,k39,b39,Kj F39 B c_filled c_set_names c_mended c_rough_row c_draw⟩⟩
 have c_names:aK l.prog w K mg base "_law_names" lL vn (kB K):=⟨⟨_,_,aM X G a40,k40,b40,HH F40 B c_draw⟩⟩
 have c_program:aK l.prog w K mg base "_law_program" jb qu (jf K):=⟨⟨_,_,aM X G a41,k41,b41,Dj F41 B c_part c_draw c_names⟩⟩
 exact ME F42 B c_draw c_made_right c_meets c_due c_spoilt c_program
theorem NG{K:Fg}{H:Hp}{a:Addr}{ns:List Int}(o:JA H)(h:cA K H a (ns.map V.int)):mJ K H a ns:=by
 rcases h with(h|h)|h
 ·rcases o a with z|⟨ob,xs,z⟩<;>rw[h] at z<;>cases z
 ·exact .inl h
 ·exact .inr h
theorem walk{l:PySem.W.OpenLaw}{q:Program}{loose:List Str}{XP:(Str->Option Value)->Heap->Prop}{YP:World->Heap->Prop}{d:DefRec}{K:Params->Fg}(hn:l.most=some 63)(hdf:d.params.defaults=[])
  (hY:∀(w:World) (h:Heap),YP w h->(K w.params).In h)
  (F:∀(w:World) (mg:Str->Option Value) (fa:Addr) (h:Heap),(K w.params).In h->h.Ns mainGlobals mg->mg d.name=some (.ref fa)->
   ∃fd:FuncData,(∀(s:Shared) (u:Value),BindsTo s fd ⟨[u],[]⟩ [("_law_script",u)])/\∀base:Heap,(K w.params).In base->base.Ns mainGlobals mg->dY l.prog w (K w.params) mg base fB DW fa fd vP (sp_law (K w.params))) :
  PySem.W.WalkO q loose XP YP l.row.toRowW d [] (λf vs=>vH f vs):=
 L2.walk_of (n:=63) (k:=DW) (x:="_law_script") (CX:=λ_=>fB) (sp:=λw=>sp_law (K w.params)) hn (by decide) hdf ⟨rfl,by decide,by decide⟩ hY F (λ_ _ a ns hl hO hS=>⟨a,ns,rfl,NG hO hS,hl,λ_=>rfl⟩) λ_ _ _ _ _ z=>z
end Bg
open PySem PySem.W PyProof.Rows
def PySem.W.Fast.tw1996544461615840959:Unit:=()
def PySem.W.Fast.tw2328454221997185252:Unit:=()
def PySem.W.Fast.tw2178649700488125520:Unit:=()
def PySem.W.Fast.tw15867550296881653415:Unit:=()
def PySem.W.Fast.tw16905972786177498073:Unit:=()
def PySem.W.Fast.tw8858270677531161205:Unit:=()
def PySem.W.Fast.tw11781102209001526551:Unit:=()
def PySem.W.Fast.tw14743236264729858589:Unit:=()
def PySem.W.Fast.tw56317284848663042:Unit:=()
def PySem.W.Fast.tw2057128994583576207:Unit:=()
def PySem.W.Fast.tw15818425799105247399:Unit:=()
def PySem.W.Fast.tw4714217574109928259:Unit:=()
def PySem.W.Fast.tw18154697774122433073:Unit:=()
set_option maxRecDepth 100000 in
set_option maxHeartbeats 0 in
theorem PySem.Challenge.cw_beltgarth_k14_programs_refused_holds : PySem.Challenge.rw_beltgarth_k14_programs_refused.Holds := by
 w_on;o_law;k_head;(case hw=>w_witness2)
 k_fill
 refine Bg.walk (l:=PySem.Challenge.rw_beltgarth_k14_programs_refused) rfl rfl (λw h Y=>PySem.W.kIn_of Y) ?F
 case F=>
  intro w mg fa h KX G hmg
  refine' Bg.all_mk KX G hmg ?zc_BeltError ?zc_NoLine ?zc_NoProgram ?zc_Short ?lx_NoLine ?ga_NoLine ?gh_NoLine ?sa_NoLine ?lx_NoProgram ?ga_NoProgram ?gh_NoProgram ?sa_NoProgram ?lx_Short ?ga_Short ?gh_Short ?sa_Short ?le_BeltError ?me_BeltError ?le_NoProgram ?me_NoProgram ?kp_NoLine ?kp_NoProgram ?kp_Short ?xw_4 ?xm_5 ?xm_6 ?xi_7 ?xn_8 ?xi_8 ?xt_8 ?xs_8 ?xn_9 ?xi_9 ?xt_9 ?xs_9 ?xi_10 ?xw_13 ?xi_14 ?xn_15 ?xi_15 ?xt_15 ?xs_15 ?xi_16 ?xn_17 ?xi_17 ?xt_17 ?xs_17 ?xw_23 ?xi_24 ?xn_25 ?xi_25 ?xt_25 ?xs_25 ?xn_26 ?xi_26 ?xt_26 ?xs_26 ?xi_27 ?z_ValueError ?no_0 ?no_1 ?no_2 ?no_3 ?no_4 ?no_5 ?no_6 ?no_7 ?a0 ?l0 ?c0 ?k0 ?a1 ?l1 ?c1 ?k1 ?i1 ?a2 ?l2 ?c2 ?k2 ?i2 ?a3 ?l3 ?c3 ?k3 ?i3 ?a4 ?l4 ?c4 ?k4 ?a5 ?l5 ?c5 ?k5 ?a6 ?l6 ?c6 ?k6 ?a7 ?l7 ?c7 ?k7 ?a8 ?l8 ?c8 ?k8 ?a9 ?l9 ?c9 ?k9 ?a10 ?l10 ?c10 ?k10 ?t10 ?a11 ?l11 ?c11 ?k11 ?a12 ?l12 ?c12 ?k12 ?a13 ?l13 ?c13 ?k13 ?a14 ?l14 ?c14 ?k14 ?a15 ?l15 ?c15 ?k15 ?a16 ?l16 ?c16 ?k16 ?a17 ?l17 ?c17 ?k17 ?a18 ?l18 ?c18 ?k18 ?a19 ?l19 ?c19 ?k19 ?a20 ?l20 ?c20 ?k20 ?a21 ?l21 ?c21 ?k21 ?a22 ?l22 ?c22 ?k22 ?a23 ?l23 ?c23 ?k23 ?a24 ?l24 ?c24 ?k24 ?a25 ?l25 ?c25 ?k25 ?a26 ?l26 ?c26 ?k26 ?a27 ?l27 ?c27 ?k27 ?a28 ?l28 ?c28 ?k28 ?a29 ?l29 ?c29 ?k29 ?a30 ?l30 ?c30 ?k30 ?a31 ?l31 ?c31 ?k31 ?a32 ?l32 ?c32 ?k32 ?a33 ?l33 ?c33 ?k33 ?a34 ?l34 ?c34 ?k34 ?a35 ?l35 ?c35 ?k35 ?a36 ?l36 ?c36 ?k36 ?a37 ?l37 ?c37 ?k37 ?a38 ?l38 ?c38 ?k38 ?a39 ?l39 ?c39 ?k39 ?a40 ?l40 ?c40 ?k40 ?a41 ?l41 ?c41 ?k41 ?a42 ?l42 ?c42 ?k42 ?z_len ?z_range ?z_divmod ?z_max ?z_min ?z_sum ?z_all ?z_isinstance ?z_int ?z_bool ?z_list ?z_tuple ?z_enumerate ?z_zip ?z_sorted ?z_set ?z_dict ?z_str ?z_any ?z_reversed ?z_abs
  (case zc_BeltError=>k_is)
  (case zc_NoLine=>k_is)
  (case zc_NoProgram=>k_is)
  (case zc_Short=>k_is)
  (case lx_NoLine=>k_is)
  (case ga_NoLine=>k_is)
  (case gh_NoLine=>k_is)
  (case sa_NoLine=>k_is)
  (case lx_NoProgram=>k_is)
  (case ga_NoProgram=>k_is)
  (case gh_NoProgram=>k_is)
  (case sa_NoProgram=>k_is)
  (case lx_Short=>k_is)
  (case ga_Short=>k_is)
  (case gh_Short=>k_is)
  (case sa_Short=>k_is)
  (case le_BeltError=>k_is)
  (case me_BeltError=>k_is)
  (case le_NoProgram=>k_is)
  (case me_NoProgram=>k_is)
  (case kp_NoLine=>k_is)
  (case kp_NoProgram=>k_is)
  (case kp_Short=>k_is)
  (case xw_4=>k_is)
  (case xm_5=>k_is)
  (case xm_6=>k_is)
  (case xi_7=>k_is)
  (case xn_8=>decide)
  (case xi_8=>k_is)
  (case xt_8=>k_is)
  (case xs_8=>k_is)
  (case xn_9=>decide)
  (case xi_9=>k_is)
  (case xt_9=>k_is)
  (case xs_9=>k_is)
  (case xi_10=>k_is)
  (case xw_13=>k_is)
  (case xi_14=>k_is)
  (case xn_15=>decide)
  (case xi_15=>k_is)
  (case xt_15=>k_is)
  (case xs_15=>k_is)
  (case xi_16=>k_is)
  (case xn_17=>decide)
  (case xi_17=>k_is)
  (case xt_17=>k_is)
  (case xs_17=>k_is)
  (case xw_23=>k_is)
  (case xi_24=>k_is)
  (case xn_25=>decide)
  (case xi_25=>k_is)
  (case xt_25=>k_is)
  (case xs_25=>k_is)
  (case xn_26=>decide)
  (case xi_26=>k_is)
  (case xt_26=>k_is)
  (case xs_26=>k_is)
  (case xi_27=>k_is)
  (case z_ValueError=>k_is)
  (case no_0=>k_is)
  (case no_1=>k_is)
  (case no_2=>k_is)
  (case no_3=>k_is)
  (case no_4=>k_is)
  (case no_5=>k_is)
  (case no_6=>k_is)
  (case no_7=>k_is)
  (case a0=>k_is)
  (case l0=>k_is)
  (case c0=>k_is)
  (case k0=>k_is)
  (case a1=>k_is)
  (case l1=>k_is)
  (case c1=>k_is)
  (case k1=>k_is)
  (case i1=>k_is)
  (case a2=>k_is)
  (case l2=>k_is)
  (case c2=>k_is)
  (case k2=>k_is)
  (case i2=>k_is)
  (case a3=>k_is)
  (case l3=>k_is)
  (case c3=>k_is)
  (case k3=>k_is)
  (case i3=>k_is)
  (case a4=>k_is)
  (case l4=>k_is)
  (case c4=>k_is)
  (case k4=>k_is)
  (case a5=>k_is)
  (case l5=>k_is)
  (case c5=>k_is)
  (case k5=>k_is)
  (case a6=>k_is)
  (case l6=>k_is)
  (case c6=>k_is)
  (case k6=>k_is)
  (case a7=>k_is)
  (case l7=>k_is)
  (case c7=>k_is)
  (case k7=>k_is)
  (case a8=>k_is)
  (case l8=>k_is)
  (case c8=>k_is)
  (case k8=>k_is)
  (case a9=>k_is)
  (case l9=>k_is)
  (case c9=>k_is)
  (case k9=>k_is)
  (case a10=>k_is)
  (case l10=>k_is)
  (case c10=>k_is)
  (case k10=>k_is)
  (case t10=>k_is)
  (case a11=>k_is)
  (case l11=>k_is)
  (case c11=>k_is)
  (case k11=>k_is)
  (case a12=>k_is)
  (case l12=>k_is)
  (case c12=>k_is)
  (case k12=>k_is)
  (case a13=>k_is)
  (case l13=>k_is)
  (case c13=>k_is)
  (case k13=>k_is)
  (case a14=>k_is)
  (case l14=>k_is)
  (case c14=>k_is)
  (case k14=>k_is)
  (case a15=>k_is)
  (case l15=>k_is)
  (case c15=>k_is)
  (case k15=>k_is)
  (case a16=>k_is)
  (case l16=>k_is)
  (case c16=>k_is)
  (case k16=>k_is)
  (case a17=>k_is)
  (case l17=>k_is)
  (case c17=>k_is)
  (case k17=>k_is)
  (case a18=>k_is)
  (case l18=>k_is)
  (case c18=>k_is)
  (case k18=>k_is)
  (case a19=>k_is)
  (case l19=>k_is)
  (case c19=>k_is)
  (case k19=>k_is)
  (case a20=>k_is)
  (case l20=>k_is)
  (case c20=>k_is)
  (case k20=>k_is)
  (case a21=>k_is)
  (case l21=>k_is)
  (case c21=>k_is)
  (case k21=>k_is)
  (case a22=>k_is)
  (case l22=>k_is)
  (case c22=>k_is)
  (case k22=>k_is)
  (case a23=>k_is)
  (case l23=>k_is)
  (case c23=>k_is)
  (case k23=>k_is)
  (case a24=>k_is)
  (case l24=>k_is)
  (case c24=>k_is)
  (case k24=>k_is)
  (case a25=>k_is)
  (case l25=>k_is)
  (case c25=>k_is)
  (case k25=>k_is)
  (case a26=>k_is)
  (case l26=>k_is)
  (case c26=>k_is)
  (case k26=>k_is)
  (case a27=>k_is)
  (case l27=>k_is)
  (case c27=>k_is)
  (case k27=>k_is)
  (case a28=>k_is)
  (case l28=>k_is)
  (case c28=>k_is)
  (case k28=>k_is)
  (case a29=>k_is)
  (case l29=>k_is)
  (case c29=>k_is)
  (case k29=>k_is)
  (case a30=>k_is)
  (case l30=>k_is)
  (case c30=>k_is)
  (case k30=>k_is)
  (case a31=>k_is)
  (case l31=>k_is)
  (case c31=>k_is)
  (case k31=>k_is)
  (case a32=>k_is)
  (case l32=>k_is)
  (case c32=>k_is)
  (case k32=>k_is)
  (case a33=>k_is)
  (case l33=>k_is)
  (case c33=>k_is)
  (case k33=>k_is)
  (case a34=>k_is)
  (case l34=>k_is)
  (case c34=>k_is)
  (case k34=>k_is)
  (case a35=>k_is)
  (case l35=>k_is)
  (case c35=>k_is)
  (case k35=>k_is)
  (case a36=>k_is)
  (case l36=>k_is)
  (case c36=>k_is)
  (case k36=>k_is)
  (case a37=>k_is)
  (case l37=>k_is)
  (case c37=>k_is)
  (case k37=>k_is)
  (case a38=>k_is)
  (case l38=>k_is)
  (case c38=>k_is)
  (case k38=>k_is)
  (case a39=>k_is)
  (case l39=>k_is)
  (case c39=>k_is)
  (case k39=>k_is)
  (case a40=>k_is)
  (case l40=>k_is)
  (case c40=>k_is)
  (case k40=>k_is)
  (case a41=>k_is)
  (case l41=>k_is)
  (case c41=>k_is)
  (case k41=>k_is)
  (case a42=>k_is)
  (case l42=>k_is)
  (case c42=>k_is)
  (case k42=>k_is)
  (case z_len=>k_is)
  (case z_range=>k_is)
  (case z_divmod=>k_is)
  (case z_max=>k_is)
  (case z_min=>k_is)
  (case z_sum=>k_is)
  (case z_all=>k_is)
  (case z_isinstance=>k_is)
  (case z_int=>k_is)
  (case z_bool=>k_is)
  (case z_list=>k_is)
  (case z_tuple=>k_is)
  (case z_enumerate=>k_is)
  (case z_zip=>k_is)
  (case z_sorted=>k_is)
  (case z_set=>k_is)
  (case z_dict=>k_is)
  (case z_str=>k_is)
  (case z_any=>k_is)
  (case z_reversed=>k_is)
  (case z_abs=>k_is)
