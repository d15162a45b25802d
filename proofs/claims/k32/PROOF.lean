import PyProof.Rows.All
import Wide.All
import OpenK.AllK
import Wide.FinOn
import Lean
import PyProof.EqAt
import PyProof.EqKinds
import PyProof.TupleCall
import PySem.Challenge.RW_beltgarth_k32_whole_walks_and_runs
set_option Elab.async false
set_option autoImplicit true
set_option linter.all false
set_option maxHeartbeats 4000000
set_option maxRecDepth 100000
set_option relaxedAutoImplicit true
open List renaming getElem?_eq_getElem → ab, length_map → ai, getElem?_eq_some_iff → aj, size_toArray → aq, mem_singleton → au, mem_cons_self → ay, mem_of_getElem? → az, length_append → aD, mem_append_right → aJ, replicate → aO, mem_append → aP, mem_append_left → aW, getElem?_map → ba, getElem?_append_right → bj, mem_cons → bp, map_append → bw, getElem?_set_self → bx, getElem?_append_left → bz, length_take → bG, dropLast_concat → bI, map_cons → bJ, getElem?_set_ne → bT, mem_cons_of_mem → bU, length_replicate → cb, length_singleton → cc, length_cons → cf, concat_eq_append → cw, eq_nil_or_concat → cx, getLast?_eq_getElem? → cB, length_eq_zero_iff → cO, replicate_succ → dr, getElem_mem → dv, length_drop → dw, nodup_cons → dO, length_pos_iff → dR, map_nil → dS, mem_map → dU, lookup_cons → eG, find?_cons → eV, forIn_cons → eW, length_set → eX, take_of_length_le → fZ, map_take → gI, flatten_cons → gN, forIn_nil → gS, lookup → gU, mem_iff_getElem → gW, mem_of_mem_take → gX, all_eq_true → ik, take_length → ip, drop_eq_getElem_cons → iE, length_nil → iR, length_zip → iS, mem_filter → iT, forIn_toArray → iW, append_assoc → jt, drop_of_length_le → ju, head?_eq_getElem? → jv, take_add_one → jw, length_filter_le → jK, range → jO, any_cons → j6, getElem?_of_mem → ki, getLast?_concat → kj, append_nil → kx, of_mem_zip → kz, filterMap_cons → kF, mem_replicate → kZ, take_sublist → lD, any_eq_true → mh, not_mem_nil → mi, foldl_cons → ny, drop_zero → nI, length → nJ, mem_range → nK, map_drop → pb, foldl → sS
open PySem.Heap renaming get?_push_of_some → ak, lt_size → aH, get?_push_size → aN, size_push → eI
open PySem.W renaming keepIn → aA, codeIn → aE, nsIn → aF, fnOf → aI, mg_of → aV, findIn → aX, mg_none_of → aZ, isFn → cM, emptyDict → cV, instObj → dP, plainGet → fM, hasDictIn → gP, callWith_K → iY, plainOver → jx, methodCall_KW → jN, makesIn → kA, plainGet_of → kH, lookIn → lg, methodObj → lE, takerIn → nA
open Nat renaming le_refl → aC, lt_of_lt_of_le → aU, ne_of_lt → bt, le_trans → bC, zero_le → cA, le_succ_of_le → dj, lt_irrefl → dA, le_succ → eC, sub_self → eZ, ne_of_gt → gb, not_lt_zero → gF, lt_of_le_of_lt → iX, add_le_add_left → kG, lt_succ_self → mj, le_of_lt → mI
open PySem.F renaming plainAttrs_list → aY, slot_list_append → bE, type_list_append → bF, slot_list_pop → jL, type_list_pop → jM
open Option renaming map_some → bY, isSome_iff_exists → fF, getD_some → fL
open PyProof.Rows renaming callWith_type1 → cu
open Int renaming emod_lt_of_pos → cC, emod_nonneg → cI, toNat_natCast → gM, toNat → ij
open PySem renaming mem_of_lookup → cL, evalArgs_none → kI, call → sT
open Array renaming length_toList → dQ, toList_append → kE
abbrev Fg := PySem.W.Frag
section
namespace Bg
theorem Nf{α:Type}{P:List α->Prop}{us:List α}(h:us.length=0)(k:P []):P us:=by cases us with|nil=>exact k|cons a r=>cases h
theorem M3{α:Type}{P:List α->Prop}{us:List α}(h:us.length=1)(k:∀x0,P [x0]):P us:=by cases us with|nil=>cases h|cons a r=>exact Nf (P:=λr=>P (a::r)) (Nat.succ.inj h) (k a)
theorem M4{α:Type}{P:List α->Prop}{us:List α}(h:us.length=2)(k:∀x0 x1,P [x0,x1]):P us:=by cases us with|nil=>cases h|cons a r=>exact M3 (P:=λr=>P (a::r)) (Nat.succ.inj h) (k a)
theorem M5{α:Type}{P:List α->Prop}{us:List α}(h:us.length=3)(k:∀x0 x1 x2,P [x0,x1,x2]):P us:=by cases us with|nil=>cases h|cons a r=>exact M4 (P:=λr=>P (a::r)) (Nat.succ.inj h) (k a)
theorem M6{α:Type}{P:List α->Prop}{us:List α}(h:us.length=4)(k:∀x0 x1 x2 x3,P [x0,x1,x2,x3]):P us:=by cases us with|nil=>cases h|cons a r=>exact M5 (P:=λr=>P (a::r)) (Nat.succ.inj h) (k a)
theorem M7{α:Type}{P:List α->Prop}{us:List α}(h:us.length=5)(k:∀x0 x1 x2 x3 x4,P [x0,x1,x2,x3,x4]):P us:=by cases us with|nil=>cases h|cons a r=>exact M6 (P:=λr=>P (a::r)) (Nat.succ.inj h) (k a)
theorem Ng{α:Type}{P:List α->Prop}{us:List α}(h:us.length=6)(k:∀x0 x1 x2 x3 x4 x5,P [x0,x1,x2,x3,x4,x5]):P us:=by cases us with|nil=>cases h|cons a r=>exact M7 (P:=λr=>P (a::r)) (Nat.succ.inj h) (k a)
theorem Fu{α:Type}{us:List α}(h:us.length=1):∃x0,us=[x0]:=M3 (P:=λus=>∃x0,us=[x0]) h λx0=>⟨x0,rfl⟩
theorem JB{α:Type}{us:List α}(h:us.length=2):∃x0 x1,us=[x0,x1]:=M4 (P:=λus=>∃x0 x1,us=[x0,x1]) h λx0 x1=>⟨x0,x1,rfl⟩
theorem DI{α:Type}{us:List α}(h:us.length=3):∃x0 x1 x2,us=[x0,x1,x2]:=M5 (P:=λus=>∃x0 x1 x2,us=[x0,x1,x2]) h λx0 x1 x2=>⟨x0,x1,x2,rfl⟩
theorem Ls{α:Type}{us:List α}(h:us.length=4):∃x0 x1 x2 x3,us=[x0,x1,x2,x3]:=M6 (P:=λus=>∃x0 x1 x2 x3,us=[x0,x1,x2,x3]) h λx0 x1 x2 x3=>⟨x0,x1,x2,x3,rfl⟩
theorem Nc{α:Type}{us:List α}(h:us.length=5):∃x0 x1 x2 x3 x4,us=[x0,x1,x2,x3,x4]:=M7 (P:=λus=>∃x0 x1 x2 x3 x4,us=[x0,x1,x2,x3,x4]) h λx0 x1 x2 x3 x4=>⟨x0,x1,x2,x3,x4,rfl⟩
theorem Nd{α:Type}{us:List α}(h:us.length=6):∃x0 x1 x2 x3 x4 x5,us=[x0,x1,x2,x3,x4,x5]:=Ng (P:=λus=>∃x0 x1 x2 x3 x4 x5,us=[x0,x1,x2,x3,x4,x5]) h λx0 x1 x2 x3 x4 x5=>⟨x0,x1,x2,x3,x4,x5,rfl⟩
end Bg
end
section
namespace L2
open PySem PySem.Spec PyProof.Rows
abbrev dB:=Sum Int Str
def v9:dB->Value->Bool
 |.inl k,v=>Value.isInt k v
 |.inr x,v=>Value.isStrOf x v
def MO(w:World):dB->Int
 |.inl k=>hashInt k
 |.inr x=>hashStr w x
theorem fg:∀{k:dB} {v:Value},v9 k v=true->(∃i t,k=Sum.inl i/\v=Value.int i t)\/(∃x t,k=Sum.inr x/\v=Value.str x t)
 |.inl i,v,h=>by
  obtain⟨t,e⟩:=Value.isInt_shape (k:=i) (v:=v) h
  exact .inl ⟨i,t,rfl,e⟩
 |.inr x,v,h=>by
  obtain⟨t,e⟩:=Value.isStrOf_shape (x:=x) (v:=v) h
  exact .inr ⟨x,t,rfl,e⟩
theorem DG(i:Int)(t:Tok):v9 (.inl i) (.int i t)=true:=by simp[v9,Value.isInt]
theorem DH(x:Str)(t:Tok):v9 (.inr x) (.str x t)=true:=by simp[v9,Value.isStrOf]
theorem Kb(a b:Int):decide ((Sum.inl a:dB)=Sum.inl b)=(a==b):=by
 by_cases e:a=b
 ·subst e;simp
 ·have h:¬(Sum.inl a:dB)=Sum.inl b:=λq=>e (Sum.inl.inj q)
  rw[decide_eq_false h]
  exact(beq_eq_false_iff_ne.mpr e).symm
theorem Ke(a b:Str):decide ((Sum.inr a:dB)=Sum.inr b)=decide (a=b):=by
 by_cases e:a=b
 ·subst e;simp
 ·have h:¬(Sum.inr a:dB)=Sum.inr b:=λq=>e (Sum.inr.inj q)
  rw[decide_eq_false h,decide_eq_false e]
theorem Kc(a:Int)(b:Str):decide ((Sum.inl a:dB)=Sum.inr b)=false:=decide_eq_false (λq=>nomatch q)
theorem Kd(a:Str)(b:Int):decide ((Sum.inr a:dB)=Sum.inl b)=false:=decide_eq_false (λq=>nomatch q)
def d8(prog:Program)(w:World):PySem.KeyKind prog w dB where
 is:=v9
 hash:=MO w
 inj:=λv a b ha hb=>by
  rcases fg ha with⟨i,t,rfl,rfl⟩|⟨x,t,rfl,rfl⟩
  ·rcases fg hb with⟨j,u,rfl,e⟩|⟨y,u,rfl,e⟩
   ·injection e with e1 _;rw[e1]
   ·exact nomatch e
  ·rcases fg hb with⟨j,u,rfl,e⟩|⟨y,u,rfl,e⟩
   ·exact nomatch e
   ·injection e with e1 _;rw[e1]
 byValue:=λk v h=>by
  rcases fg h with⟨i,t,rfl,rfl⟩|⟨x,t,rfl,rfl⟩<;>rfl
 pyHash:=λhv h=>by
  rcases fg hv with⟨i,t,rfl,rfl⟩|⟨x,t,rfl,rfl⟩
  ·exact wpAny_pyHash_int h
  ·exact wpAny_pyHash_str h
 eqBool:=λhu hv h=>by
  rcases fg hu with⟨i,t,rfl,rfl⟩|⟨x,t,rfl,rfl⟩
  ·rcases fg hv with⟨j,u,rfl,rfl⟩|⟨y,u,rfl,rfl⟩
   ·rw[Kb] at h;exact wpAny_eqBool_int h
   ·rw[Kc] at h;exact SeqAt.EqAt.int_str i t y u _ _ _ _ h
  ·rcases fg hv with⟨j,u,rfl,rfl⟩|⟨y,u,rfl,rfl⟩
   ·rw[Kd] at h;exact SeqAt.EqAt.str_int x t j u _ _ _ _ h
   ·rw[Ke] at h;exact wpAny_eqBool_str h
 «strs»:=λk x t v h=>by
  rcases fg h with⟨i,u,rfl,e⟩|⟨y,u,rfl,e⟩
  ·exact nomatch e
  ·injection e with e1 _
   subst e1
   cases v<;>rfl
theorem zr(prog:Program)(w:World)(i:Int)(t:Tok):(d8 prog w).is (.inl i) (.int i t)=true:=DG i t
theorem zt(prog:Program)(w:World)(x:Str)(t:Tok):(d8 prog w).is (.inr x) (.str x t)=true:=DH x t
inductive V where
 |non|bl (b:Bool)|int (i:Int)|str (x:Str)|byt (b:Array UInt8)|flt (b:UInt64)|ref (a:Addr)|ty (n:String)
 deriving DecidableEq
def cP:V->Value->Prop
 |.non,u=>u=Value.none
 |.bl b,u=>u=Value.bool b
 |.int i,u=>∃t,u=Value.int i t
 |.str x,u=>∃t,u=Value.str x t
 |.byt b,u=>∃t,u=Value.bytes b t
 |.flt b,u=>∃t,u=Value.float b t
 |.ref a,u=>u=Value.ref a
 |.ty n,u=>u=Value.type n
abbrev ck:List V->List Value->Prop:=Paired cP
theorem ck.length{xs:List V}{us:List Value}(r:ck xs us):xs.length=us.length:=Paired.length r
theorem ck.get:∀{xs:List V} {us:List Value} {i:Nat} {x:V},ck xs us->xs[i]?=some x->∃u,us[i]?=some u/\cP x u
 |_,_,_,_,.nil,e=>by simp at e
 |_,_,0,_,.cons r _,e=>by simp at e;subst e;exact⟨_,rfl,r⟩
 |_,_,i+1,x,.cons _ t,e=>by
  obtain⟨u,h1,h2⟩:=ck.get (i:=i) (x:=x) t (by simpa using e)
  exact⟨u,by simpa using h1,h2⟩
theorem ck.set{x:V}{u:Value}(r:cP x u):∀{xs:List V} {us:List Value} (i:Nat),ck xs us->ck (xs.set i x) (us.set i u)
 |_,_,_,.nil=>.nil
 |_,_,0,.cons _ t=>.cons r t
 |_,_,i+1,.cons q t=>.cons q (ck.set r i t)
theorem ck.append:∀{xs ys:List V} {us ws:List Value},ck xs us->ck ys ws->ck (xs++ys) (us++ws)
 |_,_,_,_,.nil,s=>s
 |_,_,_,_,.cons r t,s=>.cons r (ck.append t s)
theorem ck.take:∀{xs:List V} {us:List Value} (n:Nat),ck xs us->ck (xs.take n) (us.take n)
 |_,_,0,_=>.nil
 |_,_,_+1,.nil=>.nil
 |_,_,n+1,.cons r t=>.cons r (ck.take n t)
theorem ck.drop:∀{xs:List V} {us:List Value} (n:Nat),ck xs us->ck (xs.drop n) (us.drop n)
 |_,_,0,r=>r
 |_,_,_+1,.nil=>.nil
 |_,_,n+1,.cons _ t=>ck.drop n t
def nX:Option V->Option Value->Prop
 |some v,some u=>cP v u
 |none,none=>True
 |_,_=>False
def KV{κ:Type}:List (κ×V)->List (κ×Value)->Prop:=Paired λ(p:κ×V) (q:κ×Value)=>p.1=q.1/\cP p.2 q.2
def kV:dB->V
 |.inl i=>.int i
 |.inr x=>.str x
inductive HO where
  |lst (xs:List V)
  |tup (xs:List V)
  |dK (kvs:List (dB×V))|dT (kvs:List (List dB×V))
  |set (S:Int->Bool) (n:Nat)
  |ins (C dx:Addr) (fs:List (Str×V))
  |own (x:Addr)
  |xd (fs:List (Str×V))
  |met (f x:Addr)
  |rng (lo hi:Int)
  |frz (o:Obj) (u:HO)
  |tbl (ps:Array Value)
  |ext (φ:Heap->Prop)
abbrev Hp:=Addr->Option HO
def upd(H:Hp)(a:Addr)(o:HO):Hp:=λb=>if b=a then some o else H b
theorem ae{H:Hp}{a:Addr}{o:HO}:upd H a o a=some o:=by unfold upd;rw[if_pos rfl]
theorem aw{H:Hp}{a b:Addr}{o:HO}(h:b≠a):upd H a o b=H b:=by unfold upd;rw[if_neg h]
theorem nv{H:Hp}{a:Addr}{o u:HO}:upd (upd H a o) a u=upd H a u:=by
 funext b;unfold upd;split<;>rfl
theorem fP{H:Hp}{a b:Addr}{o u:HO}(h:H a=some o)(h':H b=some u)(d:o≠u):a≠b:=by
 intro e;subst e;rw[h] at h';exact d (Option.some.inj h')
theorem ar{H:Hp}{a b:Addr}{o:HO}(h:H a=some o)(h':H b=none):a≠b:=by
 intro e;subst e;rw[h] at h';cases h'
def lT(h:Heap)(a:Addr)(items:Array Value):Prop:=∃o,h.get? a=some o/\(o.cls=.type "tuple"/\o.dict=none)/\∃n,o.data=.seq items n
theorem lT.tup{h:Heap}{a:Addr}{items:Array Value}(x:lT h a items):IsTup h a items:=let⟨o,e,c,n⟩:=x;⟨o,e,c.1,n⟩
theorem lT.lt{h:Heap}{a:Addr}{items:Array Value}(x:lT h a items):a<h.objs.size:=let⟨_,e,_⟩:=x;aH e
theorem lT.new(h:Heap)(items:Array Value):lT (h.push {cls:=.type "tuple",data:=.seq items}) h.objs.size items:=⟨_,aN _ rfl,⟨rfl,rfl⟩,_,rfl⟩
section
variable(P:Program)(w:World)
def gQ(H:Hp)(h:Heap)(a:Addr):HO->Prop
 |.lst xs=>xs.length<=sizeLine/\∃(its:List Value) (n:Nat),ck xs its/\h.get? a=some {cls:=.type "list",data:=.seq its.toArray n}
 |.tup xs=>xs.length<=sizeLine/\∃its:List Value,ck xs its/\lT h a its.toArray
 |.dK kvs=>kvs.length<=sizeLine/\(a==sysModules)=false/\∃vs,KV kvs vs/\h.DictOf (d8 P w) a vs
 |.dT kvs=>kvs.length<=sizeLine/\(a==sysModules)=false/\∃xs:List (List dB×Addr×Value),
   Paired (λ(p:List dB×V) (q:List dB×Addr×Value)=>p.1=q.1/\H q.2.1=some (.tup (p.1.map kV))/\cP p.2 q.2.2) kvs xs/\
   ∃o es ep,h.get? a=some o/\o.ExactDict/\o.data=.dict es ep/\es.toList=xs.map (entryOfKey (tupleKind (d8 P w)))/\(xs.map (·.1)).Nodup
 |.set S n=>h.SetOf (intKind P w) a S n
 |.ins C dx fs=>H dx=some (.own a)/\fs.length<=1000/\dx≠a/\h.get? a=some (dP C dx)/\
   ∃mA,h.Ns1 dx mA/\(∀f,nX (fs.lookup f) (mA f))/\PySem.Within mA (fs.map (·.1))
 |.own _=>∃o,h.get? a=some o
 |.xd fs=>∃mA,h.Ns1 a mA/\∀f,nX (fs.lookup f) (mA f)
 |.rng lo hi=>∃t u v,h.get? a=some {cls:=.type "range",data:=.fields #[.int lo t,.int hi u,.int 1 v]}
 |.frz o u=>h.get? a=some o/\gQ H h a u
 |.tbl ps=>h.get? a=some {cls:=.none,data:=.fields ps}
 |.met f x=>h.get? a=some (lE (.ref f) (.ref x))
 |.ext φ=>φ h/\(∃o,h.get? a=some o)/\∀h1 h2:Heap,φ h1->(∀o,h1.get? a=some o->h2.get? a=some o)->φ h2
def qd(H:Hp)(h:Heap):Prop:=∀a o,H a=some o->gQ P w H h a o
end
section
variable{P:Program}{w:World}{H H':Hp}{h h':Heap}{a:Addr}{o:HO}
theorem gQ.lt(x:gQ P w H h a o):a<h.objs.size:=by
 cases o with
 |lst xs=>obtain⟨_,_,_,_,e⟩:=x;exact aH e
 |tup xs=>obtain⟨_,_,_,p⟩:=x;exact p.lt
 |dK kvs=>obtain⟨_,_,_,_,o,_,_,e,_⟩:=x;exact aH e
 |dT kvs=>obtain⟨_,_,_,_,o,_,_,e,_⟩:=x;exact aH e
 |set S n=>obtain⟨o,_,_,_,e,_⟩:=x;exact aH e
 |ins C dx fs=>obtain⟨_,_,_,e,_⟩:=x;exact aH e
 |own y=>obtain⟨_,e⟩:=x;exact aH e
 |xd fs=>obtain⟨_,⟨_,_,_,e,_⟩,_⟩:=x;exact aH e
 |rng lo hi=>obtain⟨_,_,_,e⟩:=x;exact aH e
 |frz ob u=>obtain⟨e,_⟩:=x;exact aH e
 |tbl ps=>exact aH (show h.get? a=some _ from x)
 |met f y=>exact aH (show h.get? a=some _ from x)
 |ext φ=>obtain⟨_,⟨_,e⟩,_⟩:=x;exact aH e
theorem Paired.mapP{α β:Type}{F G:α->β->Prop}:∀{l₁:List α} {l₂:List β},Paired F l₁ l₂->(∀a b,F a b->G a b)->Paired G l₁ l₂
 |_,_,.nil,_=>.nil
 |_,_,.cons r t,f=>.cons (f _ _ r) (Paired.mapP t f)
theorem gQ.stay(x:gQ P w H h a o)(k:∀b u,(b=a\/H b=some (.own a))->h.get? b=some u->h'.get? b=some u)
  (ho:∀b,H b=some (.own a)->H' b=some (.own a)) (ht:∀b xs,H b=some (.tup xs)->H' b=some (.tup xs)):gQ P w H' h' a o:=by
 induction o with
 |lst xs=>obtain⟨z,its,n,r,e⟩:=x;exact⟨z,its,n,r,k _ _ (.inl rfl) e⟩
 |tup xs=>obtain⟨z,its,r,ob,e,c⟩:=x;exact⟨z,its,r,ob,k _ _ (.inl rfl) e,c⟩
 |dK kvs=>obtain⟨z,y,vs,r,ob,es,ep,e,c⟩:=x;exact⟨z,y,vs,r,ob,es,ep,k _ _ (.inl rfl) e,c⟩
 |dT kvs=>
  obtain⟨z,y,xs,r,ob,es,ep,e,c⟩:=x
  exact⟨z,y,xs,Paired.mapP r λp q z=>⟨z.1,ht _ _ z.2.1,z.2.2⟩,ob,es,ep,k _ _ (.inl rfl) e,c⟩
 |set S n=>obtain⟨ob,es,ep,t,e,c⟩:=x;exact⟨ob,es,ep,t,k _ _ (.inl rfl) e,c⟩
 |ins C dx fs=>
  obtain⟨d,z,ne,e,mA,⟨od,es,ep,e2,c⟩,r⟩:=x
  exact⟨ho _ d,z,ne,k _ _ (.inl rfl) e,mA,⟨od,es,ep,k _ _ (.inr d) e2,c⟩,r⟩
 |own y=>obtain⟨ob,e⟩:=x;exact⟨ob,k _ _ (.inl rfl) e⟩
 |xd fs=>obtain⟨mA,⟨od,es,ep,e,c⟩,r⟩:=x;exact⟨mA,⟨od,es,ep,k _ _ (.inl rfl) e,c⟩,r⟩
 |rng lo hi=>obtain⟨t,u,v,e⟩:=x;exact⟨t,u,v,k _ _ (.inl rfl) e⟩
 |frz ob u ih=>obtain⟨e,q⟩:=x;exact⟨k _ _ (.inl rfl) e,ih q⟩
 |tbl ps=>
  have e:h.get? a=some {cls:=.none,data:=.fields ps}:=x
  show h'.get? a=some {cls:=.none,data:=.fields ps}
  exact k a _ (.inl rfl) e
 |met f y=>
  have e:h.get? a=some (lE (.ref f) (.ref y)):=x
  show h'.get? a=some (lE (.ref f) (.ref y))
  exact k a _ (.inl rfl) e
 |ext φ=>obtain⟨p,⟨o,e⟩,st⟩:=x;exact⟨st _ _ p λo q=>k _ _ (.inl rfl) q,⟨o,k _ _ (.inl rfl) e⟩,st⟩
theorem qd.lt(x:qd P w H h)(e:H a=some o):a<h.objs.size:=(x a o e).lt
theorem qd.fresh(x:qd P w H h)(e:h.objs.size<=a):H a=none:=by
 cases q:H a with
 |none=>rfl
 |some u=>exact absurd (aU (x.lt q) e) (dA _)
theorem qd.kept(x:qd P w H h)(k:∀b u,h.get? b=some u->h'.get? b=some u):qd P w H h':=λa o e=>
 (x a o e).stay (λb u _ q=>k b u q) (λ_ q=>q) λ_ _ q=>q
theorem qd.laid(x:qd P w H h)(k:∀b u,h.get? b=some u->h'.get? b=some u)(hp:h.objs.size<=a)(new:gQ P w (upd H a o) h' a o):qd P w (upd H a o) h':=λb u e=>by
 have hn:=x.fresh hp
 by_cases hb:b=a
 ·subst hb;rw[ae] at e;cases e;exact new
 ·rw[aw hb] at e
  exact(x b u e).stay (λc v _ q=>k c v q) (λc q=>by rw[aw (ar q hn)];exact q) λc xs q=>by rw[aw (ar q hn)];exact q
end
def Rd(H:Hp)(a:Addr)(u:HO):Prop:=H a=some u\/∃o,H a=some (.frz o u)
theorem Rd.ok{P:Program}{w:World}{H:Hp}{h:Heap}{a:Addr}{u:HO}(r:Rd H a u)(x:qd P w H h):gQ P w H h a u:=by
 rcases r with r|⟨o,r⟩
 ·exact x a u r
 ·obtain⟨_,q⟩:=x a _ r
  exact q
def LG:Option HO->Prop
 |some (.lst _)=>True
 |some (.dK _)=>True
 |some (.dT _)=>True
 |some (.set _ _)=>True
 |some (.ins _ _ _)=>True
 |some (.ext _)=>True
 |_=>False
section
variable{P:Program}{w:World}{H:Hp}{h h':Heap}{x e:Addr}{o':HO}
theorem qd.write(ok:qd P w H h)(mu:LG (H x))(he:e=x\/H e=some (.own x))(k:∀b u,b≠e->h.get? b=some u->h'.get? b=some u)(heo:∃u,h'.get? e=some u)
  (new:gQ P w (upd H x o') h' x o'):qd P w (upd H x o') h':=λb u q=>by
 have nown:∀c y,H c=some (.own y)->c≠x:=λc y r z=>by subst z;rw[r] at mu;exact mu
 have ntup:∀c xs,H c=some (.tup xs)->c≠x:=λc xs r z=>by subst z;rw[r] at mu;exact mu
 by_cases hb:b=x
 ·subst hb;rw[ae] at q;cases q;exact new
 ·rw[aw hb] at q
  by_cases hbe:b=e
  ·have q':H b=some (.own x):=by
    rcases he with z|z
    ·exact absurd (hbe.trans z) hb
    ·rw[hbe];exact z
   rw[q] at q';cases q'
   obtain⟨v,hv⟩:=heo
   exact⟨v,by rw[hbe];exact hv⟩
  ·refine(ok b u q).stay (λc v hc r=>k c v ?_ r) (λc r=>by rw[aw (nown c b r)];exact r) λc xs r=>by rw[aw (ntup c xs r)];exact r
   rcases hc with rfl|hc
   ·exact hbe
   ·rintro rfl
    rcases he with z|z
    ·exact nown c b hc z
    ·rw[hc] at z;cases z;exact hb rfl
end
structure Un(fs ex:List Addr)(H H':Hp)(h h':Heap):Prop where
 keep:∀b o,h.get? b=some o->H b=none->b∉fs->b∉ex->h'.get? b=some o
 slot:∀b o,h.get? b=some o->H b=none->b∈fs->b∉ex->∃sl,h'.get? b=some {o with slots:=sl}
 free:∀b o,h.get? b=some o->H b=none->b∉ex->H' b=none
 there:∀b o,h.get? b=some o->b∉ex->∃o',h'.get? b=some o'
 tups:∀b xs,H b=some (.tup xs)->H' b=some (.tup xs)
 frzs:∀b o u,H b=some (.frz o u)->H' b=some (.frz o u)
 tbls:∀b ps,H b=some (.tbl ps)->∃more,H' b=some (.tbl (ps++more))
section
variable{fs fs' ex ex':List Addr}{H H1 H2:Hp}{h h1 h2 h':Heap}{a x e:Addr}{o:HO}
theorem Un.any(u:Un fs ex H H1 h h1){b:Addr}{ob:Obj}(q:h.get? b=some ob)(n:H b=none)(hx:b∉ex):∃sl,h1.get? b=some {ob with slots:=sl}:=by
 by_cases hb:b∈fs
 ·exact u.slot b ob q n hb hx
 ·exact⟨ob.slots,u.keep b ob q n hb hx⟩
theorem Un.kept(k:∀b u,h.get? b=some u->h'.get? b=some u):Un fs ex H H h h':=
 ⟨λb ob q _ _ _=>k b ob q,λb ob q _ _ _=>⟨ob.slots,k b ob q⟩,λ_ _ _ n _=>n,λb ob q _=>⟨ob,k b ob q⟩,λ_ _ q=>q,λ_ _ _ q=>q,λ_ ps q=>⟨#[],by rw[q];simp⟩⟩
theorem Un.refl:Un fs ex H H h h:=Un.kept λ_ _ q=>q
theorem Un.laid(k:∀b u,h.get? b=some u->h'.get? b=some u)(hp:h.objs.size<=a)(hn:H a=none):Un fs ex H (upd H a o) h h' where
 keep:=λb u q _ _ _=>k b u q
 slot:=λb u q _ _ _=>⟨u.slots,k b u q⟩
 free:=λb u q n _=>by rw[aw (bt (aU (aH q) hp))];exact n
 there:=λb u q _=>⟨u,k b u q⟩
 tups:=λb xs q=>by rw[aw (ar q hn)];exact q
 frzs:=λb u xs q=>by rw[aw (ar q hn)];exact q
 tbls:=λb ps q=>⟨#[],by rw[aw (ar q hn),q];simp⟩
theorem Un.write(mu:LG (H x))(he:e=x\/H e=some (.own x))(k:∀b u,b≠e->h.get? b=some u->h'.get? b=some u)(heo:∃u,h'.get? e=some u):Un fs ex H (upd H x o) h h':=by
 have hx:∀b,H b=none->b≠x:=λb n z=>by subst z;rw[n] at mu;exact mu
 have hb:∀b,H b=none->b≠e:=λb n z=>by
  subst z
  rcases he with r|r
  ·exact hx b n r
  ·rw[n] at r;cases r
 have hm:∀b u,H b=some u->¬LG (some u)->b≠x:=λb u q nm z=>by subst z;rw[q] at mu;exact nm mu
 refine⟨λb u q n _ _=>k b u (hb b n) q,λb u q n _ _=>⟨u.slots,k b u (hb b n) q⟩,λb u q n _=>by rw[aw (hx b n)];exact n,λb u q _=>?_,
  λb xs q=>by rw[aw (hm b _ q λz=>z)];exact q,λb u xs q=>by rw[aw (hm b _ q λz=>z)];exact q,λb ps q=>⟨#[],by rw[aw (hm b _ q λz=>z),q];simp⟩⟩
 by_cases hbe:b=e
 ·subst hbe;exact heo
 ·exact⟨u,k b u hbe q⟩
end
def Mz(h:Heap)(H:Hp):List Addr:=(jO h.objs.size).filter λa=>(H a).isSome
def xN(h:Heap)(H:Hp):Heap:=PySem.W.hideAll h (Mz h H)
theorem DA(h:Heap)(H:Hp):(xN h H).objs.size=h.objs.size:=PySem.W.hideAll_size _ _
theorem E8{h:Heap}{H:Hp}{b:Addr}{o:Obj}(e:h.get? b=some o)(n:H b=none):(xN h H).get? b=some o:=
 PySem.W.hideAll_get _ e λhm=>by
  have q:(H b).isSome=true:=(iT.mp hm).2
  rw[n] at q;simp at q
theorem HQ{h:Heap}{H:Hp}{b:Addr}{o:Obj}(e:(xN h H).get? b=some o):h.get? b=some o/\H b=none:=by
 have e':h.get? b=some o:=PySem.W.of_hideAll (Mz h H) e
 refine⟨e',?_⟩
 cases q:H b with
 |none=>rfl
 |some x=>
  have hm:b∈Mz h H:=iT.mpr ⟨nK.mpr (aH e'),by simp[q]⟩
  have z:(xN h H).get? b=none:=PySem.W.hideAll_none (Mz h H) hm
  rw[z] at e;cases e
structure Mod(K:Fg)(mg:Str->Option Value)(base:Heap):Prop where
 kin:K.In base
 glob:base.Ns mainGlobals mg
 blt:∃mb,base.Ns builtinsNs mb/\∀x:Str,x≠"__name__"->mb x=bootBuiltins x
 nolimit:base.NoLimit
structure Cx where
 prog:Program
 w:World
 K:Fg
 mg:Str->Option Value
 base:Heap
 A:Around
 N:List Str
 s₀:Shared
 H₀:Hp
 env:Env
 outer:List Env
 stack:List Env
 ex:List Addr
 fn:Str->Bool
 calm:Bool
 pn:List (Addr×Obj)
 xe:Value->Shared->Prop
def frs(l:List Env):List Addr:=l.filterMap (·.frame)
abbrev Cx.fs(X:Cx):List Addr:=frs X.outer
def LM(sc:Scope)(x:Str):Prop:=sc.names.lookup x=some .local\/sc.names.lookup x=some .cell\/sc.names.lookup x=some .free
def GX(sc:Scope)(x:Str):Prop:=sc.names.lookup x=some .local\/sc.names.lookup x=some .cell
def MD(env:Env)(h:Heap)(m:Str->Option Value)(x:Str)(u:Value):Prop:=
 (env.kindOf x=some .local/\m x=some u)\/((env.kindOf x=some .cell\/env.kindOf x=some .free)/\∃c,env.cells.lookup x=some c/\h.IsCell c (some u))
structure Cx.Ok(X:Cx):Prop where
 mod:Mod X.K X.mg X.base
 kind:X.env.scope.kind=.function
 glob:X.env.globals=mainGlobals
 blt:X.env.builtins=builtinsNs
 above:X.s₀.heap.objs.size<=X.env.locals
 inj:∀x y c,X.env.cells.lookup x=some c->X.env.cells.lookup y=some c->x=y
 has:∀x,(X.env.kindOf x=some .cell\/X.env.kindOf x=some .free)->∃c,X.env.cells.lookup x=some c
 cab:∀x c,X.fn x=true->X.env.cells.lookup x=some c->X.s₀.heap.objs.size<=c
 hd:X.calm=true->X.A.handled=none
 frames:X.A.frames=some X.stack
 stk:X.stack=X.outer\/(X.stack=X.env::X.outer/\X.env.frame=some X.env.locals)
 exf:∀b∈X.ex,b≠X.env.locals/\∀x c,X.env.cells.lookup x=some c->c≠b
 bs:∀b o,X.base.get? b=some o->X.s₀.heap.get? b=some o/\X.H₀ b=none
 bsz:X.base.objs.size<=X.s₀.heap.objs.size
 noex:∀b o,X.base.get? b=some o->b∉X.ex
 exfs:∀b∈X.ex,b∉X.fs
 funs:X.s₀.heap.FunFrames X.base X.outer
 frf:∀b∈X.fs,X.H₀ b=none
structure bQ(X:Cx)(pins:List (Addr×Obj))(σ:List (Option V))(H:Hp)(s:Shared):Prop where
 ok:X.Ok
 os:s.os=X.s₀.os
 bare:AllBare s.gens
 base:Un X.fs X.ex X.H₀ H X.s₀.heap s.heap
 loc:∃m,s.heap.Ns X.env.locals m/\∀(i:Nat) (x:Str) (v:V),X.N[i]?=some x->σ[i]?=some (some v)->LM X.env.scope x->∃u,cP v u/\MD X.env s.heap m x u
 cell:∀x c,X.env.cells.lookup x=some c->∃v,s.heap.IsCell c v
 free:H X.env.locals=none
 freeC:∀x c,X.env.cells.lookup x=some c->H c=none
 pin:∀p∈X.pn++pins,s.heap.get? p.1=some p.2/\H p.1=none/\p.1≠X.env.locals/\p.1∉X.fs/\∀v,p.2.data≠.cell v
 hok:qd X.prog X.w H s.heap
 len:σ.length=X.N.length
section
variable{X:Cx}{pins:List (Addr×Obj)}{σ:List (Option V)}{H H':Hp}{s:Shared}{h':Heap}
theorem Cx.Ok.nofr(ok:X.Ok){b:Addr}{o:Obj}(e:X.base.get? b=some o):b∉X.fs:=λhb=>by
 have:=(ok.funs.mem hb).1
 rw[e] at this;cases this
theorem bQ.bs(I:bQ X pins σ H s):∀b o,X.base.get? b=some o->s.heap.get? b=some o/\H b=none:=λb o e=>
 ⟨I.base.keep b o (I.ok.bs b o e).1 (I.ok.bs b o e).2 (I.ok.nofr e) (I.ok.noex b o e),I.base.free b o (I.ok.bs b o e).1 (I.ok.bs b o e).2 (I.ok.noex b o e)⟩
theorem bQ.bk(I:bQ X pins σ H s):∀b o,X.base.get? b=some o->s.heap.get? b=some o:=λb o e=>(I.bs b o e).1
theorem bQ.mod(I:bQ X pins σ H s):Mod X.K X.mg X.base:=I.ok.mod
theorem bQ.kIn(I:bQ X pins σ H s):X.K.In s.heap:=I.ok.mod.kin.keeps I.bk
theorem bQ.lt(I:bQ X pins σ H s):X.env.locals<s.heap.objs.size:=let⟨_,hn,_⟩:=I.loc;hn.lt
theorem bQ.sz(I:bQ X pins σ H s):X.s₀.heap.objs.size<=s.heap.objs.size:=bC I.ok.above (mI I.lt)
theorem bQ.nofs(I:bQ X pins σ H s){a:Addr}(h:s.heap.objs.size<=a):a∉X.fs:=λhb=>by
 obtain⟨_,o,ho,_⟩:=I.ok.funs.mem hb
 exact absurd (aU (aH ho) (bC I.sz h)) (dA _)
theorem bQ.cne(I:bQ X pins σ H s):∀x c,X.env.cells.lookup x=some c->c≠X.env.locals:=λx c e z=>by
 obtain⟨v,o,ho,hd⟩:=I.cell x c e
 obtain⟨m,⟨o',es,ep,ho',hd',_⟩,_⟩:=I.loc
 rw[z,ho'] at ho;cases ho;rw[hd'] at hd;cases hd
theorem bQ.funs(I:bQ X pins σ H s):s.heap.FunFrames X.base X.outer:=by
 have all:∀(l:List Env),(∀b∈frs l,b∈X.fs)->X.s₀.heap.FunFrames X.base l->s.heap.FunFrames X.base l:=by
  intro l
  induction l with
  |nil=>intro _ _;trivial
  |cons env r ih=>
   intro hs hl
   obtain⟨hk,⟨L,o,hf,hn,ho,hd⟩,hr⟩:=hl
   have hL:L∈X.fs:=hs L (by unfold frs;rw[kF,hf];exact ay)
   obtain⟨sl,e⟩:=I.base.slot L o ho (I.ok.frf L hL) hL λz=>I.ok.exfs L z hL
   exact⟨hk,⟨L,_,hf,hn,e,hd⟩,ih (λb hb=>hs b (by unfold frs;rw[kF,hf];exact bU _ hb)) hr⟩
 exact all X.outer (λ_ hb=>hb) I.ok.funs
theorem bQ.stack(I:bQ X pins σ H s):s.heap.FunFrames X.base X.stack:=by
 rcases I.ok.stk with e|⟨e,hf⟩
 ·rw[e];exact I.funs
 ·rw[e]
  obtain⟨m,hn,_⟩:=I.loc
  refine .cons (by rw[I.ok.kind];decide) hf hn ?_ I.funs
  exact Heap.get?_none_of_le (bC I.ok.bsz I.ok.above)
theorem bQ.stkSub(I:bQ X pins σ H s):∀b∈frs X.stack,b∈X.env.locals::X.fs:=λb hb=>by
 rcases I.ok.stk with e|⟨e,hf⟩
 ·rw[e] at hb;exact bU _ hb
 ·rw[e] at hb
  unfold frs at hb
  rw[kF,hf] at hb
  exact hb
theorem bQ.stkFree(I:bQ X pins σ H s):∀b∈frs X.stack,H b=none:=λb hb=>by
 rcases bp.mp (I.stkSub b hb) with e|hb
 ·rw[e];exact I.free
 ·obtain⟨_,o,ho,_⟩:=I.ok.funs.mem hb
  exact I.base.free b o ho (I.ok.frf b hb) λz=>I.ok.exfs b z hb
theorem bQ.step{g':Array GenState}{t':Nat}{d':Drawn}{ch:List Addr}(I:bQ X pins σ H s)
  (hch:∀b∈ch,(b∈X.ex\/X.s₀.heap.objs.size<=b)/\b≠X.env.locals/\(∀x c,X.env.cells.lookup x=some c->c≠b)/\∀p∈X.pn++pins,p.1≠b)
  (keep:∀b o,b≠X.env.locals->b∉X.fs->b∉ch->s.heap.get? b=some o->H b=none->h'.get? b=some o)
  (slot:∀b o,b≠X.env.locals->b∈X.fs->b∉ch->s.heap.get? b=some o->H b=none->∃sl,h'.get? b=some {o with slots:=sl}) (free:∀b o,b∉ch->s.heap.get? b=some o->H b=none->H' b=none)
  (there:∀b o,b∉ch->s.heap.get? b=some o->∃o',h'.get? b=some o')
  (tups:∀b xs,H b=some (.tup xs)->H' b=some (.tup xs)) (frzs:∀b o u,H b=some (.frz o u)->H' b=some (.frz o u)) (tbls:∀b ps,H b=some (.tbl ps)->∃more,H' b=some (.tbl (ps++more)))
  (ns:∀m,s.heap.Ns X.env.locals m->h'.Ns X.env.locals m) (hok:qd X.prog X.w H' h') (hg:AllBare g') :
  bQ X pins σ H' {s with heap:=h',gens:=g',drawn:=d',toks:=t'}:=by
 have neL:∀b o,X.s₀.heap.get? b=some o->b≠X.env.locals:=λb o e=>bt (aU (aH e) I.ok.above)
 have neC:∀b o,X.s₀.heap.get? b=some o->b∉X.ex->b∉ch:=λb o e hx hb=>by
  rcases(hch b hb).1 with z|z
  ·exact hx z
  ·exact absurd (aU (aH e) z) (dA _)
 have cellK:∀x c,X.env.cells.lookup x=some c->∀v,s.heap.IsCell c v->h'.IsCell c v:=λx c e v ⟨o,ho,hd⟩=>by
  have nch:c∉ch:=λz=>(hch c z).2.2.1 x c e rfl
  by_cases hc:c∈X.fs
  ·obtain⟨sl,q⟩:=slot c o (I.cne x c e) hc nch ho (I.freeC x c e)
   exact⟨_,q,hd⟩
  ·exact⟨o,keep c o (I.cne x c e) hc nch ho (I.freeC x c e),hd⟩
 refine⟨I.ok,I.os,hg,⟨λb o e n hb hx=>?_,λb o e n hb hx=>?_,λb o e n hx=>?_,λb o e hx=>?_,λb xs e=>tups b xs (I.base.tups b xs e),λb o xs e=>frzs b o xs (I.base.frzs b o xs e),λb ps e=>?_⟩,?_,λx c e=>?_,?_,λx c e=>?_,λp hp=>?_,hok,I.len⟩
 ·exact keep b o (neL b o e) hb (neC b o e hx) (I.base.keep b o e n hb hx) (I.base.free b o e n hx)
 ·obtain⟨sl,e1⟩:=I.base.slot b o e n hb hx
  obtain⟨sl',e2⟩:=slot b _ (neL b o e) hb (neC b o e hx) e1 (I.base.free b o e n hx)
  exact⟨sl',e2⟩
 ·obtain⟨o',e1⟩:=I.base.there b o e hx
  exact free b o' (neC b o e hx) e1 (I.base.free b o e n hx)
 ·obtain⟨o',e1⟩:=I.base.there b o e hx
  exact there b o' (neC b o e hx) e1
 ·obtain⟨m1,e1⟩:=I.base.tbls b ps e
  obtain⟨m2,e2⟩:=tbls b _ e1
  exact⟨m1++m2,by rw[e2,Array.append_assoc]⟩
 ·obtain⟨m,hn,hl⟩:=I.loc
  refine⟨m,ns m hn,λi x v e1 e2 e3=>?_⟩
  obtain⟨u,r,l⟩:=hl i x v e1 e2 e3
  refine⟨u,r,?_⟩
  rcases l with l|⟨k,c,e,z⟩
  ·exact .inl l
  ·exact .inr ⟨k,c,e,cellK x c e _ z⟩
 ·obtain⟨v,z⟩:=I.cell x c e
  exact⟨v,cellK x c e v z⟩
 ·obtain⟨m,⟨o,_,_,ho,_⟩,_⟩:=I.loc
  exact free _ o (λz=>(hch _ z).2.1 rfl) ho I.free
 ·obtain⟨v,o,ho,hd⟩:=I.cell x c e
  exact free c o (λz=>(hch c z).2.2.1 x c e rfl) ho (I.freeC x c e)
 ·obtain⟨e,n,ne,nf,d⟩:=I.pin p hp
  have nch:p.1∉ch:=λz=>(hch p.1 z).2.2.2 p hp rfl
  exact⟨keep p.1 p.2 ne nf nch e n,free p.1 p.2 nch e n,ne,nf,d⟩
theorem bQ.un{t':Nat}(I:bQ X pins σ H s)(u:Un X.fs [] H H' s.heap h')(hok:qd X.prog X.w H' h'):bQ X pins σ H' {s with heap:=h',toks:=t'}:=by
 obtain⟨m,⟨o,es,ep,ho,r⟩,_⟩:=id I.loc
 obtain⟨sl,hL⟩:=u.any ho I.free (by simp)
 exact I.step (g':=s.gens) (d':=s.drawn) (ch:=[]) (λ_ z=>nomatch z) (λb o _ hb _ e n=>u.keep b o e n hb (by simp)) (λb o _ hb _ e n=>u.slot b o e n hb (by simp)) (λb o _ e n=>u.free b o e n (by simp)) (λb o _ e=>u.there b o e (by simp)) u.tups u.frzs u.tbls (λm' hm=>by
  obtain⟨o',es',ep',ho',r'⟩:=hm
  rw[ho] at ho';cases ho'
  exact⟨_,es',ep',hL,r'⟩) hok I.bare
theorem bQ.call{g':Array GenState}{t':Nat}{d':Drawn}{ch:List Addr}(I:bQ X pins σ H s)(u:Un (frs X.stack) ch H H' s.heap h')(hok:qd X.prog X.w H' h')(hg:AllBare g')
  (hch:∀b∈ch,(b∈X.ex\/X.s₀.heap.objs.size<=b)/\b≠X.env.locals/\(∀x c,X.env.cells.lookup x=some c->c≠b)/\∀p∈X.pn++pins,p.1≠b) :
  bQ X pins σ H' {s with heap:=h',gens:=g',drawn:=d',toks:=t'}:=by
 obtain⟨m,⟨o,es,ep,ho,r⟩,_⟩:=id I.loc
 obtain⟨sl,hL⟩:=u.any ho I.free λz=>(hch _ z).2.1 rfl
 exact I.step (ch:=ch) hch (λb o hL hb hc e n=>u.keep b o e n (λz=>(bp.mp (I.stkSub b z)).elim hL hb) hc) (λb o _ _ hc e n=>u.any e n hc) (λb o hc e n=>u.free b o e n hc) (λb o hc e=>u.there b o e hc) u.tups u.frzs u.tbls (λm' hm=>by
  obtain⟨o',es',ep',ho',r'⟩:=hm
  rw[ho] at ho';cases ho'
  exact⟨_,es',ep',hL,r'⟩) hok hg
theorem bQ.turned{t':Nat}{it:Addr}(I:bQ X pins σ H s)(k:∀b o,b≠it->s.heap.get? b=some o->h'.get? b=some o)(hn:H it=none)(hL:it≠X.env.locals)
  (h1:it∈X.ex\/X.s₀.heap.objs.size<=it) (h2:∀x c,X.env.cells.lookup x=some c->c≠it) (h3:∀p∈X.pn++pins,p.1≠it):bQ X pins σ H {s with heap:=h',toks:=t'}:=by
 have nit:∀b u,H b=some u->b≠it:=λb u e z=>by rw[z,hn] at e;cases e
 refine I.step (g':=s.gens) (d':=s.drawn) (ch:=[it]) (λb hb=>?_) (λb o _ _ hc e _=>k b o (λz=>hc (by simp[z])) e) (λb o _ _ hc e _=>⟨o.slots,k b o (λz=>hc (by simp[z])) e⟩) (λ_ _ _ _ n=>n)
  (λb o hc e=>⟨o,k b o (λz=>hc (by simp[z])) e⟩) (λ_ _ e=>e) (λ_ _ _ e=>e) (λb ps e=>⟨#[],by rw[e];simp⟩) (λm hm=>?_) (λb u e=>?_) I.bare
 ·have e:b=it:=by simpa using hb
  subst e
  exact⟨h1,hL,h2,h3⟩
 ·obtain⟨o,es,ep,ho,r⟩:=hm
  exact⟨o,es,ep,k _ o (Ne.symm hL) ho,r⟩
 ·refine(I.hok b u e).stay (λc v hc q=>k c v ?_ q) (λ_ q=>q) λ_ _ q=>q
  rcases hc with z|z
  ·rw[z];exact nit b u e
  ·exact nit c _ z
theorem bQ.tok(I:bQ X pins σ H s)(t:Nat):bQ X pins σ H {s with toks:=t}:=I.un (h':=s.heap) (t':=t) Un.refl I.hok
theorem bQ.kept{t':Nat}(I:bQ X pins σ H s)(k:∀b u,s.heap.get? b=some u->h'.get? b=some u):bQ X pins σ H {s with heap:=h',toks:=t'}:=I.un (Un.kept k) (I.hok.kept k)
theorem bQ.laid{a:Addr}{o:HO}{t':Nat}(I:bQ X pins σ H s)(k:∀b u,s.heap.get? b=some u->h'.get? b=some u)(hp:s.heap.objs.size<=a)(new:gQ X.prog X.w (upd H a o) h' a o) :
  bQ X pins σ (upd H a o) {s with heap:=h',toks:=t'}:=I.un (Un.laid k hp (I.hok.fresh hp)) (I.hok.laid k hp new)
theorem bQ.write{x e:Addr}{o:HO}{t':Nat}(I:bQ X pins σ H s)(mu:LG (H x))(he:e=x\/H e=some (.own x))(k:∀b u,b≠e->s.heap.get? b=some u->h'.get? b=some u)(heo:∃u,h'.get? e=some u)
  (new:gQ X.prog X.w (upd H x o) h' x o):bQ X pins σ (upd H x o) {s with heap:=h',toks:=t'}:=I.un (Un.write mu he k heo) (I.hok.write mu he k heo new)
theorem bQ.pins_of{pins':List (Addr×Obj)}(I:bQ X pins σ H s)(h:∀p∈pins',s.heap.get? p.1=some p.2/\H p.1=none/\p.1≠X.env.locals/\p.1∉X.fs/\∀v,p.2.data≠.cell v):bQ X pins' σ H s:=
 ⟨I.ok,I.os,I.bare,I.base,I.loc,I.cell,I.free,I.freeC,λp hp=>(aP.mp hp).elim (λz=>I.pin p (aW _ z)) (h p),I.hok,I.len⟩
theorem zy{N:List Str}(hN:N.Nodup){i j:Nat}{x:Str}(a:N[i]?=some x)(b:N[j]?=some x):i=j:=by
 obtain⟨h1,e1⟩:=aj.mp a
 obtain⟨h2,e2⟩:=aj.mp b
 exact(List.getElem_inj hN).mp (e1.trans e2.symm)
theorem wC{M:Model}{A:Around}{E:Value->Shared->Prop}{i:Nat}{x:Str}{v:V}{u:Value}{Q:Unit->Shared->Prop}(I:bQ X pins σ H s)(hN:X.N.Nodup)(hi:X.N[i]?=some x)(hx:GX X.env.scope x)(r:cP v u)
  (h:∀s',bQ X pins (σ.set i (some v)) H s'->(∃a,Heap.SameBut a s.heap s'.heap/\(a=X.env.locals\/X.env.cells.lookup x=some a))->Q () s') (hf:X.fn x=true\/X.env.scope.names.lookup x=some .local:=by first|exact .inl rfl|exact .inr rfl|assumption):wpAny M A (storeName X.env x u) Q E s:=by
 obtain⟨m,hn,hl⟩:=id I.loc
 have hcls:(X.env.scope.kind==.class || (X.env.scope.kind==.module&&X.env.locals != X.env.globals))=false:=by rw[I.ok.kind];rfl
 have hiσ:i<σ.length:=by rw[I.len];exact(aj.mp hi).1
 have cne:=I.cne
 have tracked:∀{a:Addr} {h':Heap},(∃o,s.heap.get? a=some o/\H a=none)->Heap.SameBut a s.heap h'->qd X.prog X.w H h':=λ{a h'} ha hs b ob e=>by
  obtain⟨_,_,hfree⟩:=ha
  refine(I.hok b ob e).stay (λc w' hc q=>(hs.2 c ?_).trans q) (λ_ q=>q) λ_ _ q=>q
  rintro rfl
  rcases hc with rfl|hc
  ·rw[hfree] at e;cases e
  ·rw[hfree] at hc;cases hc
 rcases hx with hk|hk
 ·refine wpAny_storeName_local hk hn (λh' hn' hs=>?_) hcls
  obtain⟨oL,_,_,hoL,_⟩:=id hn
  refine h _ ⟨I.ok,I.os,I.bare,⟨λb o e n hb hx=>?_,λb o e n hb hx=>?_,I.base.free,λb o e hx=>?_,I.base.tups,I.base.frzs,I.base.tbls⟩,⟨_,hn',λj y v' e1 e2 e3=>?_⟩,λy c e=>?_,I.free,I.freeC,λp hp=>?_,tracked ⟨oL,hoL,I.free⟩ hs,by simpa using I.len⟩ ⟨_,hs,.inl rfl⟩
  ·exact(hs.2 b (bt (aU (aH e) I.ok.above))).trans (I.base.keep b o e n hb hx)
  ·obtain⟨sl,e1⟩:=I.base.slot b o e n hb hx
   exact⟨sl,(hs.2 b (bt (aU (aH e) I.ok.above))).trans e1⟩
  ·obtain⟨o',e1⟩:=I.base.there b o e hx
   exact⟨o',(hs.2 b (bt (aU (aH e) I.ok.above))).trans e1⟩
  ·by_cases hj:j=i
   ·subst hj
    rw[hi] at e1;cases e1
    rw[bx hiσ] at e2
    cases e2
    exact⟨u,r,.inl ⟨hk,by simp⟩⟩
   ·rw[bT (Ne.symm hj)] at e2
    obtain⟨u',r',q⟩:=hl j y v' e1 e2 e3
    refine⟨u',r',?_⟩
    rcases q with⟨k,e⟩|⟨k,c,e,z⟩
    ·refine .inl ⟨k,?_⟩
     have:y≠x:=λe=>hj (zy hN e1 (e ▸ hi))
     simp[this,e]
    ·exact .inr ⟨k,c,e,z.sameBut hs (cne y c e)⟩
  ·obtain⟨w',z⟩:=I.cell y c e
   exact⟨w',z.sameBut hs (cne y c e)⟩
  ·obtain⟨e,n,ne,nf,d⟩:=I.pin p hp
   exact⟨(hs.2 p.1 ne).trans e,n,ne,nf,d⟩
 ·have hfn:X.fn x=true:=by
   rcases hf with z|z
   ·exact z
   ·rw[z] at hk;cases hk
  obtain⟨c,hc⟩:=I.ok.has x (.inl hk)
  obtain⟨w',z⟩:=I.cell x c hc
  refine wpAny_storeName_cell I.ok.kind hk hc z (λh' hc' hs=>?_)
  obtain⟨oc,hoc,hocd⟩:=id z
  refine h {s with heap:=h'} ⟨I.ok,I.os,I.bare,⟨λb o e n hb hx=>?_,λb o e n hb hx=>?_,I.base.free,λb o e hx=>?_,I.base.tups,I.base.frzs,I.base.tbls⟩,⟨m,hn.sameBut hs (Ne.symm (cne x c hc)),λj y v' e1 e2 e3=>?_⟩,λy c' e=>?_,I.free,I.freeC,λp hp=>?_,tracked ⟨oc,hoc,I.freeC x c hc⟩ hs,by simpa using I.len⟩ ⟨c,hs,.inr hc⟩
  ·exact(hs.2 b (bt (aU (aH e) (I.ok.cab x c hfn hc)))).trans (I.base.keep b o e n hb hx)
  ·obtain⟨sl,e1⟩:=I.base.slot b o e n hb hx
   exact⟨sl,(hs.2 b (bt (aU (aH e) (I.ok.cab x c hfn hc)))).trans e1⟩
  ·obtain⟨o',e1⟩:=I.base.there b o e hx
   exact⟨o',(hs.2 b (bt (aU (aH e) (I.ok.cab x c hfn hc)))).trans e1⟩
  ·by_cases hj:j=i
   ·subst hj
    rw[hi] at e1;cases e1
    rw[bx hiσ] at e2
    cases e2
    exact⟨u,r,.inr ⟨.inl hk,c,hc,hc'⟩⟩
   ·rw[bT (Ne.symm hj)] at e2
    obtain⟨u',r',q⟩:=hl j y v' e1 e2 e3
    refine⟨u',r',?_⟩
    rcases q with q|⟨k,c',e,z'⟩
    ·exact .inl q
    ·refine .inr ⟨k,c',e,z'.sameBut hs ?_⟩
     rintro rfl
     exact hj (zy hN e1 (I.ok.inj _ _ _ e hc ▸ hi))
  ·by_cases hcc:c'=c
   ·subst hcc;exact⟨_,hc'⟩
   ·obtain⟨w2,z2⟩:=I.cell y c' e
    exact⟨w2,z2.sameBut hs hcc⟩
  ·obtain⟨e,n,ne,nf,d⟩:=I.pin p hp
   refine⟨(hs.2 p.1 ?_).trans e,n,ne,nf,d⟩
   intro q
   rw[q,hoc] at e
   have q':oc=p.2:=Option.some.inj e
   exact d w' (by rw[<-q'];exact hocd)
theorem uy{M:Model}{A:Around}{E:Value->Shared->Prop}{i:Nat}{x:Str}{v:V}{u:Value}{Q:Unit->Shared->Prop}(I:bQ X pins σ H s)(hN:X.N.Nodup)(hi:X.N[i]?=some x)(hx:GX X.env.scope x)(r:cP v u)
  (h:∀s',bQ X pins (σ.set i (some v)) H s'->Q () s') (hf:X.fn x=true\/X.env.scope.names.lookup x=some .local:=by first|exact .inl rfl|exact .inr rfl|assumption):wpAny M A (storeName X.env x u) Q E s:=
 wC I hN hi hx r (λs' I' _=>h s' I') hf
theorem bQ.call'{s':Shared}{ch:List Addr}(I:bQ X pins σ H s)(ho:s'.os=s.os)(u:Un (frs X.stack) ch H H' s.heap s'.heap)(hok:qd X.prog X.w H' s'.heap)(hg:AllBare s'.gens)
  (hch:∀b∈ch,(b∈X.ex\/X.s₀.heap.objs.size<=b)/\b≠X.env.locals/\(∀x c,X.env.cells.lookup x=some c->c≠b)/\∀p∈X.pn++pins,p.1≠b):bQ X pins σ H' s':=by
 obtain⟨h',g',d',t',o'⟩:=s'
 have e:o'=s.os:=ho
 subst e
 exact I.call (g':=g') (t':=t') (d':=d') u hok hg hch
end
abbrev XK:=Value->Option Addr->Hp->Prop
abbrev St:=List (Option V)
abbrev VK:=V->Hp->Prop
abbrev TE:=St->Hp->VK->Prop
abbrev TT:=St->Hp->(Bool->Hp->Prop)->Prop
abbrev TA:=St->Hp->(List V->Hp->Prop)->Prop
structure nN where
 nx:St->Hp->Prop
 rt:VK
 bk:St->Hp->Prop:=λ_ _=>False
 ct:St->Hp->Prop:=λ_ _=>False
abbrev TS:=nN->St->Hp->Prop
def EP(X:Cx)(pins:List (Addr×Obj))(σ:St)(Q:VK)(u:Value)(s':Shared):Prop:=∃v H',bQ X pins σ H' s'/\cP v u/\Q v H'
def TP(X:Cx)(pins:List (Addr×Obj))(σ:St)(Q:Bool->Hp->Prop)(b:Bool)(s':Shared):Prop:=∃H',bQ X pins σ H' s'/\Q b H'
def AP(X:Cx)(pins:List (Addr×Obj))(σ:St)(Q:List V->Hp->Prop)(us:List Value)(s':Shared):Prop:=∃vs H',bQ X pins σ H' s'/\ck vs us/\Q vs H'
def SP(X:Cx)(pins:List (Addr×Obj))(D:nN)(f:Flow)(s':Shared):Prop:=
 match f with
 |.next=>∃σ' H',bQ X pins σ' H' s'/\D.nx σ' H'
 |.brk=>∃σ' H',bQ X pins σ' H' s'/\D.bk σ' H'
 |.cont=>∃σ' H',bQ X pins σ' H' s'/\D.ct σ' H'
 |.ret u=>∃v σ' H',bQ X pins σ' H' s'/\cP v u/\D.rt v H'
def PE(X:Cx)(e:Expr)(t:TE):Prop:=
 ∀(pins:List (Addr×Obj)) (s:Shared) (σ:St) (H:Hp) (Q:VK),bQ X pins σ H s->t σ H Q->wpAny (model X.prog X.w) X.A (eval e X.env) (EP X pins σ Q) X.xe s
def PT(X:Cx)(e:Expr)(t:TT):Prop:=
 ∀(pins:List (Addr×Obj)) (s:Shared) (σ:St) (H:Hp) (Q:Bool->Hp->Prop),bQ X pins σ H s->t σ H Q->wpAny (model X.prog X.w) X.A (isTrue e X.env (eval e X.env)) (TP X pins σ Q) X.xe s
def PW(X:Cx)(e:Expr)(t:TT):Prop:=
 ∀(whole:Sem Value) (pins:List (Addr×Obj)) (s:Shared) (σ:St) (H:Hp) (Q:Bool->Hp->Prop),bQ X pins σ H s->t σ H Q->wpAny (model X.prog X.w) X.A (isTrue e X.env whole) (TP X pins σ Q) X.xe s
theorem PW.pt{X:Cx}{e:Expr}{t:TT}(h:PW X e t):PT X e t:=h _
def PA(X:Cx)(es:List Expr)(t:TA):Prop:=
 ∀(pos:Pos) (pins:List (Addr×Obj)) (s:Shared) (σ:St) (H:Hp) (Q:List V->Hp->Prop),bQ X pins σ H s->t σ H Q->wpAny (model X.prog X.w) X.A (spliced (backTo pos (starEach es X.env))) (AP X pins σ Q) X.xe s
def PS(X:Cx)(st:Stmt)(t:TS):Prop:=
 ∀(pins:List (Addr×Obj)) (s:Shared) (σ:St) (H:Hp) (D:nN),bQ X pins σ H s->t D σ H->wpAny (model X.prog X.w) X.A (exec st X.env) (SP X pins D) X.xe s
def jV(X:Cx)(st:List Stmt)(t:TS):Prop:=
 ∀(pins:List (Addr×Obj)) (s:Shared) (σ:St) (H:Hp) (D:nN),bQ X pins σ H s->t D σ H->wpAny (model X.prog X.w) X.A (execs st X.env) (SP X pins D) X.xe s
theorem fK{α:Type}{t:Sem α}{Q Q':α->Shared->Prop}{M:Model}{A:Around}{E:Value->Shared->Prop}{s:Shared}(h:wpAny M A t Q E s)(hQ:∀a s,Q a s->Q' a s):wpAny M A t Q' E s:=wpAny_mono h hQ λ_ _ x=>x
section
variable{X:Cx}
def ah(i:Nat):TE:=λσ H Q=>∃v,σ[i]?=some (some v)/\Q v H
def tC(v:V):TE:=λ_ H Q=>Q v H
theorem KF{i:Nat}{x:Str}{pos:Pos}(hN:X.N[i]?=some x)(hv:LM X.env.scope x)(hd:(x==("__debug__":Str))=false:=by decide)(hcd:(x==("__classdict__":Str))=false:=by decide):PE X (.Name x pos) (ah i):=by
 intro pins s σ H Q I h
 obtain⟨v,e,h⟩:=h
 obtain⟨m,hn,hl⟩:=I.loc
 obtain⟨u,r,l⟩:=hl i x v hN e hv
 have fin:EP X pins σ Q u s:=⟨v,H,I,r,h⟩
 rcases l with⟨hk,hm⟩|⟨hk,c,hc,hcell⟩
 ·exact wpAny_Name (wpAny_loadName_local I.ok.kind hk hn hm fin) hd
 ·rcases hk with hk|hk
  ·exact wpAny_Name (wpAny_loadName_cell I.ok.kind hk hc hcell fin) hd
  ·exact wpAny_Name (wpAny_loadName_free I.ok.kind hk hc hcell fin hcd) hd
theorem Ky{i j pos}:PE X (.Constant (.int i) j pos) (tC (.int i)):=λ_ _ _ H _ I h=>wpAny_Constant_int ⟨.int i,H,I.tok _,⟨_,rfl⟩,h⟩
theorem L5{b j pos}:PE X (.Constant (.bool b) j pos) (tC (.bl b)):=λ_ _ _ H _ I h=>Constant_bool ⟨.bl b,H,I,rfl,h⟩
theorem KA{j pos}:PE X (.Constant .none j pos) (tC .non):=λ_ _ _ H _ I h=>Constant_none ⟨.non,H,I,rfl,h⟩
theorem KD{x j pos}:PE X (.Constant (.str x) j pos) (tC (.str x)):=λ_ _ _ H _ I h=>Calls.Constant_str ⟨.str x,H,I.tok _,⟨_,rfl⟩,h⟩
def Gl(X:Cx)(x:Str):Prop:=X.env.kindOf x=some .globalImplicit
theorem xW{E:Value->Shared->Prop}{pins:List (Addr×Obj)}{s:Shared}{σ:St}{H:Hp}{x:Str}{u:Value}{pos:Pos}{Q:Value->Shared->Prop}(I:bQ X pins σ H s)(hg:Gl X x)(hm:X.mg x=some u)(h:Q u s)
  (hd:(x==("__debug__":Str))=false:=by decide):wpAny (model X.prog X.w) X.A (eval (.Name x pos) X.env) Q E s:=
 Calls.Name_function_global I.ok.kind hg (Calls.loadGlobal_global (by rw[I.ok.glob];exact I.mod.glob.keeps I.bk) hm h) hd
theorem mX{E:Value->Shared->Prop}{pins:List (Addr×Obj)}{s:Shared}{σ:St}{H:Hp}{x:Str}{u:Value}{pos:Pos}{Q:Value->Shared->Prop}(I:bQ X pins σ H s)(hg:Gl X x)(hm:X.mg x=none)(hv:bootBuiltins x=some u)(h:Q u s)
  (hn:x≠"__name__":=by decide) (hd:(x==("__debug__":Str))=false:=by decide):wpAny (model X.prog X.w) X.A (eval (.Name x pos) X.env) Q E s:=by
 obtain⟨mb,h1,h2⟩:=I.mod.blt
 exact Calls.Name_function_global I.ok.kind hg (Calls.loadGlobal_builtin (by rw[I.ok.glob];exact I.mod.glob.keeps I.bk) hm (by rw[I.ok.blt];exact h1.keeps I.bk) ((h2 x hn).trans hv) h) hd
theorem Ii{x:Str}{v:V}{u:Value}{pos:Pos}(hg:Gl X x)(hm:X.mg x=none)(hv:bootBuiltins x=some u)(r:cP v u)(hn:x≠"__name__":=by decide)(hd:(x==("__debug__":Str))=false:=by decide):PE X (.Name x pos) (tC v):=
 λ_ _ _ H _ I h=>mX I hg hm hv ⟨v,H,I,r,h⟩ hn hd
variable{a b:Expr}{ta tb:TE}{pos:Pos}
def tB(t:TE):TT:=λσ H Q=>t σ H λx H1=>∃c,x=.bl c/\Q c H1
theorem KW{e:Expr}{t:TE}(h:PE X e t)(he:∀whole,isTrue e X.env whole=(do let v <-whole;standAt e.pos;holding [v] (truthy v)):=by intro _;rfl):PT X e (tB t):=by
 intro pins s σ H Q I hw
 refine isTrue_plain (fK (h pins s σ H _ I hw) λv s1 ⟨x,H1,I1,r1,q1⟩=>?_) (he _)
 obtain⟨d,rfl,q⟩:=q1
 cases r1
 exact wpAny_truthy_bool ⟨H1,I1,q⟩
variable{tA tB':TT}{rest:List Expr}
def yz(t u:TT):TT:=λσ H Q=>t σ H λc H1=>if c=true then u σ H1 Q else Q false H1
def JM(t u:TT):TT:=λσ H Q=>t σ H λc H1=>if c=true then Q true H1 else u σ H1 Q
def sE(t:TT):TT:=λσ H Q=>t σ H λc H1=>Q (!c) H1
theorem IJ(ha:PT X a tA):PW X (.BoolOp .And [a] pos) tA:=by
 intro wh pins s σ H Q I h
 refine isTrue_and (fK (ha pins s σ H Q I h) λc s1 e=>?_)
 cases c with
 |true=>exact isTrue_and_nil e
 |false=>exact e
theorem KZ(ha:PT X a tA):PW X (.BoolOp .Or [a] pos) tA:=by
 intro wh pins s σ H Q I h
 refine isTrue_or (fK (ha pins s σ H Q I h) λc s1 e=>?_)
 cases c with
 |false=>exact isTrue_or_nil e
 |true=>exact e
theorem KY(ha:PT X a tA)(hb:PW X (.BoolOp .And (b::rest) pos) tB'):PW X (.BoolOp .And (a::b::rest) pos) (yz tA tB'):=by
 intro wh pins s σ H Q I h
 refine isTrue_and (fK (ha pins s σ H _ I h) λc s1 ⟨H1,I1,q1⟩=>?_)
 cases c with
 |true=>exact hb wh pins s1 σ H1 Q I1 q1
 |false=>exact⟨H1,I1,q1⟩
theorem Mc(ha:PT X a tA)(hb:PW X (.BoolOp .Or (b::rest) pos) tB'):PW X (.BoolOp .Or (a::b::rest) pos) (JM tA tB'):=by
 intro wh pins s σ H Q I h
 refine isTrue_or (fK (ha pins s σ H _ I h) λc s1 ⟨H1,I1,q1⟩=>?_)
 cases c with
 |true=>exact⟨H1,I1,q1⟩
 |false=>exact hb wh pins s1 σ H1 Q I1 q1
theorem KU(ha:PT X a tA):PT X (.UnaryOp .Not a pos) (sE tA):=by
 intro pins s σ H Q I h
 exact isTrue_not (ha pins s σ H (λc H1=>Q (!c) H1) I h)
def Ai(ta tb:TE):TE:=λσ H Q=>ta σ H λx H1=>∃c,x=.bl c/\if c=true then tb σ H1 Q else Q (.bl false) H1
def Aj(ta:TE):TE:=λσ H Q=>ta σ H λx H1=>∃c,x=.bl c/\Q (.bl (!c)) H1
theorem KC{op}{t:TE}(h:PE X a t):PE X (.BoolOp op [a] pos) t:=λpins s σ H Q I hw=>BoolOp_one (h pins s σ H Q I hw)
theorem Ku(ha:PE X a ta)(hb:PE X (.BoolOp .And (b::rest) pos) tb):PE X (.BoolOp .And (a::b::rest) pos) (Ai ta tb):=by
 intro pins s σ H Q I h
 refine BoolOp_and (fK (ha pins s σ H _ I h) λv s1 ⟨x,H1,I1,r1,q1⟩=>?_)
 obtain⟨c,rfl,q1⟩:=q1
 cases r1
 refine wpAny_truthy_bool ?_
 cases c with
 |true=>exact hb pins s1 σ H1 Q I1 q1
 |false=>exact⟨.bl false,H1,I1,rfl,q1⟩
theorem KB(ha:PE X a ta):PE X (.UnaryOp .Not a pos) (Aj ta):=by
 intro pins s σ H Q I h
 refine UnaryOp_ (fK (ha pins s σ H _ I h) λv s1 ⟨x,H1,I1,r1,q1⟩=>?_)
 obtain⟨c,rfl,q1⟩:=q1
 cases r1
 exact not_of (wpAny_truthy_bool ⟨.bl (!c),H1,I1,rfl,q1⟩)
def Mr(t:TT)(ta tb:TE):TE:=λσ H Q=>t σ H λc H1=>if c=true then ta σ H1 Q else tb σ H1 Q
theorem FO{c:Expr}(hc:PT X c tA)(ha:PE X a ta)(hb:PE X b tb):PE X (.IfExp c a b pos) (Mr tA ta tb):=by
 intro pins s σ H Q I h
 refine wpAny_IfExp (fK (hc pins s σ H _ I h) λd s1 ⟨H1,I1,q1⟩=>?_)
 cases d with
 |true=>exact ha pins s1 σ H1 Q I1 q1
 |false=>exact hb pins s1 σ H1 Q I1 q1
end
def bZ(K:Fg)(H:Hp)(a:Addr)(xs:List V):Prop:=
 Rd H a (.lst xs)\/
  ∃(o:Obj) (its:Array Value) (n:Nat),K.lookup a=some o/\o.cls=.type "list"/\o.dict=none/\o.data=.seq its n/\its.size<=sizeLine/\ck xs its.toList
def eU(K:Fg)(H:Hp)(a:Addr)(xs:List V):Prop:=
 Rd H a (.tup xs)\/
  ∃(o:Obj) (its:Array Value) (n:Nat),K.lookup a=some o/\o.cls=.type "tuple"/\o.data=.seq its n/\its.size<=sizeLine/\ck xs its.toList
def ML:Value->Option V
 |.none=>some .non
 |.bool b=>some (.bl b)
 |.int i _=>some (.int i)
 |.str x _=>some (.str x)
 |.bytes b _=>some (.byt b)
 |.float b _=>some (.flt b)
 |.ref a=>some (.ref a)
 |.type n=>some (.ty n)
 |_=>none
theorem cP.abs{x:V}{u:Value}(r:cP x u):ML u=some x:=by
 cases x with
 |non=>cases r;rfl
 |bl _=>cases r;rfl
 |int _=>obtain⟨t,rfl⟩:=r;rfl
 |str _=>obtain⟨t,rfl⟩:=r;rfl
 |byt _=>obtain⟨t,rfl⟩:=r;rfl
 |flt _=>obtain⟨t,rfl⟩:=r;rfl
 |ref _=>cases r;rfl
 |ty _=>cases r;rfl
theorem cP.inj{x y:V}{u:Value}(r:cP x u)(q:cP y u):x=y:=Option.some.inj (r.abs.symm.trans q.abs)
theorem ck.inj:∀{xs ys:List V} {us:List Value},ck xs us->ck ys us->xs=ys
 |_,_,_,.nil,.nil=>rfl
 |_,_,_,.cons r t,.cons r' t'=>by rw[r.inj r',ck.inj t t']
section
variable{X:Cx}{pins:List (Addr×Obj)}{σ:St}{H:Hp}{s:Shared}{a:Addr}{xs ys:List V}
theorem bZ.of{K:Fg}(h:H a=some (.lst xs)):bZ K H a xs:=.inl (.inl h)
theorem eU.of{K:Fg}(h:H a=some (.tup xs)):eU K H a xs:=.inl (.inl h)
theorem bQ.list(I:bQ X pins σ H s)(h:bZ X.K H a xs):∃its:List Value,ck xs its/\PlainL s.heap a its.toArray/\xs.length<=sizeLine:=by
 rcases h with h|⟨o,its,n,hk,hc,hd,hs,hz,r⟩
 ·obtain⟨z,its,n,r,e⟩:=h.ok I.hok
  exact⟨its,r,⟨_,n,e,rfl,rfl,rfl⟩,z⟩
 ·refine⟨its.toList,r,⟨o,n,I.kIn a o hk,hc,hd,by simpa using hs⟩,?_⟩
  have e:=r.length
  simp only[dQ] at e
  lia
theorem bQ.tuple(I:bQ X pins σ H s)(h:eU X.K H a xs):∃its:List Value,ck xs its/\IsTup s.heap a its.toArray/\xs.length<=sizeLine:=by
 rcases h with h|⟨o,its,n,hk,hc,hs,hz,r⟩
 ·obtain⟨z,its,r,p⟩:=h.ok I.hok
  exact⟨its,r,p.tup,z⟩
 ·refine⟨its.toList,r,⟨o,I.kIn a o hk,hc,n,by simpa using hs⟩,?_⟩
  have e:=r.length
  simp only[dQ] at e
  lia
theorem bQ.list_inj(I:bQ X pins σ H s)(h:bZ X.K H a xs)(h':bZ X.K H a ys):xs=ys:=by
 obtain⟨its,r,⟨o,n,e,_,_,d⟩,_⟩:=I.list h
 obtain⟨its',r',⟨o',n',e',_,_,d'⟩,_⟩:=I.list h'
 rw[e] at e';cases e'
 rw[d] at d'
 injection d' with d1 _
 have:its=its':=by simpa using congrArg Array.toList d1
 subst this
 exact r.inj r'
theorem bQ.tuple_inj(I:bQ X pins σ H s)(h:eU X.K H a xs)(h':eU X.K H a ys):xs=ys:=by
 obtain⟨its,r,⟨o,e,_,n,d⟩,_⟩:=I.tuple h
 obtain⟨its',r',⟨o',e',_,n',d'⟩,_⟩:=I.tuple h'
 rw[e] at e';cases e'
 rw[d] at d'
 injection d' with d1 _
 have:its=its':=by simpa using congrArg Array.toList d1
 subst this
 exact r.inj r'
end
abbrev Cx.wish(X:Cx)(E:Value->Shared->Prop):Cx:={X with xe:=E}
abbrev Cx.nox(X:Cx):Cx:=X.wish λ_ _=>False
theorem Cx.Ok.wish{X:Cx}(ok:X.Ok)(E:Value->Shared->Prop):(X.wish E).Ok:=
 ⟨ok.mod,ok.kind,ok.glob,ok.blt,ok.above,ok.inj,ok.has,ok.cab,ok.hd,ok.frames,ok.stk,ok.exf,ok.bs,ok.bsz,ok.noex,ok.exfs,ok.funs,ok.frf⟩
theorem Cx.Ok.unwish{X:Cx}{E:Value->Shared->Prop}(ok:(X.wish E).Ok):X.Ok:=
 ⟨ok.mod,ok.kind,ok.glob,ok.blt,ok.above,ok.inj,ok.has,ok.cab,ok.hd,ok.frames,ok.stk,ok.exf,ok.bs,ok.bsz,ok.noex,ok.exfs,ok.funs,ok.frf⟩
section
variable{X:Cx}{pins:List (Addr×Obj)}{σ:St}{H:Hp}{s:Shared}{E:Value->Shared->Prop}
theorem bQ.wish(I:bQ X pins σ H s)(E:Value->Shared->Prop):bQ (X.wish E) pins σ H s:=⟨I.ok.wish E,I.os,I.bare,I.base,I.loc,I.cell,I.free,I.freeC,I.pin,I.hok,I.len⟩
theorem bQ.unwish(I:bQ (X.wish E) pins σ H s):bQ X pins σ H s:=⟨I.ok.unwish,I.os,I.bare,I.base,I.loc,I.cell,I.free,I.freeC,I.pin,I.hok,I.len⟩
theorem SP.unwish{D:nN}{f:Flow}{s':Shared}(h:SP (X.wish E) pins D f s'):SP X pins D f s':=by
 cases f with
 |next=>obtain⟨σ',H',I,q⟩:=h;exact⟨σ',H',I.unwish,q⟩
 |brk=>obtain⟨σ',H',I,q⟩:=h;exact⟨σ',H',I.unwish,q⟩
 |cont=>obtain⟨σ',H',I,q⟩:=h;exact⟨σ',H',I.unwish,q⟩
 |ret u=>obtain⟨v,σ',H',I,r,q⟩:=h;exact⟨v,σ',H',I.unwish,r,q⟩
theorem jV.nox{st:List Stmt}{t:TS}(h:jV X.nox st t):jV X st t:=λpins s σ H D I hw=>
 wpAny_mono (h pins s σ H D (I.wish _) hw) (λ_ _ q=>q.unwish) λ_ _ z=>False.elim z
end
section
variable{X:Cx}{st:Stmt}{rest:List Stmt}{t u:TS}{e:Expr}{te:TE}{pos:Pos}
def cG:TS:=λD σ H=>D.nx σ H
def bo(t u:TS):TS:=λD σ H=>t {D with nx:=u D} σ H
theorem IG:jV X [] cG:=λ_ _ σ H _ I h=>wpAny_execs_nil ⟨σ,H,I,h⟩
theorem FV(h1:PS X st t)(h2:jV X rest u):jV X (st::rest) (bo t u):=by
 intro pins s σ H D I h
 refine wpAny_execs_cons (fK (h1 pins s σ H {D with nx:=u D} I h) λf s1 q=>?_)
 cases f with
 |next=>
  obtain⟨σ',H',I',q⟩:=q
  exact h2 pins s1 σ' H' D I' q
 |ret v=>exact q
 |brk=>exact q
 |cont=>exact q
theorem IH(h1:PS X st t):jV X [st] t:=by
 intro pins s σ H D I h
 refine wpAny_execs_cons (fK (h1 pins s σ H D I h) λf s1 q=>?_)
 cases f with
 |next=>exact wpAny_execs_nil q
 |ret v=>exact q
 |brk=>exact q
 |cont=>exact q
theorem bQ.quiet{pins:List (Addr×Obj)}{σ:St}{H:Hp}{s:Shared}(I:bQ X pins σ H s):interactive X.env=false:=by simp[interactive,I.ok.kind]
def fV(te:TE):TS:=λD σ H=>te σ H λ_ H1=>D.nx σ H1
theorem IE(he:PE X e te)(hs:swapsWith e none pos.line X.env=pure false:=by rfl):PS X (.Expr e pos) (fV te):=by
 intro pins s σ H D I h
 exact wpAny_Expr_any (fK (he pins s σ H _ I h) λv s1 ⟨x,H1,I1,r1,q1⟩=>⟨σ,H1,I1,q1⟩) I.quiet hs
def cU(te:TE):TS:=λD σ H=>te σ H D.rt
theorem KR(he:PE X e te):PS X (.Return (some e) pos) (cU te):=by
 intro pins s σ H D I h
 exact wpAny_Return_some (fK (he pins s σ H _ I h) λv s1 ⟨x,H1,I1,r1,q1⟩=>⟨x,σ,H1,I1,r1,q1⟩)
def Gv:TS:=λD _ H=>D.rt .non H
theorem IF:PS X (.Return none pos) Gv:=λ_ _ σ H _ I h=>wpAny_Return_none ⟨.non,σ,H,I,rfl,h⟩
def df(c:TT)(t u:TS):TS:=λD σ H=>c σ H λb H1=>if b=true then t D σ H1 else u D σ H1
theorem Mb{c:Expr}{a b:List Stmt}{tc:TT}(hc:PT X c tc)(ha:jV X a t)(hb:jV X b u):PS X (.If c a b pos) (df tc t u):=by
 intro pins s σ H D I h
 refine wpAny_If (fK (hc pins s σ H _ I h) λd s1 ⟨H1,I1,q1⟩=>?_)
 cases d with
 |true=>exact ha pins s1 σ H1 D I1 q1
 |false=>exact hb pins s1 σ H1 D I1 q1
end
abbrev TG:=V->St->Hp->(St->Hp->Prop)->Prop
abbrev Dk:=List V->St->Hp->(St->Hp->Prop)->Prop
def PG(X:Cx)(target:Expr)(t:TG):Prop:=
 ∀(pins:List (Addr×Obj)) (s:Shared) (σ:St) (H:Hp) (v:V) (u:Value) (Q:St->Hp->Prop),bQ X pins σ H s->cP v u->t v σ H Q->
  wpAny (model X.prog X.w) X.A (assign target X.env u) (λ_ s'=>∃σ' H',bQ X pins σ' H' s'/\Q σ' H') X.xe s
def Lq(X:Cx)(ts:List Expr)(t:Dk):Prop:=
 ∀(pins:List (Addr×Obj)) (s:Shared) (σ:St) (H:Hp) (vs:List V) (us:List Value) (Q:St->Hp->Prop),bQ X pins σ H s->ck vs us->t vs σ H Q->
  wpAny (model X.prog X.w) X.A (assignInOrder ((assignEach ts X.env).map (·.2)) us) (λ_ s'=>∃σ' H',bQ X pins σ' H' s'/\Q σ' H') X.xe s
abbrev Ha:=V->V->V->Hp->(Hp->Prop)->Prop
def G7(X:Cx)(t:Ha):Prop:=
 ∀(pins:List (Addr×Obj)) (s:Shared) (σ:St) (H:Hp) (o i v:V) (ov iv u:Value) (Q:Hp->Prop),bQ X pins σ H s->cP o ov->cP i iv->cP v u->t o i v H Q->
  wpAny (model X.prog X.w) X.A (setItem ov iv u) (λ_ s'=>∃H',bQ X pins σ H' s'/\Q H') X.xe s
abbrev LL:=V->V->Hp->VK->Prop
def MH(X:Cx)(op:Operator)(t:LL):Prop:=
 ∀(pins:List (Addr×Obj)) (s:Shared) (σ:St) (H:Hp) (x y:V) (v u:Value) (Q:VK),bQ X pins σ H s->cP x v->cP y u->t x y H Q->
  wpAny (model X.prog X.w) X.A (inplaceOp op v u) (EP X pins σ Q) X.xe s
section
variable{X:Cx}{pos:Pos}
def aT(i:Nat):TG:=λv σ H Q=>Q (σ.set i (some v)) H
theorem Iq{i:Nat}{x:Str}(hN:X.N.Nodup)(hi:X.N[i]?=some x)(hx:GX X.env.scope x)(hf:X.fn x=true\/X.env.scope.names.lookup x=some .local:=by first|exact .inl rfl|exact .inr rfl|assumption):PG X (.Name x pos) (aT i):=by
 intro pins s σ H v u Q I r h
 exact wpAny_assign_Name (uy I hN hi hx r (λs' I'=>⟨_,H,I',h⟩) hf)
def u6:Dk:=λvs σ H Q=>vs=[]/\Q σ H
def iM(t:TG)(u:Dk):Dk:=λvs σ H Q=>∃v r,vs=v::r/\t v σ H λσ' H'=>u r σ' H' Q
theorem Iu:Lq X [] u6:=by
 intro pins s σ H vs us Q I r h
 obtain⟨e,h⟩:=h
 subst e
 cases r
 exact assignInOrder_nil ⟨σ,H,I,h⟩
theorem FR{e:Expr}{es:List Expr}{t:TG}{u:Dk}(h1:PG X e t)(h2:Lq X es u)
  (hs:(assignEach (e::es) X.env).map (·.2)=assign e X.env::(assignEach es X.env).map (·.2):=by rfl):Lq X (e::es) (iM t u):=by
 intro pins s σ H vs us Q I r h
 obtain⟨v,vr,e1,h⟩:=h
 subst e1
 cases r with
 |cons r rr=>
  rw[hs]
  refine assignInOrder_cons (fK (h1 pins s σ H _ _ _ I r h) λ_ s1 ⟨σ1,H1,I1,q1⟩=>?_)
  exact h2 pins s1 σ1 H1 _ _ Q I1 rr q1
def xM(K:Fg)(n:Nat)(t:Dk):TG:=λv σ H Q=>∃a xs,v=.ref a/\eU K H a xs/\xs.length=n/\t xs σ H Q
theorem KH{es:List Expr}{k:Nat}{t:Dk}{n:Nat}(hc:X.calm=true)(h:Lq X es t)
  (hn:(assignEach es X.env).length=n:=by rfl) (hst:(assignEach es X.env).findIdx? (·.1)=none:=by rfl):PG X (.Tuple es k pos) (xM X.K n t):=by
 intro pins s σ H v u Q I r hw
 obtain⟨a,xs,e1,hq,hl,hw⟩:=hw
 subst e1
 cases r
 obtain⟨its,rv,ht,hz⟩:=I.tuple hq
 refine assign_Tuple_tuple (I.ok.hd hc) ht (by simp[hn,<-hl,rv.length]) hst λh' hx=>?_
 have I1:bQ X pins σ H {s with heap:=h'}:=I.kept (t':=s.toks) λb o e=>hx b o (bt (aH e)) e
 exact h pins _ σ H xs _ Q I1 (by simpa using rv) hw
def nG(to ti:TE)(t:Ha):TG:=λv σ H Q=>to σ H λo H1=>ti σ H1 λi H2=>t o i v H2 λH3=>Q σ H3
theorem KG{o i:Expr}{to ti:TE}{t:Ha}(ho:PE X o to)(hi:PE X i ti)(hs:G7 X t)
  (ha:∀v,assign (.Subscript o i pos) X.env v=(do
   let ov <-holding [v] (eval o X.env)
   let iv <-holding [v,ov] (eval i X.env)
   standAt pos
   holding [v,ov,iv] (setItem ov iv v)
   release [v,ov,iv] []):=by intro _;rfl):PG X (.Subscript o i pos) (nG to ti t):=by
 intro pins s σ H v u Q I r h
 rw[ha]
 refine wpAny_bind (wpAny_holding (fK (ho pins s σ H _ I h) λov s1 ⟨x,H1,I1,r1,q1⟩=>?_))
 refine wpAny_bind (wpAny_holding (fK (hi pins s1 σ H1 _ I1 q1) λiv s2 ⟨y,H2,I2,r2,q2⟩=>?_))
 refine wpAny_bind (wpAny_standAt (wpAny_bind (wpAny_holding (fK (hs pins s2 σ H2 x y v ov iv u _ I2 r1 r2 r q2) λ_ s3 ⟨H3,I3,q3⟩=>?_))))
 exact wpAny_release ⟨σ,H3,I3,q3⟩
def bO(te:TE)(g:TG):TS:=λD σ H=>te σ H λx H1=>g x σ H1 D.nx
theorem KN{tg e:Expr}{te:TE}{g:TG}(he:PE X e te)(hg:PG X tg g)(hs:swapsWithSole [tg] e pos.line X.env=pure false:=by rfl)(hw:swappedStores [tg] e X.env=pure none:=by rfl)
  (h1:(assignEach [tg] X.env).map (·.2)=[assign tg X.env]:=by rfl):PS X (.Assign [tg] e pos) (bO te g):=by
 intro pins s σ H D I h
 refine wpAny_Assign_stores (fK (he pins s σ H _ I h) λv s1 ⟨x,H1,I1,r1,q1⟩=>?_) hs hw
 rw[h1]
 exact fK (hg pins s1 σ H1 x v _ I1 r1 q1) λ_ s2 q=>q
theorem KS{i:Nat}{x:Str}{e:Expr}{te:TE}{pos':Pos}(hN:X.N.Nodup)(hi:X.N[i]?=some x)(hx:GX X.env.scope x)(he:PE X e te)(hs:swapsWith e (some (.Name x pos')) pos.line X.env=pure false:=by rfl)(hf:X.fn x=true\/X.env.scope.names.lookup x=some .local:=by first|exact .inl rfl|exact .inr rfl|assumption) :
  PS X (.Assign [.Name x pos'] e pos) (bO te (aT i)):=by
 intro pins s σ H D I h
 refine wpAny_Assign_Name (fK (he pins s σ H _ I h) λv s1 ⟨y,H1,I1,r1,q1⟩=>?_) hs
 exact uy I1 hN hi hx r1 (λs2 I2=>⟨_,H1,I2,q1⟩) hf
def Lj(i:Nat)(te:TE)(ti:LL):TS:=λD σ H=>∃x,σ[i]?=some (some x)/\te σ H λy H1=>ti x y H1 λz H2=>D.nx (σ.set i (some z)) H2
theorem KO{i:Nat}{x:Str}{e:Expr}{te:TE}{op:Operator}{ti:LL}{pos':Pos}(hN:X.N.Nodup)(hi:X.N[i]?=some x)(hx:GX X.env.scope x)(he:PE X e te)(ho:MH X op ti)(hf:X.fn x=true\/X.env.scope.names.lookup x=some .local:=by first|exact .inl rfl|exact .inr rfl|assumption) :
  PS X (.AugAssign (.Name x pos') op e pos) (Lj i te ti):=by
 intro pins s σ H D I h
 obtain⟨v,e1,h⟩:=h
 obtain⟨m,hn,hl⟩:=I.loc
 have vis:LM X.env.scope x:=by rcases hx with k|k;exact .inl k;exact .inr (.inl k)
 obtain⟨u,r,l⟩:=hl i x v hi e1 vis
 refine wpAny_AugAssign_Name ?_
 have go:wpAny (model X.prog X.w) X.A (eval e X.env) (λw s₂=>wpAny (model X.prog X.w) X.A (inplaceOp op u w) (λr s₃=>wpAny (model X.prog X.w) X.A (storeName X.env x r) (λ_=>SP X pins D .next) X.xe s₃) X.xe s₂) X.xe s:=by
  refine fK (he pins s σ H _ I h) λw s1 ⟨y,H1,I1,r1,q1⟩=>?_
  refine fK (ho pins s1 σ H1 v y u w _ I1 r r1 q1) λz s2 ⟨zv,H2,I2,r2,q2⟩=>?_
  exact uy I2 hN hi hx r2 (λs3 I3=>⟨_,H2,I3,q2⟩) hf
 rcases l with⟨hk,hm⟩|⟨hk,c,hc,hcell⟩
 ·exact wpAny_loadName_local I.ok.kind hk hn hm go
 ·rcases hk with hk|hk
  ·exact wpAny_loadName_cell I.ok.kind hk hc hcell go
  ·rcases hx with k|k
   ·have:X.env.scope.names.lookup x=some .free:=hk
    rw[k] at this;cases this
   ·have:X.env.scope.names.lookup x=some .free:=hk
    rw[k] at this;cases this
def MZ(f:Int->Int->Int):LL:=λx y H Q=>∃i j,x=.int i/\y=.int j/\Q (.int (f i j)) H
theorem J1:MH X .Add (MZ λi j=>i+j):=by
 intro pins s σ H x y v u Q I r1 r2 h
 obtain⟨i,j,e1,e2,q⟩:=h
 subst e1;subst e2
 obtain⟨t,rfl⟩:=r1
 obtain⟨t',rfl⟩:=r2
 exact iadd_int ⟨.int _,H,I.tok _,⟨_,rfl⟩,q⟩
end
section
variable{X:Cx}{pos:Pos}
def rG(c:TT)(tb:TS):TS:=λD σ H=>∃W:Nat->St->Hp->Prop,(∃m,W m σ H)/\∀m σ H,W m σ H->
 c σ H λb H1=>if b=true then ∃N:St->Hp->Prop,(∀σ' H',N σ' H'->∃m',m'<m/\W m' σ' H')/\tb {D with nx:=N,ct:=N,bk:=D.nx} σ H1 else D.nx σ H1
theorem FU{c:Expr}{body:List Stmt}{tc:TT}{tb:TS}(hp:PassesOwn (model X.prog X.w) X.A X.env X.xe)(hc:PT X c tc)(hb:jV X body tb):PS X (.While c body [] pos) (rG tc tb):=by
 intro pins s σ H D I h
 obtain⟨W,⟨m0,w0⟩,turn⟩:=h
 refine wpAny_While (codeAny_whileLoop (λn s'=>∃σ' H',bQ X pins σ' H' s'/\W n σ' H') ?_ m0 ⟨σ,H,I,w0⟩)
 rintro n s1 ⟨σ1,H1,I1,w1⟩
 refine wpAny_passesOwn hp (fK (hc pins s1 σ1 H1 _ I1 (turn n σ1 H1 w1)) λb s2 ⟨H2,I2,q2⟩=>?_)
 cases b with
 |true=>
  obtain⟨N,hN,q2⟩:=q2
  rw[if_pos rfl]
  refine wpAny_passesOwn hp (fK (hb pins s2 σ1 H2 _ I2 q2) λf s3 q3=>?_)
  cases f with
  |next=>
   obtain⟨σ3,H3,I3,n3⟩:=q3
   obtain⟨m',hm,w3⟩:=hN σ3 H3 n3
   exact⟨m',hm,σ3,H3,I3,w3⟩
  |cont=>
   obtain⟨σ3,H3,I3,n3⟩:=q3
   obtain⟨m',hm,w3⟩:=hN σ3 H3 n3
   exact⟨m',hm,σ3,H3,I3,w3⟩
  |brk=>exact q3
  |ret v=>exact q3
 |false=>
  rw[if_neg Bool.false_ne_true]
  exact wpAny_execs_nil ⟨σ1,H2,I2,q2⟩
end
structure It where
 go:Nat->Hp->Prop
 yld:Nat->Hp->V->Hp->Prop
 stop:Nat->Hp->Prop
def qY(X:Cx)(pins:List (Addr×Obj))(H:Hp)(b:Addr):Prop:=
 H b=none/\b≠X.env.locals/\b∉X.fs/\(b∈X.ex\/X.s₀.heap.objs.size<=b)/\(∀x c,X.env.cells.lookup x=some c->c≠b)/\∀p∈X.pn++pins,p.1≠b
theorem bQ.fpOk{X:Cx}{pins:List (Addr×Obj)}{σ:St}{H H':Hp}{s:Shared}{b:Addr}(I:bQ X pins σ H s)(hb:s.heap.objs.size<=b)(hn:H' b=none):qY X pins H' b:=by
 refine⟨hn,gb (aU I.lt hb),I.nofs hb,.inr (bC I.sz hb),λx c e z=>?_,λp hp z=>?_⟩
 ·obtain⟨v,q⟩:=I.cell x c e
  exact absurd (aU q.lt (by rw[z];exact hb)) (dA _)
 ·exact absurd (aU (aH (I.pin p hp).1) (by rw[z];exact hb)) (dA _)
structure Bj(P:Program)(w:World)(K:Fg)(tg:Expr)(J:It)(fp:List Addr)(it:Addr)(tn:Nat->Heap->Prop):Prop where
 mem:it∈fp
 obj:∀i h,tn i h->∀b∈fp,∃o,h.get? b=some o/\∀v,o.data≠.cell v
 keep:∀i h h',tn i h->(∀b∈fp,∀o,h.get? b=some o->h'.get? b=some o)->tn i h'
 item:∀(X:Cx),X.prog=P->X.w=w->X.K=K->X.calm=true->∀(i:Nat) (pins:List (Addr×Obj)) (s:Shared) (σ:St) (H:Hp) (E:Value->Shared->Prop),bQ X pins σ H s->(∀b∈fp,qY X pins H b)->tn i s.heap->J.go i H->
  wpAny (model P w) X.A (pyNext (.ref it)) (λr s1=>∃u,r=some u/\
   wpAny (model P w) X.A (letOwnedTupleGo tg (.ref it) u) (λ_ s2=>∃x H',bQ X pins σ H' s2/\cP x u/\J.yld i H x H'/\tn (i+1) s2.heap/\∀b∈fp,H' b=none) E s1) E s
 done:∀(X:Cx),X.prog=P->X.w=w->X.K=K->X.calm=true->∀(i:Nat) (pins:List (Addr×Obj)) (s:Shared) (σ:St) (H:Hp) (E:Value->Shared->Prop),bQ X pins σ H s->(∀b∈fp,qY X pins H b)->tn i s.heap->J.stop i H->
  wpAny (model P w) X.A (pyNext (.ref it)) (λr s1=>r=none/\bQ X pins σ H s1) E s
 self:∀(A:Around) (i:Nat) (s:Shared) (Q:Value->Shared->Prop) (E:Value->Shared->Prop),tn i s.heap->Q (.ref it) s->wpAny (model P w) A (pyIter (.ref it)) Q E s
abbrev TI:=St->Hp->(It->Hp->Prop)->Prop
def MV(X:Cx)(pins:List (Addr×Obj))(σ:St)(tg:Expr)(R:It->Hp->Prop)(itv:Value)(s2:Shared):Prop:=
 ∃(it:Addr) (fp:List Addr) (tn:Nat->Heap->Prop) (J:It) (H':Hp),itv=.ref it/\bQ X pins σ H' s2/\Bj X.prog X.w X.K tg J fp it tn/\tn 0 s2.heap/\(∀b∈fp,qY X pins H' b)/\R J H'
def PI(X:Cx)(tg iter:Expr)(wi:TI):Prop:=
 ∀(pins:List (Addr×Obj)) (s:Shared) (σ:St) (H:Hp) (R:It->Hp->Prop),bQ X pins σ H s->wi σ H R->
  wpAny (model X.prog X.w) X.A (eval iter X.env) (λv s1=>wpAny (model X.prog X.w) X.A (pyIter v) (MV X pins σ tg R) X.xe s1) X.xe s
theorem E5{M:Model}{A:Around}{E:Value->Shared->Prop}{s:Shared}{tg:Expr}{it:Addr}{u:Value}{o:Obj}{n:String}{vs:Array Value}{Q:Unit->Shared->Prop}(ho:s.heap.get? it=some o)(hc:o.cls=.type n)(hd:o.data=.fields vs)
  (hn:["enumerate","zip","dict_itemiterator","dict_reverseitemiterator","odict_iterator","itertools.zip_longest","itertools.pairwise"].contains n=false) (hQ:Q () s):wpAny M A (letOwnedTupleGo tg (.ref it) u) Q E s:=by
 unfold letOwnedTupleGo
 cases tg<;>first
  |exact wpAny_pure hQ
  |(cases u<;>first
    |exact wpAny_pure hQ
    |(refine wpAny_bind (wpAny_load ho ?_)
      rw[hc,hd]
      show wpAny M A (if(["enumerate","zip","dict_itemiterator","dict_reverseitemiterator","odict_iterator","itertools.zip_longest","itertools.pairwise"].contains n&&vs[0]?==some (rawInt _))=true then _ else _) Q E s
      rw[if_neg (by intro h;rw[hn,Bool.false_and] at h;cases h)]
      exact wpAny_pure hQ))
def Jv(K:Fg)(a:Addr):It:=
 ⟨λi H=>∃xs x,bZ K H a xs/\xs[i]?=some x,λi H x H'=>H'=H/\∀xs,bZ K H a xs->xs[i]?=some x,λi H=>∃xs,bZ K H a xs/\xs.length<=i⟩
def Jw(K:Fg)(a:Addr):It:=
 ⟨λi H=>∃xs x,eU K H a xs/\xs[i]?=some x,λi H x H'=>H'=H/\∀xs,eU K H a xs->xs[i]?=some x,λi H=>∃xs,eU K H a xs/\xs.length<=i⟩
def G4(lo:Int)(n:Nat):It:=⟨λi _=>i<n,λi H x H'=>H'=H/\x=.int (lo+i),λi _=>n<=i⟩
theorem Eu{P:Program}{w:World}{K:Fg}{tg:Expr}(a it:Addr):Bj P w K tg (Jv K a) [it] it (λi h=>h.IsListIter it a i) where
 mem:=by simp
 obj:=λi h st b hb=>by
  have e:b=it:=by simpa using hb
  subst e
  obtain⟨o,e,c,d⟩:=st
  exact⟨o,e,λv z=>by rw[d] at z;cases z⟩
 keep:=λi h h' st k=>st.at λo e=>k it (by simp) o e
 item:=by
  intro X hP hw hK hc i pins s σ H E I hf st hg
  subst hP hw hK
  obtain⟨xs,x,hq,hx⟩:=hg
  obtain⟨its,rv,p,hz⟩:=I.list hq
  obtain⟨u,hu,ru⟩:=rv.get hx
  obtain⟨f0,f1,f2,f3,f4,f5⟩:=hf it (by simp)
  refine wpAny_pyNext_list_item st p.isList (x:=u) (by simpa using hu) λh' st' sb=>?_
  have I1:bQ X pins σ H {s with heap:=h'}:=I.turned (t':=s.toks) (λb o hb e=>(sb.2 b hb).trans e) f0 f1 f3 f4 f5
  obtain⟨o,e,c,d⟩:=id st'
  exact⟨u,rfl,E5 (s:={s with heap:=h'}) e c d (by decide) ⟨x,H,I1,ru,⟨rfl,λys hy=>by rw[I.list_inj hy hq];exact hx⟩,st',λb hb=>(hf b hb).1⟩⟩
 done:=by
  intro X hP hw hK hc i pins s σ H E I hf st hg
  subst hP hw hK
  obtain⟨xs,hq,hx⟩:=hg
  obtain⟨its,rv,p,hz⟩:=I.list hq
  obtain⟨f0,f1,f2,f3,f4,f5⟩:=hf it (by simp)
  have hl:=rv.length
  exact wpAny_pyNext_list_end (I.ok.hd hc) st p.isList (by simp;lia) λh' eb=>⟨rfl,I.turned (t':=s.toks) (λb o hb e=>eb b o hb e) f0 f1 f3 f4 f5⟩
 self:=λ_ _ _ _ _ st h=>wpAny_pyIter_listiter st h
theorem Cr{P:Program}{w:World}{K:Fg}{tg:Expr}(a it:Addr):Bj P w K tg (Jw K a) [it] it (λi h=>h.IsTupleIter it a i) where
 mem:=by simp
 obj:=λi h st b hb=>by
  have e:b=it:=by simpa using hb
  subst e
  obtain⟨o,e,c,d⟩:=st
  exact⟨o,e,λv z=>by rw[d] at z;cases z⟩
 keep:=λi h h' st k=>st.at λo e=>k it (by simp) o e
 item:=by
  intro X hP hw hK hc i pins s σ H E I hf st hg
  subst hP hw hK
  obtain⟨xs,x,hq,hx⟩:=hg
  obtain⟨its,rv,p,hz⟩:=I.tuple hq
  obtain⟨u,hu,ru⟩:=rv.get hx
  obtain⟨f0,f1,f2,f3,f4,f5⟩:=hf it (by simp)
  refine wpAny_pyNext_tuple_item st (show s.heap.IsTuple a its.toArray from p) (x:=u) (by simpa using hu) λh' st' sb=>?_
  have I1:bQ X pins σ H {s with heap:=h'}:=I.turned (t':=s.toks) (λb o hb e=>(sb.2 b hb).trans e) f0 f1 f3 f4 f5
  obtain⟨o,e,c,d⟩:=id st'
  exact⟨u,rfl,E5 (s:={s with heap:=h'}) e c d (by decide) ⟨x,H,I1,ru,⟨rfl,λys hy=>by rw[I.tuple_inj hy hq];exact hx⟩,st',λb hb=>(hf b hb).1⟩⟩
 done:=by
  intro X hP hw hK hc i pins s σ H E I hf st hg
  subst hP hw hK
  obtain⟨xs,hq,hx⟩:=hg
  obtain⟨its,rv,p,hz⟩:=I.tuple hq
  obtain⟨f0,f1,f2,f3,f4,f5⟩:=hf it (by simp)
  have hl:=rv.length
  exact wpAny_pyNext_tuple_end (I.ok.hd hc) st (show s.heap.IsTuple a its.toArray from p) (by simp;lia) λh' eb=>⟨rfl,I.turned (t':=s.toks) (λb o hb e=>eb b o hb e) f0 f1 f3 f4 f5⟩
 self:=λ_ _ _ _ _ st h=>wpAny_pyIter_tupleiter st h
theorem Cq{P:Program}{w:World}{K:Fg}{tg:Expr}(it:Addr)(lo:Int)(n:Nat):Bj P w K tg (G4 lo n) [it] it (λi h=>IsRangeIter h it (lo+(i:Nat)*1) ((n:Int)-(i:Nat)) 1) where
 mem:=by simp
 obj:=λi h st b hb=>by
  have e:b=it:=by simpa using hb
  subst e
  exact⟨_,st,λv z=>by
   have z':Data.fields _=Data.cell v:=z
   cases z'⟩
 keep:=λi h h' st k=>k it (by simp) _ st
 item:=by
  intro X hP hw hK hc i pins s σ H E I hf st hg
  subst hP hw hK
  obtain⟨f0,f1,f2,f3,f4,f5⟩:=hf it (by simp)
  have W:=Walks.range (prog:=X.prog) (w:=X.w) (I.ok.hd hc) it lo 1 n
  refine W.item i s _ _ hg st λv h' tk hv st' kk=>?_
  obtain⟨t,rfl⟩:=hv
  have I1:bQ X pins σ H {s with heap:=h',toks:=tk}:=I.turned (λb o hb e=>kk b o (by simpa using hb) e) f0 f1 f3 f4 f5
  refine⟨_,rfl,E5 (s:={s with heap:=h',toks:=tk}) (n:="range_iterator") st' rfl rfl (by decide) ⟨.int (lo+i),H,I1,⟨t,?_⟩,⟨rfl,rfl⟩,st',λb hb=>(hf b hb).1⟩⟩
  rw[Int.mul_one]
 done:=by
  intro X hP hw hK hc i pins s σ H E I hf st hg
  subst hP hw hK
  obtain⟨f0,f1,f2,f3,f4,f5⟩:=hf it (by simp)
  exact wpAny_pyNext_range_end (I.ok.hd hc) st (by have:n<=i:=hg;lia) λh' eb=>⟨rfl,I.turned (t':=s.toks) (λb o hb e=>eb b o hb e) f0 f1 f3 f4 f5⟩
 self:=λ_ _ _ _ _ st h=>wpAny_pyIter_rangeiter st h
section
variable{X:Cx}{tg:Expr}
def JA(K:Fg)(tl:TE):TI:=λσ H R=>tl σ H λx H1=>∃a,x=.ref a/\(∃xs,bZ K H1 a xs)/\R (Jv K a) H1
def LS(K:Fg)(tl:TE):TI:=λσ H R=>tl σ H λx H1=>∃a,x=.ref a/\(∃xs,eU K H1 a xs)/\R (Jw K a) H1
theorem Iw{l:Expr}{tl:TE}(hl:PE X l tl):PI X tg l (JA X.K tl):=by
 intro pins s σ H R I h
 refine fK (hl pins s σ H _ I h) λv s1 ⟨x,H1,I1,r1,q1⟩=>?_
 obtain⟨a,e,⟨xs,hq⟩,q⟩:=q1
 subst e
 cases r1
 obtain⟨its,rv,p,hz⟩:=I1.list hq
 refine wpAny_pyIter_list p.isList ?_
 refine⟨s1.heap.objs.size,[s1.heap.objs.size],_,_,H1,rfl,I1.kept (t':=s1.toks) λb o e=>ak _ e,Eu a _,⟨_,aN _ rfl,rfl,rfl⟩,λb hb=>?_,q⟩
 have e:b=s1.heap.objs.size:=by simpa using hb
 subst e
 exact I1.fpOk (aC _) (I1.hok.fresh (aC _))
theorem KL{l:Expr}{tl:TE}(hl:PE X l tl):PI X tg l (LS X.K tl):=by
 intro pins s σ H R I h
 refine fK (hl pins s σ H _ I h) λv s1 ⟨x,H1,I1,r1,q1⟩=>?_
 obtain⟨a,e,⟨xs,hq⟩,q⟩:=q1
 subst e
 cases r1
 obtain⟨its,rv,p,hz⟩:=I1.tuple hq
 refine wpAny_pyIter_tuple (show s1.heap.IsTuple a its.toArray from p) ?_
 refine⟨s1.heap.objs.size,[s1.heap.objs.size],_,_,H1,rfl,I1.kept (t':=s1.toks) λb o e=>ak _ e,Cr a _,⟨_,aN _ rfl,rfl,rfl⟩,λb hb=>?_,q⟩
 have e:b=s1.heap.objs.size:=by simpa using hb
 subst e
 exact I1.fpOk (aC _) (I1.hok.fresh (aC _))
theorem Gh{pins:List (Addr×Obj)}{σ:St}{H:Hp}{s:Shared}{R:It->Hp->Prop}{E:Value->Shared->Prop}{lo hi:Int}{t u v:Tok}{tk:Nat}(I:bQ X pins σ H s)(h1:-(2 ^ 62)<=lo)(h2:lo<2 ^ 62)(h3:-(2 ^ 62)<=hi)(h4:hi<2 ^ 62)
  (q:R (G4 lo (hi-lo).toNat) H):wpAny (model X.prog X.w) X.A (pyIter (.ref s.heap.objs.size)) (MV X pins σ tg R) E {s with heap:=s.heap.push {cls:=.type "range",data:=.fields #[.int lo t,.int hi u,.int 1 v]},toks:=tk}:=by
 refine wpAny_pyIter_range (IsRange.new ..) (small_one h1 h2 h3 h4) ?_
 have I1:bQ X pins σ H {s with heap:=s.heap.push {cls:=.type "range",data:=.fields #[.int lo t,.int hi u,.int 1 v]},toks:=tk}:=I.kept λb o e=>ak _ e
 refine⟨(s.heap.push {cls:=.type "range",data:=.fields #[.int lo t,.int hi u,.int 1 v]}).objs.size,[(s.heap.push {cls:=.type "range",data:=.fields #[.int lo t,.int hi u,.int 1 v]}).objs.size],_,_,H,rfl,
  I1.kept (t':=tk) λb o e=>ak _ e,Cq _ lo (hi-lo).toNat,?_,λb hb=>?_,q⟩
 ·have e1:lo+((0:Nat):Int)*1=lo:=by simp
  have e2:(((hi-lo).toNat:Nat):Int)-((0:Nat):Int)=Builtin.Range.rangeSize lo hi 1:=by rw[rangeSize_one];split<;>lia
  show IsRangeIter _ _ (lo+((0:Nat):Int)*1) ((((hi-lo).toNat:Nat):Int)-((0:Nat):Int)) 1
  rw[e1,e2]
  exact aN _ rfl
 ·have e:b=(s.heap.push {cls:=.type "range",data:=.fields #[.int lo t,.int hi u,.int 1 v]}).objs.size:=by simpa using hb
  subst e
  exact I1.fpOk (aC _) (I1.hok.fresh (aC _))
def rK(ta:TA):TI:=λσ H R=>ta σ H λvs H1=>∃j:Int,vs=[.int j]/\-(2 ^ 62)<=j/\j<2 ^ 62/\R (G4 0 j.toNat) H1
theorem D0{a:Expr}{ta:TA}{p pos:Pos}(hg:Gl X "range")(hm:X.mg "range"=none)(ha:PA X [a] ta)(hs:starEach [a] X.env=[(false,eval a X.env)]:=by rfl):PI X tg (.Call (.Name "range" p) [a] [] pos) (rK ta):=by
 intro pins s σ H R I h
 refine Call_ (mX I hg hm boot_range (cu (fK (ha pos pins s σ H _ I h) λus s1 ⟨vs,H1,I1,r1,q1⟩=>?_) hs rfl))
 obtain⟨j,e,q1,q2,q⟩:=q1
 subst e
 cases r1 with
 |cons r rr=>
  cases rr
  obtain⟨t,rfl⟩:=r
  exact call_range_1 (Gh I1 (by lia) (by lia) q1 q2 (by simpa using q))
def qN(wi:TI)(g:TG)(tb:TS):TS:=λD σ H=>wi σ H λJ H1=>∃W:Nat->Nat->St->Hp->Prop,(∃m,W 0 m σ H1)/\∀i m σ H,W i m σ H->
 (J.stop i H/\D.nx σ H)\/(J.go i H/\∃N:St->Hp->Prop,(∀σ' H',N σ' H'->∃m',m'<m/\W (i+1) m' σ' H')/\∀x H',J.yld i H x H'->g x σ H' λσ2 H2=>tb {D with nx:=N,ct:=N,bk:=D.nx} σ2 H2)
def ue(fp:List Addr)(h:Heap):List (Addr×Obj):=fp.filterMap λb=>(h.get? b).map λo=>(b,o)
theorem mZ{fp:List Addr}{h:Heap}{b:Addr}{o:Obj}(hb:b∈fp)(e:h.get? b=some o):(b,o)∈ue fp h:=List.mem_filterMap.mpr ⟨b,hb,by rw[e];rfl⟩
theorem DR{fp:List Addr}{h:Heap}{p:Addr×Obj}(hp:p∈ue fp h):p.1∈fp/\h.get? p.1=some p.2:=by
 obtain⟨b,hb,e⟩:=List.mem_filterMap.mp hp
 cases q:h.get? b with
 |none=>rw[q] at e;cases e
 |some o=>
  rw[q] at e
  have e':(b,o)=p:=Option.some.inj e
  subst e'
  exact⟨hb,q⟩
theorem bQ.pinned{pins:List (Addr×Obj)}{σ:St}{H:Hp}{s:Shared}{fp:List Addr}(I:bQ X pins σ H s)(hf:∀b∈fp,qY X pins H b)(ho:∀b∈fp,∃o,s.heap.get? b=some o/\∀v,o.data≠.cell v):bQ X (pins++ue fp s.heap) σ H s:=
 I.pins_of λp hp=>(aP.mp hp).elim (λz=>I.pin p (aJ _ z)) λz=>by
  obtain⟨hb,e⟩:=DR z
  obtain⟨f0,f1,f2,_⟩:=hf p.1 hb
  obtain⟨o,e',d⟩:=ho p.1 hb
  rw[e] at e';cases e'
  exact⟨e,f0,f1,f2,d⟩
theorem bQ.unpinned{pins pl:List (Addr×Obj)}{σ:St}{H:Hp}{s:Shared}(I:bQ X (pins++pl) σ H s):bQ X pins σ H s:=I.pins_of λp hp=>I.pin p (aJ _ (aW _ hp))
theorem KQ{iter:Expr}{body:List Stmt}{wi:TI}{g:TG}{tb:TS}{pos:Pos}(hp:PassesOwn (model X.prog X.w) X.A X.env X.xe)(hc:X.calm=true)(hi:PI X tg iter wi)(hg:PG X tg g)(hb:jV X body tb)
  (hs:∀x,foldedSetIterable iter X.env x=pure x:=by intro _;rfl):PS X (.For tg iter body [] pos) (qN wi g tb):=by
 intro pins s σ H D I h
 refine wpAny_For (fK (hi pins s σ H _ I h) λv s1 h1=>fK h1 λitv s2 h2=>?_) hs
 obtain⟨it,fp,tn,J,H2,e,I2,T,st2,f2,W,⟨m0,w0⟩,turn⟩:=h2
 subst e
 have stat:∀{H':Hp},(∀b∈fp,H' b=none)->∀b∈fp,qY X pins H' b:=λhn b hb=>⟨hn b hb,(f2 b hb).2⟩
 refine codeAny_forLoop_any (λn s'=>∃i σ' H',bQ X pins σ' H' s'/\tn i s'.heap/\(∀b∈fp,H' b=none)/\W i n σ' H') ?_ m0 ⟨0,σ,H2,I2,st2,λb hb=>(f2 b hb).1,w0⟩
 rintro n s3 ⟨i,σ3,H3,I3,st3,fr3,w3⟩
 rcases turn i n σ3 H3 w3 with⟨stop,qn⟩|⟨go,N,hN,step⟩
 ·refine wpAny_passesOwn hp (fK (T.done X rfl rfl rfl hc i pins s3 σ3 H3 X.xe I3 (stat fr3) st3 stop) λr s4 ⟨hr,I4⟩=>?_)
  subst hr
  exact wpAny_execs_nil ⟨σ3,H3,I4,qn⟩
 ·refine wpAny_passesOwn hp (fK (T.item X rfl rfl rfl hc i pins s3 σ3 H3 X.xe I3 (stat fr3) st3 go) λr s4 ⟨u,hr,h4⟩=>?_)
  subst hr
  refine wpAny_passesOwn hp (fK h4 λ_ s5 ⟨x,H5,I5,r5,y5,st5,fr5⟩=>?_)
  have I5':=I5.pinned (stat fr5) (T.obj _ _ st5)
  refine wpAny_passesOwn hp (fK (hg _ s5 σ3 H5 x u _ I5' r5 (step x H5 y5)) λ_ s6 ⟨σ6,H6,I6,q6⟩=>?_)
  refine wpAny_passesOwn hp (fK (hb _ s6 σ6 H6 _ I6 q6) λf s7 q7=>?_)
  have again:∀{σ7:St} {H7:Hp},bQ X (pins++ue fp s5.heap) σ7 H7 s7->N σ7 H7->∃m,m<n/\∃i σ' H',bQ X pins σ' H' s7/\tn i s7.heap/\(∀b∈fp,H' b=none)/\W i m σ' H':=λ{σ7 H7} I7 n7=>by
   obtain⟨m',hm,w7⟩:=hN σ7 H7 n7
   refine⟨m',hm,i+1,σ7,H7,I7.unpinned,T.keep _ _ _ st5 λb hb o e=>(I7.pin (b,o) (aJ _ (aJ _ (mZ hb e)))).1,λb hb=>?_,w7⟩
   obtain⟨o,e,d⟩:=T.obj _ _ st5 b hb
   exact(I7.pin (b,o) (aJ _ (aJ _ (mZ hb e)))).2.1
  cases f with
  |next=>obtain⟨σ7,H7,I7,n7⟩:=q7;exact again I7 n7
  |cont=>obtain⟨σ7,H7,I7,n7⟩:=q7;exact again I7 n7
  |brk=>obtain⟨σ7,H7,I7,q7⟩:=q7;exact⟨σ7,H7,I7.unpinned,q7⟩
  |ret v=>obtain⟨x7,σ7,H7,I7,r7,q7⟩:=q7;exact⟨x7,σ7,H7,I7.unpinned,r7,q7⟩
end
theorem og{K:Fg}{a:Addr}{xs:List V}{g:TG}{tb:TS}{D:nN}{σ:St}{H:Hp}(Pv:Nat->St->Hp->Prop)(h0:Pv 0 σ H)(hl:∀i σ H,i<=xs.length->Pv i σ H->bZ K H a xs)
  (hs:∀i x σ H,xs[i]?=some x->Pv i σ H->g x σ H λσ2 H2=>tb {D with nx:=Pv (i+1),ct:=Pv (i+1),bk:=D.nx} σ2 H2) (hd:∀σ H,Pv xs.length σ H->D.nx σ H) :
  ∃W:Nat->Nat->St->Hp->Prop,(∃m,W 0 m σ H)/\∀i m σ H,W i m σ H->
   ((Jv K a).stop i H/\D.nx σ H)\/((Jv K a).go i H/\∃N:St->Hp->Prop,(∀σ' H',N σ' H'->∃m',m'<m/\W (i+1) m' σ' H')/\∀x H',(Jv K a).yld i H x H'->g x σ H' λσ2 H2=>tb {D with nx:=N,ct:=N,bk:=D.nx} σ2 H2):=by
 refine⟨λi m σ H=>m=xs.length-i/\i<=xs.length/\Pv i σ H,⟨xs.length,by simp,cA _,h0⟩,?_⟩
 rintro i m σ H ⟨rfl,hi,p⟩
 have q:=hl i σ H hi p
 by_cases hlt:i<xs.length
 ·refine .inr ⟨⟨xs,xs[i],q,by simp[hlt]⟩,Pv (i+1),λσ' H' p'=>⟨xs.length-(i+1),by lia,rfl,hlt,p'⟩,λx H' y=>?_⟩
  obtain⟨e,y⟩:=y
  subst e
  exact hs i x σ _ (y xs q) p
 ·have e:i=xs.length:=by lia
  subst e
  exact .inl ⟨⟨xs,q,aC _⟩,hd σ H p⟩
theorem xK{K:Fg}{a:Addr}{xs:List V}{g:TG}{tb:TS}{D:nN}{σ:St}{H:Hp}(Pv:Nat->St->Hp->Prop)(h0:Pv 0 σ H)(hl:∀i σ H,i<=xs.length->Pv i σ H->eU K H a xs)
  (hs:∀i x σ H,xs[i]?=some x->Pv i σ H->g x σ H λσ2 H2=>tb {D with nx:=Pv (i+1),ct:=Pv (i+1),bk:=D.nx} σ2 H2) (hd:∀σ H,Pv xs.length σ H->D.nx σ H) :
  ∃W:Nat->Nat->St->Hp->Prop,(∃m,W 0 m σ H)/\∀i m σ H,W i m σ H->
   ((Jw K a).stop i H/\D.nx σ H)\/((Jw K a).go i H/\∃N:St->Hp->Prop,(∀σ' H',N σ' H'->∃m',m'<m/\W (i+1) m' σ' H')/\∀x H',(Jw K a).yld i H x H'->g x σ H' λσ2 H2=>tb {D with nx:=N,ct:=N,bk:=D.nx} σ2 H2):=by
 refine⟨λi m σ H=>m=xs.length-i/\i<=xs.length/\Pv i σ H,⟨xs.length,by simp,cA _,h0⟩,?_⟩
 rintro i m σ H ⟨rfl,hi,p⟩
 have q:=hl i σ H hi p
 by_cases hlt:i<xs.length
 ·refine .inr ⟨⟨xs,xs[i],q,by simp[hlt]⟩,Pv (i+1),λσ' H' p'=>⟨xs.length-(i+1),by lia,rfl,hlt,p'⟩,λx H' y=>?_⟩
  obtain⟨e,y⟩:=y
  subst e
  exact hs i x σ _ (y xs q) p
 ·have e:i=xs.length:=by lia
  subst e
  exact .inl ⟨⟨xs,q,aC _⟩,hd σ H p⟩
theorem my{lo:Int}{n:Nat}{g:TG}{tb:TS}{D:nN}{σ:St}{H:Hp}(Pv:Nat->St->Hp->Prop)(h0:Pv 0 σ H)
  (hs:∀i σ H,i<n->Pv i σ H->g (.int (lo+i)) σ H λσ2 H2=>tb {D with nx:=Pv (i+1),ct:=Pv (i+1),bk:=D.nx} σ2 H2) (hd:∀σ H,Pv n σ H->D.nx σ H) :
  ∃W:Nat->Nat->St->Hp->Prop,(∃m,W 0 m σ H)/\∀i m σ H,W i m σ H->
   ((G4 lo n).stop i H/\D.nx σ H)\/((G4 lo n).go i H/\∃N:St->Hp->Prop,(∀σ' H',N σ' H'->∃m',m'<m/\W (i+1) m' σ' H')/\∀x H',(G4 lo n).yld i H x H'->g x σ H' λσ2 H2=>tb {D with nx:=N,ct:=N,bk:=D.nx} σ2 H2):=by
 refine⟨λi m σ H=>m=n-i/\i<=n/\Pv i σ H,⟨n,by simp,cA _,h0⟩,?_⟩
 rintro i m σ H ⟨rfl,hi,p⟩
 by_cases hlt:i<n
 ·refine .inr ⟨hlt,Pv (i+1),λσ' H' p'=>⟨n-(i+1),by lia,rfl,hlt,p'⟩,λx H' y=>?_⟩
  obtain⟨e,y⟩:=y
  subst e y
  exact hs i σ _ hlt p
 ·have e:i=n:=by lia
  subst e
  exact .inl ⟨aC _,hd σ H p⟩
abbrev R2:=V->V->Hp->VK->Prop
def lh(X:Cx)(f:Value->Value->Sem Value)(r:R2):Prop:=
 ∀(pins:List (Addr×Obj)) (s:Shared) (σ:St) (H:Hp) (x y:V) (v u:Value) (Q:VK),bQ X pins σ H s->cP x v->cP y u->r x y H Q->
  wpAny (model X.prog X.w) X.A (f v u) (EP X pins σ Q) X.xe s
def Mw(X:Cx)(f:Value->Sem Value)(r:V->Hp->VK->Prop):Prop:=
 ∀(pins:List (Addr×Obj)) (s:Shared) (σ:St) (H:Hp) (x:V) (v:Value) (Q:VK),bQ X pins σ H s->cP x v->r x H Q->
  wpAny (model X.prog X.w) X.A (f v) (EP X pins σ Q) X.xe s
def kK(X:Cx)(f:Value)(r:List V->Hp->VK->Prop):Prop:=
 ∀(pins:List (Addr×Obj)) (s:Shared) (σ:St) (H:Hp) (xs:List V) (us:List Value) (Q:VK),bQ X pins σ H s->ck xs us->r xs H Q->
  wpAny (model X.prog X.w) X.A (call f us) (EP X pins σ Q) X.xe s
def bq(r:R2)(ta tb:TE):TE:=λσ H Q=>ta σ H λx H1=>tb σ H1 λy H2=>r x y H2 Q
def Lk(r:V->Hp->VK->Prop)(ta:TE):TE:=λσ H Q=>ta σ H λx H1=>r x H1 Q
def rI(C:Int->Int->Prop)(g:Int->Int->V):R2:=λx y H Q=>∃i j,x=.int i/\y=.int j/\C i j/\Q (g i j) H
def GZ(g:Int->Int->V):R2:=λx y H Q=>∃i j,x=.int i/\y=.int j/\Q (g i j) H
def rU(g:Int->V):V->Hp->VK->Prop:=λx H Q=>∃i,x=.int i/\Q (g i) H
section
variable{X:Cx}{a b c:Expr}{ta tb tc:TE}{pos:Pos}
theorem JR(ha:PE X a ta)(hb:PE X b tb){pins:List (Addr×Obj)}{s:Shared}{σ:St}{H:Hp}{R:V->V->Hp->Prop}(I:bQ X pins σ H s)
  (h:ta σ H λx H1=>tb σ H1 λy H2=>R x y H2) {Q:Value->Shared->Prop} {f:Value->Value->Sem Value}
  (hf:∀v u s2 x y H2,bQ X pins σ H2 s2->cP x v->cP y u->R x y H2->wpAny (model X.prog X.w) X.A (f v u) Q X.xe s2) :
  wpAny (model X.prog X.w) X.A (eval a X.env) (λv s₁=>wpAny (model X.prog X.w) X.A (eval b X.env) (λu s₂=>wpAny (model X.prog X.w) X.A (f v u) Q X.xe s₂) X.xe s₁) X.xe s:=by
 refine fK (ha pins s σ H _ I h) λv s1 ⟨x,H1,I1,r1,q1⟩=>?_
 refine fK (hb pins s1 σ H1 _ I1 q1) λu s2 ⟨y,H2,I2,r2,q2⟩=>?_
 exact hf v u s2 x y H2 I2 r1 r2 q2
theorem L9{op:Operator}{r:R2}(ho:lh X (binaryOp op) r)(ha:PE X a ta)(hb:PE X b tb):PE X (.BinOp a op b pos) (bq r ta tb):=by
 intro pins s σ H Q I h
 exact wpAny_BinOp (JR ha hb I h λv u s2 x y H2 I2 rx ry q=>ho pins s2 σ H2 x y v u Q I2 rx ry q)
theorem Ma{op:UnaryOp}{r:V->Hp->VK->Prop}(ho:Mw X (unaryOp op) r)(ha:PE X a ta):PE X (.UnaryOp op a pos) (Lk r ta):=by
 intro pins s σ H Q I h
 exact UnaryOp_ (fK (ha pins s σ H _ I h) λv s1 ⟨x,H1,I1,r1,q1⟩=>ho pins s1 σ H1 x v Q I1 r1 q1)
theorem Mx{f:Value->Value->Sem Value}{C:Int->Int->Prop}{g:Int->Int->Int}
  (rule:∀(i j:Int) (t u:Tok) (s:Shared) (Q:Value->Shared->Prop) (E:Value->Shared->Prop),C i j->Q (.int (g i j) s.toks) {s with toks:=s.toks+1}->wpAny (model X.prog X.w) X.A (f (.int i t) (.int j u)) Q E s) :
  lh X f (rI C λi j=>.int (g i j)):=by
 intro pins s σ H x y v u Q I rx ry h
 obtain⟨i,j,rfl,rfl,hc,q⟩:=h
 obtain⟨t,rfl⟩:=rx
 obtain⟨t',rfl⟩:=ry
 exact rule i j t t' s _ _ hc ⟨.int (g i j),H,I.tok _,⟨_,rfl⟩,q⟩
theorem L1{f:Value->Value->Sem Value}{g:Int->Int->Int}
  (rule:∀(i j:Int) (t u:Tok) (s:Shared) (Q:Value->Shared->Prop) (E:Value->Shared->Prop),Q (.int (g i j) s.toks) {s with toks:=s.toks+1}->wpAny (model X.prog X.w) X.A (f (.int i t) (.int j u)) Q E s) :
  lh X f (GZ λi j=>.int (g i j)):=by
 intro pins s σ H x y v u Q I rx ry h
 obtain⟨i,j,rfl,rfl,q⟩:=h
 obtain⟨t,rfl⟩:=rx
 obtain⟨t',rfl⟩:=ry
 exact rule i j t t' s _ _ ⟨.int (g i j),H,I.tok _,⟨_,rfl⟩,q⟩
theorem LZ{f:Value->Value->Sem Value}{g:Int->Int->Bool}
  (rule:∀(i j:Int) (t u:Tok) (s:Shared) (Q:Value->Shared->Prop) (E:Value->Shared->Prop),Q (.bool (g i j)) s->wpAny (model X.prog X.w) X.A (f (.int i t) (.int j u)) Q E s) :
  lh X f (GZ λi j=>.bl (g i j)):=by
 intro pins s σ H x y v u Q I rx ry h
 obtain⟨i,j,rfl,rfl,q⟩:=h
 obtain⟨t,rfl⟩:=rx
 obtain⟨t',rfl⟩:=ry
 exact rule i j t t' s _ _ ⟨.bl (g i j),H,I,rfl,q⟩
def Lx(i j:Int):Prop:=0<j/\j<1073741824
def Ly(i j:Int):Prop:=0<=j/\j<=1000000/\i.natAbs<2 ^ 64
def G1(i j:Int):Prop:=(-(2 ^ 64)<i/\i<2 ^ 64)\/(-(2 ^ 64)<j/\j<2 ^ 64)
theorem G1.ok{i j:Int}(h:G1 i j):IntMulOk i j:=by
 rcases h with⟨h1,h2⟩|⟨h1,h2⟩
 ·exact .of_left (intBits_le_64 h1 h2)
 ·exact .of_right (intBits_le_64 h1 h2)
theorem Ki:lh X (binaryOp .Add) (GZ λi j=>.int (i+j)):=L1 λ_ _ _ _ _ _ _ q=>add_int q
theorem pX:lh X (binaryOp .Sub) (GZ λi j=>.int (i-j)):=L1 λ_ _ _ _ _ _ _ q=>sub_int q
theorem Ko:lh X (binaryOp .Mult) (rI G1 λi j=>.int (i*j)):=Mx λ_ _ _ _ _ _ _ hc q=>mul_int q hc.ok
theorem sQ:lh X (binaryOp .FloorDiv) (rI Lx λi j=>.int (i / j)):=Mx λi j _ _ _ _ _ hc q=>by
 have h1:(0:Int)<j:=hc.1
 have h2:j<1073741824:=hc.2
 exact floordiv_int (by lia) (by rw[Int.fdiv_eq_ediv_of_nonneg i (by lia)];exact q) (.inl (PyProof.noPylong_small (by lia)))
theorem iK:lh X (binaryOp .Mod) (rI (λ_ j=>0<j) λi j=>.int (i % j)):=Mx λi j _ _ _ _ _ hc q=>by
 have h1:(0:Int)<j:=hc
 exact mod_int' (by lia) (by rw[Int.fmod_eq_emod_of_nonneg i (by lia)];exact q)
theorem rA:lh X (binaryOp .Pow) (rI Ly λi j=>.int (i ^ j.toNat)):=Mx λ_ _ _ _ _ _ _ hc q=>pow_int_small hc.1 hc.2.1 hc.2.2 q
theorem Nh{f:Value->Sem Value}{g:Int->Int}
  (rule:∀(i:Int) (t:Tok) (s:Shared) (Q:Value->Shared->Prop) (E:Value->Shared->Prop),Q (.int (g i) s.toks) {s with toks:=s.toks+1}->wpAny (model X.prog X.w) X.A (f (.int i t)) Q E s) :
  Mw X f (rU λi=>.int (g i)):=by
 intro pins s σ H x v Q I rx h
 obtain⟨i,rfl,q⟩:=h
 obtain⟨t,rfl⟩:=rx
 exact rule i t s _ _ ⟨.int (g i),H,I.tok _,⟨_,rfl⟩,q⟩
theorem uW:Mw X (unaryOp .USub) (rU λi=>.int (-i)):=Nh λ_ _ _ _ _ q=>neg_int q
end
def Mq:V->V->Bool
 |.non,.non=>true|.non,.int _=>true|.int _,.non=>true|.non,.bl _=>true|.bl _,.non=>true|.non,.str _=>true|.str _,.non=>true
 |.int _,.int _=>true|.bl _,.bl _=>true|.str _,.str _=>true|.byt _,.byt _=>true
 |.int _,.str _=>true|.str _,.int _=>true|.bl _,.str _=>true|.str _,.bl _=>true
 |_,_=>false
def M8:R2:=λx y H Q=>Mq x y=true/\Q (.bl (decide (x=y))) H
def M9:R2:=λx y H Q=>Mq x y=true/\Q (.bl (!decide (x=y))) H
theorem CD{i j:Int}:decide (V.int i=V.int j)=(i==j):=by
 rw[Bool.eq_iff_iff]
 simp
theorem EU{i j:Bool}:decide (V.bl i=V.bl j)=(i==j):=by
 rw[Bool.eq_iff_iff]
 simp
theorem CF{i j:Str}:decide (V.str i=V.str j)=(i==j):=by
 rw[Bool.eq_iff_iff]
 simp
theorem CC{i j:Array UInt8}:decide (V.byt i=V.byt j)=(i.toList==j.toList):=by
 rw[Bool.eq_iff_iff]
 cases i
 cases j
 simp
section
variable{X:Cx}{a b c:Expr}{ta tb tc:TE}{pos:Pos}
theorem cX{pins:List (Addr×Obj)}{σ:St}{H:Hp}{s:Shared}{Q:VK}{k k':Bool}(I:bQ X pins σ H s)(q:Q (.bl k) H)(e:k=k'):EP X pins σ Q (.bool k') s:=by
 subst e
 exact⟨.bl k,H,I,rfl,q⟩
theorem L3:lh X (compareOp .Eq) M8:=by
 intro pins s σ H x y v u Q I rx ry h
 obtain⟨hs,q⟩:=h
 cases x with
 |non=>
  cases rx
  cases y with
  |non=>cases ry;exact PySem.EqNone.eq_none_none (cX I q (by simp))
  |bl j=>cases ry;exact PySem.EqNone.eq_none_bool (cX I q (by simp))
  |int j=>obtain⟨t',rfl⟩:=ry;exact PySem.EqNone.eq_none_int (cX I q (by simp))
  |str j=>obtain⟨t',rfl⟩:=ry;exact PySem.EqNone.eq_none_str (cX I q (by simp))
  |_=>exact absurd (show false=true from hs) Bool.false_ne_true
 |bl i=>
  cases rx
  cases y with
  |non=>cases ry;exact PySem.EqNone.eq_bool_none (cX I q (by simp))
  |bl j=>cases ry;exact eq_bool (cX I q EU)
  |str j=>obtain⟨t',rfl⟩:=ry;exact PySem.EqMixed.eq_bool_str (cX I q (by simp))
  |_=>exact absurd (show false=true from hs) Bool.false_ne_true
 |int i=>
  obtain⟨t,rfl⟩:=rx
  cases y with
  |non=>cases ry;exact PySem.EqNone.eq_int_none (cX I q (by simp))
  |int j=>obtain⟨t',rfl⟩:=ry;exact eq_int (cX I q CD)
  |str j=>obtain⟨t',rfl⟩:=ry;exact PySem.EqMixed.eq_int_str (cX I q (by simp))
  |_=>exact absurd (show false=true from hs) Bool.false_ne_true
 |str i=>
  obtain⟨t,rfl⟩:=rx
  cases y with
  |non=>cases ry;exact PySem.EqNone.eq_str_none (cX I q (by simp))
  |bl j=>cases ry;exact PySem.EqMixed.eq_str_bool (cX I q (by simp))
  |int j=>obtain⟨t',rfl⟩:=ry;exact PySem.EqMixed.eq_str_int (cX I q (by simp))
  |str j=>obtain⟨t',rfl⟩:=ry;exact eq_str (cX I q CF)
  |_=>exact absurd (show false=true from hs) Bool.false_ne_true
 |byt i=>
  obtain⟨t,rfl⟩:=rx
  cases y with
  |byt j=>obtain⟨t',rfl⟩:=ry;exact PySem.W.eq_bytes (cX I q CC)
  |_=>exact absurd (show false=true from hs) Bool.false_ne_true
 |_=>cases y<;>exact absurd (show false=true from hs) Bool.false_ne_true
theorem L4:lh X (compareOp .NotEq) M9:=by
 intro pins s σ H x y v u Q I rx ry h
 obtain⟨hs,q⟩:=h
 cases x with
 |non=>
  cases rx
  cases y with
  |non=>cases ry;exact PySem.EqNone.ne_none_none (cX I q (by simp))
  |bl j=>cases ry;exact PySem.EqNone.ne_none_bool (cX I q (by simp))
  |int j=>obtain⟨t',rfl⟩:=ry;exact PySem.EqNone.ne_none_int (cX I q (by simp))
  |str j=>obtain⟨t',rfl⟩:=ry;exact PySem.EqNone.ne_none_str (cX I q (by simp))
  |_=>exact absurd (show false=true from hs) Bool.false_ne_true
 |bl i=>
  cases rx
  cases y with
  |non=>cases ry;exact PySem.EqNone.ne_bool_none (cX I q (by simp))
  |bl j=>cases ry;exact ne_bool (cX I q (congrArg not EU))
  |str j=>obtain⟨t',rfl⟩:=ry;exact PySem.EqMixed.ne_bool_str (cX I q (by simp))
  |_=>exact absurd (show false=true from hs) Bool.false_ne_true
 |int i=>
  obtain⟨t,rfl⟩:=rx
  cases y with
  |non=>cases ry;exact PySem.EqNone.ne_int_none (cX I q (by simp))
  |int j=>obtain⟨t',rfl⟩:=ry;exact ne_int (cX I q (congrArg not CD))
  |str j=>obtain⟨t',rfl⟩:=ry;exact PySem.EqMixed.ne_int_str (cX I q (by simp))
  |_=>exact absurd (show false=true from hs) Bool.false_ne_true
 |str i=>
  obtain⟨t,rfl⟩:=rx
  cases y with
  |non=>cases ry;exact PySem.EqNone.ne_str_none (cX I q (by simp))
  |bl j=>cases ry;exact PySem.EqMixed.ne_str_bool (cX I q (by simp))
  |int j=>obtain⟨t',rfl⟩:=ry;exact PySem.EqMixed.ne_str_int (cX I q (by simp))
  |str j=>obtain⟨t',rfl⟩:=ry;exact ne_str (cX I q (congrArg not CF))
  |_=>exact absurd (show false=true from hs) Bool.false_ne_true
 |byt i=>
  obtain⟨t,rfl⟩:=rx
  cases y with
  |byt j=>obtain⟨t',rfl⟩:=ry;exact PySem.W.ne_bytes (cX I q (congrArg not CC))
  |_=>exact absurd (show false=true from hs) Bool.false_ne_true
 |_=>cases y<;>exact absurd (show false=true from hs) Bool.false_ne_true
theorem om:lh X (compareOp .Lt) (GZ λi j=>.bl (decide (i<j))):=LZ λ_ _ _ _ _ _ _ q=>lt_int q
theorem JC:lh X (compareOp .Gt) (GZ λi j=>.bl (decide (j<i))):=LZ λ_ _ _ _ _ _ _ q=>gt_int q
theorem Kn:lh X (compareOp .Is) (λx y H Q=>y=.non/\Q (.bl (decide (x=.non))) H):=by
 intro pins s σ H x y v u Q I rx ry h
 obtain⟨rfl,q⟩:=h
 cases ry
 refine is_none_gen (cX I q ?_)
 cases x<;>first
  |(cases rx;rfl)
  |(obtain⟨t,rfl⟩:=rx;rfl)
theorem Ic:lh X (compareOp .IsNot) (λx y H Q=>y=.non/\Q (.bl (!decide (x=.non))) H):=by
 intro pins s σ H x y v u Q I rx ry h
 obtain⟨rfl,q⟩:=h
 cases ry
 refine isnot_none_gen (cX I q ?_)
 cases x<;>first
  |(cases rx;rfl)
  |(obtain⟨t,rfl⟩:=rx;rfl)
theorem lh.or{f:Value->Value->Sem Value}{r r':R2}(h:lh X f r)(h':lh X f r'):lh X f (λx y H Q=>r x y H Q\/r' x y H Q):=by
 intro pins s σ H x y v u Q I rx ry q
 rcases q with q|q
 ·exact h pins s σ H x y v u Q I rx ry q
 ·exact h' pins s σ H x y v u Q I rx ry q
theorem Ij{op:CmpOp}{r:R2}(ho:lh X (compareOp op) r)(ha:PE X a ta)(hb:PE X b tb)(hm:behindInMarks op b=false):PE X (.Compare a [op] [b] pos) (bq r ta tb):=by
 intro pins s σ H Q I h
 exact wpAny_Compare1 (JR ha hb I h λv u s2 x y H2 I2 rx ry q=>ho pins s2 σ H2 x y v u Q I2 rx ry q) hm
def bX(t:TE):TT:=λσ H Q=>t σ H λx H'=>∃k,x=.bl k/\Q k H'
theorem II{op:CmpOp}{r:R2}(ho:lh X (compareOp op) r)(ha:PE X a ta)(hb:PE X b tb)(hm:behindInMarks op b=false):PT X (.Compare a [op] [b] pos) (bX (bq r ta tb)):=by
 intro pins s σ H Q I h
 refine wpAny_isTrue_Compare1 (fK (ha pins s σ H _ I h) λv s1 ⟨x,H1,I1,r1,q1⟩=>fK (hb pins s1 σ H1 _ I1 q1) λu s2 ⟨y,H2,I2,r2,q2⟩=>
  fK (ho pins s2 σ H2 x y v u _ I2 r1 r2 q2) λc s3 ⟨z,H3,I3,r3,k,e,q3⟩=>?_) hm
 subst e
 cases r3
 exact wpAny_truthy_bool ⟨H3,I3,q3⟩
theorem tZ:(sizeLine:Nat)<2 ^ 63:=by rw[sizeLine_eq];decide
theorem BR:lh X (binaryOp .Add) (λx y H Q=>∃i j,x=.str i/\y=.str j/\i.length+j.length<=sizeLine/\Q (.str (i++j)) H):=by
 intro pins s σ H x y v u Q I rx ry h
 obtain⟨i,j,rfl,rfl,hz,q⟩:=h
 obtain⟨t,rfl⟩:=rx
 obtain⟨t',rfl⟩:=ry
 exact add_str (λt' tk=>⟨.str (i++j),H,I.tok _,⟨_,rfl⟩,q⟩) hz
theorem su{x:V}{us:List Value}(r:ck [x] us):∃u,us=[u]/\cP x u:=by
 cases r with
 |cons r1 r2=>cases r2;exact⟨_,rfl,r1⟩
theorem wZ{x y:V}{us:List Value}(r:ck [x,y] us):∃u w',us=[u,w']/\cP x u/\cP y w':=by
 cases r with
 |cons r1 r2=>
  cases r2 with
  |cons r3 r4=>cases r4;exact⟨_,_,rfl,r1,r3⟩
theorem Dn(hc:X.calm=true):kK X (.builtin "max") (λxs H Q=>∃i j,xs=[.int i,.int j]/\Q (.int (if j>i then j else i)) H):=by
 intro pins s σ H xs us Q I r h
 obtain⟨i,j,rfl,q⟩:=h
 obtain⟨u,w',rfl,⟨t,rfl⟩,⟨t',rfl⟩⟩:=wZ r
 refine max_two_ints (I.ok.hd hc) λh' tk k=>⟨_,H,I.kept k,?_,q⟩
 by_cases hj:j>i
 ·rw[if_pos hj,if_pos hj];exact⟨_,rfl⟩
 ·rw[if_neg hj,if_neg hj];exact⟨_,rfl⟩
theorem vX(hc:X.calm=true):kK X (.builtin "min") (λxs H Q=>∃i j,xs=[.int i,.int j]/\Q (.int (if j<i then j else i)) H):=by
 intro pins s σ H xs us Q I r h
 obtain⟨i,j,rfl,q⟩:=h
 obtain⟨u,w',rfl,⟨t,rfl⟩,⟨t',rfl⟩⟩:=wZ r
 refine min_two_ints (I.ok.hd hc) λh' tk k=>⟨_,H,I.kept k,?_,q⟩
 by_cases hj:j<i
 ·rw[if_pos hj,if_pos hj];exact⟨_,rfl⟩
 ·rw[if_neg hj,if_neg hj];exact⟨_,rfl⟩
theorem kW:kK X (.type "int") (λxs H Q=>(∃i,xs=[.int i]/\Q (.int i) H)\/∃k,xs=[.bl k]/\Q (.int (if k then 1 else 0)) H):=by
 intro pins s σ H xs us Q I r h
 rcases h with⟨i,rfl,q⟩|⟨k,rfl,q⟩
 ·obtain⟨u,rfl,t,rfl⟩:=su r
  exact call_int_int ⟨.int i,H,I,⟨_,rfl⟩,q⟩
 ·obtain⟨u,rfl,r1⟩:=su r
  cases r1
  exact call_int_bool ⟨.int (if k then 1 else 0),H,I.tok _,⟨_,rfl⟩,q⟩
def LF(K:Fg)(x:V)(H:Hp)(n:Nat):Prop:=
 match x with
 |.str y=>y.length<=sizeLine/\n=y.length
 |.byt y=>y.size<=sizeLine/\n=y.size
 |.ref p=>(∃xs,bZ K H p xs/\n=xs.length)\/∃xs,eU K H p xs/\n=xs.length
 |_=>False
theorem cW:kK X (.builtin "len") (λxs H Q=>∃x n,xs=[x]/\LF X.K x H n/\Q (.int n) H):=by
 intro pins s σ H xs us Q I r h
 obtain⟨x,n,rfl,e,q⟩:=h
 obtain⟨u,rfl,rx⟩:=su r
 have hl:=tZ
 have hs:sizeLine=16777216:=sizeLine_eq
 cases x with
 |str y=>
  obtain⟨t,rfl⟩:=rx
  obtain⟨hy,e'⟩:y.length<=sizeLine/\n=y.length:=e
  subst e'
  exact len_str (by lia) ⟨.int _,H,I.tok _,⟨_,rfl⟩,q⟩
 |byt y=>
  obtain⟨t,rfl⟩:=rx
  obtain⟨hy,e'⟩:y.size<=sizeLine/\n=y.size:=e
  subst e'
  exact PySem.W.len_bytes (by lia) ⟨.int _,H,I.tok _,⟨_,rfl⟩,q⟩
 |ref p=>
  cases rx
  have e':(∃xs,bZ X.K H p xs/\n=xs.length)\/∃xs,eU X.K H p xs/\n=xs.length:=e
  rcases e' with⟨xs,hx,e'⟩|⟨xs,hx,e'⟩
  ·subst e'
   obtain⟨its,r',pl,hz⟩:=I.list hx
   have hlen:=r'.length
   exact Calls.call_len_list pl.isList (by simp only[aq];lia) ⟨.int xs.length,H,I.tok _,⟨_,by simp only[aq];rw[hlen]⟩,q⟩
  ·subst e'
   obtain⟨its,r',pl,hz⟩:=I.tuple hx
   have hlen:=r'.length
   exact len_tuple pl (by simp only[aq];lia) ⟨.int xs.length,H,I.tok _,⟨_,by simp only[aq];rw[hlen]⟩,q⟩
 |_=>exact(show False from e).elim
end
structure Bh(h:Heap)(x dx C:Addr)(mA:Str->Option Value):Prop where
 obj:h.get? x=some (dP C dx)
 ns:h.Ns1 dx mA
 ne:dx≠x
theorem DQ{h:Heap}{dx:Addr}{mA:Str->Option Value}(n:h.Ns1 dx mA):∃od,h.get? dx=some od/\∀name,lg name od=some (mA name):=by
 obtain⟨o,es,ep,ho,hd,hk,_,hm⟩:=n
 refine⟨o,ho,λname=>?_⟩
 have e:=hm name
 unfold nsFind findBy at e
 rw[<-Array.find?_toList] at e
 unfold lg
 rw[hd]
 dsimp only
 split
 ·rename_i y q
  rw[q] at e
  exact congrArg some e
 ·rename_i q
  rw[q] at e
  have a:es.toList.any (·.refKey)=false:=by
   rw[List.any_eq_false]
   intro y hy
   obtain⟨z,t,hkey⟩:=hk y (Array.mem_toList_iff.mp hy)
   simp[DictEntry.refKey,hkey]
  have a':¬es.toList.any (·.refKey)=true:=by rw[a];exact Bool.false_ne_true
  rw[if_neg a']
  exact congrArg some e
theorem Bh.look{h:Heap}{x dx C:Addr}{mA:Str->Option Value}(I:Bh h x dx C mA):∃od,PySem.W.InstAt h x (dP C dx) C (some od)/\∀name,lg name od=some (mA name):=
 let⟨od,ho,hl⟩:=DQ I.ns
 ⟨od,⟨I.obj,rfl,rfl,ho⟩,hl⟩
section
variable{prog:Program}{w:World}{A:Around}{E:Value->Shared->Prop}{s:Shared}{K:Fg}{x dx C f:Addr}{mA:Str->Option Value}{name:Str}{v:Value}
theorem Hw{expr:Bool}{Q:Value->Shared->Prop}(X:K.In s.heap)(I:Bh s.heap x dx C mA)(hg:fM K C name=true)(hh:gP K C=true)
  (ha:aX K (.ref C) name=some none) (hv:mA name=some v) (hv':PySem.W.handedIn v=true) (h:Q v {s with toks:=s.toks+1}) :
  wpAny (model prog w) A (getAttr (.ref x) name expr) Q E s:=by
 obtain⟨od,J,hl⟩:=I.look
 exact PySem.W.get_value X J (kH hg).1 (PySem.W.findObj_own hh ha rfl (by rw[hl,hv])) hv' h
theorem E4{pl:Sem Bool}{Q:Value×List Value->Shared->Prop}(X:K.In s.heap)(I:Bh s.heap x dx C mA)(hg:fM K C name=true)
  (hf:aX K (.ref C) name=some (some (.ref f))) (ht:cM K (.ref f)=true) (hv:mA name=none) (h:Q (.ref f,[.ref x]) s) :
  wpAny (model prog w) A (getMethod (.ref x) name pl) Q E s:=by
 obtain⟨od,J,hl⟩:=I.look
 exact PySem.W.method_fn X J (kH hg).1 (kH hg).2 hf (beq_iff_eq.mp ht) (by show(lg name od).map (·.isSome)=some false;rw[hl,hv];rfl) h
theorem Ji{ns:List Str}{Q:Unit->Shared->Prop}(X:K.In s.heap)(I:Bh s.heap x dx C mA)
  (hs:aX K (.ref C) "__setattr__"=some (some (.builtin "object.__setattr__"))) (hp:jx K C=true) (ht:nA K C name=some none) (hh:gP K C=true)
  (hw:PySem.Within mA ns) (hsz:ns.length<=sizeLine)
  (h:∀h',Bh h' x dx C (λy=>if y=name then some v else mA y)->Heap.SameBut dx s.heap h'->Q () {s with heap:=h',toks:=s.toks+2}) :
  wpAny (model prog w) A (setAttr (.ref x) name v) Q E s:=by
 obtain⟨od,J,hl⟩:=I.look
 refine PySem.W.set_plain X J hs (PySem.W.osa_open (s:={s with toks:=s.toks+1}) (r:=none) X J hp ht λb=>?_)
 obtain⟨cd,hc,hd'⟩:=PySem.W.any_some hh
 have hx:s.heap.get? x=some ⟨.ref C,some dx,.plain,#[]⟩:=I.obj
 refine wpAny_bind (wpAny_pure (wpAny_bind (wpAny_bind (wpAny_loadPart hx (wpAny_bind (PySem.W.Looks.here (s:={s with toks:=s.toks+1}) (PySem.W.looks_clsIn X hc) ?_))))))
 rw[hd']
 refine wpAny_pure (a:=some dx) (wpAny_bind (wpAny_pure (wpAny_bind ?_)))
 refine wpAny_nsSet1 (s:={s with toks:=s.toks+1}) I.ns λh' hn2 hs2=>?_
 obtain⟨oD,esD,epD,hoD,hdD,hcD⟩:=hn2.count (PySem.Within.cons name v hw)
 refine wpAny_bind (wpAny_lookBehind hoD (by rw[hdD];exact pastItsLine_dict (bC hcD (by rw[cf];lia))) ?_)
 exact wpAny_pure (h _ ⟨(hs2.2 _ (Ne.symm I.ne)).trans I.obj,hn2,I.ne⟩ hs2)
theorem FE{R:Result->Shared->Prop}{vs:List Value}{kw:List (Str×Value)}(X:K.In s.heap)(hm:kA K C=true)
  (hi:aX K (.ref C) "__init__"=some (some (.ref f))) (hf:PySem.W.typeIn K (.ref f)=some (.type "function"))
  (h:codeAny (model prog w) (A.under (.builtin "type.__call__" ⟨.ref C::vs,kw⟩)) (.call (.ref f) ⟨.ref (s.heap.objs.size+1)::vs,kw⟩) (PySem.W.InitBack (s.heap.objs.size+1) R)
   {s with heap:=(s.heap.push cV).push (dP C s.heap.objs.size)}) :
  codeAny (model prog w) A (.call (.ref C) ⟨vs,kw⟩) R s:=by
 obtain⟨hh,g,d,t,os⟩:=s
 exact PySem.W.make_core (PySem.W.makes_of X hm) (PySem.W.looks_findIn X hi) (λself=>PySem.W.bind_fn X self hf) (.inl rfl) h
end
def putF(f:Str)(v:V):List (Str×V)->List (Str×V)
 |[]=>[(f,v)]
 |(g,x)::r=>if g=f then(g,v)::r else(g,x)::putF f v r
theorem rM(f g:Str)(v:V):∀fs:List (Str×V),(putF f v fs).lookup g=if g=f then some v else fs.lookup g
 |[]=>by
  show gU g [(f,v)]=_
  by_cases h:g=f
  ·have hb:(g==f)=true:=beq_iff_eq.mpr h
   simp only[gU,hb,if_pos h]
  ·have hb:(g==f)=false:=beq_eq_false_iff_ne.mpr h
   simp only[gU,hb,if_neg h]
 |(k,x)::r=>by
  have ih:=rM f g v r
  rw[show putF f v ((k,x)::r)=(if k=f then(k,v)::r else(k,x)::putF f v r) from rfl]
  by_cases hk:k=f
  ·rw[if_pos hk]
   by_cases h:g=k
   ·have hb:(g==k)=true:=beq_iff_eq.mpr h
    simp only[gU,hb,if_pos (h.trans hk)]
   ·have hb:(g==k)=false:=beq_eq_false_iff_ne.mpr h
    simp only[gU,hb,if_neg (λe:g=f=>h (e.trans hk.symm))]
  ·rw[if_neg hk]
   by_cases h:g=k
   ·have hb:(g==k)=true:=beq_iff_eq.mpr h
    simp only[gU,hb,if_neg (λe:g=f=>hk (h.symm.trans e))]
   ·have hb:(g==k)=false:=beq_eq_false_iff_ne.mpr h
    simp only[gU,hb]
    exact ih
theorem rj(f:Str)(v:V):∀fs:List (Str×V),f∈(putF f v fs).map (·.1)/\∀g,g∈fs.map (·.1)->g∈(putF f v fs).map (·.1)
 |[]=>⟨by simp[putF],λg h=>by simp at h⟩
 |(k,x)::r=>by
  obtain⟨i1,i2⟩:=rj f v r
  rw[show putF f v ((k,x)::r)=(if k=f then(k,v)::r else(k,x)::putF f v r) from rfl]
  by_cases hk:k=f
  ·rw[if_pos hk]
   subst hk
   exact⟨by simp,λg h=>by simpa using h⟩
  ·rw[if_neg hk]
   refine⟨?_,λg h=>?_⟩
   ·rw[bJ]
    exact bU _ i1
   ·rw[bJ] at h ⊢
    rcases bp.mp h with e|e
    ·exact bp.mpr (.inl e)
    ·exact bU _ (i2 g e)
theorem rL(f:Str)(v:V):∀fs:List (Str×V),(putF f v fs).length<=fs.length+1
 |[]=>by simp[putF]
 |(k,x)::r=>by
  have ih:=rL f v r
  rw[show putF f v ((k,x)::r)=(if k=f then(k,v)::r else(k,x)::putF f v r) from rfl]
  by_cases hk:k=f
  ·rw[if_pos hk,cf,cf];lia
  ·rw[if_neg hk,cf,cf];lia
theorem nX.some_of{v:V}{o:Option Value}(r:nX (some v) o):∃u,o=some u/\cP v u:=by
 cases o with
 |none=>exact(show False from r).elim
 |some u=>exact⟨u,rfl,r⟩
theorem nX.none_of{o:Option Value}(r:nX none o):o=none:=by
 cases o with
 |none=>rfl
 |some u=>exact(show False from r).elim
theorem Dz{v:V}{u:Value}(r:cP v u):PySem.W.handedIn u=true:=by
 cases v with
 |non=>cases(show u=Value.none from r);rfl
 |bl b=>cases(show u=Value.bool b from r);rfl
 |int i=>obtain⟨t,e⟩:=(show ∃t,u=Value.int i t from r);cases e;rfl
 |str x=>obtain⟨t,e⟩:=(show ∃t,u=Value.str x t from r);cases e;rfl
 |byt b=>obtain⟨t,e⟩:=(show ∃t,u=Value.bytes b t from r);cases e;rfl
 |flt b=>obtain⟨t,e⟩:=(show ∃t,u=Value.float b t from r);cases e;rfl
 |ref a=>cases(show u=Value.ref a from r);rfl
 |ty n=>cases(show u=Value.type n from r);rfl
section
variable{P:Program}{w:World}{H H':Hp}{h h':Heap}{a C dx:Addr}{fs fs':List (Str×V)}
theorem xQ(hok:qd P w H h)(e:H a=some (.ins C dx fs)):∃mA,Bh h a dx C mA/\(∀f,nX (fs.lookup f) (mA f))/\PySem.Within mA (fs.map (·.1))/\fs.length<=1000/\H dx=some (.own a):=by
 obtain⟨d,z,ne,ob,mA,n,r,q⟩:=(show gQ P w H h a (.ins C dx fs) from hok a _ e)
 exact⟨mA,⟨ob,n,ne⟩,r,q,z,d⟩
end
structure qc(K:Fg)(C:Addr):Prop where
 pg:fM K C Str.empty=true
 hd:gP K C=true
 po:jx K C=true
 sa:aX K (.ref C) "__setattr__"=some (some (.builtin "object.__setattr__"))
theorem qc.get{K:Fg}{C:Addr}(c:qc K C)(f:Str):fM K C f=true:=c.pg
def iI(K:Fg)(C:Addr)(f:Str):Prop:=aX K (.ref C) f=some none
theorem iI.taker{K:Fg}{C:Addr}{f:Str}(n:iI K C f):nA K C f=some none:=by
 unfold nA
 rw[show aX K (.ref C) f=some none from n]
 rfl
structure G5(K:Fg)(C:Addr)(m:Str)(f:Addr):Prop where
 at_:aX K (.ref C) m=some (some (.ref f))
 fn:cM K (.ref f)=true
 kp:aA K (.ref f)=true
section
variable{X:Cx}{pins:List (Addr×Obj)}{σ:St}{H:Hp}{s:Shared}{a C dx:Addr}{fs:List (Str×V)}{f:Str}{v:V}{A:Around}{E:Value->Shared->Prop}
theorem Bv{b:Bool}{Q:Value->Shared->Prop}(I:bQ X pins σ H s)(e:H a=some (.ins C dx fs))(c:qc X.K C)(n:iI X.K C f)(l:fs.lookup f=some v)
  (h:∀u s',bQ X pins σ H s'->cP v u->Q u s'):wpAny (model X.prog X.w) A (getAttr (.ref a) f b) Q E s:=by
 obtain⟨mA,O,r,_,_,_⟩:=xQ I.hok e
 obtain⟨u,hu,ru⟩:=nX.some_of (v:=v) (o:=mA f) (by rw[<-l];exact r f)
 exact Hw I.kIn O (c.get f) c.hd n hu (Dz ru) (h u _ (I.tok _) ru)
theorem tQ{m:Str}{g:Addr}{pl:Sem Bool}{Q:Value×List Value->Shared->Prop}(I:bQ X pins σ H s)(e:H a=some (.ins C dx fs))(c:qc X.K C)(k:G5 X.K C m g)(l:fs.lookup m=none)
  (h:Q (.ref g,[.ref a]) s):wpAny (model X.prog X.w) A (getMethod (.ref a) m pl) Q E s:=by
 obtain⟨mA,O,r,_,_,_⟩:=xQ I.hok e
 have hn:mA m=none:=nX.none_of (by rw[<-l];exact r m)
 exact E4 I.kIn O (c.get m) k.at_ k.fn hn h
theorem Cb{y:V}{u:Value}{Q:Unit->Shared->Prop}(I:bQ X pins σ H s)(e:H a=some (.ins C dx fs))(c:qc X.K C)(n:iI X.K C f)(hl:fs.length<1000)(ry:cP y u)
  (h:∀s',bQ X pins σ (upd H a (.ins C dx (putF f y fs))) s'->Q () s'):wpAny (model X.prog X.w) A (setAttr (.ref a) f u) Q E s:=by
 obtain⟨mA,O,r,wi,_,ho⟩:=xQ I.hok e
 have hz:(fs.map (·.1)).length<=sizeLine:=by rw[ai,sizeLine_eq];lia
 refine Ji I.kIn O c.sa c.po n.taker c.hd wi hz λh' O' sb=>h _ ?_
 have hd:∃o,h'.get? dx=some o:=let⟨o,_,_,e',_⟩:=O'.ns;⟨o,e'⟩
 refine I.write (x:=a) (e:=dx) (by rw[e];exact True.intro) (.inr ho) (λb q hb z=>(sb.2 b hb).trans z) hd ?_
 refine⟨by rw[aw O.ne];exact ho,?_,O.ne,O'.obj,_,O'.ns,λg=>?_,λg hg=>?_⟩
 ·have:=rL f y fs;lia
 ·show nX ((putF f y fs).lookup g) (if g=f then some u else mA g)
  rw[rM]
  by_cases q:g=f
  ·rw[if_pos q,if_pos q];exact ry
  ·rw[if_neg q,if_neg q];exact r g
 ·by_cases q:g=f
  ·rw[q];exact(rj f y fs).1
  ·refine(rj f y fs).2 g (wi g λz=>hg ?_)
   show(if g=f then some u else mA g)=none
   rw[if_neg q];exact z
theorem bQ.made(I:bQ X pins σ H s):bQ X pins σ (upd (upd H s.heap.objs.size (.own (s.heap.objs.size+1))) (s.heap.objs.size+1) (.ins C s.heap.objs.size []))
  {s with heap:=(s.heap.push cV).push (dP C s.heap.objs.size)}:=by
 have e1:(s.heap.push cV).get? s.heap.objs.size=some cV:=aN s.heap rfl
 have e2:((s.heap.push cV).push (dP C s.heap.objs.size)).get? (s.heap.objs.size+1)=some (dP C s.heap.objs.size):=by
  have:=aN (s.heap.push cV) (o:=dP C s.heap.objs.size) rfl
  rwa [eI] at this
 have e3:(s.heap.push cV).Ns s.heap.objs.size (λ_=>none):=⟨cV,#[],_,e1,rfl,(λe he=>absurd he (by simp)),λ_=>rfl⟩
 have I1:=I.laid (a:=s.heap.objs.size) (o:=.own (s.heap.objs.size+1)) (h':=s.heap.push cV) (t':=s.toks) (λb u q=>ak _ q) (aC _) ⟨_,e1⟩
 refine I1.laid (a:=s.heap.objs.size+1) (o:=.ins C s.heap.objs.size []) (t':=s.toks) (λb u q=>ak _ q) (Nat.le_of_eq (eI _ _)) ?_
 have ne:s.heap.objs.size≠s.heap.objs.size+1:=bt (mj _)
 refine⟨by rw[aw ne,ae],cA _,ne,e2,λ_=>none,(Heap.Ns1.of_empty e3).at λo q=>ak _ q,λ_=>True.intro,λy hy=>absurd rfl hy⟩
theorem Hd{prog:Program}{w:World}{env:Env}{e:Expr}{f:Str}{pos:Pos}{s:Shared}{Q:Value->Shared->Prop}(hb:attributeBase e f env (eval e env)=eval e env)
  (h:wpAny (model prog w) A (eval e env) (λo s₁=>wpAny (model prog w) A (getAttr o f true) Q E s₁) E s):wpAny (model prog w) A (eval (.Attribute e f pos) env) Q E s:=
 Attribute_any_ h (by rw[arm_eval_Attribute,hb])
end
def jr(K:Fg)(ta:TE)(f:Str):TE:=λσ H Q=>ta σ H λx H1=>∃a C dx fs v,x=.ref a/\H1 a=some (.ins C dx fs)/\qc K C/\iI K C f/\fs.lookup f=some v/\Q v H1
def uq(K:Fg)(ta tv:TE)(f:Str):TS:=λD σ H=>tv σ H λy H1=>ta σ H1 λx H2=>∃a C dx fs,x=.ref a/\H2 a=some (.ins C dx fs)/\qc K C/\iI K C f/\fs.length<1000/\
 D.nx σ (upd H2 a (.ins C dx (putF f y fs)))
section
variable{X:Cx}{o e value:Expr}{f:Str}{pos pos' tpos:Pos}{ta tv:TE}
theorem Kw(he:PE X e ta)(hb:attributeBase e f X.env (eval e X.env)=eval e X.env):PE X (.Attribute e f pos) (jr X.K ta f):=by
 intro pins s σ H Q I h
 refine Hd hb (fK (he pins s σ H _ I h) λu s1 ⟨x,H1,I1,rx,a,C,dx,fs,v,ex,ea,c,n,l,q⟩=>?_)
 subst ex
 obtain rfl:u=Value.ref a:=rx
 exact Bv I1 ea c n l λu' s2 I2 ru=>⟨v,H1,I2,ru,q⟩
theorem KP(ha:PE X o ta)(hv:PE X value tv)(hs:swapsWith value (some (.Attribute o f pos')) pos.line X.env=pure false):PS X (.Assign [.Attribute o f pos'] value pos) (uq X.K ta tv f):=by
 intro pins s σ H D I h
 refine plainObj_wpAny_Assign_Attribute (fK (hv pins s σ H _ I h) λu s1 ⟨y,H1,I1,ry,q⟩=>fK (ha pins s1 σ H1 _ I1 q) λov s2 ⟨x,H2,I2,rx,a,C,dx,fs,ex,ea,c,n,l,q2⟩=>?_) hs
 subst ex
 obtain rfl:ov=Value.ref a:=rx
 exact Cb I2 ea c n l ry λs3 I3=>⟨σ,_,I3,q2⟩
end
section
variable{X:Cx}{pins:List (Addr×Obj)}{σ:St}{H:Hp}{s:Shared}{A:Around}{E:Value->Shared->Prop}{Q:Value->Shared->Prop}{c:Value}{b:Bool}
end
structure cD(k:Nat)(A:Around):Prop where
 hd:A.handled=none
 dp:A.depth+3*k+5<recursionLimit
 un:A.units+16*k+200<cLine
theorem cD.mono{j k:Nat}{A:Around}(r:cD k A)(h:j<=k):cD j A:=⟨r.hd,by have:=r.dp;lia,by have:=r.un;lia⟩
theorem cD.deeper{k:Nat}{A:Around}(r:cD (k+1) A)(env:Env):cD k (A.deeper env):=
 ⟨r.hd,by have:=r.dp;show A.depth+1+3*k+5<_;lia,by have:=r.un;show A.units+3+16*k+200<_;lia⟩
theorem BJ{A:Around}{C:Addr}{us:List Value}{kw:List (Str×Value)}:(A.under (.builtin "type.__call__" ⟨.ref C::us,kw⟩)).depth=A.depth+1:=by
 first|rfl|simp[Around.under,Code.weight,Code.isCreation,Code.isGuard,Code.isCaller,Code.frames,Code.isFrame,guardIds]
theorem BK{A:Around}{C:Addr}{us:List Value}{kw:List (Str×Value)}:(A.under (.builtin "type.__call__" ⟨.ref C::us,kw⟩)).units=A.units+1:=by
 first|rfl|simp[Around.under,Code.cUnits,Code.frames,Code.isFrame]
theorem cD.make{k:Nat}{A:Around}(r:cD (k+1) A)(C:Addr)(us:List Value)(kw:List (Str×Value)):cD k (A.under (.builtin "type.__call__" ⟨.ref C::us,kw⟩)):=
 ⟨r.hd,by have:=r.dp;rw[BJ];lia,by have:=r.un;rw[BK];lia⟩
theorem cD.depth{k:Nat}{A:Around}(r:cD k A):A.depth<recursionLimit:=by have:=r.dp;lia
theorem cD.units{k:Nat}{A:Around}(r:cD k A):A.units+64<cLine:=by have:=r.un;lia
theorem cD.units0{k:Nat}{A:Around}(r:cD k A):A.units<cLine:=by have:=r.un;lia
def aK:TA:=λ_ H Q=>Q [] H
def af(ta:TE)(tr:TA):TA:=λσ H Q=>ta σ H λx H1=>tr σ H1 λxs H2=>Q (x::xs) H2
section
variable{X:Cx}{e:Expr}{es:List Expr}{te:TE}{t:TA}{pos:Pos}
theorem Kt:PA X [] aK:=λ_ _ _ _ H Q I h=>Calls.spliced_nil ⟨[],H,I,.nil,h⟩
theorem Ig(ha:PE X e te)(hr:PA X es t)(hs:starEach (e::es) X.env=(false,eval e X.env)::starEach es X.env:=by rfl):PA X (e::es) (af te t):=by
 intro pos pins s σ H Q I h
 rw[hs]
 show wpAny _ _ (spliced ((false,eval e X.env)::backTo pos (starEach es X.env))) _ _ s
 refine Calls.spliced_cons (fK (ha pins s σ H _ I h) λu s1 ⟨x,H1,I1,r1,q1⟩=>?_)
 exact fK (hr pos pins s1 σ H1 _ I1 q1) λus s2 ⟨xs,H2,I2,r2,q2⟩=>⟨x::xs,H2,I2,.cons r1 r2,q2⟩
def gR(t:TA):TE:=λσ H Q=>t σ H λxs H1=>xs.length<=sizeLine/\∀p,H1 p=none->Q (.ref p) (upd H1 p (.tup xs))
def iQ(t:TA):TE:=λσ H Q=>t σ H λxs H1=>xs.length<=sizeLine/\∀p,H1 p=none->Q (.ref p) (upd H1 p (.lst xs))
theorem KE{x1}(h:PA X es t):PE X (.Tuple es x1 pos) (gR t):=by
 intro pins s σ H Q I hq
 refine wpAny_Tuple_spliced (fK (h pos pins s σ H _ I hq) λus s1 ⟨xs,H1,I1,r,z,q⟩=>⟨by rw[<-r.length];exact z,?_⟩)
 have hf:H1 s1.heap.objs.size=none:=I1.hok.fresh (aC _)
 refine⟨.ref s1.heap.objs.size,upd H1 s1.heap.objs.size (.tup xs),I1.laid (t':=s1.toks) (λb u e=>ak _ e) (aC _) ?_,rfl,q _ hf⟩
 exact⟨z,us,r,⟨_,aN _ rfl,⟨rfl,rfl⟩,_,rfl⟩⟩
theorem Kz(h:PA X es t):PE X (.List es pos) (iQ t):=by
 intro pins s σ H Q I hq
 refine wpAny_List_spliced (fK (h pos pins s σ H _ I hq) λus s1 ⟨xs,H1,I1,r,z,q⟩=>⟨by rw[<-r.length];exact z,?_⟩)
 have hf:H1 s1.heap.objs.size=none:=I1.hok.fresh (aC _)
 refine⟨.ref s1.heap.objs.size,upd H1 s1.heap.objs.size (.lst xs),I1.laid (t':=s1.toks) (λb u e=>ak _ e) (aC _) ?_,rfl,q _ hf⟩
 exact⟨z,us,0,r,aN _ rfl⟩
end
abbrev Sp:=List V->Hp->VK->XK->Prop
abbrev EA:=List Env->Hp->Shared->XK->Value->Shared->Prop
structure Bc(P:Program)(w:World)(K:Fg)(mg:Str->Option Value)(base:Heap)(A:Around)(outer:List Env)(s:Shared)(H:Hp):Prop where
 frames:A.frames=some outer
 mod:Mod K mg base
 bs:∀b o,base.get? b=some o->s.heap.get? b=some o/\H b=none
 bsz:base.objs.size<=s.heap.objs.size
 funs:s.heap.FunFrames base outer
 frf:∀b∈frs outer,H b=none
 hok:qd P w H s.heap
 bare:AllBare s.gens
def CE(outer:List Env)(P:Program)(w:World)(H:Hp)(s:Shared)(Q:VK)(u:Value)(s':Shared):Prop:=
 ∃v H',s'.os=s.os/\AllBare s'.gens/\Un (frs outer) [] H H' s.heap s'.heap/\qd P w H' s'.heap/\cP v u/\Q v H'
def CR(CX:EA)(outer:List Env)(P:Program)(w:World)(H:Hp)(s:Shared)(Q:VK)(E:XK)(r:Result)(s':Shared):Prop:=
 match r with
 |.ok (.ret u)=>CE outer P w H s Q u s'
 |.ok _=>False
 |.error e=>CX outer H s E e s'
structure dt(P:Program)(w:World)(K:Fg)(mg:Str->Option Value)(base:Heap)(CX:EA)(k:Nat)(f:Addr)(fd:FuncData)(ps:List Str)(sp:Sp):Prop where
 len:∀vs H Q E,sp vs H Q E->vs.length=ps.length
 run:∀(A:Around) (outer:List Env) (s:Shared) (H:Hp) (args:Args) (us:List Value) (vs:List V) (Q:VK) (E:XK),cD k A->Bc P w K mg base A outer s H->BindsTo s fd args (ps.zip us)->ck vs us->sp vs H Q E->
  codeAny (model P w) A (.call (.ref f) args) (CR CX outer P w H s Q E) s
theorem Bc.make{P:Program}{w:World}{K:Fg}{mg:Str->Option Value}{base:Heap}{A:Around}{outer:List Env}{s:Shared}{H:Hp}(e:Bc P w K mg base A outer s H)(C:Addr)(us:List Value)(kw:List (Str×Value)) :
  Bc P w K mg base (A.under (.builtin "type.__call__" ⟨.ref C::us,kw⟩)) outer s H:=⟨by first|exact e.frames|(simpa[Around.under,Code.envs,Code.isFrame,pushEnvs] using e.frames),e.mod,e.bs,e.bsz,e.funs,e.frf,e.hok,e.bare⟩
section
variable{X:Cx}{pins:List (Addr×Obj)}{σ:St}{H:Hp}{s s':Shared}
theorem bQ.env0(I:bQ X pins σ H s):Bc X.prog X.w X.K X.mg X.base X.A X.stack s H:=
 ⟨I.ok.frames,I.ok.mod,I.bs,bC I.ok.bsz I.sz,I.stack,I.stkFree,I.hok,I.bare⟩
theorem bQ.after{Q:VK}{u:Value}(I:bQ X pins σ H s)(h:CE X.stack X.prog X.w H s Q u s'):EP X pins σ Q u s':=by
 obtain⟨v,H',os,bare,un,hok,r,q⟩:=h
 obtain⟨hh,g,d,t,os'⟩:=s'
 obtain rfl:os'=s.os:=os
 exact⟨v,H',I.call (h':=hh) (g':=g) (d':=d) (t':=t) (ch:=[]) un hok bare (λb z=>absurd z (by simp)),r,q⟩
end
def bL(sp:Sp)(dvs:List V)(E:XK)(t:TA):TE:=λσ H Q=>t σ H λvs H1=>sp (vs++dvs) H1 Q E
def iF(C:Addr)(m:Str)(sp:Sp)(dvs:List V)(E:XK)(ta:TE)(t:TA):TE:=λσ H Q=>ta σ H λx H1=>∃a dx fs,x=.ref a/\H1 a=some (.ins C dx fs)/\fs.lookup m=none/\
 t σ H1 λvs H2=>sp (x::(vs++dvs)) H2 Q E
def wD(C:Addr)(sp:Sp)(dvs:List V)(E:XK)(t:TA):TE:=λσ H Q=>t σ H λvs H1=>∀x dx,H1 x=none->H1 dx=none->dx≠x->
 sp (.ref x::(vs++dvs)) (upd (upd H1 dx (.own x)) x (.ins C dx [])) (λv H2=>v=.non/\Q (.ref x) H2) E
def kJ(K:Fg)(fd:FuncData)(ps:List Str)(ds:List Value):Prop:=
 ∀(s:Shared) (us:List Value),K.In s.heap->(us++ds).length=ps.length->BindsTo s fd ⟨us,[]⟩ (ps.zip (us++ds))
theorem kJ.all{K:Fg}{fd:FuncData}{ps:List Str}(h:∀us:List Value,us.length=ps.length->bindArgs fd ⟨us,[]⟩=pure (ps.zip us)):kJ K fd ps []:=λs us _ hl=>by
 rw[kx] at hl ⊢
 exact .of_eq (h us hl)
def pS(CX:EA)(X:Cx)(E:XK):Prop:=∀(pins:List (Addr×Obj)) (σ:St) (H:Hp) (s:Shared) (e:Value) (s':Shared),bQ X pins σ H s->CX X.stack H s E e s'->X.xe e s'
section
variable{X:Cx}{CX:EA}{k:Nat}{f C:Addr}{fd:FuncData}{ps:List Str}{sp:Sp}{dvs:List V}{ds:List Value}{E:XK}{x m:Str}{p pos apos:Pos}{e o:Expr}{es:List Expr}{ta:TE}{t:TA}
theorem yw{pins:List (Addr×Obj)}{σ:St}{H:Hp}{s:Shared}{Q:VK}{us:List Value}{vs:List V}(F:dt X.prog X.w X.K X.mg X.base CX k f fd ps sp)(hr:cD k X.A)(hb:kJ X.K fd ps ds)(hd:ck dvs ds)(hx:pS CX X E)
  (I:bQ X pins σ H s) (r:ck vs us) (h:sp (vs++dvs) H Q E):wpAny (model X.prog X.w) X.A (call (.ref f) us) (EP X pins σ Q) X.xe s:=by
 have r2:ck (vs++dvs) (us++ds):=r.append hd
 have hl:(us++ds).length=ps.length:=by rw[<-r2.length];exact F.len _ _ _ _ h
 refine wpAny_call (codeAny_mono (F.run X.A X.stack s H ⟨us,[]⟩ (us++ds) (vs++dvs) Q E hr I.env0 (hb s us I.kIn hl) r2 h) λr s' hq=>?_)
 cases r with
 |error e=>exact hx pins σ H s e s' I hq
 |ok fl=>
  cases fl with
  |ret u=>exact I.after hq
  |next=>exact False.elim hq
  |brk=>exact False.elim hq
  |cont=>exact False.elim hq
theorem CS(F:dt X.prog X.w X.K X.mg X.base CX k f fd ps sp)(hr:cD k X.A)(hg:Gl X x)(hm:X.mg x=some (.ref f))(hk:aA X.K (.ref f)=true)(hb:kJ X.K fd ps ds)(hd:ck dvs ds)(hx:pS CX X E)
  (ha:PA X (e::es) t) (hdb:(x==("__debug__":Str))=false:=by decide) (he:starEach (e::es) X.env=(false,eval e X.env)::starEach es X.env:=by rfl) (hpl:(backTo pos (starEach es X.env)).any (·.1)=false:=by rfl) :
  PE X (.Call (.Name x p) (e::es) [] pos) (bL sp dvs E t):=by
 intro pins s σ H Q I h
 refine wpAny_Call_Name_kw (xW I hg hm ?_ hdb)
 refine iY (h₀:=X.base) I.ok.mod.kin hk (fK (ha pos pins s σ H _ I h) λus s1 ⟨vs,H1,I1,r,q⟩=>⟨I1.kIn,?_⟩) he hpl
 exact yw F hr hb hd hx I1 r q
theorem Ip{pl:Sem Bool}(he:PE X o ta)(c:qc X.K C)(hm:G5 X.K C m f)(F:dt X.prog X.w X.K X.mg X.base CX k f fd ps sp)(hr:cD k X.A)(hb:kJ X.K fd ps ds)(hd:ck dvs ds)(hx:pS CX X E)(ha:PA X (e::es) t)
  (hst:starEach (e::es) X.env=(false,eval e X.env)::starEach es X.env:=by rfl) (hpl:(backTo pos (starEach es X.env)).any (·.1)=false:=by rfl)
  (ht:eval (.Call (.Attribute o m apos) (e::es) [] pos) X.env=(do
   let ov <-eval o X.env
   standAt apos.atName
   let(f,first) <-holding [ov] (getMethod ov m pl)
   callWith pos f first (backTo pos (starEach (e::es) X.env)) (backToKw pos (keywordEach [] X.env))):=by rfl) :
  PE X (.Call (.Attribute o m apos) (e::es) [] pos) (iF C m sp dvs E ta t):=by
 intro pins s σ H Q I h
 refine jN (pl:=pl) (fK (he pins s σ H _ I h) λu s1 ⟨x,H1,I1,rx,a,dx,fs,ex,ea,l,q⟩=>?_) ht
 subst ex
 obtain rfl:u=Value.ref a:=rx
 refine tQ I1 ea c hm l ?_
 refine iY (first:=[.ref a]) (h₀:=X.base) I.ok.mod.kin hm.kp (fK (ha pos pins s1 σ H1 _ I1 q) λus s2 ⟨vs,H2,I2,r,q2⟩=>⟨I2.kIn,?_⟩) hst hpl
 exact yw (us:=.ref a::us) (vs:=.ref a::vs) F hr hb hd hx I2 (.cons rfl r) q2
theorem FP{pl:Sem Bool}(he:PE X o ta)(c:qc X.K C)(hm:G5 X.K C m f)(F:dt X.prog X.w X.K X.mg X.base CX k f fd ps sp)(hr:cD k X.A)(hb:kJ X.K fd ps ds)(hd:ck dvs ds)(hx:pS CX X E)
  (ht:eval (.Call (.Attribute o m apos) [] [] pos) X.env=(do
   let ov <-eval o X.env
   standAt apos.atName
   let(f,first) <-holding [ov] (getMethod ov m pl)
   callWith pos f first (backTo pos (starEach [] X.env)) (backToKw pos (keywordEach [] X.env))):=by rfl) :
  PE X (.Call (.Attribute o m apos) [] [] pos) (iF C m sp dvs E ta aK):=by
 intro pins s σ H Q I h
 refine jN (pl:=pl) (fK (he pins s σ H _ I h) λu s1 ⟨x,H1,I1,rx,a,dx,fs,ex,ea,l,q⟩=>?_) ht
 subst ex
 obtain rfl:u=Value.ref a:=rx
 refine tQ I1 ea c hm l ?_
 exact PySem.W.callWith_K0 (first:=[.ref a]) I1.kIn hm.kp (yw (us:=[.ref a]) (vs:=[.ref a]) F hr hb hd hx I1 (.cons rfl .nil) q)
structure Mk(K:Fg)(C f:Addr):Prop where
 makes:kA K C=true
 init:aX K (.ref C) "__init__"=some (some (.ref f))
 fn:cM K (.ref f)=true
 kp:aA K (.ref C)=true
theorem Gp{pins:List (Addr×Obj)}{σ:St}{H:Hp}{s:Shared}{Q:VK}{us:List Value}{vs:List V}(M:Mk X.K C f)(F:dt X.prog X.w X.K X.mg X.base CX k f fd ps sp)(hr:cD (k+1) X.A)(hb:kJ X.K fd ps ds)(hd:ck dvs ds)
  (hx:pS CX X E) (I:bQ X pins σ H s) (r:ck vs us)
  (h:∀x dx,H x=none->H dx=none->dx≠x->sp (.ref x::(vs++dvs)) (upd (upd H dx (.own x)) x (.ins C dx [])) (λv H2=>v=.non/\Q (.ref x) H2) E) :
  wpAny (model X.prog X.w) X.A (call (.ref C) us) (EP X pins σ Q) X.xe s:=by
 have hq:=h (s.heap.objs.size+1) s.heap.objs.size (I.hok.fresh (eC _)) (I.hok.fresh (aC _)) (bt (mj _))
 have I2:=bQ.made (C:=C) I
 have r2:ck (V.ref (s.heap.objs.size+1)::(vs++dvs)) (Value.ref (s.heap.objs.size+1)::(us++ds)):=.cons rfl (r.append hd)
 have hl:(Value.ref (s.heap.objs.size+1)::us++ds).length=ps.length:=by
  have e:=r2.length
  rw[F.len _ _ _ _ hq] at e
  exact e.symm
 refine wpAny_call (FE (f:=f) I.kIn M.makes M.init (beq_iff_eq.mp M.fn) (codeAny_mono (F.run _ X.stack _ _ ⟨Value.ref (s.heap.objs.size+1)::us,[]⟩ (Value.ref (s.heap.objs.size+1)::(us++ds)) _ _ E (hr.make C us [])
  (I2.env0.make C us []) (hb _ (Value.ref (s.heap.objs.size+1)::us) I2.kIn hl) r2 hq) λr s' hq'=>?_))
 cases r with
 |error e=>exact hx pins σ _ _ e s' I2 hq'
 |ok fl=>
  cases fl with
  |ret u=>
   obtain⟨v,H',I3,rv,ev,q3⟩:=I2.after hq'
   subst ev
   exact⟨rv,⟨V.ref (s.heap.objs.size+1),H',I3,rfl,q3⟩⟩
  |next=>exact False.elim hq'
  |brk=>exact False.elim hq'
  |cont=>exact False.elim hq'
theorem Io(M:Mk X.K C f)(F:dt X.prog X.w X.K X.mg X.base CX k f fd ps sp)(hr:cD (k+1) X.A)(hg:Gl X x)(hm:X.mg x=some (.ref C))(hb:kJ X.K fd ps ds)(hd:ck dvs ds)(hx:pS CX X E)
  (ha:PA X (e::es) t) (hdb:(x==("__debug__":Str))=false:=by decide) (he:starEach (e::es) X.env=(false,eval e X.env)::starEach es X.env:=by rfl) (hpl:(backTo pos (starEach es X.env)).any (·.1)=false:=by rfl) :
  PE X (.Call (.Name x p) (e::es) [] pos) (wD C sp dvs E t):=by
 intro pins s σ H Q I h
 refine wpAny_Call_Name_kw (xW I hg hm ?_ hdb)
 refine iY (h₀:=X.base) I.ok.mod.kin M.kp (fK (ha pos pins s σ H _ I h) λus s1 ⟨vs,H1,I1,r,q⟩=>⟨I1.kIn,?_⟩) he hpl
 exact Gp M F hr hb hd hx I1 r q
end
section
variable{X:Cx}{CX:EA}{k:Nat}{f C:Addr}{fd:FuncData}{ps ks:List Str}{sp:Sp}{E:XK}{x m:Str}{p pos apos kpos:Pos}{e o:Expr}{es:List Expr}{kws:List Keyword}{te ta:TE}{t tk:TA}{nm:Option Str}
variable{g:List Value->List Value->List Value}{gV:List V->List V->List V}
end
structure bM(N P:List Str)(sc:Scope):Prop where
 kind:sc.kind=.function
 co:sc.isCoroutine=false
 gen:sc.isGenerator=false
 nd:N.Nodup
 pre:N.take P.length=P
 par:∀x∈P,sc.names.lookup x=some .local\/sc.names.lookup x=some .cell
 nofree:∀y∈sc.names,y.2≠.free
theorem vW{kindOf:Str->Option NameKind}{x:Str}:∀{binds:List (Str×Value)} {m:Str->Option Value},(∀v,(x,v)∉binds)->bindL kindOf binds m x=m x
 |[],_,_=>rfl
 |(n,v)::r,m,h=>by
  unfold bindL
  rw[vW λw hw=>h w (bU _ hw)]
  split
  ·have:x≠n:=by rintro rfl;exact h v ay
   simp[this]
  ·rfl
theorem vU{kindOf:Str->Option NameKind}{x:Str}:∀{binds:List (Str×Value)} {m:Str->Option Value},(∀v,(x,v)∉binds)->bindC kindOf binds m x=m x
 |[],_,_=>rfl
 |(n,v)::r,m,h=>by
  unfold bindC
  rw[vU λw hw=>h w (bU _ hw)]
  split
  ·rfl
  ·have:x≠n:=by rintro rfl;exact h v ay
   simp[this]
theorem vV{kindOf:Str->Option NameKind}{x:Str}{v:Value}:∀{P:List Str} {vs:List Value} {i:Nat} {m:Str->Option Value},P.Nodup->P[i]?=some x->vs[i]?=some v->kindOf x=some .local->
  bindL kindOf (P.zip vs) m x=some v
 |[],_,_,_,_,h,_,_=>by simp at h
 |_::_,[],_,_,_,_,h,_=>by simp at h
 |p::P,w::vs,0,m,nd,h1,h2,hk=>by
  simp at h1 h2;subst h1;subst h2
  show bindL kindOf ((p,w)::P.zip vs) m p=_
  unfold bindL
  rw[vW λv hv=>(dO.mp nd).1 (kz hv).1,if_pos hk]
  simp
 |p::P,w::vs,i+1,m,nd,h1,h2,hk=>by
  show bindL kindOf ((p,w)::P.zip vs) m x=_
  unfold bindL
  exact vV (i:=i) (dO.mp nd).2 (by simpa using h1) (by simpa using h2) hk
theorem vT{kindOf:Str->Option NameKind}{x:Str}{v:Value}:∀{P:List Str} {vs:List Value} {i:Nat} {m:Str->Option Value},P.Nodup->P[i]?=some x->vs[i]?=some v->kindOf x≠some .local->
  bindC kindOf (P.zip vs) m x=some v
 |[],_,_,_,_,h,_,_=>by simp at h
 |_::_,[],_,_,_,_,h,_=>by simp at h
 |p::P,w::vs,0,m,nd,h1,h2,hk=>by
  simp at h1 h2;subst h1;subst h2
  show bindC kindOf ((p,w)::P.zip vs) m p=_
  unfold bindC
  rw[vU λv hv=>(dO.mp nd).1 (kz hv).1,if_neg hk]
  simp
 |p::P,w::vs,i+1,m,nd,h1,h2,hk=>by
  show bindC kindOf ((p,w)::P.zip vs) m x=_
  unfold bindC
  exact vT (i:=i) (dO.mp nd).2 (by simpa using h1) (by simpa using h2) hk
def cN(N:List Str)(vs:List V):St:=vs.map some++aO (N.length-vs.length) none
def eO(CX:EA)(P:Program)(w:World)(K:Fg)(mg:Str->Option Value)(base:Heap)(N:List Str)(qual:Str)(scope:Scope)(f:Addr)(cd:Value)(A:Around)(outer:List Env)(s:Shared)(H:Hp)(E:XK):Cx where
 prog:=P
 w:=w
 K:=K
 mg:=mg
 base:=base
 A:=A.deeper (envOfC qual scope s.heap.objs.size f cd)
 N:=N
 s₀:=s
 H₀:=H
 env:=envOfC qual scope s.heap.objs.size f cd
 outer:=outer
 stack:=envOfC qual scope s.heap.objs.size f cd::outer
 ex:=[]
 calm:=true
 fn:=λ_=>true
 pn:=[]
 xe:=λe s'=>wpAny (model P w) (A.deeper (envOfC qual scope s.heap.objs.size f cd)) (leaving (envOfC qual scope s.heap.objs.size f cd) e) (λ_ s''=>CX outer H s E e s'') (λe' s''=>CX outer H s E e' s'') s'
theorem yM{sc:Scope}{n:Nat}{x:Str}(h:sc.names.lookup x=some .cell):∃c,(cellsFrom n sc.names []).lookup x=some c:=by
 have q:=PySem.W.cellsFrom_some sc.names n [] (.inl h)
 exact fF.mp q
theorem DC{CX:EA}{P:Program}{w:World}{K:Fg}{mg:Str->Option Value}{base:Heap}{N ps:List Str}{qual:Str}{scope:Scope}{f:Addr}{cd:Value}{A:Around}{outer:List Env}{s s1:Shared}{H:Hp}{E:XK}{us:List Value}{vs:List V}
  (S:bM N ps scope) (hd:A.handled=none) (e0:Bc P w K mg base A outer s H) (hl:vs.length=ps.length) (r:ck vs us)
  (x:InCallC s s.heap.objs.size (bindL (envOfC qual scope s.heap.objs.size f cd).kindOf (ps.zip us) λ_=>none) (cellsFrom (s.heap.objs.size+1) scope.names []) (bindC (envOfC qual scope s.heap.objs.size f cd).kindOf (ps.zip us) λ_=>none) s1) :
  bQ (eO CX P w K mg base N qual scope f cd A outer s H E) [] (cN N vs) H s1:=by
 have hpl:ps.length<=N.length:=by have:=congrArg nJ S.pre;rw[bG] at this;lia
 obtain⟨h1,tk,rfl,hk⟩:=x.done
 have noA:∀b:Addr,b∉(eO CX P w K mg base N qual scope f cd A outer s H E).ex:=λb z=>absurd (show b∈([]:List Addr) from z) (by simp)
 refine⟨⟨e0.mod,S.kind,rfl,rfl,aC _,λy z c h1 h2=>?_,λy hy=>?_,λy c _ h=>?_,λ_=>hd,Around.frames_deeper e0.frames,.inr ⟨rfl,rfl⟩,λb z=>absurd z (noA b),e0.bs,e0.bsz,λb _ _=>noA b,λb z=>absurd z (noA b),e0.funs,e0.frf⟩,
  rfl,e0.bare,Un.kept hk,⟨_,x.toInCall.ns,λi y v h1 h2 h3=>?_⟩,λy c h=>⟨_,x.cell y c h⟩,e0.hok.fresh (aC _),λy c h=>?_,λp hp=>absurd (show p∈([]:List (Addr×Obj)) from hp) (by simp),e0.hok.kept hk,?_⟩
 ·exact name_of_addr x.apart (cL h1) (cL h2)
 ·have hy:scope.names.lookup y=some .cell\/scope.names.lookup y=some .free:=hy
  rcases hy with hy|hy
  ·exact yM hy
  ·exact absurd rfl (S.nofree _ (cL hy))
 ·exact mI (x.above y c (cL h))
 ·have hi:i<vs.length:=by
   unfold cN at h2
   by_cases hi:i<vs.length
   ·exact hi
   ·rw[bj (by simpa using hi)] at h2
    rw[List.getElem?_replicate] at h2
    split at h2<;>cases h2
  have ha:vs[i]?=some v:=by
   unfold cN at h2
   rw[bz (by simpa using hi),ba] at h2
   cases e:vs[i]? with
   |none=>rw[e] at h2;cases h2
   |some a=>rw[e] at h2;cases h2;rfl
  obtain⟨u,hu,rv⟩:=r.get ha
  have hp:ps[i]?=some y:=by
   rw[<-S.pre,List.getElem?_take_of_lt (by lia)];exact h1
  have ndP:ps.Nodup:=by rw[<-S.pre];exact S.nd.sublist (lD _ _)
  refine⟨u,rv,?_⟩
  rcases S.par y (az hp) with k|k
  ·exact .inl ⟨k,vV ndP hp hu k⟩
  ·obtain⟨c,e⟩:=yM (n:=s.heap.objs.size+1) k
   refine .inr ⟨.inl k,c,e,?_⟩
   have q:=x.cell y c e
   rw[vT ndP hp hu (by show scope.names.lookup y≠_;rw[k];decide)] at q
   exact q
 ·exact e0.hok.fresh (mI (x.above y c (cL h)))
 ·unfold cN
  show _=N.length
  rw[aD,ai,cb]
  lia
theorem Jy{CX:EA}{P:Program}{w:World}{K:Fg}{mg:Str->Option Value}{base:Heap}{k:Nat}{f:Addr}{name qual:Str}{params:Arguments}{body:List Stmt}{scope:Scope}{dV kV doc pm cdv ct oc:Value}{an od:Option Addr}
  {osl:Array (Option Value)} {N ps:List Str} {sp:Sp} (lk:K.lookup f=some ⟨oc,od,.func (aI name qual params body scope dV kV doc pm an cdv ct),osl⟩) (hcd:aE K cdv qual=true) (S:bM N ps scope)
  (len:∀vs H Q E,sp vs H Q E->vs.length=ps.length)
  (hbody:∀(A:Around) (outer:List Env) (s:Shared) (H:Hp) (vs:List V) (Q:VK) (E:XK),cD k (A.deeper (envOfC qual scope s.heap.objs.size f cdv))->sp vs H Q E->
   ∃t,jV (eO CX P w K mg base N qual scope f cdv A outer s H E) body t/\t {nx:=λ_ H'=>Q .non H',rt:=Q} (cN N vs) H) :
  dt P w K mg base CX (k+1) f (aI name qual params body scope dV kV doc pm an cdv ct) ps sp:=by
 refine⟨len,λA outer s H args us vs Q E hr e0 hb r hsp=>?_⟩
 have hl:=len _ _ _ _ hsp
 have KX:K.In s.heap:=e0.mod.kin.keeps λb o e=>(e0.bs b o e).1
 have lim:s.heap.NoLimit:=e0.mod.nolimit.keeps λb o e=>(e0.bs b o e).1
 have hkind:∀y∈ps.zip us,scope.names.lookup y.1=some .local\/(scope.names.lookup y.1=some .cell/\((cellsFrom (s.heap.objs.size+1) scope.names []).lookup y.1).isSome=true):=λ⟨n,v⟩ hy=>by
  rcases S.par n (kz hy).1 with q|q
  ·exact .inl q
  ·exact .inr ⟨q,PySem.W.cellsFrom_some _ _ _ (.inl q)⟩
 refine codeAny_call_function hr.depth (KX _ _ lk) rfl S.co S.gen rfl (PySem.W.codeRec_of KX hcd) (hb _ _ _ _ ?_)
 refine wpAny_newFunctionEnv_cells S.kind hkind λenv he s1 x=>?_
 subst he
 refine⟨lim.keeps x.toInCall.keep,codeAny_func ?_⟩
 obtain⟨t,ht,hq⟩:=hbody A outer s H vs Q E (hr.deeper _) hsp
 have I:bQ (eO CX P w K mg base N qual scope f cdv A outer s H E) [] (cN N vs) H s1:=DC S hr.hd e0 hl r x
 refine wpAny_mono (ht [] s1 (cN N vs) H _ I hq) (λfl s' hs=>?_) λe s' hs=>hs
 have fin:∀{σ':St} {H':Hp} {v:V} {u:Value},bQ (eO CX P w K mg base N qual scope f cdv A outer s H E) [] σ' H' s'->cP v u->Q v H'->CE outer P w H s Q u s':=
  λ{σ' H' v u} J rv q=>⟨v,H',J.os,J.bare,J.base,J.hok,rv,q⟩
 cases fl with
 |ret u=>
  obtain⟨v,σ',H',J,rv,q⟩:=hs
  exact fin J rv q
 |next=>
  obtain⟨σ',H',J,q⟩:=hs
  exact fin (v:=V.non) (u:=Value.none) J rfl q
 |brk=>
  obtain⟨_,_,_,q⟩:=hs
  exact False.elim q
 |cont=>
  obtain⟨_,_,_,q⟩:=hs
  exact False.elim q
section
variable{X:Cx}{x:Str}{p pos:Pos}{e:Expr}{es:List Expr}{t:TA}{id T:String}{r:List V->Hp->VK->Prop}
def iV(r:List V->Hp->VK->Prop)(t:TA):TE:=λσ H Q=>t σ H λvs H1=>r vs H1 Q
theorem FN(hc:kK X (.builtin id) r)(hg:Gl X x)(hm:X.mg x=none)(hv:bootBuiltins x=some (.builtin id))(ha:PA X (e::es) t)(hn:x≠"__name__":=by decide)(hdb:(x==("__debug__":Str))=false:=by decide)
  (he:starEach (e::es) X.env=(false,eval e X.env)::starEach es X.env:=by rfl) (hpl:(backTo pos (starEach es X.env)).any (·.1)=false:=by rfl):PE X (.Call (.Name x p) (e::es) [] pos) (iV r t):=by
 intro pins s σ H Q I h
 refine wpAny_Call_Name_kw (mX I hg hm hv ?_ hn hdb)
 exact PyProof.Rows.callWith_builtin1 (fK (ha pos pins s σ H _ I h) λus s1 ⟨vs,H1,I1,r1,q1⟩=>hc pins s1 σ H1 vs us Q I1 r1 q1) he hpl
theorem DY(hc:kK X (.type T) r)(hg:Gl X x)(hm:X.mg x=none)(hv:bootBuiltins x=some (.type T))(ha:PA X (e::es) t)(hn:x≠"__name__":=by decide)(hdb:(x==("__debug__":Str))=false:=by decide)
  (he:starEach (e::es) X.env=(false,eval e X.env)::starEach es X.env:=by rfl) (hpl:(backTo pos (starEach es X.env)).any (·.1)=false:=by rfl):PE X (.Call (.Name x p) (e::es) [] pos) (iV r t):=by
 intro pins s σ H Q I h
 refine wpAny_Call_Name_kw (mX I hg hm hv ?_ hn hdb)
 exact cu (fK (ha pos pins s σ H _ I h) λus s1 ⟨vs,H1,I1,r1,q1⟩=>hc pins s1 σ H1 vs us Q I1 r1 q1) he hpl
end
end L2
namespace HT
open PySem PyProof.Rows
section
open PySem.SeqAt
open PySem.AutoSeq1 (wpAny_loadPart')
open PySem.MeetsSeq PySem.MeetsSeq2 PySem.MeetsSeq3
end
section
variable{prog:Program}{w:World}{A:Around}{E:Value->Shared->Prop}{s:Shared}
theorem cat_tup{t b:Addr}{vs ws:List Value}{Q:Value->Shared->Prop}(ht:IsTup s.heap t vs.toArray)(hb:IsTup s.heap b ws.toArray)(hv:vs≠[])
  (h1:ws=[]->Q (.ref t) s) (h2:ws≠[]->Q (.ref s.heap.objs.size) {s with heap:=s.heap.push {cls:=.type "tuple",data:=.seq (vs++ws).toArray}})
  (hsz:vs.length+ws.length<=sizeLine):wpAny (model prog w) A (binaryOp .Add (.ref t) (.ref b)) Q E s:=by
 obtain⟨⟨cls,dd,data,sl⟩,ho,hc,n,hd⟩:=id ht
 obtain⟨⟨cls2,dd2,data2,sl2⟩,ho2,hc2,n2,hd2⟩:=id hb
 simp only at hc hd hc2 hd2
 subst hc hd hc2 hd2
 have e:vs.toArray++ws.toArray=(vs++ws).toArray:=by simp
 by_cases hw:ws=[]
 ·exact concat_meets ⟨_,ho,rfl⟩ ⟨_,ho2,rfl⟩ noFill_tuple_add seq_tuple_add PySem.F.slot_tuple_add PySem.F.entry_tuple_add (PySem.F.args_tuple_add_2 _ _)
   (tuple_addW1 t b vs.toArray ws.toArray n n2 dd dd2 sl sl2 (by simpa using hv) (by simp[hw])) ⟨ho,ho2,h1 hw⟩
 ·refine concat_meets ⟨_,ho,rfl⟩ ⟨_,ho2,rfl⟩ noFill_tuple_add seq_tuple_add PySem.F.slot_tuple_add PySem.F.entry_tuple_add (PySem.F.args_tuple_add_2 _ _)
   (tuple_addW2 t b vs.toArray ws.toArray n n2 dd dd2 sl sl2 (by simpa using hv) (by simpa using hw) (by rw[aq,aq];exact hsz)) ⟨ho,ho2,?_⟩
  rw[e]
  exact h2 hw
def sIx(n d:Nat):Option Int->Nat
 |none=>d
 |some v=>if v<0 then(v+(n:Int)).toNat else min v.toNat n
theorem sIx_none(n d:Nat):sIx n d none=d:=rfl
theorem sIx_nat(n d k:Nat):sIx n d (some (k:Int))=min k n:=by
 show(if(k:Int)<0 then((k:Int)+(n:Int)).toNat else min (k:Int).toNat n)=min k n
 rw[if_neg (by lia),gM]
theorem Lg(n d:Nat)(hd:d<=n)(o:Option Int):sIx n d o<=n:=by
 cases o with
 |none=>exact hd
 |some v=>
  show(if v<0 then(v+(n:Int)).toNat else min v.toNat n)<=n
  by_cases hv:v<0
  ·rw[if_pos hv];lia
  ·rw[if_neg hv];exact Nat.min_le_right _ _
theorem CA(v:Int)(n d:Nat):(if v<0 then max (v+(n:Int)) 0 else min v (n:Int))=((sIx n d (some v):Nat):Int):=by
 show(if v<0 then max (v+(n:Int)) 0 else min v (n:Int))=(((if v<0 then(v+(n:Int)).toNat else min v.toNat n):Nat):Int)
 by_cases hv:v<0
 ·simp only[if_pos hv];lia
 ·simp only[if_neg hv];lia
theorem Bl(lo hi:Option Int)(n:Nat):Builtin.Slice.sliceAdjust lo hi 1 (n:Int)=(((sIx n 0 lo:Nat):Int),((sIx n n hi:Nat):Int)):=by
 have h1:¬((1:Int)<0):=by lia
 unfold Builtin.Slice.sliceAdjust
 simp only[h1,if_false]
 refine Prod.ext ?_ ?_
 ·cases lo with
  |none=>rfl
  |some v=>exact CA v n 0
 ·cases hi with
  |none=>rfl
  |some v=>exact CA v n n
theorem BU(i j:Nat):Builtin.Slice.slicePlaces (i:Int) (j:Int) 1=j-i:=by
 unfold Builtin.Slice.slicePlaces
 have h1:(1:Int)>0:=by lia
 simp only[h1,if_true,Int.ediv_one]
 split<;>lia
theorem uw{v:Value}{o:Option Int}{Q:Option Int->Shared->Prop}(p:IsPart v o)(h:Q o s):wpAny (model prog w) A (Builtin.Slice.slicePartIndex v) Q E s:=by
 cases p with
 |none=>exact slicePart_none h
 |int i t=>exact slicePart_int h
theorem rD{sl:Addr}{vl vu:Value}{lo hi:Option Int}{n:Nat}{Q:Int×Int×Nat->Shared->Prop}(hs:s.heap.IsSliceOf sl vl vu .none)(pl:IsPart vl lo)(pu:IsPart vu hi)
  (h:Q (((sIx n 0 lo:Nat):Int),1,sIx n n hi-sIx n 0 lo) s):wpAny (model prog w) A (Builtin.Slice.sliceApplied (.ref sl) (pure (n:Int))) Q E s:=by
 obtain⟨os,hos,hcs,hds⟩:=id hs
 unfold Builtin.Slice.sliceApplied Builtin.Slice.sliceFields
 refine wpAny_bind (wpAny_bind (wpAny_field hos hds (x:=vl) rfl (wpAny_bind (wpAny_field hos hds (x:=vu) rfl (wpAny_bind (wpAny_field hos hds (x:=.none) rfl (wpAny_pure ?_)))))))
 refine wpAny_bind (slicePart_none ?_)
 show wpAny _ _ (if((1:Int)==0)=true then _ else _) _ _ s
 rw[if_neg (by decide)]
 refine wpAny_bind (uw pl (wpAny_bind (uw pu (wpAny_bind (wpAny_pure ?_)))))
 show wpAny _ _ (match Builtin.Slice.sliceAdjust lo hi 1 (n:Int) with|(lo,hi)=>pure (lo,(1:Int),Builtin.Slice.slicePlaces lo hi 1)) _ _ s
 rw[Bl lo hi n]
 show wpAny _ _ (pure (((sIx n 0 lo:Nat):Int),(1:Int),Builtin.Slice.slicePlaces ((sIx n 0 lo:Nat):Int) ((sIx n n hi:Nat):Int) 1)) _ _ s
 rw[BU]
 exact wpAny_pure h
theorem FS(xs:Array Value)(i k:Nat):((jO k).filterMap λ(m:Nat)=>xs[((i:Int)+(m:Int)*1).toNat]?).toArray=((xs.toList.drop i).take k).toArray:=by
 have e:(λ(m:Nat)=>xs[((i:Int)+(m:Int)*1).toNat]?)=λm=>xs[i+m]?:=by
  funext m
  have:((i:Int)+(m:Int)*1).toNat=i+m:=by lia
  rw[this]
 rw[e]
 have:=pick_run xs i k
 rw[List.filterMap_map] at this
 have e2:((λx=>xs[x]?) ∘ λx=>i+x)=λm=>xs[i+m]?:=rfl
 rw[e2] at this
 rw[this]
theorem getItem_tuple_cut{t sl:Addr}{items:Array Value}{vl vu:Value}{lo hi:Option Int}{Q:Value->Shared->Prop}(ht:IsTup s.heap t items)(hs:s.heap.IsSliceOf sl vl vu .none)(pl:IsPart vl lo)(pu:IsPart vu hi)
  (hw:¬(sIx items.size 0 lo=0/\sIx items.size items.size hi=items.size))
  (h:Q (.ref s.heap.objs.size) {s with heap:=s.heap.push {cls:=.type "tuple",data:=.seq ((items.toList.drop (sIx items.size 0 lo)).take (sIx items.size items.size hi-sIx items.size 0 lo)).toArray}})
  (hsz:items.size<=sizeLine):wpAny (model prog w) A (getItem (.ref t) (.ref sl)) Q E s:=by
 have htake:sizeOk (.seq ((items.toList.drop (sIx items.size 0 lo)).take (sIx items.size items.size hi-sIx items.size 0 lo)).toArray):=by
  show((items.toList.drop (sIx items.size 0 lo)).take (sIx items.size items.size hi-sIx items.size 0 lo)).toArray.size<=sizeLine
  rw[aq,bG,dw,dQ]
  lia
 have hj:sIx items.size items.size hi<=items.size:=Lg _ _ (aC _) hi
 obtain⟨os,hos,hcs,hds⟩:=id hs
 have hTs:s.TypeIs (.ref sl) "slice":=⟨os,hos,hcs⟩
 unfold getItem
 try with_reducible refine wpAny_holding ?_
 first|refine wpAny_bind (wpAny_pure ?_)|skip
 refine wpAny_bind (wpAny_sequenceKey ht.typeIs (by decide) ?_)
 refine wpAny_bind (wpAny_callSpecial?_slot (name:=Str.ofString "__getitem__") ht.typeIs PyProof.Rows.slot_tuple_getitem
  (wpAny_call_entry PyProof.Rows.slot_tuple_getitem ht.typeIs entry_tuple_getitem ?_ (args_tuple_getitem _ _)))
 show wpAny _ _ (Builtin.Tuple.tupleItemsOf (.ref t) >>= _) _ _ s
 refine wpAny_bind (tupleItemsOf_ ht ?_)
 refine wpAny_bind (wpAny_typeOf hTs ?_)
 rw[if_pos (by decide)]
 refine wpAny_bind (rD hs pl pu ?_)
 have hno:¬((((sIx items.size 0 lo:Nat):Int)==0&&(1:Int)==1&&(sIx items.size items.size hi-sIx items.size 0 lo)==items.size)=true):=by
  intro q
  rw[Bool.and_eq_true,Bool.and_eq_true] at q
  have q1:((sIx items.size 0 lo:Nat):Int)=0:=eq_of_beq q.1.1
  have q2:sIx items.size items.size hi-sIx items.size 0 lo=items.size:=eq_of_beq q.2
  exact hw ⟨by lia,by lia⟩
 show wpAny _ _ (if(((sIx items.size 0 lo:Nat):Int)==0&&(1:Int)==1&&(sIx items.size items.size hi-sIx items.size 0 lo)==items.size)=true then _ else _) _ _ s
 rw[if_neg hno,FS]
 first
  |exact wpAny_bind (m:=Builtin.Tuple.tupleExact _) (wpAny_newObj_type (wpAny_pure ⟨_,rfl,wpAny_pure h⟩) htake)
  |exact wpAny_bind (m:=Builtin.Tuple.tupleExact _) (wpAny_newObj_type (wpAny_bind (wpAny_pure (wpAny_pure ⟨_,rfl,wpAny_pure h⟩))) htake)
  |exact wpAny_bind (wpAny_bind (m:=Builtin.Tuple.tupleExact _) (wpAny_newObj_type (wpAny_pure (wpAny_pure ⟨_,rfl,wpAny_pure h⟩)) htake))
  |exact wpAny_bind (wpAny_bind (m:=Builtin.Tuple.tupleExact _) (wpAny_newObj_type (wpAny_pure ⟨_,rfl,wpAny_pure h⟩) htake))
end
end HT
namespace L2
open PySem PySem.Spec PyProof.Rows
abbrev TO:=St->Hp->(Option Int->Hp->Prop)->Prop
def PO(X:Cx)(e:Option Expr)(t:TO):Prop:=
 ∀(pins:List (Addr×Obj)) (s:Shared) (σ:St) (H:Hp) (Q:Option Int->Hp->Prop),bQ X pins σ H s->t σ H Q->
  wpAny (model X.prog X.w) X.A (evalPart e X.env) (λu s'=>∃o H',bQ X pins σ H' s'/\IsPart u o/\Q o H') X.xe s
def iD:TO:=λ_ H Q=>Q none H
def mG(t:TE):TO:=λσ H Q=>t σ H λx H1=>∃i,x=.int i/\Q (some i) H1
section
variable{X:Cx}{e:Expr}{te:TE}{lo hi:Option Expr}{tl th:TO}{pos p2:Pos}
theorem IA:PO X none iD:=by
 intro pins s σ H Q I h
 rw[evalPart_none]
 exact wpAny_pure ⟨none,H,I,.none,h⟩
theorem IB(h:PE X e te):PO X (some e) (mG te):=by
 intro pins s σ H Q I hw
 rw[evalPart_some]
 refine fK (h pins s σ H _ I hw) λu s1 ⟨x,H1,I1,r1,q1⟩=>?_
 obtain⟨i,rfl,q⟩:=q1
 obtain⟨t,rfl⟩:=r1
 exact⟨some i,H1,I1,.int i t,q⟩
def G9(X:Cx)(r:V->Option Int->Option Int->Hp->VK->Prop):Prop:=
 ∀(pins:List (Addr×Obj)) (s:Shared) (σ:St) (H:Hp) (x:V) (v vl vu:Value) (lo hi:Option Int) (sl:Addr) (Q:VK),bQ X pins σ H s->cP x v->s.heap.IsSliceOf sl vl vu .none->IsPart vl lo->IsPart vu hi->r x lo hi H Q->
  ∃T id,typeLookup (.type T) "__getitem__"=pure (some (.builtin id))/\s.TypeIs v T/\wpAny (model X.prog X.w) X.A (getItem v (.ref sl)) (EP X pins σ Q) X.xe s
theorem G9.or{r r':V->Option Int->Option Int->Hp->VK->Prop}(h:G9 X r)(h':G9 X r'):G9 X (λx lo hi H Q=>r x lo hi H Q\/r' x lo hi H Q):=by
 intro pins s σ H x v vl vu lo hi sl Q I rx hs pl pu q
 rcases q with q|q
 ·exact h pins s σ H x v vl vu lo hi sl Q I rx hs pl pu q
 ·exact h' pins s σ H x v vl vu lo hi sl Q I rx hs pl pu q
def Ec(r:V->Option Int->Option Int->Hp->VK->Prop)(te:TE)(tl th:TO):TE:=λσ H Q=>te σ H λx H1=>tl σ H1 λl H2=>th σ H2 λu H3=>r x l u H3 Q
theorem FQ{r:V->Option Int->Option Int->Hp->VK->Prop}(hr:G9 X r)(he:PE X e te)(hl:PO X lo tl)(hu:PO X hi th):PE X (.Subscript e (.Slice lo hi none p2) pos) (Ec r te tl th):=by
 intro pins s σ H Q I h
 refine Subscript_ (fK (he pins s σ H _ I h) λv s1 ⟨x,H1,I1,r1,q1⟩=>?_)
 refine wpAny_Slice (fK (hl pins s1 σ H1 _ I1 q1) λvl s2 ⟨l,H2,I2,pl,q2⟩=>fK (hu pins s2 σ H2 _ I2 q2) λvu s3 ⟨u,H3,I3,pu,q3⟩=>?_)
 rw[evalPart_none]
 refine wpAny_pure ?_
 have I4:bQ X pins σ H3 {s3 with heap:=s3.heap.push {cls:=.type "slice",data:=.fields #[vl,vu,.none]}}:=I3.kept (t':=s3.toks) λb ob q=>ak _ q
 obtain⟨T,id,hT,ht,hg⟩:=hr pins {s3 with heap:=s3.heap.push {cls:=.type "slice",data:=.fields #[vl,vu,.none]}} σ H3 x v vl vu l u s3.heap.objs.size Q I4 r1 (Heap.IsSliceOf.new ..) pl pu q3
 show wpAny (model X.prog X.w) X.A (subscriptTail e (.Slice lo hi none p2) v (.ref s3.heap.objs.size)) (EP X pins σ Q) X.xe {s3 with heap:=s3.heap.push {cls:=.type "slice",data:=.fields #[vl,vu,.none]}}
 exact tail_any (ops:=[.ref s3.heap.objs.size,v]) ht hT hg (by with_unfolding_all rfl)
def mV(xs:List V)(lo hi:Option Int):List V:=(xs.drop (HT.sIx xs.length 0 lo)).take (HT.sIx xs.length xs.length hi-HT.sIx xs.length 0 lo)
theorem rJ(xs:List V)(lo hi:Option Int):(mV xs lo hi).length<=xs.length:=by
 unfold mV
 rw[bG,dw]
 lia
def Mm(K:Fg):V->Option Int->Option Int->Hp->VK->Prop:=λx lo hi H Q=>∃a xs,x=.ref a/\eU K H a xs/\
 ¬(HT.sIx xs.length 0 lo=0/\HT.sIx xs.length xs.length hi=xs.length)/\∀p,H p=none->Q (.ref p) (upd H p (.tup (mV xs lo hi)))
theorem Li:G9 X (Mm X.K):=by
 intro pins s σ H x v vl vu lo hi sl Q I rx hs pl pu h
 obtain⟨a,xs,rfl,hx,hw,q⟩:=h
 cases rx
 obtain⟨its,r,ht,hz⟩:=I.tuple hx
 have hlen:its.toArray.size=xs.length:=by rw[aq];exact r.length.symm
 refine⟨"tuple",_,PyProof.Rows.slot_tuple_getitem.lookup,ht.typeIs,?_⟩
 refine HT.getItem_tuple_cut ht hs pl pu (by rw[hlen];exact hw) ?_ (by rw[hlen];exact hz)
 rw[hlen]
 refine⟨.ref s.heap.objs.size,_,I.laid (t':=s.toks) (o:=.tup (mV xs lo hi)) (λb ob q=>ak _ q) (aC _) ?_,rfl,q _ (I.hok.fresh (aC _))⟩
 exact⟨bC (rJ xs lo hi) hz,_,(r.drop (HT.sIx xs.length 0 lo)).take (HT.sIx xs.length xs.length hi-HT.sIx xs.length 0 lo),lT.new _ _⟩
def JD(K:Fg):R2:=λx y H Q=>∃a b xs ys,x=.ref a/\y=.ref b/\eU K H a xs/\eU K H b ys/\xs≠[]/\xs.length+ys.length<=sizeLine/\
 (ys=[]->Q (.ref a) H)/\(ys≠[]->∀p,H p=none->Q (.ref p) (upd H p (.tup (xs++ys))))
theorem ck.nil_iff{xs:List V}{us:List Value}(r:ck xs us):us=[]↔xs=[]:=by
 cases r with
 |nil=>simp
 |cons _ _=>simp
theorem HX:lh X (binaryOp .Add) (JD X.K):=by
 intro pins s σ H x y v u Q I rx ry h
 obtain⟨a,b,xs,ys,rfl,rfl,ha,hb,hx,hz,q1,q2⟩:=h
 cases rx
 cases ry
 obtain⟨its,r1,p1,_⟩:=I.tuple ha
 obtain⟨its2,r2,p2,_⟩:=I.tuple hb
 refine HT.cat_tup p1 p2 (λz=>hx (r1.nil_iff.mp z)) (λz=>⟨.ref a,H,I,rfl,q1 (r2.nil_iff.mp z)⟩) (λz=>?_) (by rw[<-r1.length,<-r2.length];exact hz)
 refine⟨.ref s.heap.objs.size,_,I.laid (t':=s.toks) (o:=.tup (xs++ys)) (λb ob q=>ak _ q) (aC _) ?_,rfl,q2 (λw=>z (r2.nil_iff.mpr w)) _ (I.hok.fresh (aC _))⟩
 exact⟨by rw[aD];exact hz,_,r1.append r2,lT.new _ _⟩
end
def Ff(n:Nat)(i:Int):Option Nat:=if 0<=i then(if i<n then some i.toNat else none) else if -(n:Int)<=i then some (i+n).toNat else none
def EH{α:Type}(xs:List α)(i:Int):Option α:=(Ff xs.length i).bind λj=>xs[j]?
theorem CL{n:Nat}{i:Int}{j:Nat}(h:Ff n i=some j):seqIndex? i n=some j/\j<n/\-(n:Int)<=i/\i<n:=by
 unfold Ff at h
 by_cases h0:0<=i
 ·rw[if_pos h0] at h
  by_cases h1:i<n
  ·rw[if_pos h1] at h
   have e:i.toNat=j:=Option.some.inj h
   exact⟨by rw[seqIndex_of h0 h1,e],by lia,by lia,h1⟩
  ·rw[if_neg h1] at h;cases h
 ·rw[if_neg h0] at h
  by_cases h1:-(n:Int)<=i
  ·rw[if_pos h1] at h
   have e:(i+n).toNat=j:=Option.some.inj h
   exact⟨by rw[seqIndex_neg (by lia) h1,e],by lia,h1,by lia⟩
  ·rw[if_neg h1] at h;cases h
theorem xx{α:Type}{xs:List α}{i:Int}{v:α}(h:EH xs i=some v):∃j,seqIndex? i xs.length=some j/\xs[j]?=some v/\j<xs.length/\-(xs.length:Int)<=i/\i<xs.length:=by
 unfold EH at h
 cases e:Ff xs.length i with
 |none=>rw[e] at h;cases h
 |some j=>
  rw[e] at h
  obtain⟨h1,h2,h3,h4⟩:=CL e
  exact⟨j,h1,h,h2,h3,h4⟩
def Cv(b:Expr):Prop:=∀o i,subscripted b false o i=operate [o,i] (getItem o i)
def GW(X:Cx)(r:R2):Prop:=
 ∀(value slice:Expr) (pins:List (Addr×Obj)) (s:Shared) (σ:St) (H:Hp) (x y:V) (v u:Value) (Q:VK),bQ X pins σ H s->cP x v->cP y u->r x y H Q->
  subscripted slice false v u=operate [v,u] (getItem v u)->wpAny (model X.prog X.w) X.A (subscriptTail value slice v u) (EP X pins σ Q) X.xe s
def Lp(X:Cx)(id:String)(r:V->List V->Hp->VK->Prop):Prop:=
 ∀(pins:List (Addr×Obj)) (s:Shared) (σ:St) (H:Hp) (x:V) (xs:List V) (v:Value) (us:List Value) (Q:VK),bQ X pins σ H s->cP x v->ck xs us->r x xs H Q->
  wpAny (model X.prog X.w) X.A (call (.builtin id) (v::us)) (EP X pins σ Q) X.xe s
section
variable{X:Cx}{a b:Expr}{ta tb:TE}{pos:Pos}
theorem GW.or{r r':R2}(h:GW X r)(h':GW X r'):GW X (λx y H Q=>r x y H Q\/r' x y H Q):=by
 intro value slice pins s σ H x y v u Q I rx ry q hs
 rcases q with q|q
 ·exact h value slice pins s σ H x y v u Q I rx ry q hs
 ·exact h' value slice pins s σ H x y v u Q I rx ry q hs
theorem L8{r:R2}(hr:GW X r)(ha:PE X a ta)(hb:PE X b tb)(hs:Cv b):PE X (.Subscript a b pos) (bq r ta tb):=by
 intro pins s σ H Q I h
 exact Subscript_ (JR ha hb I h λv u s2 x y H2 I2 rx ry q=>hr a b pins s2 σ H2 x y v u Q I2 rx ry q (hs _ _))
def Mf(K:Fg):R2:=λx y H Q=>∃p xs i v,x=.ref p/\y=.int i/\bZ K H p xs/\EH xs i=some v/\Q v H
def Mh(K:Fg):R2:=λx y H Q=>∃p xs i v,x=.ref p/\y=.int i/\eU K H p xs/\EH xs i=some v/\Q v H
def Mg:R2:=λx y H Q=>∃z i c,x=.str z/\y=.int i/\z.length<=sizeLine/\EH z.cps.toList i=some c/\Q (.str ⟨#[c]⟩) H
theorem HA:GW X (Mf X.K):=by
 intro value slice pins s σ H x y v u Q I rx ry h hs
 obtain⟨p,xs,i,z,rfl,rfl,hq,he,q⟩:=h
 cases rx
 obtain⟨t,rfl⟩:=ry
 obtain⟨its,r,pl,hz⟩:=I.list hq
 obtain⟨j,h1,h2,h3,h4,h5⟩:=xx he
 obtain⟨w,ew,rw'⟩:=r.get h2
 have hl:=r.length
 have hn:=tZ
 have fin:EP X pins σ Q w s:=⟨z,H,I,rw',q⟩
 by_cases h0:0<=i
 ·have hj:i.toNat=j:=by
   rw[seqIndex_of h0 h5] at h1
   exact Option.some.inj h1
  exact item_listR pl.isList h0 (by lia) (by rw[hj];simpa using ew) fin hs
 ·have hj:(i+(its.toArray.size:Int)).toNat=j:=by
   rw[seqIndex_neg (by lia) h4] at h1
   rw[aq,<-hl]
   exact Option.some.inj h1
  exact subscriptTail_builtinR (x:=w) pl.isList.typeIs slot_list_getitem.lookup
   (wpAny_getItem_list_neg (Q:=λr s'=>r=w/\EP X pins σ Q r s') pl.isList (by lia) (by rw[aq]<;>lia) (by lia) (by rw[hj];simpa using ew) ⟨rfl,fin⟩) hs
theorem J5:GW X (Mh X.K):=by
 intro value slice pins s σ H x y v u Q I rx ry h hs
 obtain⟨p,xs,i,z,rfl,rfl,hq,he,q⟩:=h
 cases rx
 obtain⟨t,rfl⟩:=ry
 obtain⟨its,r,pl,hz⟩:=I.tuple hq
 obtain⟨j,h1,h2,h3,h4,h5⟩:=xx he
 obtain⟨w,ew,rw'⟩:=r.get h2
 have hl:=r.length
 have hn:=tZ
 have fin:EP X pins σ Q w s:=⟨z,H,I,rw',q⟩
 exact subscriptTail_builtinR (x:=w) pl.typeIs slot_tuple_getitem.lookup
  (getItem_tuple (j:=j) (Q:=λr s'=>r=w/\EP X pins σ Q r s') pl (by lia) (by lia) (by rw[aq,<-hl];exact h1) (by simpa using ew) ⟨rfl,fin⟩) hs
theorem J4:GW X Mg:=by
 intro value slice pins s σ H x y v u Q I rx ry h hs
 obtain⟨z,i,c,rfl,rfl,hz,he,q⟩:=h
 obtain⟨t,rfl⟩:=rx
 obtain⟨t',rfl⟩:=ry
 obtain⟨j,h1,h2,h3,h4,h5⟩:=xx he
 have hl:z.cps.toList.length=z.length:=by simp[Str.length]
 rw[hl] at h1 h4 h5
 have hn:=tZ
 exact tail_any (typeIs_str s z t) slot_str_getitem.lookup (getItem_str (c:=c) (by
  have e1:decide (i < -(2 ^ 63:Int))=false:=decide_eq_false (by lia)
  have e2:decide (i >= 2 ^ 63)=false:=decide_eq_false (by lia)
  rw[e1,e2,Bool.or_false]) (by rw[h1];simpa using h2) ⟨.str ⟨#[c]⟩,H,I.tok _,⟨_,rfl⟩,q⟩) hs
def cQ(K:Fg):R2:=λx y H Q=>Mf K x y H Q\/Mh K x y H Q\/Mg x y H Q
theorem aG:GW X (cQ X.K):=HA.or (J5.or J4)
theorem BL(its:List Value)(n j:Nat)(u:Value):Obj.mapSeq (·.setIfInBounds j u) {cls:=.type "list",data:=.seq its.toArray n}={cls:=.type "list",data:=.seq (its.set j u).toArray n}:=by
 simp[Obj.mapSeq]
theorem bQ.lst{pins:List (Addr×Obj)}{σ:St}{H:Hp}{s:Shared}{p:Addr}{xs:List V}(I:bQ X pins σ H s)(h:H p=some (.lst xs)) :
  ∃(its:List Value) (n:Nat),ck xs its/\s.heap.get? p=some {cls:=.type "list",data:=.seq its.toArray n}/\xs.length<=sizeLine:=by
 obtain⟨z,its,n,r,e⟩:=I.hok p _ h
 exact⟨its,n,r,e,z⟩
theorem bQ.lstUpd{pins:List (Addr×Obj)}{σ:St}{H:Hp}{s:Shared}{p:Addr}{xs ys:List V}{its its':List Value}{n n':Nat}{f:Obj->Obj}(I:bQ X pins σ H s)(h:H p=some (.lst xs))
  (ho:s.heap.get? p=some {cls:=.type "list",data:=.seq its.toArray n}) (hf:f {cls:=.type "list",data:=.seq its.toArray n}={cls:=.type "list",data:=.seq its'.toArray n'}) (r:ck ys its') (hz:ys.length<=sizeLine) (t:Nat) :
  bQ X pins σ (upd H p (.lst ys)) {s with heap:=s.heap.update p f,toks:=t}:=by
 have e:(s.heap.update p f).get? p=some {cls:=.type "list",data:=.seq its'.toArray n'}:=by
  rw[Heap.get?_update_self f ho (by rw[hf]<;>rfl),hf]
 refine I.write (x:=p) (e:=p) (by rw[h];trivial) (.inl rfl) (λb u hb q=>(Heap.get?_update_other _ _ (Ne.symm hb)).trans q) ⟨_,e⟩ ?_
 exact⟨hz,its',n',r,e⟩
def nE:V->V->V->Hp->(Hp->Prop)->Prop:=λo i v H Q=>∃p xs k j,o=.ref p/\i=.int k/\H p=some (.lst xs)/\Ff xs.length k=some j/\Q (upd H p (.lst (xs.set j v)))
theorem jI:G7 X nE:=by
 intro pins s σ H o i v ov iv u Q I ro ri rv h
 obtain⟨p,xs,k,j,rfl,rfl,hp,hj,q⟩:=h
 cases ro
 obtain⟨t,rfl⟩:=ri
 obtain⟨its,n,r,ho,hz⟩:=I.lst hp
 obtain⟨h1,h2,h3,h4⟩:=CL hj
 have hl:=r.length
 have hn:=tZ
 have I':bQ X pins σ (upd H p (.lst (xs.set j v))) {s with heap:=s.heap.update p (Obj.mapSeq (·.setIfInBounds j u))}:=
  I.lstUpd hp ho (BL its n j u) (r.set rv j) (by rw[eX];exact hz) s.toks
 by_cases h0:0<=k
 ·have hk:k.toNat=j:=by
   rw[seqIndex_of h0 h4] at h1
   exact Option.some.inj h1
  exact PySem.W.ki_setAt ho h0 (by lia) (by rw[aq,<-hl];exact h4) (by rw[hk];exact⟨_,I',q⟩)
 ·have hk:(k+(its.toArray.size:Int)).toNat=j:=by
   rw[seqIndex_neg (by lia) h3] at h1
   rw[aq,<-hl]
   exact Option.some.inj h1
  exact PySem.W.ki_setBack ho (by lia) (by rw[aq,<-hl];exact h3) (by lia) (by rw[hk];exact⟨_,I',q⟩)
theorem yx(lo hi:Option Int)(n:Nat):(sliceBounds lo hi none n).1=((HT.sIx n 0 lo:Nat):Int)/\(sliceBounds lo hi none n).2.1=((HT.sIx n n hi:Nat):Int)/\(sliceBounds lo hi none n).2.2=1:=by
 refine⟨?_,?_,rfl⟩
 ·cases lo with
  |none=>simp[sliceBounds,HT.sIx]
  |some i=>
   simp only[sliceBounds,HT.sIx,Option.getD_none,show(1:Int)>0 by decide,if_true]
   by_cases h:i<0
   ·simp only[h,if_true]<;>lia
   ·simp only[h,if_false]<;>lia
 ·cases hi with
  |none=>simp[sliceBounds,HT.sIx]
  |some i=>
   simp only[sliceBounds,HT.sIx,Option.getD_none,show(1:Int)>0 by decide,if_true]
   by_cases h:i<0
   ·simp only[h,if_true]<;>lia
   ·simp only[h,if_false]<;>lia
theorem vy(its:List Value)(lo hi:Option Int):slicePick its.toArray lo hi none=((its.drop (HT.sIx its.length 0 lo)).take (HT.sIx its.length its.length hi-HT.sIx its.length 0 lo)).toArray:=by
 obtain⟨h1,h2,h3⟩:=yx lo hi its.toArray.size
 unfold slicePick
 rw[h1,h2,h3]
 simp only[sliceRange_one,pick_run,aq]<;>rfl
def Ml(K:Fg):V->Option Int->Option Int->Hp->VK->Prop:=λx lo hi H Q=>∃a xs,x=.ref a/\bZ K H a xs/\∀p,H p=none->Q (.ref p) (upd H p (.lst (mV xs lo hi)))
theorem Jm:G9 X (Ml X.K):=by
 intro pins s σ H x v vl vu lo hi sl Q I rx hs pl pu h
 obtain⟨a,xs,rfl,hx,q⟩:=h
 cases rx
 obtain⟨its,r,ht,hz⟩:=I.list hx
 have hlen:=r.length
 refine⟨"list",_,slot_list_getitem.lookup,ht.isList.typeIs,?_⟩
 refine wpAny_getItem_list_slice ht.isList hs pl pu .none (by simp) ?_ (by rw[aq]<;>lia)
 rw[vy,<-hlen]
 refine⟨.ref s.heap.objs.size,_,I.laid (t':=s.toks) (o:=.lst (mV xs lo hi)) (λb ob q=>ak _ q) (aC _) ?_,rfl,q _ (I.hok.fresh (aC _))⟩
 exact⟨bC (rJ xs lo hi) hz,_,0,(r.drop (HT.sIx xs.length 0 lo)).take (HT.sIx xs.length xs.length hi-HT.sIx xs.length 0 lo),aN _ rfl⟩
def jk:V->Bool
 |.non=>true
 |.bl _=>true
 |.int _=>true
 |.str _=>true
 |_=>false
def tP:V->V->Bool
 |.non,.non=>true
 |.bl a,.bl b=>a==b
 |.bl a,.int b=>(if a then 1 else 0)==b
 |.int a,.bl b=>a==(if b then 1 else 0)
 |.int a,.int b=>a==b
 |.str a,.str b=>a==b
 |_,_=>false
theorem rf{A:Around}{s:Shared}{y x:V}{u v:Value}(ry:cP y u)(rx:cP x v)(fy:jk y=true)(fx:jk x=true):SeqAt.EqAt A s u v (tP y x):=by
 cases y with
 |non=>
  cases ry
  cases x with
  |non=>cases rx;exact SeqAt.EqAt.same _
  |bl b=>cases rx;exact SeqAt.EqAt.none_bool b
  |int b=>obtain⟨t,rfl⟩:=rx;exact SeqAt.EqAt.none_int b t
  |str b=>obtain⟨t,rfl⟩:=rx;exact SeqAt.EqAt.none_str b t
  |_=>exact absurd (show false=true from fx) Bool.false_ne_true
 |bl a=>
  cases ry
  cases x with
  |non=>cases rx;exact SeqAt.EqAt.bool_none a
  |bl b=>cases rx;exact SeqAt.EqAt.bool_bool a b
  |int b=>obtain⟨t,rfl⟩:=rx;exact SeqAt.EqAt.bool_int a b t
  |str b=>obtain⟨t,rfl⟩:=rx;exact SeqAt.EqAt.bool_str a b t
  |_=>exact absurd (show false=true from fx) Bool.false_ne_true
 |int a=>
  obtain⟨t',rfl⟩:=ry
  cases x with
  |non=>cases rx;exact SeqAt.EqAt.int_none a t'
  |bl b=>cases rx;exact SeqAt.EqAt.int_bool a t' b
  |int b=>obtain⟨t,rfl⟩:=rx;exact SeqAt.EqAt.int_int a t' b t
  |str b=>obtain⟨t,rfl⟩:=rx;exact SeqAt.EqAt.int_str a t' b t
  |_=>exact absurd (show false=true from fx) Bool.false_ne_true
 |str a=>
  obtain⟨t',rfl⟩:=ry
  cases x with
  |non=>cases rx;exact SeqAt.EqAt.str_none a t'
  |bl b=>cases rx;exact SeqAt.EqAt.str_bool a t' b
  |int b=>obtain⟨t,rfl⟩:=rx;exact SeqAt.EqAt.str_int a t' b t
  |str b=>obtain⟨t,rfl⟩:=rx;exact SeqAt.EqAt.str_str a t' b t
  |_=>exact absurd (show false=true from fx) Bool.false_ne_true
 |_=>exact absurd (show false=true from fy) Bool.false_ne_true
def Br(x:V)(u:Value):Bool:=match u with
 |.none=>tP .non x
 |.bool b=>tP (.bl b) x
 |.int i _=>tP (.int i) x
 |.str z _=>tP (.str z) x
 |_=>false
theorem EX{x y:V}{u:Value}(r:cP y u)(f:jk y=true):Br x u=tP y x:=by
 cases y with
 |non=>cases r;rfl
 |bl b=>cases r;rfl
 |int i=>obtain⟨t,rfl⟩:=r;rfl
 |str z=>obtain⟨t,rfl⟩:=r;rfl
 |_=>exact absurd (show false=true from f) Bool.false_ne_true
theorem ql{x:V}:∀{xs:List V} {us:List Value},ck xs us->xs.all jk=true->us.any (Br x)=xs.any λy=>tP y x
 |_,_,.nil,_=>rfl
 |y::xs,u::us,.cons r t,f=>by
  rw[List.all_cons,Bool.and_eq_true] at f
  rw[j6,j6,EX r f.1,ql t f.2]
theorem oj{A:Around}{s:Shared}{x:V}{v:Value}(rx:cP x v)(fx:jk x=true):∀{xs:List V} {us:List Value},ck xs us->xs.all jk=true->∀u∈us,SeqAt.EqAt A s u v (Br x u)
 |_,_,.nil,_=>λu hu=>by cases hu
 |y::xs,u::us,.cons r t,f=>λu' hu=>by
  rw[List.all_cons,Bool.and_eq_true] at f
  rcases bp.mp hu with rfl|hu
  ·rw[EX r f.1];exact rf r rx f.1 fx
  ·exact oj rx fx t f.2 u' hu
def v7(x:V)(xs:List V):Bool:=xs.any λy=>tP y x
def IZ(K:Fg)(neg:Bool):R2:=λx y H Q=>∃p xs,y=.ref p/\(bZ K H p xs\/eU K H p xs)/\jk x=true/\xs.all jk=true/\Q (.bl (if neg then !v7 x xs else v7 x xs)) H
theorem mC:lh X (compareOp .In) (IZ X.K false):=by
 intro pins s σ H x y v u Q I rx ry h
 obtain⟨p,xs,rfl,hq,fx,fs,q⟩:=h
 cases ry
 rcases hq with hq|hq
 ·obtain⟨its,r,pl,hz⟩:=I.list hq
  refine SeqAt.in_listAt (Br x) pl.isList (λw hw=>oj rx fx r fs w (by simpa using hw)) ⟨.bl _,H,I,rfl,?_⟩
  rw[show its.toArray.any (Br x)=its.any (Br x) by simp,ql r fs]
  exact q
 ·obtain⟨its,r,pl,hz⟩:=I.tuple hq
  refine SeqAt.in_tupleAt (Br x) pl (λw hw=>oj rx fx r fs w (by simpa using hw)) ⟨.bl _,H,I,rfl,?_⟩
  rw[show its.toArray.any (Br x)=its.any (Br x) by simp,ql r fs]
  exact q
theorem qx:lh X (compareOp .NotIn) (IZ X.K true):=by
 intro pins s σ H x y v u Q I rx ry h
 obtain⟨p,xs,rfl,hq,fx,fs,q⟩:=h
 cases ry
 rcases hq with hq|hq
 ·obtain⟨its,r,pl,hz⟩:=I.list hq
  refine SeqAt.notIn_listAt (Br x) pl.isList (λw hw=>oj rx fx r fs w (by simpa using hw)) ⟨.bl _,H,I,rfl,?_⟩
  rw[show its.toArray.any (Br x)=its.any (Br x) by simp,ql r fs]
  exact q
 ·obtain⟨its,r,pl,hz⟩:=I.tuple hq
  refine SeqAt.notIn_tupleAt (Br x) pl (λw hw=>oj rx fx r fs w (by simpa using hw)) ⟨.bl _,H,I,rfl,?_⟩
  rw[show its.toArray.any (Br x)=its.any (Br x) by simp,ql r fs]
  exact q
theorem iy:kK X (.type "list") (λxs H Q=>∃p ys,xs=[.ref p]/\(bZ X.K H p ys\/eU X.K H p ys)/\∀l,H l=none->Q (.ref l) (upd H l (.lst ys))):=by
 intro pins s σ H xs us Q I r h
 obtain⟨p,ys,rfl,hq,q⟩:=h
 obtain⟨u,rfl,rx⟩:=su r
 cases rx
 have fin:∀(its:List Value),ck ys its->ys.length<=sizeLine->∀(h':Heap) (c':Nat),(∀b o',s.heap.get? b=some o'->h'.get? b=some o')->
   h'.get? s.heap.objs.size=some {cls:=.type "list",dict:=none,data:=.seq its.toArray c',slots:=#[]}->EP X pins σ Q (.ref s.heap.objs.size) {s with heap:=h'}:=λits r' hz h' c' kp e=>
  ⟨.ref s.heap.objs.size,_,I.laid (t':=s.toks) kp (aC _) (show gQ X.prog X.w _ h' _ (.lst ys) from⟨hz,its,c',r',e⟩),rfl,q _ (I.hok.fresh (aC _))⟩
 rcases hq with hq|hq
 ·obtain⟨its,r',pl,hz⟩:=I.list hq
  have hlen:=r'.length
  obtain⟨o,ho,hc,n,hd⟩:=pl.isList
  exact call_list_seq p (.inl rfl) ho hc hd (λh' c' kp e=>fin its r' hz h' c' kp e) (by simp only[aq]<;>lia)
 ·obtain⟨its,r',pl,hz⟩:=I.tuple hq
  have hlen:=r'.length
  obtain⟨o,ho,hc,n,hd⟩:=pl
  exact call_list_seq p (.inr rfl) ho hc hd (λh' c' kp e=>fin its r' hz h' c' kp e) (by simp only[aq]<;>lia)
theorem gJ:kK X (.type "tuple") (λxs H Q=>∃p ys,xs=[.ref p]/\((bZ X.K H p ys/\∀l,H l=none->Q (.ref l) (upd H l (.tup ys)))\/(eU X.K H p ys/\Q (.ref p) H))):=by
 intro pins s σ H xs us Q I r h
 obtain⟨p,ys,rfl,h⟩:=h
 obtain⟨u,rfl,rx⟩:=su r
 cases rx
 rcases h with⟨hq,q⟩|⟨hq,q⟩
 ·obtain⟨its,r',pl,hz⟩:=I.list hq
  have hlen:=r'.length
  refine call_tuple_list pl.isList (λh' kp=>?_) (by simp only[aq]<;>lia)
  have I1:bQ X pins σ H {s with heap:=h'}:=I.kept (t':=s.toks) kp
  have I2:bQ X pins σ (upd H h'.objs.size (.tup ys)) {s with heap:=h'.push {cls:=.type "tuple",data:=.seq its.toArray}}:=
   I1.laid (t':=s.toks) (λb o e=>ak _ e) (aC _) (show gQ X.prog X.w _ _ _ (.tup ys) from⟨hz,its,r',lT.new _ _⟩)
  exact⟨.ref h'.objs.size,_,I2,rfl,q _ (I1.hok.fresh (aC _))⟩
 ·obtain⟨its,r',pl,hz⟩:=I.tuple hq
  exact call_tuple_same pl ⟨.ref p,H,I,rfl,q⟩
def MT(K:Fg)(T:String)(x:V)(H:Hp):Prop:=match x with
 |.str _=>T="str"
 |.int _=>T="int"
 |.ref p=>(T="list"/\∃xs,bZ K H p xs)\/(T="tuple"/\∃o,K.lookup p=some o/\o.cls=.type "tuple"/\o.dict=none)\/
   (T="dict"/\((∃kvs,H p=some (.dK kvs))\/∃kvs,H p=some (.dT kvs)))\/(T="set"/\∃S n,H p=some (.set S n))
 |_=>False
theorem GO{pins:List (Addr×Obj)}{σ:St}{H:Hp}{s:Shared}{T:String}{x:V}{v:Value}(I:bQ X pins σ H s)(r:cP x v)(ty:MT X.K T x H) :
  s.TypeIs v T/\∀a,v=.ref a->∃ob,s.heap.get? a=some ob/\ob.dict=none:=by
 cases x with
 |str z=>
  obtain⟨t,rfl⟩:=r
  cases(show T="str" from ty)
  exact⟨typeIs_str s z t,λ_ e=>nomatch e⟩
 |int i=>
  obtain⟨t,rfl⟩:=r
  cases(show T="int" from ty)
  exact⟨typeIs_int s i t,λ_ e=>nomatch e⟩
 |ref p=>
  cases r
  rcases ty with⟨rfl,xs,hq⟩|⟨rfl,o,hk,hc,hd⟩|⟨rfl,hk⟩|⟨rfl,S,n,hk⟩
  ·obtain⟨its,_,pl,_⟩:=I.list hq
   refine⟨pl.isList.typeIs,λa e=>?_⟩
   cases e
   obtain⟨o,n,e,c,hd,_⟩:=pl
   exact⟨o,e,hd⟩
  ·refine⟨⟨o,I.kIn p o hk,hc⟩,λa e=>?_⟩
   cases e
   exact⟨o,I.kIn _ o hk,hd⟩
  ·have z:∃o,s.heap.get? p=some o/\o.ExactDict:=by
    rcases hk with⟨kvs,hk⟩|⟨kvs,hk⟩
    ·obtain⟨_,_,_,_,o,_,_,e,ex,_⟩:=I.hok p _ hk
     exact⟨o,e,ex⟩
    ·obtain⟨_,_,_,_,o,_,_,e,ex,_⟩:=I.hok p _ hk
     exact⟨o,e,ex⟩
   obtain⟨o,e,ex⟩:=z
   refine⟨⟨o,e,ex.1⟩,λa e2=>?_⟩
   cases e2
   exact⟨o,e,ex.2.1⟩
  ·obtain⟨o,_,_,_,e,ex,_⟩:=I.hok p _ hk
   refine⟨⟨o,e,ex.1⟩,λa e2=>?_⟩
   cases e2
   exact⟨o,e,ex.2.1⟩
 |_=>exact False.elim ty
def Cd(K:Fg)(T:String)(r:V->List V->Hp->VK->Prop)(to:TE):TE:=λσ H Q=>to σ H λx H1=>MT K T x H1/\r x [] H1 Q
def C1(K:Fg)(T:String)(r:V->List V->Hp->VK->Prop)(to:TE)(t:TA):TE:=λσ H Q=>to σ H λx H1=>MT K T x H1/\t σ H1 λxs H2=>r x xs H2 Q
variable{o e:Expr}{es:List Expr}{to:TE}{t:TA}{name:Str}{apos cpos:Pos}{T id:String}{r:V->List V->Hp->VK->Prop}
theorem Kv(pa:PlainAttrs T)(slot:Slot T name id)(hty:typeOf (.builtin id)=pure (.type "method_descriptor"))(hm:Lp X id r)(ho:PE X o to)
  (hbase:attributeBase o name X.env (eval o X.env)=eval o X.env:=by rfl) (hline:(apos.endLine==cpos.line)=true:=by rfl):PE X (.Call (.Attribute o name apos) [] [] cpos) (Cd X.K T r to):=by
 intro pins s σ H Q I h
 refine wpAny_Call_method0_late hbase hline (fK (ho pins s σ H _ I h) λv s1 ⟨x,H1,I1,r1,ty,q1⟩=>?_)
 obtain⟨h1,h2⟩:=GO I1 r1 ty
 exact⟨T,id,pa,slot,hty,h1,h2,Calls.callWith_builtin rfl (kI (hm pins s1 σ H1 x [] v [] Q I1 r1 .nil q1))⟩
theorem L6(pa:PlainAttrs T)(slot:Slot T name id)(hty:typeOf (.builtin id)=pure (.type "method_descriptor"))(hm:Lp X id r)(ho:PE X o to)(ha:PA X (e::es) t)
  (hbase:attributeBase o name X.env (eval o X.env)=eval o X.env:=by rfl)
  (hfew:((backTo cpos (starEach (e::es) X.env)).all (λx=>!x.1)&&(backToKw cpos (keywordEach [] X.env)).all (λx=>x.1.isSome)
   && decide ((e::es).length+([]:List Keyword).length+(if([]:List Keyword).isEmpty then 0 else 1)<30))=true:=by rfl)
  (hline:(apos.endLine==cpos.line)=true:=by rfl) (hs:starEach (e::es) X.env=(false,eval e X.env)::starEach es X.env:=by rfl) (hplain:(backTo cpos (starEach es X.env)).any (·.1)=false:=by rfl) :
  PE X (.Call (.Attribute o name apos) (e::es) [] cpos) (C1 X.K T r to t):=by
 intro pins s σ H Q I h
 refine wpAny_Call_method_late hbase hfew hline rfl (fK (ho pins s σ H _ I h) λv s1 ⟨x,H1,I1,r1,ty,q1⟩=>?_)
 obtain⟨h1,h2⟩:=GO I1 r1 ty
 refine⟨T,id,pa,slot,hty,h1,h2,?_⟩
 have hA:=ha cpos pins s1 σ H1 _ I1 q1
 rw[hs] at hA ⊢
 refine Calls.callWith_builtin (by show(false || (backTo cpos (starEach es X.env)).any (·.1))=false;rw[hplain]<;>rfl) (Calls.evalArgs_plain ?_)
 exact fK hA λus s2 ⟨vs,H2,I2,r2,q2⟩=>hm pins s2 σ H2 x vs v us Q I2 r1 r2 q2
/- xs.append(e),list.index on a module's tuple .. are Lp facts of 06m -/
end
def MF(X:Cx)(id:String)(r:V->List V->Hp->VK->Prop):Prop:=
 ∀(pins:List (Addr×Obj)) (s:Shared) (σ:St) (H:Hp) (x:V) (xs:List V) (v:Value) (us:List Value) (Q:VK),bQ X pins σ H s->cP x v->ck xs us->r x xs H Q->
  wpAny (model X.prog X.w) X.A (call (.builtin id) (v::us)) (EP X pins σ Q) X.xe s
theorem ck.one:∀{x:V} {us:List Value},ck [x] us->∃u,us=[u]/\cP x u
 |_,_,.cons r .nil=>⟨_,rfl,r⟩
theorem ck.zero:∀{us:List Value},ck [] us->us=[]
 |_,.nil=>rfl
theorem ck.dropLast{xs:List V}{us:List Value}(h:ck xs us):ck xs.dropLast us.dropLast:=by
 induction h with
 |nil=>exact .nil
 |cons r t ih=>
  cases t with
  |nil=>exact .nil
  |cons q t'=>exact .cons r ih
theorem ck.rep{xs:List V}{us:List Value}(h:ck xs us):∀k:Nat,ck (aO k xs).flatten (aO k us).flatten
 |0=>.nil
 |k+1=>by
  rw[dr,dr,gN,gN]
  exact ck.append h (ck.rep h k)
theorem Bs{α:Type}(l:List α):l.eraseIdx (l.length-1)=l.dropLast:=by
 induction l with
 |nil=>rfl
 |cons a r ih=>
  cases r with
  |nil=>rfl
  |cons b r=>
   have e:(a::b::r).length-1=((b::r).length-1)+1:=by
    have h1:(a::b::r).length=r.length+2:=rfl
    have h2:(b::r).length=r.length+1:=rfl
    lia
   rw[e,List.eraseIdx_cons_succ,ih]
   all_goals rfl
theorem vZ(its:List Value):∀(k:Nat) (acc:List Value),
  sS (λx1 x2=>x1++x2) acc.toArray (aO k its.toArray)=(acc++(aO k its).flatten).toArray
 |0,acc=>by simp
 |k+1,acc=>by
  have e:acc.toArray++its.toArray=(acc++its).toArray:=by simp
  have e2:(acc++its)++(aO k its).flatten=acc++(aO (k+1) its).flatten:=by
   rw[dr,gN,jt]
  rw[<-e2,<-vZ its k (acc++its),<-e,dr,ny]
section
variable{X:Cx}{pins:List (Addr×Obj)}{σ:St}{H:Hp}{s:Shared}{l b:Addr}{xs ys zs:List V}
theorem bQ.lset{its its':List Value}{n:Nat}{f:Array Value->Array Value}{t':Nat}(I:bQ X pins σ H s)(hH:H l=some (.lst xs))
  (e:s.heap.get? l=some {cls:=.type "list",data:=.seq its.toArray n}) (hf:f its.toArray=its'.toArray) (hv:ck ys its') (hz:ys.length<=sizeLine) :
  bQ X pins σ (upd H l (.lst ys)) {s with heap:=s.heap.update l (Obj.mapSeq f),toks:=t'}:=by
 have q:=PySem.IsL.update e f
 rw[hf] at q
 refine I.write (x:=l) (e:=l) (by rw[hH];exact trivial) (.inl rfl) (λb' u hb hu=>(Heap.get?_update_other s.heap (Obj.mapSeq f) (Ne.symm hb)).trans hu) ⟨_,q⟩ ?_
 exact⟨hz,its',_,hv,q⟩
theorem bQ.lnew{its:List Value}{t':Nat}(I:bQ X pins σ H s)(hv:ck ys its)(hz:ys.length<=sizeLine) :
  bQ X pins σ (upd H s.heap.objs.size (.lst ys)) {s with heap:=s.heap.push {cls:=.type "list",data:=.seq its.toArray},toks:=t'}:=
 I.laid (λ_ _ q=>ak _ q) (aC _) ⟨hz,its,0,hv,aN _ rfl⟩
theorem bQ.fresh(I:bQ X pins σ H s):H s.heap.objs.size=none:=I.hok.fresh (aC _)
theorem bQ.lstM(I:bQ X pins σ H s)(hH:H l=some (.lst xs)):xs.length<=sizeLine/\∃(its:List Value) (n:Nat),ck xs its/\xs.length=its.length/\s.heap.get? l=some {cls:=.type "list",data:=.seq its.toArray n}:=by
 obtain⟨z,its,n,r,e⟩:=I.hok l _ hH
 exact⟨z,its,n,r,r.length,e⟩
end
section
variable{X:Cx}
def iA:V->List V->Hp->VK->Prop:=λx vs H Q=>∃l xs y,x=.ref l/\vs=[y]/\H l=some (.lst xs)/\xs.length<sizeLine/\Q .non (upd H l (.lst (xs++[y])))
theorem eY:MF X "list.append" iA:=by
 intro pins s σ H x vs v us Q I rx rv h
 obtain⟨l,xs,y,rfl,rfl,hH,hz,q⟩:=h
 cases rx
 obtain⟨u,rfl,ru⟩:=rv.one
 obtain⟨z,its,n,r,hl,e⟩:=I.lstM hH
 refine call_meets F.slot_list_append ⟨_,e,rfl⟩ F.entry_list_append (F.args_list_append_2 _ _) (PySem.list_append l its.toArray n u (by rw[aq];lia)) ⟨e,?_⟩
 refine⟨.non,_,I.lset (its':=its++[u]) hH e (by simp) (r.append (.cons ru .nil)) ?_,rfl,q⟩
 rw[aD,cc]
 lia
def I0:V->List V->Hp->VK->Prop:=λx vs H Q=>∃l xs y,x=.ref l/\vs=[]/\H l=some (.lst xs)/\xs[xs.length-1]?=some y/\Q y (upd H l (.lst xs.dropLast))
theorem BM:MF X "list.pop" I0:=by
 intro pins s σ H x vs v us Q I rx rv h
 obtain⟨l,xs,y,rfl,rfl,hH,hy,q⟩:=h
 cases rx
 have hus:=rv.zero
 subst hus
 obtain⟨z,its,n,r,hl,e⟩:=I.lstM hH
 obtain⟨u,hu,ru⟩:=r.get hy
 have hy':its.toArray[its.toArray.size-1]?=some u:=by
  show its.toArray[its.length-1]?=some u
  rw[<-Array.getElem?_toList,<-hl]
  exact hu
 refine call_meets F.slot_list_pop ⟨_,e,rfl⟩ F.entry_list_pop (F.args_list_pop_1 _) (MeetsSeq.list_pop_last l its.toArray n u hy' (by rw[aq];lia)) ⟨e,?_⟩
 refine⟨y,_,I.lset (its':=its.dropLast) hH e ?_ r.dropLast ?_,ru,q⟩
 ·show its.toArray.eraseIdxIfInBounds (its.toArray.size-1)=its.dropLast.toArray
  rw[aq,List.eraseIdxIfInBounds_toArray,Bs]
 ·rw[List.length_dropLast]
  lia
def BW:V->List V->Hp->VK->Prop:=λx vs H Q=>∃l xs,x=.ref l/\vs=[]/\H l=some (.lst xs)/\Q .non (upd H l (.lst []))
theorem zu:MF X "list.clear" BW:=by
 intro pins s σ H x vs v us Q I rx rv h
 obtain⟨l,xs,rfl,rfl,hH,q⟩:=h
 cases rx
 have hus:=rv.zero
 subst hus
 obtain⟨z,its,n,r,hl,e⟩:=I.lstM hH
 refine call_meets F.slot_list_clear ⟨_,e,rfl⟩ F.entry_list_clear (F.args_list_clear_1 _) (AutoSeq1.list_clear_list_0 l its.toArray n (by rw[aq];lia)) ⟨e,?_⟩
 exact⟨.non,_,I.lset (its':=[]) (ys:=[]) hH e rfl .nil (cA _),rfl,q⟩
def Md:R2:=λx y H Q=>∃l b xs zs,x=.ref l/\y=.ref b/\H l=some (.lst xs)/\H b=some (.lst zs)/\xs.length+zs.length<=sizeLine/\∀p,H p=none->Q (.ref p) (upd H p (.lst (xs++zs)))
theorem Kj:lh X (binaryOp .Add) Md:=by
 intro pins s σ H x y v u Q I rx ry h
 obtain⟨l,b,xs,zs,rfl,rfl,hH,hB,hz,q⟩:=h
 cases rx
 cases ry
 obtain⟨z,its,n,r,hl,e⟩:=I.lstM hH
 obtain⟨z2,its2,n2,r2,hl2,e2⟩:=I.lstM hB
 refine PySem.P.add_list e e2 ?_ (by rw[aq,aq];lia)
 have ea:its.toArray++its2.toArray=(its++its2).toArray:=by simp
 rw[ea]
 exact⟨.ref _,_,I.lnew (t':=s.toks) (r.append r2) (by rw[aD];lia),rfl,q _ I.fresh⟩
theorem HJ{α:Type}(xs:List α)(k:Nat):(aO k xs).flatten.length=k*xs.length:=by
 induction k with
 |zero=>simp
 |succ k ih=>rw[dr,gN,aD,ih,Nat.succ_mul,Nat.add_comm]
end
section
variable{prog:Program}{w:World}{A:Around}{E:Value->Shared->Prop}{s:Shared}
set_option maxRecDepth 100000 in
end
section
variable{X:Cx}
end
end L2
namespace Att
open PySem PySem.W PySem.Calls PyProof.Rows
theorem sy{P:Params}{h:Heap}:∀(ns:List Int) (vs:List Value),WellAll P h vs (ns.map WData.int)->IntsAre vs ns:=by
 intro ns
 induction ns with
 |nil=>
  intro vs w
  rw[dS] at w
  cases w
  exact .nil
 |cons n ns ih=>
  intro vs w
  rw[bJ] at w
  cases w with
  |cons a b=>
   cases a
   exact .cons _ _ (ih _ b)
theorem Eb{l:OpenLaw}{n:Nat}(hn:l.most=some n){P:Params}{h:Heap}{args:List WData}{vals:List Value}
  (hpre:l.row.toRowW.claim.pre args=true) (hwl:WellAll P h vals args) :
  ∃a vs ns,vals=[Value.ref a]/\args=[WData.list (ns.map WData.int)]/\h.get? a=some {cls:=.type "list",data:=.seq vs.toArray}/\IntsAre vs ns/\ns.length<=n:=by
 have hsh:WShape.hasAll [] args [.list .int]=true:=(pre_splitW hpre).1
 have hc:l.pre.holds [] {args:=args}=true:=(pre_splitW hpre).2
 obtain⟨d,r,rfl,h1,h2⟩:=hasAllW_cons hsh
 obtain rfl:=hasAllW_nil h2
 obtain⟨xs,rfl,h3⟩:=hasW_list h1
 obtain⟨ns,rfl⟩:=items_int h3
 have hlen:ns.length<=n:=by
  unfold OpenLaw.pre at hc
  have h4:(WTm.not (.lt (.lit (.int (n:Int))) (.len (.arg 0)))).holds [] {args:=[.list (ns.map .int)]}=true:=by
   have h4:=(holds_andW hc).1
   rw[hn] at h4
   exact h4
  have h5:=condW_of h4 (w_not (w_lt w_lit (w_len_list (w_arg rfl))))
  rw[ai] at h5
  refine Nat.le_of_not_lt λq=>?_
  have q':(n:Int)<((ns.length:Nat):Int):=by lia
  first
   |(rw[decide_eq_true q'] at h5;exact absurd h5 (by decide))
   |(simp at h5;lia)
 cases hwl with
 |cons w1 w2=>
  cases w2
  cases w1 with
  |list ho hall=>exact⟨_,_,ns,rfl,rfl,ho,sy ns _ hall,hlen⟩
theorem D1(l:OpenLaw)(args:List WData):l.row.toRowW.claim.post args (.bool true) args=true:=
 postW_of (r:=l.row.toRowW) (X:=(true==true))
  (show WShape.has [] (.bool true) .bool=true by first|rfl|decide|simp[WShape.has,WShape.arms,WShape.armsAll])
  (show(WTm.eq .res (.lit (.bool true))).value [] {args:=args,res:=some (.bool true),after:=args}=some (.bool (true==true)) from w_eq_bool (w_res rfl) w_lit) rfl
theorem attach_call{l:OpenLaw}{n:Nat}{q:Program}{loose:List Str}{XP:(Str->Option Value)->Heap->Prop}{YP:World->Heap->Prop}{d:DefRec}
  (hn:l.most=some n) (hdf:d.params.defaults=[])
  (call:∀(w:World) (s₀ s₁:Shared) (mg mb:Str->Option Value) (fa:Addr) (o:Obj) (pm cd doc:Value) (a:Addr) (vs:List Value) (ns:List Int),
   Ground q loose [] XP w s₀ mg mb s₁.heap->YP w s₁.heap->
   s₁.heap.get? fa=some o->o.data=.func (docDef d.name d.params d.body d.scope pm cd doc)->s₁.heap.CodeRec cd d.name->mg d.name=some (.ref fa)->
   s₁.heap.get? a=some {cls:=.type "list",data:=.seq vs.toArray}->IntsAre vs ns->ns.length<=n->s₁.gens=#[]->
   codeAny (model l.prog w) callerA (.call (.ref fa) ⟨[.ref a],[]⟩) (λr s'=>r=.ok (.ret (.bool true))/\OldK s₁.heap s'.heap/\s'.os=s₁.os/\AllBare s'.gens) s₁) :
  WalkO q loose XP YP l.row.toRowW d [] (λf vs=>sT f vs):=by
 intro w s₀ s₁ mg mb G Y fa o pm cd doc dV kV ho hd hcd hD hmg hg args vals as hpre hlay hrd hwl hlo
 obtain rfl:dV=.none:=Dflts.none hD hdf
 obtain rfl:kV=.none:=Dflts.noKw hD
 obtain⟨a,vs,ns,rfl,rfl,hobj,hints,hlen⟩:=Eb hn hpre hwl
 refine enter_call (codeAny_mono (call w s₀ s₁ mg mb fa o pm cd doc a vs ns G Y ho (fd_plain hd) hcd hmg hobj hints hlen hg) λr s' hq=>?_)
 obtain⟨rfl,h2,h3,h4⟩:=hq
 exact⟨.inl ⟨.bool true,.bool true,[],rfl,λ_=>rfl,.bool true,D1 l _,λ_=>⟨List.Pairwise.nil,λ_ hm=>(nomatch hm)⟩⟩,h2,h3,h4⟩
section
variable{prog:Program}{w:World}{A:Around}{E:Value->Shared->Prop}{s:Shared}{K:Frag}
end
end Att
namespace L2
open PySem PySem.Spec PyProof.Rows
theorem w5:∀{vs:List Value} {ns:List Int},IntsAre vs ns->ck (ns.map V.int) vs
 |_,_,.nil=>.nil
 |_,_,.cons n t h=>.cons ⟨t,rfl⟩ (w5 h)
def G6(H:Hp):Prop:=∀b,H b=none\/∃o xs,H b=some (.frz o (.lst xs))
theorem Fs{P:Program}{w:World}{K:Fg}{mg mb:Str->Option Value}{CX:EA}{k:Nat}{fa a:Addr}{fd:FuncData}{x:Str}{sp:Sp}{s₁:Shared}{vs:List Value}{ns:List Int}
  (KX:K.In s₁.heap) (hns:s₁.heap.Ns mainGlobals mg) (hb:s₁.heap.Ns builtinsNs mb) (hbb:∀x:Str,x≠"__name__"->mb x=bootBuiltins x) (hlim:s₁.heap.NoLimit) (hg:s₁.gens=#[])
  (ha:s₁.heap.get? a=some {cls:=.type "list",data:=.seq vs.toArray}) (hi:IntsAre vs ns) (hl:ns.length<=sizeLine) (hr:cD k callerA)
  (F:∀base:Heap,K.In base->base.Ns mainGlobals mg->dt P w K mg base CX k fa fd [x] sp) (hbind:∀(s:Shared) (u:Value),BindsTo s fd ⟨[u],[]⟩ [(x,u)])
  (hsp:∀H:Hp,G6 H->bZ K H a (ns.map V.int)->sp [.ref a] H (λv _=>v=.bl true) λ_ _ _=>False)
  (hCX:∀H e s',CX [] H s₁ (λ_ _ _=>False) e s'->False) :
  codeAny (model P w) callerA (.call (.ref fa) ⟨[.ref a],[]⟩) (λr s'=>r=.ok (.ret (.bool true))/\OldK s₁.heap s'.heap/\s'.os=s₁.os/\AllBare s'.gens) s₁:=by
 have rv:=w5 hi
 have lenV:=hi.length
 have core:∀H:Hp,G6 H->bZ K H a (ns.map V.int)->qd P w H s₁.heap->(∀b,H b≠none->b=a)->(H a≠none->K.lookup a=none)->
   codeAny (model P w) callerA (.call (.ref fa) ⟨[.ref a],[]⟩) (λr s'=>r=.ok (.ret (.bool true))/\OldK s₁.heap s'.heap/\s'.os=s₁.os/\AllBare s'.gens) s₁:=by
  intro H hO hS hok hA hK
  have base_of:∀{b:Addr} {o:Obj},s₁.heap.get? b=some o->H b=none->(xN s₁.heap H).get? b=some o:=λe n=>E8 e n
  have noA:∀{b:Addr} {o:Obj} {es:Array DictEntry} {ep:Nat},s₁.heap.get? b=some o->o.data=.dict es ep->H b=none:=λ{b o es ep} e d=>by
   cases q:H b with
   |none=>rfl
   |some u=>
    have e':b=a:=hA b (by rw[q];simp)
    subst e'
    rw[ha] at e;cases e
    have d':Data.seq vs.toArray _=Data.dict es ep:=d
    cases d'
  have nsK:∀{b:Addr} {m:Str->Option Value},s₁.heap.Ns b m->(xN s₁.heap H).Ns b m:=λ{b m} ⟨o,es,ep,e,d,r⟩=>⟨o,es,ep,base_of e (noA e d),d,r⟩
  have hKb:K.In (xN s₁.heap H):=λb o e=>base_of (KX b o e) (by
   cases q:H b with
   |none=>rfl
   |some u=>
    have e':b=a:=hA b (by rw[q];simp)
    subst e'
    rw[hK (by rw[q];simp)] at e;cases e)
  have hM:Mod K mg (xN s₁.heap H):=⟨hKb,nsK hns,⟨mb,nsK hb,hbb⟩,let⟨mc,h1,h2⟩:=hlim;⟨mc,nsK h1,h2⟩⟩
  have e0:Bc P w K mg (xN s₁.heap H) callerA [] s₁ H:=⟨rfl,hM,λb o e=>HQ e,Nat.le_of_eq (DA _ _),trivial,λb hb=>absurd (show b∈([]:List Addr) from hb) (by simp),hok,.of_eq hg⟩
  refine codeAny_mono ((F _ hKb (nsK hns)).run callerA [] s₁ H ⟨[.ref a],[]⟩ [.ref a] [.ref a] _ _ hr e0 (hbind s₁ (.ref a)) (.cons rfl .nil) (hsp H hO hS)) λr s' h=>?_
  cases r with
  |error e=>exact(hCX H e s' h).elim
  |ok fl=>
   cases fl with
   |next=>exact False.elim h
   |brk=>exact False.elim h
   |cont=>exact False.elim h
   |ret u=>
    obtain⟨v,H',os,bare,un,hok',r',q⟩:=h
    have q':v=.bl true:=q
    subst q'
    obtain rfl:u=Value.bool true:=r'
    refine⟨rfl,OldK.of_keep λb o e=>?_,os,bare⟩
    cases q:H b with
    |none=>exact un.keep b o e q (by intro z;exact absurd (show b∈([]:List Addr) from z) (by simp)) (by simp)
    |some u=>
     rcases hO b with z|⟨ob,xs,z⟩
     ·rw[q] at z;cases z
     ·have z2:=un.frzs b ob _ z
      obtain⟨e1,_⟩:=hok b _ z
      obtain⟨e2,_⟩:=hok' b _ z2
      rw[e] at e1;cases e1
      exact e2
 cases hk:K.lookup a with
 |some o=>
  have e:=KX a o hk
  rw[ha] at e
  cases e
  refine core (λ_=>none) (λ_=>.inl rfl) (.inr ⟨_,vs.toArray,_,hk,rfl,rfl,rfl,by rw[aq,lenV];exact hl,by simpa using rv⟩) (λb u z=>by have z':(none:Option HO)=some u:=z;cases z') (λb z=>absurd rfl z) λz=>absurd rfl z
 |none=>
  refine core (λb=>if b=a then some (.frz {cls:=.type "list",data:=.seq vs.toArray} (.lst (ns.map V.int))) else none) (λb=>?_) (.inl (.inr ⟨{cls:=.type "list",data:=.seq vs.toArray},if_pos rfl⟩)) (λb u z=>?_) (λb z=>?_) λ_=>hk
  ·by_cases hb:b=a
   ·exact .inr ⟨_,_,if_pos hb⟩
   ·exact .inl (if_neg hb)
  ·by_cases hb:b=a
   ·have z':=(if_pos hb).symm.trans z
    cases z'
    subst hb
    exact⟨ha,by rw[ai];exact hl,vs,_,rv,ha⟩
   ·have z':=(if_neg hb).symm.trans z
    cases z'
  ·by_cases hb:b=a
   ·exact hb
   ·exact absurd (if_neg hb) z
theorem walk_of{l:PySem.W.OpenLaw}{n k:Nat}{q:Program}{loose:List Str}{XP:(Str->Option Value)->Heap->Prop}{YP:World->Heap->Prop}{d:DefRec}{K:Params->Fg}{CX:World->EA}{sp:World->Sp}{x:Str}
  (hn:l.most=some n) (hn2:n<=sizeLine) (hdf:d.params.defaults=[]) (hr:cD k callerA)
  (hY:∀(w:World) (h:Heap),YP w h->(K w.params).In h)
  (F:∀(w:World) (mg:Str->Option Value) (fa:Addr) (h:Heap),(K w.params).In h->h.Ns mainGlobals mg->mg d.name=some (.ref fa)->
   ∃fd:FuncData,(∀(s:Shared) (u:Value),BindsTo s fd ⟨[u],[]⟩ [(x,u)])/\
    ∀base:Heap,(K w.params).In base->base.Ns mainGlobals mg->dt l.prog w (K w.params) mg base (CX w) k fa fd [x] (sp w))
  (hsp:∀(w:World) (H:Hp) (a:Addr) (ns:List Int),ns.length<=n->G6 H->bZ (K w.params) H a (ns.map V.int)->sp w [.ref a] H (λv _=>v=.bl true) λ_ _ _=>False)
  (hCX:∀(w:World) (H:Hp) (s:Shared) (e:Value) (s':Shared),CX w [] H s (λ_ _ _=>False) e s'->False) :
  PySem.W.WalkO q loose XP YP l.row.toRowW d [] (λf vs=>sT f vs):=by
 refine Att.attach_call hn hdf λw s₀ s₁ mg mb fa o pm cd doc a vs ns G Y ho hd hcd hmg hobj hints hlen hg=>?_
 have KX:=hY w _ Y
 obtain⟨fd,hb,hF⟩:=F w mg fa _ KX G.T.g hmg
 exact Fs KX G.T.g G.T.b G.T.builtins G.T.nolimit hg hobj hints (bC hlen hn2) hr hF hb (λH hO hS=>hsp w H a ns hlen hO hS) λH e s'=>hCX w H s₁ e s'
end L2
/- THE LAST THEOREM (shape;LID,My.* are yours):
  My.Adr: a structure of the addresses that your layer names (classes,functions);My.Txt K t: a structure (Prop) of the equations over K;
  My.txt_mk:{K} {implicit addresses ..} (e1:nsIn K mainGlobals "law"=some (some (.ref f))) (e2:K.lookup f=some ⟨oc,od,.func (fnOf "law" "law" params body scope dV kV doc pm an cdv ct),sl⟩) (e3:codeIn K cdv "law"=true) ..:∃t,My.Txt K t
set_option maxRecDepth 100000 in
set_option maxHeartbeats 0 in
theorem PySem.Challenge.cw_LID_holds : PySem.Challenge.rw_LID.Holds := by
 w_on;o_law;k_head;(case hw=>w_witness2)
 k_fill
 refine L2.walk_of (l:=PySem.Challenge.rw_LID) (n:=63) (k:=40) (x:="script") (CX:=λw=>..) (sp:=λ_=>My.sp_law) rfl (by decide) rfl ⟨rfl,by decide,by decide⟩ (λw h Y=>PySem.W.kIn_of Y) ?F ?S ?C
 case F=>
  intro w mg fa h KX G hmg
  have T:∃t,My.Txt (L2.KOf KX) t:=by
   dsimp only[L2.KOf] -- K must stand as «<heap const> w.params» for k_is
   refine' My.txt_mk ?e1 ?e2 ?e3 ..
   (case e1=>PySem.W.k_is) -- in the order: a name -> its address -> its object -> its parts
   (case e2=>PySem.W.k_is)
   ..
  obtain⟨t,T⟩:=T
  have e0:=hmg.symm.trans (aV KX G T.law)
  cases e0 -- fa is the law's own address
  exact⟨_,λs u=>.of_eq rfl,λbase kb nb=>My.law_fn T kb nb⟩ -- if «.of_eq rfl» comes too early: refine' ⟨_,?b,λbase kb nb=>My.law_fn T kb nb⟩;exact λs u=>.of_eq rfl
 case S=>exact λw H a ns hl hO hS=>..
 case C=>exact ..
(the tactic k_is has no namespace: write k_is) -/
namespace L2
open PySem PySem.Spec PyProof.Rows
def bB(s:Stmt):Arguments:=match s with
 |.FunctionDef _ a _ _ _ _ _ _ _ _=>a
 |_=>{posonlyargs:=[],args:=[],vararg:=none,kwonlyargs:=[],kw_defaults:=[],kwarg:=none,defaults:=[]}
def aL(s:Stmt):List Stmt:=match s with
 |.FunctionDef _ _ b _ _ _ _ _ _ _=>b
 |_=>[]
def ag(s:Stmt):Scope:=match s with
 |.FunctionDef _ _ _ _ _ _ sc _ _ _=>sc
 |_=>{kind:=.function,names:=[],isGenerator:=false,isCoroutine:=false}
abbrev eT:EA:=λ_ _ _ _ _ _=>False
abbrev E0:XK:=λ_ _ _=>False
theorem wb{X:Cx}:pS eT X E0:=λ_ _ _ _ _ _ _ h=>h.elim
structure lF(K:Fg)(x qual:Str)(st:Stmt)(f:Addr)(fd:FuncData):Prop where
 ex:∃(oc:Value) (od:Option Addr) (kV doc pm:Value) (an:Option Addr) (cdv ct:Value) (osl:Array (Option Value)),
  fd=aI x qual (bB st) (aL st) (ag st) .none kV doc pm an cdv ct/\K.lookup f=some ⟨oc,od,.func fd,osl⟩/\aE K cdv qual=true
 kp:aA K (.ref f)=true
section
variable{P:Program}{w:World}{K:Fg}{mg:Str->Option Value}{base:Heap}
theorem lF.ok{x qual:Str}{st:Stmt}{f:Addr}{fd:FuncData}{N ps:List Str}{k:Nat}{sp:Sp}(F:lF K x qual st f fd)(S:bM N ps (ag st))(len:∀vs H Q E,sp vs H Q E->vs.length=ps.length)
  (hbody:∀(cdv:Value) (A:Around) (outer:List Env) (s:Shared) (H:Hp) (vs:List V) (Q:VK) (E:XK),cD k (A.deeper (envOfC qual (ag st) s.heap.objs.size f cdv))->sp vs H Q E->
   ∃t,jV (eO eT P w K mg base N qual (ag st) f cdv A outer s H E).nox (aL st) t/\t {nx:=λ_ H'=>Q .non H',rt:=Q} (cN N vs) H):dt P w K mg base eT (k+1) f fd ps sp:=by
 obtain⟨oc,od,kV,doc,pm,an,cdv,ct,osl,rfl,lk,hcd⟩:=F.ex
 refine Jy lk hcd S len λA outer s H vs Q E hr hsp=>?_
 obtain⟨t,h,q⟩:=hbody cdv A outer s H vs Q E hr hsp
 exact⟨t,h.nox,q⟩
theorem lF.binds{x qual:Str}{st:Stmt}{f:Addr}{fd:FuncData}{ps:List Str}(F:lF K x qual st f fd)
  (h:∀(kV doc pm:Value) (an:Option Addr) (cdv ct:Value) (us:List Value),us.length=ps.length->bindArgs (aI x qual (bB st) (aL st) (ag st) .none kV doc pm an cdv ct) ⟨us,[]⟩=pure (ps.zip us)):kJ K fd ps []:=by
 obtain⟨oc,od,kV,doc,pm,an,cdv,ct,osl,rfl,lk,hcd⟩:=F.ex
 exact .all (h kV doc pm an cdv ct)
theorem cE{x qual:Str}{st:Stmt}{f:Addr}{oc:Value}{od an:Option Addr}{osl:Array (Option Value)}{kV doc pm cdv ct:Value}(l:K.lookup f=some ⟨oc,od,.func (aI x qual (bB st) (aL st) (ag st) .none kV doc pm an cdv ct),osl⟩)
  (c:aE K cdv qual=true) (k:aA K (.ref f)=true):lF K x qual st f (aI x qual (bB st) (aL st) (ag st) .none kV doc pm an cdv ct):=⟨⟨oc,od,kV,doc,pm,an,cdv,ct,osl,rfl,l,c⟩,k⟩
end
theorem de{A:Around}{k:Nat}(hr:cD k A):A.units+1<cLine:=iX (kG (by decide:1<=64) _) hr.units
section
variable{X:Cx}
theorem pv(i:Nat){x:Str}{pos:Pos}(hN:X.N[i]?=some x:=by rfl)(hv:LM X.env.scope x:=by first|exact Or.inl rfl|exact Or.inr (Or.inl rfl)|exact Or.inr (Or.inr rfl))(hd:(x==("__debug__":Str))=false:=by decide)
  (hcd:(x==("__classdict__":Str))=false:=by decide):PE X (.Name x pos) (ah i):=KF hN hv hd hcd
end
theorem jX{A B:Prop}(h:B):if false=true then A else B:=by
 rw[if_neg Bool.false_ne_true]
 exact h
theorem za{A B:Prop}(h:A):if true=true then A else B:=by
 rw[if_pos rfl]
 exact h
def aS(H H':Hp):Prop:=∀b o,H b=some o->H' b=some o
theorem aS.refl(H:Hp):aS H H:=λ_ _ h=>h
theorem aS.trans{H H1 H2:Hp}(a:aS H H1)(b:aS H1 H2):aS H H2:=λc o h=>b c o (a c o h)
section
variable{prog:Program}{w:World}{A:Around}{R:Result->Shared->Prop}{s:Shared}
theorem xD{elt target iter:Expr}{ifs:List Expr}{scope:Scope}{pos:Pos}{it acc:Value}{env:Env}(I:Nat->Shared->Prop)
  (turn:∀n s,I n s->wpAny (model prog w) A (pyNext it) (λr s₁=>match r with
   |none=>R (.ok .next) s₁
   |some v=>wpAny (model prog w) A (letOwnedTupleGo target it v) (λ_ s₁=>wpAny (model prog w) A (assign target env v) (λ_ s₂=>
     wpAny (model prog w) A (forIn ifs true λc r=>if r=true then do let ok <-isTrue c env (eval c env);pure (ForInStep.yield ok) else pure (ForInStep.yield r)) (λok s₃=>
      if ok=true then wpAny (model prog w) A (eval elt env) (λx s₄=>
       wpAny (model prog w) A (call (.builtin "list.append") [acc,x]) (λ_ s₅=>∃m,m<n/\I m s₅) (λ_ _=>False) s₄) (λ_ _=>False) s₃
      else ∃m,m<n/\I m s₃) (λ_ _=>False) s₂) (λ_ _=>False) s₁) (λ_ _=>False) s₁) (λ_ _=>False) s)
  (n:Nat) (h:I n s) :
  codeAny (model prog w) A (.compLoop (.ListComp elt [⟨target,iter,ifs,0⟩] scope pos) 0 it acc env) R s:=by
 refine codeAny_loop rfl I (λn s hI=>?_) n h
 show wpAny _ A ((compTurn (.ListComp elt [⟨target,iter,ifs,0⟩] scope pos) 0 it acc env).onRaise (λx=>do noteFrame x env;theTreesLotGoes x)) _ _ s
 refine wpAny_noted ?_
 rw[compTurn_list]
 refine wpAny_bind (wpAny_standAt (wpAny_bind (wpAny_mono (turn n s hI) (λr s₁ h₁=>?_) λ_ _ h'=>h'.elim)))
 cases r with
 |none=>exact wpAny_pure h₁
 |some v=>
  refine wpAny_bind (wpAny_mono h₁ (λ_ s₁' h₁'=>?_) λ_ _ h'=>h'.elim)
  refine wpAny_bind (wpAny_mono h₁' (λ_ s₂ h₂=>wpAny_bind (wpAny_mono h₂ (λok s₃ h₃=>?_) λ_ _ h'=>h'.elim)) λ_ _ h'=>h'.elim)
  cases ok with
  |false=>exact wpAny_pure ⟨rfl,h₃⟩
  |true=>
   exact wpAny_bind (wpAny_bind (wpAny_mono h₃ (λx s₄ h₄=>wpAny_bind (wpAny_mono h₄ (λ_ s₅ h₅=>wpAny_pure (wpAny_pure ⟨rfl,h₅⟩)) λ_ _ h'=>h'.elim)) λ_ _ h'=>h'.elim))
end
theorem pV{env:Env}{f:Str×NameKind->List (Str×Addr)->Sem (ForInStep (List (Str×Addr)))}
  (hf:∀n k cs,f (n,k) cs=if(k==NameKind.free)=true then(do let c <-cellOf env n;pure (.yield ((n,c)::cs))) else pure (.yield cs)) :
  ∀(names:List (Str×NameKind)) (cs:List (Str×Addr)),(∀x∈names,x.2=NameKind.free->∃c,env.cells.lookup x.1=some c)->(∀n c,cs.lookup n=some c->env.cells.lookup n=some c)->
   ∃cl,(forIn names cs f:Sem (List (Str×Addr)))=pure cl/\(∀n c,cl.lookup n=some c->env.cells.lookup n=some c)/\(∀n,(cs.lookup n).isSome=true->(cl.lookup n).isSome=true)/\∀x∈names,x.2=NameKind.free->(cl.lookup x.1).isSome=true
 |[],cs,_,h2=>⟨cs,rfl,h2,λ_ h=>h,λ_ h=>nomatch h⟩
 |(n,k)::r,cs,h1,h2=>by
  have h1r:∀x∈r,x.2=NameKind.free->∃c,env.cells.lookup x.1=some c:=λx hx=>h1 x (bU _ hx)
  rw[eW,hf]
  by_cases hk:k=NameKind.free
  ·subst hk
   obtain⟨c,hc⟩:=h1 (n,NameKind.free) ay rfl
   have h2':∀m d,((n,c)::cs).lookup m=some d->env.cells.lookup m=some d:=λm d hd=>by
    rw[eG] at hd
    cases e:(m==n) with
    |true=>
     rw[e] at hd
     have:m=n:=by simpa using e
     rw[this];cases hd;exact hc
    |false=>rw[e] at hd;exact h2 m d hd
   obtain⟨cl,e1,e2,e3,e4⟩:=pV hf r ((n,c)::cs) h1r h2'
   refine⟨cl,?_,e2,λm hm=>e3 m ?_,λx hx hk=>?_⟩
   ·rw[<-e1]
    have ec:cellOf env n=pure c:=by unfold cellOf;rw[hc]
    rw[ec]
    rfl
   ·rw[eG]
    cases e:(m==n) with
    |true=>rfl
    |false=>exact hm
   ·rcases bp.mp hx with rfl|hx
    ·exact e3 n (by rw[eG,beq_self_eq_true];rfl)
    ·exact e4 x hx hk
  ·have hb:(k==NameKind.free)=false:=by simpa using hk
   obtain⟨cl,e1,e2,e3,e4⟩:=pV hf r cs h1r h2
   refine⟨cl,?_,e2,e3,λx hx hk'=>?_⟩
   ·rw[<-e1,hb]
    rfl
   ·rcases bp.mp hx with rfl|hx
    ·exact absurd hk' hk
    ·exact e4 x hx hk'
theorem tG{scope:Scope}{env:Env}(h1:∀x∈scope.names,x.2=NameKind.free->∃c,env.cells.lookup x.1=some c) :
  ∃cl,closureFor scope env=pure cl/\(∀n c,cl.lookup n=some c->env.cells.lookup n=some c)/\∀x∈scope.names,x.2=NameKind.free->(cl.lookup x.1).isSome=true:=by
 obtain⟨cl,e1,e2,_,e4⟩:=pV (env:=env) (f:=λ(x:Str×NameKind) cs=>if(x.2==NameKind.free)=true then(do let c <-cellOf env x.1;pure (.yield ((x.1,c)::cs))) else pure (.yield cs)) (λ_ _ _=>rfl) scope.names [] h1 (λ_ _ h=>nomatch h)
 refine⟨cl,Eq.trans (show closureFor scope env=((forIn scope.names ([]:List (Str×Addr)) λ(x:Str×NameKind) cs=>if(x.2==NameKind.free)=true then(do let c <-cellOf env x.1;pure (.yield ((x.1,c)::cs))) else pure (.yield cs)) >>= λcs=>pure cs) from rfl) ?_,e2,e4⟩
 rw[e1]
 all_goals rfl
theorem jA{env:Env}{x:Str}:∀(names:List (Str×NameKind)),
  (names.map λ(n,k)=>if(k==NameKind.free&&env.scope.kind==.function&&env.kindOf n==some .cell) then(n,NameKind.cell) else(n,k)).lookup x =
   (names.lookup x).map λk=>if(k==NameKind.free&&env.scope.kind==.function&&env.kindOf x==some .cell) then NameKind.cell else k
 |[]=>rfl
 |(n,k)::r=>by
  have ih:=jA (env:=env) (x:=x) r
  show gU x ((if(k==NameKind.free&&env.scope.kind==.function&&env.kindOf n==some .cell)=true then(n,NameKind.cell) else(n,k))::_)=_
  cases hx:x==n with
  |true=>
   have e:x=n:=by simpa using hx
   subst e
   by_cases hc:(k==NameKind.free&&env.scope.kind==.function&&env.kindOf x==some .cell)=true
   ·rw[if_pos hc];simp only[eG,hx,bY,if_pos hc]
   ·rw[if_neg hc];simp only[eG,hx,bY,if_neg hc]
  |false=>
   by_cases hc:(k==NameKind.free&&env.scope.kind==.function&&env.kindOf n==some .cell)=true
   ·rw[if_pos hc];simp only[eG,hx];exact ih
   ·rw[if_neg hc];simp only[eG,hx];exact ih
theorem Gi{scope:Scope}{env:Env}{x:Str}(hcell:∀y∈scope.names,y.2≠NameKind.cell)(h:(relabel scope env).names.lookup x=some .cell\/(relabel scope env).names.lookup x=some .free):scope.names.lookup x=some .free:=by
 have e:(relabel scope env).names.lookup x=_:=jA (env:=env) (x:=x) scope.names
 rw[e] at h
 cases q:scope.names.lookup x with
 |none=>rw[q] at h;rcases h with h|h<;>cases h
 |some k=>
  rw[q] at h
  by_cases hk:k=NameKind.free
  ·rw[hk]
  ·have hb:(k==NameKind.free)=false:=by simpa using hk
   simp only[bY,hb,Bool.false_and,Bool.false_eq_true,if_false] at h
   rcases h with h|h
   ·cases h;exact absurd rfl (hcell _ (cL q))
   ·exact h
theorem Jg{scope:Scope}{env:Env}{x:Str}(h:(relabel scope env).names.lookup x≠none):scope.names.lookup x≠none:=by
 have e:(relabel scope env).names.lookup x=_:=jA (env:=env) (x:=x) scope.names
 intro q
 rw[e,q] at h
 exact h rfl
structure sV(sc:Scope)(N:List Str)(scope:Scope)(NY:List Str)(js:List Nat):Prop where
 kind:scope.kind=.function
 cell:∀y∈scope.names,y.2≠NameKind.cell
 names:∀x∈scope.names,x.2=NameKind.local->scope.names.lookup x.1=some .local
 free:∀x∈scope.names,x.2=NameKind.free->sc.names.lookup x.1=some .cell\/sc.names.lookup x.1=some .free
 pre:NY.take N.length=N
 cap:∀p∈N.zipIdx,js.contains p.2=true\/scope.names.lookup p.1=none\/scope.names.lookup p.1=some .free
def CH(js:List Nat)(k:Nat)(σ:St):St:=js.foldl (λs j=>s.set j none) σ++aO k none
theorem oO:∀(js:List Nat) (σ:St),(js.foldl (λs j=>s.set j none) σ).length=σ.length
 |[],_=>rfl
 |j::r,σ=>by rw[ny,oO r,eX]
theorem vY:∀(js:List Nat) (σ:St) (i:Nat) (v:V),(js.foldl (λs j=>s.set j none) σ)[i]?=some (some v)->σ[i]?=some (some v)/\js.contains i=false
 |[],σ,i,v,h=>⟨h,rfl⟩
 |j::r,σ,i,v,h=>by
  rw[ny] at h
  obtain⟨h1,h2⟩:=vY r _ i v h
  by_cases e:j=i
  ·subst e
   by_cases hj:j<σ.length
   ·rw[bx hj] at h1;cases h1
   ·rw[List.getElem?_eq_none (by rw[eX];lia)] at h1;cases h1
  ·rw[bT e] at h1
   refine⟨h1,?_⟩
   rw[List.contains_cons,h2]
   have:(i==j)=false:=by simpa using λz=>e z.symm
   rw[this];rfl
theorem Ho{js:List Nat}{k:Nat}{σ:St}{i:Nat}{v:V}(h:(CH js k σ)[i]?=some (some v)):σ[i]?=some (some v)/\js.contains i=false:=by
 unfold CH at h
 by_cases hi:i<σ.length
 ·rw[bz (by rw[oO];exact hi)] at h
  exact vY js σ i v h
 ·rw[bj (by rw[oO];lia),List.getElem?_replicate] at h
  split at h<;>cases h
theorem Hq{js:List Nat}{k:Nat}{σ:St}:(CH js k σ).length=σ.length+k:=by
 unfold CH
 rw[aD,oO,cb]
def dZ(X:Cx)(NY:List Str)(scope:Scope)(cl:List (Str×Addr))(C:Addr)(s₀:Shared)(H₀:Hp)(fp:List Addr):Cx:=
 {X with N:=NY,s₀:=s₀,H₀:=H₀,env:=compEnvC scope cl C X.env,outer:=X.stack,ex:=fp,fn:=λ_=>false,pn:=[],xe:=λ_ _=>False}
def Dj(X:Cx)(ifs:List Expr)(t:TT):Prop:=
 ∀(pins:List (Addr×Obj)) (s:Shared) (σ:St) (H:Hp) (Q:Bool->Hp->Prop),bQ X pins σ H s->t σ H Q->
  wpAny (model X.prog X.w) X.A (forIn ifs true λc r=>if r=true then do let ok <-isTrue c X.env (eval c X.env);pure (ForInStep.yield ok) else pure (ForInStep.yield r)) (TP X pins σ Q) X.xe s
def p0:TT:=λ_ H Q=>Q true H
theorem Iy{X:Cx}:Dj X [] p0:=λ_ _ _ H _ I h=>wpAny_tests_nil ⟨H,I,h⟩
theorem Iz{X:Cx}{c:Expr}{t:TT}(h:PT X c t):Dj X [c] t:=λpins s σ H Q I q=>wpAny_tests_one (h pins s σ H Q I q)
def uo(D:Addr)(tc:TT)(te:TE):TS:=λE σ H=>tc σ H λb H1=>if b=true then te σ H1 λy H2=>∃ys,H2 D=some (.lst ys)/\ys.length<sizeLine/\E.nx σ (upd H2 D (.lst (ys++[y]))) else E.nx σ H1
def lC(js:List Nat)(k:Nat)(wi:TI)(g:TG)(tc:TT)(te:TE):TE:=λσ H Q=>wi σ H λJ H1=>∀D,H1 D=none->
 ∃W:Nat->Nat->St->Hp->Prop,(∃m,W 0 m (CH js k σ) (upd H1 D (.lst [])))/\∀i m σ H,W i m σ H->
  (J.stop i H/\Q (.ref D) H)\/(J.go i H/\∃N:St->Hp->Prop,(∀σ' H',N σ' H'->∃m',m'<m/\W (i+1) m' σ' H')/\∀x H',J.yld i H x H'->g x σ H' λσ2 H2=>uo D tc te {nx:=N,rt:=λ_ _=>False,ct:=N,bk:=λ_ H'=>Q (.ref D) H'} σ2 H2)
section
variable{X:Cx}{pins:List (Addr×Obj)}{σ:St}{H2:Hp}{s₂:Shared}{N NY:List Str}{sc scope:Scope}{cl:List (Str×Addr)}{C:Addr}{fp:List Addr}{js:List Nat}{k:Nat}
theorem Hf(I2:bQ X pins σ H2 s₂)(hf:∀b∈fp,qY X pins H2 b)(hfl:∀b∈fp,∃o,s₂.heap.get? b=some o)(hkind:scope.kind=.function)(hcell:∀y∈scope.names,y.2≠NameKind.cell)
  (hcl1:∀n c,cl.lookup n=some c->X.env.cells.lookup n=some c) (hcl2:∀x∈scope.names,x.2=NameKind.free->(cl.lookup x.1).isSome=true) (hC:s₂.heap.objs.size<=C) :
  (dZ X NY scope cl C s₂ H2 fp).Ok where
 mod:=I2.ok.mod
 kind:=hkind
 glob:=I2.ok.glob
 blt:=I2.ok.blt
 above:=hC
 inj:=λx y c h1 h2=>I2.ok.inj x y c (hcl1 x c h1) (hcl1 y c h2)
 has:=λx hx=>by
  have e:scope.names.lookup x=some .free:=Gi (env:=X.env) hcell hx
  exact fF.mp (hcl2 (x,.free) (cL e) rfl)
 cab:=λ_ _ h _=>nomatch h
 hd:=I2.ok.hd
 frames:=I2.ok.frames
 stk:=.inl rfl
 exf:=λb hb=>by
  obtain⟨o,ho⟩:=hfl b hb
  exact⟨bt (aU (aH ho) hC),λx c h=>(hf b hb).2.2.2.2.1 x c (hcl1 x c h)⟩
 bs:=I2.bs
 bsz:=bC I2.ok.bsz I2.sz
 noex:=λb o e hb=>by
  rcases(hf b hb).2.2.2.1 with z|z
  ·exact I2.ok.noex b o e z
  ·exact absurd (aU (aH e) (bC I2.ok.bsz z)) (dA _)
 exfs:=λb hb z=>by
  rcases bp.mp (I2.stkSub b z) with e|e
  ·exact(hf b hb).2.1 e
  ·exact(hf b hb).2.2.1 e
 funs:=I2.stack
 frf:=I2.stkFree
variable{elt iter target:Expr}{ifs:List Expr}{pos:Pos}{it:Addr}{tn:Nat->Heap->Prop}{J:It}{g:TG}{tc:TT}{te:TE}{Q:VK}{RR:Value->Addr->Result->Shared->Prop}{E:Value->Shared->Prop}
theorem tI(ok:sV sc N scope NY js)(hsc:X.env.scope=sc)(hN:X.N=N)(hk:NY.length=N.length+k)(hc:X.calm=true)(I2:bQ X pins σ H2 s₂)(T:Bj X.prog X.w X.K target J fp it tn)(st2:tn 0 s₂.heap)(f2:∀b∈fp,qY X pins H2 b)
  (hcl1:∀n c,cl.lookup n=some c->X.env.cells.lookup n=some c) (hcl2:∀x∈scope.names,x.2=NameKind.free->(cl.lookup x.1).isSome=true)
  (hg:∀cl C s₀ H₀ fp,PG (dZ X NY scope cl C s₀ H₀ fp) target g) (hi:∀cl C s₀ H₀ fp,Dj (dZ X NY scope cl C s₀ H₀ fp) ifs tc) (he:∀cl C s₀ H₀ fp,PE (dZ X NY scope cl C s₀ H₀ fp) elt te)
  (loop:∀D,H2 D=none->
   ∃W:Nat->Nat->St->Hp->Prop,(∃m,W 0 m (CH js k σ) (upd H2 D (.lst [])))/\∀i m σ H,W i m σ H->
    (J.stop i H/\Q (.ref D) H)\/(J.go i H/\∃N:St->Hp->Prop,(∀σ' H',N σ' H'->∃m',m'<m/\W (i+1) m' σ' H')/\∀x H',J.yld i H x H'->g x σ H' λσ2 H2=>uo D tc te {nx:=N,rt:=λ_ _=>False,ct:=N,bk:=λ_ H'=>Q (.ref D) H'} σ2 H2))
  (hRR:∀D C H' s' m,s'.heap.Ns C m->bQ X pins σ H' s'->H' C=none->C≠X.env.locals->X.s₀.heap.objs.size<=C->(∀x c,X.env.cells.lookup x=some c->c≠C)->(∀p∈X.pn++pins,p.1≠C)->D≠C->Q (.ref D) H'->RR (.ref D) C (.ok .next) s') :
  wpAny (model X.prog X.w) X.A (newList []) (λacc s₃=>wpAny (model X.prog X.w) X.A (newFunctionEnv scope X.env.globals cl [] X.env.qual none .none (some X.env)) (λcenv s₄=>
   codeAny (model X.prog X.w) X.A (.compStart (.ListComp elt [⟨target,iter,ifs,0⟩] scope pos) 0 (.ref it) acc {cenv with scope:=relabel scope X.env}) (RR acc cenv.locals) s₄) E s₃) E s₂:=by
 refine wpAny_newObj_type (wpAny_newFunctionEnv ok.cell (by intro y hy;simp at hy) (λh₁ hns₁ hsb₁=>?_) ok.kind)
 dsimp only at hns₁ hsb₁ ⊢
 generalize hG:s₂.heap.push {cls:=.type "list",dict:=none,data:=.seq ([]:List Value).toArray}=G at hns₁ hsb₁ ⊢
 have hC:G.objs.size=s₂.heap.objs.size+1:=by rw[<-hG,eI]
 have hDC:s₂.heap.objs.size≠G.objs.size:=by rw[hC];exact bt (mj _)
 have hCle:s₂.heap.objs.size<=G.objs.size:=by rw[hC];exact eC _
 have below:∀b,b<s₂.heap.objs.size->b≠G.objs.size:=λb hb=>by rw[hC];exact bt (Nat.lt_succ_of_lt hb)
 have old:∀b o,s₂.heap.get? b=some o->h₁.get? b=some o:=λb o e=>hsb₁.extBut b o (below b (aH e)) (ak _ (hG ▸ ak _ e))
 have hacc:h₁.get? s₂.heap.objs.size=some {cls:=.type "list",dict:=none,data:=.seq ([]:List Value).toArray}:=hsb₁.extBut _ _ hDC (ak _ (hG ▸ aN _ rfl))
 have hfl:∀b∈fp,∃o,s₂.heap.get? b=some o:=λb hb=>let⟨o,ho,_⟩:=T.obj 0 _ st2 b hb;⟨o,ho⟩
 have fD:H2 s₂.heap.objs.size=none:=I2.hok.fresh (aC _)
 have fC:H2 G.objs.size=none:=I2.hok.fresh hCle
 have I4:bQ (dZ X NY scope cl G.objs.size s₂ H2 fp) [] (CH js k σ) (upd H2 s₂.heap.objs.size (.lst [])) {s₂ with heap:=h₁,toks:=s₂.toks+([]:List (Str×Value)).length}:=by
  refine⟨Hf I2 f2 hfl ok.kind ok.cell hcl1 hcl2 hCle,rfl,I2.bare,Un.laid old (aC _) fD,⟨_,hns₁,λi y v h1 h2 h3=>?_⟩,λx c h=>?_,?_,λx c h=>?_,λp hp=>absurd (show p∈([]:List (Addr×Obj)) from hp) (by simp),I2.hok.laid old (aC _) ⟨cA _,[],0,.nil,hacc⟩,?_⟩
  ·obtain⟨e1,e2⟩:=Ho h2
   have hi:i<N.length:=by
    have:=(aj.mp e1).1
    rw[I2.len,hN] at this;exact this
   have hy:N[i]?=some y:=by
    rw[<-ok.pre,List.getElem?_take_of_lt hi];exact h1
   have hz:(y,i)∈N.zipIdx:=by
    rw[List.mem_zipIdx_iff_getElem?];exact hy
   have nn:scope.names.lookup y≠none:=Jg (env:=X.env) (x:=y) (by
    rcases h3 with z|z|z
    ·intro q;rw[show(relabel scope X.env).names.lookup y=_ from z] at q;cases q
    ·intro q;rw[show(relabel scope X.env).names.lookup y=_ from z] at q;cases q
    ·intro q;rw[show(relabel scope X.env).names.lookup y=_ from z] at q;cases q)
   have hfr:scope.names.lookup y=some .free:=by
    rcases ok.cap (y,i) hz with z|z|z
    ·rw[e2] at z;cases z
    ·exact absurd z nn
    ·exact z
   have hX:=ok.free (y,.free) (cL hfr) rfl
   rw[<-hsc] at hX
   obtain⟨m,hn,hl⟩:=I2.loc
   obtain⟨u,ru,lk⟩:=hl i y v (by rw[hN];exact hy) e1 (by
    rcases hX with z|z
    ·exact .inr (.inl z)
    ·exact .inr (.inr z))
   refine⟨u,ru,?_⟩
   rcases lk with⟨lk,_⟩|⟨_,c,hc1,hc2⟩
   ·have lk:X.env.scope.names.lookup y=some .local:=lk
    rcases hX with z|z<;>· rw[z] at lk;cases lk
   ·have hs:=hcl2 (y,.free) (cL hfr) rfl
    obtain⟨c',hc'⟩:=fF.mp hs
    have e3:=hcl1 y c' hc'
    rw[hc1] at e3;cases e3
    refine .inr ⟨?_,c,hc',hc2.keeps old⟩
    show(relabel scope X.env).names.lookup y=some .cell\/(relabel scope X.env).names.lookup y=some .free
    have e:(relabel scope X.env).names.lookup y=_:=jA (env:=X.env) (x:=y) scope.names
    rw[e,hfr,bY]
    split
    ·exact .inl rfl
    ·exact .inr rfl
  ·obtain⟨v,q⟩:=I2.cell x c (hcl1 x c h)
   exact⟨v,q.keeps old⟩
  ·show upd H2 s₂.heap.objs.size (.lst []) G.objs.size=none
   rw[aw (Ne.symm hDC)];exact fC
  ·have q:=I2.freeC x c (hcl1 x c h)
   obtain⟨v,o,ho,_⟩:=I2.cell x c (hcl1 x c h)
   show upd H2 s₂.heap.objs.size (.lst []) c=none
   rw[aw (bt (aH ho))];exact q
  ·show(CH js k σ).length=NY.length
   rw[Hq,I2.len,hN,hk]
 have st4:tn 0 h₁:=T.keep _ _ _ st2 λb _ o e=>old b o e
 obtain⟨W,⟨m0,w0⟩,turn⟩:=loop s₂.heap.objs.size fD
 have stat:∀{H':Hp},(∀b∈fp,H' b=none)->∀b∈fp,qY (dZ X NY scope cl G.objs.size s₂ H2 fp) [] H' b:=λhn b hb=>by
  obtain⟨o,ho⟩:=hfl b hb
  refine⟨hn b hb,below b (aH ho),λz=>?_,.inl hb,λx c h=>(f2 b hb).2.2.2.2.1 x c (hcl1 x c h),λp hp=>absurd (show p∈([]:List (Addr×Obj)) from hp) (by simp)⟩
  rcases bp.mp (I2.stkSub b z) with e|e
  ·exact(f2 b hb).2.1 e
  ·exact(f2 b hb).2.2.1 e
 have go:∀s₄:Shared,s₄={s₂ with heap:=h₁,toks:=s₂.toks+([]:List (Str×Value)).length}->
   codeAny (model X.prog X.w) X.A (.compLoop (.ListComp elt [⟨target,iter,ifs,0⟩] scope pos) 0 (.ref it) (.ref s₂.heap.objs.size) (compEnvC scope cl G.objs.size X.env)) (RR (.ref s₂.heap.objs.size) G.objs.size) s₄:=by
  rintro s₄ rfl
  refine xD (λn s'=>∃i σ' H',bQ (dZ X NY scope cl G.objs.size s₂ H2 fp) [] σ' H' s'/\tn i s'.heap/\(∀b∈fp,H' b=none)/\W i n σ' H') ?_ m0
   ⟨0,_,_,I4,st4,λb hb=>by
    obtain⟨o,ho⟩:=hfl b hb
    rw[aw (bt (aH ho))];exact(f2 b hb).1,w0⟩
  rintro n s3 ⟨i,σ3,H3,I3,st3,fr3,w3⟩
  rcases turn i n σ3 H3 w3 with⟨stop,qn⟩|⟨go,Nx,hNx,step⟩
  ·refine fK (T.done (dZ X NY scope cl G.objs.size s₂ H2 fp) rfl rfl rfl hc i [] s3 σ3 H3 _ I3 (stat fr3) st3 stop) λr s5 ⟨hr,I5⟩=>?_
   subst hr
   have IX:bQ X pins σ H3 s5:=I2.call' (ch:=fp) I5.os I5.base I5.hok I5.bare λb hb=>⟨(f2 b hb).2.2.2.1,(f2 b hb).2.1,(f2 b hb).2.2.2.2.1,(f2 b hb).2.2.2.2.2⟩
   obtain⟨m,hm,_⟩:=I5.loc
   refine hRR _ _ H3 s5 m hm IX I5.free (λz=>?_) (bC I2.sz hCle) (λx c h z=>?_) (λp hp z=>?_) hDC qn
   ·have:=I2.lt;rw[<-z] at this;exact dA _ (aU this hCle)
   ·obtain⟨v,o,ho,_⟩:=I2.cell x c h
    have:=aH ho;rw[z] at this;exact dA _ (aU this hCle)
   ·have:=aH (I2.pin p hp).1;rw[z] at this;exact dA _ (aU this hCle)
  ·refine fK (T.item (dZ X NY scope cl G.objs.size s₂ H2 fp) rfl rfl rfl hc i [] s3 σ3 H3 _ I3 (stat fr3) st3 go) λr s5 ⟨u,hr,h5⟩=>?_
   subst hr
   refine fK h5 λ_ s6 ⟨x,H6,I6,r6,y6,st6,fr6⟩=>?_
   have I6':=I6.pinned (stat fr6) (T.obj _ _ st6)
   have again:∀{σ7:St} {H7:Hp} {s7:Shared},bQ (dZ X NY scope cl G.objs.size s₂ H2 fp) ([]++ue fp s6.heap) σ7 H7 s7->Nx σ7 H7->∃m,m<n/\∃i σ' H',bQ (dZ X NY scope cl G.objs.size s₂ H2 fp) [] σ' H' s7/\tn i s7.heap/\(∀b∈fp,H' b=none)/\W i m σ' H':=λ{σ7 H7 s7} I7 n7=>by
    obtain⟨m',hm,w7⟩:=hNx σ7 H7 n7
    refine⟨m',hm,i+1,σ7,H7,I7.unpinned,T.keep _ _ _ st6 λb hb o e=>(I7.pin (b,o) (aJ _ (aJ _ (mZ hb e)))).1,λb hb=>?_,w7⟩
    obtain⟨o,e,d⟩:=T.obj _ _ st6 b hb
    exact(I7.pin (b,o) (aJ _ (aJ _ (mZ hb e)))).2.1
   refine fK (hg cl G.objs.size s₂ H2 fp _ s6 σ3 H6 x u _ I6' r6 (step x H6 y6)) λ_ s7 ⟨σ7,H7,I7,q7⟩=>?_
   refine fK (hi cl G.objs.size s₂ H2 fp _ s7 σ7 H7 _ I7 q7) λok s8 ⟨H8,I8,q8⟩=>?_
   cases ok with
   |false=>
    rw[if_neg Bool.false_ne_true] at q8 ⊢
    exact again I8 q8
   |true=>
    rw[if_pos rfl] at q8 ⊢
    refine fK (he cl G.objs.size s₂ H2 fp _ s8 σ7 H8 _ I8 q8) λy s9 ⟨z,H9,I9,r9,ys,hD,hz,n9⟩=>?_
    refine fK (eY (X:=dZ X NY scope cl G.objs.size s₂ H2 fp) _ s9 σ7 H9 (.ref s₂.heap.objs.size) [z] (.ref s₂.heap.objs.size) [y] (λ_ H'=>H'=upd H9 s₂.heap.objs.size (.lst (ys++[z]))) I9 rfl (.cons r9 .nil) ⟨_,ys,z,rfl,rfl,hD,hz,rfl⟩) λ_ s10 ⟨_,H10,I10,_,q10⟩=>?_
    subst q10
    exact again I10 n9
 exact codeAny_compStart_list (go _ rfl) (T.self _ 0 _ _ _ st4 (go _ rfl))
theorem Ik{wi:TI}(ok:sV sc N scope NY js)(hsc:X.env.scope=sc)(hN:X.N=N)(hk:NY.length=N.length+k)(hc:X.calm=true)(hit:PI X target iter wi)
  (hg:∀cl C s₀ H₀ fp,PG (dZ X NY scope cl C s₀ H₀ fp) target g) (hi:∀cl C s₀ H₀ fp,Dj (dZ X NY scope cl C s₀ H₀ fp) ifs tc) (he:∀cl C s₀ H₀ fp,PE (dZ X NY scope cl C s₀ H₀ fp) elt te)
  (hs:∀x,foldedSetIterable iter X.env x=pure x:=by intro _;rfl):PE X (.ListComp elt [⟨target,iter,ifs,0⟩] scope pos) (lC js k wi g tc te):=by
 intro pins s σ H Q I h
 obtain⟨cl,hclos,hcl1,hcl2⟩:=tG (scope:=scope) (env:=X.env) λx hx hf=>I.ok.has x.1 (by
  have:=ok.free x hx hf
  rw[<-hsc] at this
  exact this)
 rw[eval_ListComp]
 refine wpAny_comprehension_free (use:=none) rfl hs hclos ok.kind ok.names (fK (hit pins s σ H _ I h) λxv s₁ h₁=>fK h₁ λitv s₂ h₂=>?_)
 obtain⟨it,fp,tn,J,H2,rfl,I2,T,st2,f2,loop⟩:=h₂
 refine tI (RR:=λacc C=>compPost (model X.prog X.w) X.A X.xe none (EP X pins σ Q) acc C) (Q:=Q) ok hsc hN hk hc I2 T st2 f2 hcl1 hcl2 hg hi he loop ?_
 intro D C H' s' m hm IX fC c1 c2 c3 c4 _ q
 exact⟨m,hm,λh' hs'=>⟨.ref D,H',IX.turned (t':=s'.toks) (λb o hb e=>(hs'.2 b hb).trans e) fC c1 (.inr c2) c3 c4,rfl,q⟩⟩
theorem ID{wi:TI}{i:Nat}{y:Str}{py spos:Pos}(ok:sV sc N scope NY js)(hsc:X.env.scope=sc)(hN:X.N=N)(hk:NY.length=N.length+k)(hc:X.calm=true)(hit:PI X target iter wi)
  (hg:∀cl C s₀ H₀ fp,PG (dZ X NY scope cl C s₀ H₀ fp) target g) (hi:∀cl C s₀ H₀ fp,Dj (dZ X NY scope cl C s₀ H₀ fp) ifs tc) (he:∀cl C s₀ H₀ fp,PE (dZ X NY scope cl C s₀ H₀ fp) elt te)
  (nd:X.N.Nodup) (hy:X.N[i]?=some y) (hl:GX X.env.scope y) (hsw:swapsWith (.ListComp elt [⟨target,iter,ifs,0⟩] scope pos) (some (.Name y py)) spos.line X.env=pure true)
  (hs:∀x,foldedSetIterable iter X.env x=pure x:=by intro _;rfl) (hf:X.fn y=true\/X.env.scope.names.lookup y=some .local:=by first|exact .inl rfl|exact .inr rfl|assumption) :
  PS X (.Assign [.Name y py] (.ListComp elt [⟨target,iter,ifs,0⟩] scope pos) spos) (bO (lC js k wi g tc te) (aT i)):=by
 intro pins s σ H D I h
 obtain⟨cl,hclos,hcl1,hcl2⟩:=tG (scope:=scope) (env:=X.env) λx hx hf=>I.ok.has x.1 (by
  have:=ok.free x hx hf
  rw[<-hsc] at this
  exact this)
 rw[exec_Assign_Name_used _ _ _ _ hsw]
 refine wpAny_bind (wpAny_standAt (wpAny_bind ?_))
 show wpAny _ X.A (do let _ <-comprehension (.ListComp elt [⟨target,iter,ifs,0⟩] scope pos) scope X.env _ (newList []) false (eval iter X.env) (some (assign (.Name y py) X.env))) _ _ s
 refine wpAny_bind (wpAny_mono (wpAny_comprehension_free (use:=some (assign (.Name y py) X.env)) (Q:=λ_ s'=>SP X pins D .next s') rfl hs hclos ok.kind ok.names
  (fK (hit pins s σ H _ I h) λxv s₁ h₁=>fK h₁ λitv s₂ h₂=>?_)) (λ_ s' hq=>wpAny_pure (wpAny_pure hq)) λ_ _ e=>e)
 obtain⟨it,fp,tn,J,H2,rfl,I2,T,st2,f2,loop⟩:=h₂
 refine tI (RR:=λacc C=>compPost (model X.prog X.w) X.A X.xe (some (assign (.Name y py) X.env)) (λ_ s'=>SP X pins D .next s') acc C) (Q:=λx H1=>aT i x σ H1 D.nx) ok hsc hN hk hc I2 T st2 f2 hcl1 hcl2 hg hi he loop ?_
 intro Da C H' s' m hm IX fC c1 c2 c3 c4 _ q
 show wpAny _ X.A (assign (.Name y py) X.env (.ref Da)) _ _ _
 refine wpAny_assign_Name (wC IX nd hy hl (v:=.ref Da) rfl (λs2 IY ⟨a,sb,ha⟩=>?_) hf)
 have hne:C≠a:=by
  rcases ha with rfl|ha
  ·exact c1
  ·exact λz=>c3 y a ha z.symm
 exact⟨m,hm.sameBut sb hne,λh' hs'=>⟨_,H',IY.turned (t':=s2.toks) (λb o hb e=>(hs'.2 b hb).trans e) fC c1 (.inr c2) c3 c4,q⟩⟩
end
section
variable{X:Cx}{pins:List (Addr×Obj)}{σ:St}{H:Hp}{s:Shared}{h':Heap}
theorem bQ.turnedL{t':Nat}{ch:List Addr}(I:bQ X pins σ H s)(k:∀b o,b∉ch->s.heap.get? b=some o->h'.get? b=some o)(hf:∀b∈ch,qY X pins H b) :
  bQ X pins σ H {s with heap:=h',toks:=t'}:=by
 have nit:∀b u,H b=some u->b∉ch:=λb u e z=>by rw[(hf b z).1] at e;cases e
 refine I.step (g':=s.gens) (d':=s.drawn) (ch:=ch) (λb hb=>⟨(hf b hb).2.2.2.1,(hf b hb).2.1,(hf b hb).2.2.2.2.1,(hf b hb).2.2.2.2.2⟩) (λb o _ _ hc e _=>k b o hc e) (λb o _ _ hc e _=>⟨o.slots,k b o hc e⟩) (λ_ _ _ _ n=>n)
  (λb o hc e=>⟨o,k b o hc e⟩) (λ_ _ e=>e) (λ_ _ _ e=>e) (λb ps e=>⟨#[],by rw[e];simp⟩) (λm hm=>?_) (λb u e=>?_) I.bare
 ·obtain⟨o,es,ep,ho,r⟩:=hm
  exact⟨o,es,ep,k _ o (λz=>(hf _ z).2.1 rfl) ho,r⟩
 ·refine(I.hok b u e).stay (λc v hc q=>k c v ?_ q) (λ_ q=>q) λ_ _ q=>q
  rcases hc with z|z
  ·rw[z];exact nit b u e
  ·exact nit c _ z
theorem bQ.adopt{T:Addr}{o:HO}(I:bQ X pins σ H s)(hf:qY X pins H T)(new:gQ X.prog X.w (upd H T o) s.heap T o):bQ X pins σ (upd H T o) s:=by
 have nT:∀b u,H b=some u->b≠T:=λb u e z=>by rw[z,hf.1] at e;cases e
 refine I.step (h':=s.heap) (H':=upd H T o) (g':=s.gens) (d':=s.drawn) (t':=s.toks) (ch:=[T]) (λb hb=>?_) (λb _ _ _ _ e _=>e) (λb ob _ _ _ e _=>⟨ob.slots,e⟩) (λb ob hb _ n=>?_)
  (λb ob _ e=>⟨ob,e⟩) (λb xs e=>?_) (λb ob u e=>?_) (λb ps e=>⟨#[],?_⟩) (λm hm=>hm) (λb u e=>?_) I.bare
 ·have e:b=T:=by simpa using hb
  subst e
  exact⟨hf.2.2.2.1,hf.2.1,hf.2.2.2.2.1,hf.2.2.2.2.2⟩
 ·rw[aw (λz=>hb (by simp[z]))];exact n
 ·rw[aw (nT b _ e)];exact e
 ·rw[aw (nT b _ e)];exact e
 ·rw[aw (nT b _ e),e];simp
 ·by_cases hb:b=T
  ·subst hb;rw[ae] at e;cases e;exact new
  ·rw[aw hb] at e
   exact(I.hok b u e).stay (λc v _ q=>q) (λc q=>by rw[aw (nT c _ q)];exact q) λc xs q=>by rw[aw (nT c _ q)];exact q
end
def LC(K:Fg)(a:Addr):It:=
 ⟨λi H=>∃xs x,bZ K H a xs/\xs[i]?=some x,λi H x H'=>∃p v,H p=none/\x=.ref p/\H'=upd H p (.tup [.int (i:Nat),v])/\∀xs,bZ K H a xs->xs[i]?=some v,λi H=>∃xs,bZ K H a xs/\xs.length<=i⟩
def LD(K:Fg)(a b:Addr):It:=
 ⟨λi H=>∃xs x ys y,bZ K H a xs/\xs[i]?=some x/\bZ K H b ys/\ys[i]?=some y,
  λi H x H'=>∃p v u,H p=none/\x=.ref p/\H'=upd H p (.tup [v,u])/\(∀xs,bZ K H a xs->xs[i]?=some v)/\∀ys,bZ K H b ys->ys[i]?=some u,
  λi H=>∃xs ys,bZ K H a xs/\bZ K H b ys/\(xs.length<=i\/ys.length<=i)⟩
theorem Dh{X:Cx}{H:Hp}{h:Heap}{T:Addr}{x y:V}{u v:Value}{n:Nat}(e:h.get? T=some {cls:=.type "tuple",data:=.seq #[u,v] n})(r1:cP x u)(r2:cP y v):gQ X.prog X.w H h T (.tup [x,y]):=
 ⟨show 2<=sizeLine by decide,[u,v],.cons r1 (.cons r2 .nil),⟨_,e,⟨rfl,rfl⟩,_,rfl⟩⟩
theorem HN{h:Heap}{it a:Addr}{i:Nat}{l:Addr}{items:Array Value}(p:h.IsList a items)(q:h.IsListIter it l i):a≠it:=by
 intro e;subst e
 obtain⟨o,e1,c1,_⟩:=p
 obtain⟨o',e2,c2,_⟩:=q
 rw[e1] at e2;cases e2;rw[c1] at c2
 injection c2 with c3
 exact absurd c3 (by decide)
theorem Et{P:Program}{w:World}{K:Fg}{elts:List Expr}{k:Nat}{pos:Pos}(a e it:Addr)(hne:e≠it) :
  Bj P w K (.Tuple elts k pos) (LC K a) [e,it] e (λi h=>(∃old,IsEnum h e it (i:Nat) old)/\h.IsListIter it a i) where
 mem:=by simp
 obj:=λi h st b hb=>by
  obtain⟨⟨old,he⟩,⟨o,ho,c,d⟩⟩:=st
  rcases bp.mp hb with rfl|hb
  ·exact⟨_,he,λv z=>by have z':Data.fields _=Data.cell v:=z;cases z'⟩
  ·rw[au.mp hb]
   exact⟨o,ho,λv z=>by rw[d] at z;cases z⟩
 keep:=λi h h' st k=>⟨let⟨old,he⟩:=st.1;⟨old,k e (by simp) _ he⟩,st.2.at λo q=>k it (by simp) o q⟩
 item:=by
  intro X hP hw hK hc i pins s σ H E I hf st hg
  subst hP hw hK
  obtain⟨⟨old,he⟩,hit⟩:=st
  obtain⟨xs,x,hq,hx⟩:=hg
  obtain⟨its,rv,p,hz⟩:=I.list hq
  obtain⟨u,hu,ru⟩:=rv.get hx
  have hlt:i<its.toArray.size:=by have:=(aj.mp hu).1;simpa using this
  have na:a≠it:=HN p.isList hit
  have nb:e≠a:=by
   intro z;subst z
   obtain⟨o,n,e1,c1,_⟩:=p
   rw[he] at e1;cases e1
   injection c1 with c3
   exact absurd c3 (by decide)
  have Dw:=Draws.list (prog:=X.prog) (w:=X.w) (A:=X.A.in1) (show X.A.in1.handled=none from I.ok.hd hc) it a na its.toArray
  refine wpAny_pyNext_enum_itemD Dw he ⟨hit,p.isList⟩ hlt hne (by simp[hne,nb]) λy h1 tk hP ho st1 hT hsz hk=>?_
  have ey:y=u:=by
   have h1:its.toArray[i]?=some y:=hP
   have h2:its[i]?=some y:=by simpa using h1
   rw[hu] at h2;exact(Option.some.inj h2).symm
  subst ey
  refine⟨_,rfl,?_⟩
  have fT:qY X pins H s.heap.objs.size:=I.fpOk (aC _) (I.hok.fresh (aC _))
  refine wpAny_letOwnedTupleGo_enum ho λh2 he2 hs2=>?_
  have helt:e<s.heap.objs.size:=aH he
  have I1:bQ X pins σ H {s with heap:=h2,toks:=tk+1}:=I.turnedL (t':=tk+1) (ch:=[e,it]) (λb o hb q=>by
   have b1:b≠e:=λz=>hb (by simp[z])
   have b2:b≠it:=λz=>hb (by simp[z])
   exact(hs2.2 b b1).trans (hk b o b1 b2 q)) hf
  have gT:h2.get? s.heap.objs.size=some {cls:=.type "tuple",data:=.seq #[.int i tk,y]}:=(hs2.2 _ (gb helt)).trans hT
  have I2:=I1.adopt (T:=s.heap.objs.size) (o:=.tup [.int (i:Nat),x]) fT (Dh (X:=X) gT ⟨tk,rfl⟩ ru)
  refine⟨.ref s.heap.objs.size,_,I2,rfl,⟨s.heap.objs.size,x,fT.1,rfl,rfl,λys hy=>by rw[I.list_inj hy hq];exact hx⟩,⟨⟨y,?_⟩,?_⟩,λb hb=>?_⟩
  ·have e2:(((i+1:Nat):Nat):Int)=(i:Int)+1:=by lia
   show IsEnum h2 e it (((i+1:Nat):Nat):Int) y
   rw[e2];exact he2
  ·obtain⟨o,q1,q2⟩:=st1.1
   exact⟨o,(hs2.2 it (Ne.symm hne)).trans q1,q2⟩
  ·have nT:b≠s.heap.objs.size:=by
    rcases bp.mp hb with rfl|hb
    ·exact bt helt
    ·rw[au.mp hb]
     obtain⟨o,ho,_⟩:=hit
     exact bt (aH ho)
   rw[aw nT];exact(hf b hb).1
 done:=by
  intro X hP hw hK hc i pins s σ H E I hf st hg
  subst hP hw hK
  obtain⟨⟨old,he⟩,hit⟩:=st
  obtain⟨xs,hq,hx⟩:=hg
  obtain⟨its,rv,p,hz⟩:=I.list hq
  have hl:=rv.length
  have hT:s.TypeIs (.ref e) "enumerate":=⟨_,he,rfl⟩
  unfold pyNext
  refine wpAny_bind (wpAny_attempt (wpAny_callSpecial?_slot (name:=Str.ofString "__next__") hT F.slot_enumerate_next
   (wpAny_call_entry F.slot_enumerate_next hT F.entry_enumerate_next ?_ (F.args_enumerate_next_1 _))))
  show wpAny _ _ (field (.ref e) 2 >>= _) _ _ _
  refine wpAny_bind (wpAny_field he rfl (x:=.ref it) rfl ?_)
  refine wpAny_bind (wpAny_nextOf_list_end (show X.A.in1.handled=none from I.ok.hd hc) hit p.isList (by simp;lia) λh1 x1 eb hx1=>?_)
  obtain⟨o,ho,hcl⟩:=hx1
  refine wpAny_bind (wpAny_isInstance (T:="StopIteration") (b:=true) ⟨o,ho,hcl⟩ isSubtype_stop ?_)
  exact wpAny_pure ⟨rfl,I.turnedL (t':=s.toks) (ch:=[e,it]) (λb ob hb q=>eb b ob (λz=>hb (by simp[z])) q) hf⟩
 self:=λ_ _ _ _ _ st h=>let⟨_,he⟩:=st.1;wpAny_pyIter_enum he h
section
variable{X:Cx}{elts:List Expr}{k:Nat}{tpos:Pos}
def E9(K:Fg)(tl:TA):TI:=λσ H R=>tl σ H λvs H1=>∃a,vs=[.ref a]/\(∃xs,bZ K H1 a xs)/\R (LC K a) H1
theorem Iv{a:Expr}{ta:TA}{p pos:Pos}(hg:Gl X "enumerate")(hm:X.mg "enumerate"=none)(ha:PA X [a] ta)(hs:starEach [a] X.env=[(false,eval a X.env)]:=by rfl) :
  PI X (.Tuple elts k tpos) (.Call (.Name "enumerate" p) [a] [] pos) (E9 X.K ta):=by
 intro pins s σ H R I h
 refine Call_ (mX I hg hm boot_enumerate (cu (fK (ha pos pins s σ H _ I h) λus s1 ⟨vs,H1,I1,r1,q1⟩=>?_) hs rfl))
 obtain⟨l,e,⟨xs,hq⟩,q⟩:=q1
 subst e
 cases r1 with
 |cons r rr=>
  cases rr
  cases r
  obtain⟨its,rv,pl,hz⟩:=I1.list hq
  refine call_enumerate_list pl.isList λh1 he hit hsz hk=>?_
  refine wpAny_pyIter_enum he ?_
  have I2:bQ X pins σ H1 {s1 with heap:=h1}:=I1.kept (t':=s1.toks) hk
  refine⟨s1.heap.objs.size+1,[s1.heap.objs.size+1,s1.heap.objs.size],_,_,H1,rfl,I2,Et l _ _ (Nat.succ_ne_self _),⟨⟨.none,he⟩,hit⟩,λb hb=>?_,q⟩
  have hb':s1.heap.objs.size<=b:=by
   rcases bp.mp hb with rfl|hb
   ·lia
   ·rw[au.mp hb];exact aC _
  exact I1.fpOk hb' (I1.hok.fresh hb')
end
theorem GN{P:Program}{w:World}{K:Fg}{elts:List Expr}{k:Nat}{pos:Pos}(z TI TO i1 i2 l1 l2:Addr)(D:ZipApart z TI TO i1 i2 l1 l2) :
  Bj P w K (.Tuple elts k pos) (LD K l1 l2) [z,TI,TO,i1,i2] z (λi h=>IsZip h z TI TO .none/\IsPair h TI (.ref i1) (.ref i2)/\(∃a b,IsPair h TO a b)/\h.IsListIter i1 l1 i/\h.IsListIter i2 l2 i) where
 mem:=by simp
 obj:=λi h st b hb=>by
  obtain⟨hz,hTI,⟨a',b',hTO⟩,⟨o1,e1,c1,d1⟩,⟨o2,e2,c2,d2⟩⟩:=st
  simp only[bp,mi,or_false] at hb
  rcases hb with rfl|rfl|rfl|rfl|rfl
  ·exact⟨_,hz,λv q=>by have q':Data.fields _=Data.cell v:=q;cases q'⟩
  ·exact⟨_,hTI,λv q=>by have q':Data.seq _ _=Data.cell v:=q;cases q'⟩
  ·exact⟨_,hTO,λv q=>by have q':Data.seq _ _=Data.cell v:=q;cases q'⟩
  ·exact⟨o1,e1,λv q=>by rw[d1] at q;cases q⟩
  ·exact⟨o2,e2,λv q=>by rw[d2] at q;cases q⟩
 keep:=λi h h' st k=>by
  obtain⟨hz,hTI,⟨a',b',hTO⟩,h1,h2⟩:=st
  exact⟨k z (by simp) _ hz,k TI (by simp) _ hTI,⟨a',b',k TO (by simp) _ hTO⟩,h1.at λo q=>k i1 (by simp) o q,h2.at λo q=>k i2 (by simp) o q⟩
 item:=by
  intro X hP hw hK hc i pins s σ H E I hf st hg
  subst hP hw hK
  obtain⟨hz,hTI,⟨a',b',hTO⟩,h1,h2⟩:=st
  obtain⟨xs,x,ys,y,hq1,hx,hq2,hy⟩:=hg
  obtain⟨its1,rv1,p1,_⟩:=I.list hq1
  obtain⟨its2,rv2,p2,_⟩:=I.list hq2
  obtain⟨u,hu,ru⟩:=rv1.get hx
  obtain⟨v,hv,rv⟩:=rv2.get hy
  refine wpAny_pyNext_zip_item D hz hTI hTO h1 h2 p1.isList p2.isList (x:=u) (y:=v) (by simpa using hu) (by simpa using hv) λh3 a1 a2 a3 a4 a5 a6 hk=>?_
  refine⟨_,rfl,?_⟩
  have fT:qY X pins H s.heap.objs.size:=I.fpOk (aC _) (I.hok.fresh (aC _))
  have lt:∀{c o},s.heap.get? c=some o->c≠s.heap.objs.size:=λe=>bt (aH e)
  refine wpAny_letOwnedTupleGo_zip a1 λh4 hz4 hs4=>?_
  have I1:bQ X pins σ H {s with heap:=h4,toks:=s.toks}:=I.turnedL (t':=s.toks) (ch:=[z,TI,TO,i1,i2]) (λb o hb q=>by
   have b1:b≠z:=λe=>hb (by simp[e])
   exact(hs4.2 b b1).trans (hk b o b1 (λe=>hb (by simp[e])) (λe=>hb (by simp[e])) (λe=>hb (by simp[e])) q)) hf
  have gT:h4.get? s.heap.objs.size=some {cls:=.type "tuple",data:=.seq #[u,v]}:=(hs4.2 _ (Ne.symm (lt hz))).trans a5
  have I2:=I1.adopt (T:=s.heap.objs.size) (o:=.tup [x,y]) fT (Dh (X:=X) gT ru rv)
  have ext:∀c o,c≠z->h3.get? c=some o->h4.get? c=some o:=λc o hc q=>(hs4.2 c hc).trans q
  refine⟨.ref s.heap.objs.size,_,I2,rfl,⟨s.heap.objs.size,x,y,fT.1,rfl,rfl,λzs hz=>by rw[I.list_inj hz hq1];exact hx,λzs hz=>by rw[I.list_inj hz hq2];exact hy⟩,
   ⟨hz4,ext _ _ D.TIz (hk _ _ D.TIz D.TITO D.TIi1 D.TIi2 hTI),⟨_,_,ext _ _ D.TOz a2⟩,a3.at λo q=>ext _ o D.i1z q,a4.at λo q=>ext _ o D.i2z q⟩,λb hb=>?_⟩
  have nT:b≠s.heap.objs.size:=by
   obtain⟨o1,e1,_⟩:=h1
   obtain⟨o2,e2,_⟩:=h2
   simp only[bp,mi,or_false] at hb
   rcases hb with rfl|rfl|rfl|rfl|rfl
   ·exact lt hz
   ·exact lt hTI
   ·exact lt hTO
   ·exact lt e1
   ·exact lt e2
  rw[aw nT];exact(hf b hb).1
 done:=by
  intro X hP hw hK hc i pins s σ H E I hf st hg
  subst hP hw hK
  obtain⟨hz,hTI,⟨a',b',hTO⟩,h1,h2⟩:=st
  obtain⟨xs,ys,hq1,hq2,hend⟩:=hg
  obtain⟨its1,rv1,p1,_⟩:=I.list hq1
  obtain⟨its2,rv2,p2,_⟩:=I.list hq2
  have l1':=rv1.length
  have l2':=rv2.length
  refine wpAny_pyNext_zip_end (I.ok.hd hc) D hz hTI hTO h1 h2 p1.isList p2.isList (hend.imp (λh=>by simp;lia) λh=>by simp;lia) λh3 hk=>⟨rfl,?_⟩
  exact I.turnedL (t':=s.toks) (ch:=[z,TI,TO,i1,i2]) (λb o hb q=>hk b o (λe=>hb (by simp[e])) (λe=>hb (by simp[e])) (λe=>hb (by simp[e])) (λe=>hb (by simp[e])) q) hf
 self:=λ_ _ _ _ _ st h=>wpAny_pyIter_zip st.1 h
section
variable{X:Cx}{elts:List Expr}{k:Nat}{tpos:Pos}
def JZ(K:Fg)(tl:TA):TI:=λσ H R=>tl σ H λvs H1=>∃a b,vs=[.ref a,.ref b]/\(∃xs,bZ K H1 a xs)/\(∃xs,bZ K H1 b xs)/\R (LD K a b) H1
theorem KM{a b:Expr}{ta:TA}{p pos:Pos}(hg:Gl X "zip")(hm:X.mg "zip"=none)(ha:PA X [a,b] ta)(hs:starEach [a,b] X.env=[(false,eval a X.env),(false,eval b X.env)]:=by rfl)(hs2:starEach [b] X.env=[(false,eval b X.env)]:=by rfl) :
  PI X (.Tuple elts k tpos) (.Call (.Name "zip" p) [a,b] [] pos) (JZ X.K ta):=by
 intro pins s σ H R I h
 refine Call_ (mX I hg hm boot_zip (cu (fK (ha pos pins s σ H _ I h) λus s1 ⟨vs,H1,I1,r1,q1⟩=>?_) (by rw[hs,hs2]) (by rw[hs2];rfl)))
 obtain⟨l1,l2,e,⟨xs,hq1⟩,⟨ys,hq2⟩,q⟩:=q1
 subst e
 cases r1 with
 |cons r rr=>
  cases rr with
  |cons r' rr=>
   cases rr
   cases r
   cases r'
   obtain⟨its1,rv1,p1,_⟩:=I1.list hq1
   obtain⟨its2,rv2,p2,_⟩:=I1.list hq2
   have b1:l1<s1.heap.objs.size:=by obtain⟨o,e,_⟩:=p1.isList;exact aH e
   have b2:l2<s1.heap.objs.size:=by obtain⟨o,e,_⟩:=p2.isList;exact aH e
   refine call_zip_2 p1.isList p2.isList λh1 hz hTI hTO hi1 hi2 hsz hk=>?_
   refine wpAny_pyIter_zip hz ?_
   have I2:bQ X pins σ H1 {s1 with heap:=h1}:=I1.kept (t':=s1.toks) hk
   refine⟨_,_,_,_,H1,rfl,I2,GN _ _ _ _ _ l1 l2 (zipApart_new b1 b2),⟨hz,hTI,⟨_,_,hTO⟩,hi1,hi2⟩,λb hb=>?_,q⟩
   have hb':s1.heap.objs.size<=b:=by
    simp only[bp,mi,or_false] at hb
    rcases hb with rfl|rfl|rfl|rfl|rfl<;>lia
   exact I1.fpOk hb' (I1.hok.fresh hb')
end
theorem E2{K:Fg}{a:Addr}{xs:List V}{g:TG}{tb:TS}{D:nN}{σ:St}{H:Hp}(Pv:Nat->St->Hp->Prop)(h0:Pv 0 σ H)(hl:∀i σ H,i<=xs.length->Pv i σ H->bZ K H a xs)
  (hs:∀i x σ H p,xs[i]?=some x->H p=none->Pv i σ H->g (.ref p) σ (upd H p (.tup [.int (i:Nat),x])) λσ2 H2=>tb {D with nx:=Pv (i+1),ct:=Pv (i+1),bk:=D.nx} σ2 H2) (hd:∀σ H,Pv xs.length σ H->D.nx σ H) :
  ∃W:Nat->Nat->St->Hp->Prop,(∃m,W 0 m σ H)/\∀i m σ H,W i m σ H->
   ((LC K a).stop i H/\D.nx σ H)\/((LC K a).go i H/\∃N:St->Hp->Prop,(∀σ' H',N σ' H'->∃m',m'<m/\W (i+1) m' σ' H')/\∀x H',(LC K a).yld i H x H'->g x σ H' λσ2 H2=>tb {D with nx:=N,ct:=N,bk:=D.nx} σ2 H2):=by
 refine⟨λi m σ H=>m=xs.length-i/\i<=xs.length/\Pv i σ H,⟨xs.length,by simp,cA _,h0⟩,?_⟩
 rintro i m σ H ⟨rfl,hi,p⟩
 have q:=hl i σ H hi p
 by_cases hlt:i<xs.length
 ·refine .inr ⟨⟨xs,xs[i],q,by simp[hlt]⟩,Pv (i+1),λσ' H' p'=>⟨xs.length-(i+1),by lia,rfl,hlt,p'⟩,λx H' y=>?_⟩
  obtain⟨pp,v,e1,rfl,rfl,y⟩:=y
  exact hs i v σ H pp (y xs q) e1 p
 ·have e:i=xs.length:=by lia
  subst e
  exact .inl ⟨⟨xs,q,aC _⟩,hd σ H p⟩
theorem Hu{K:Fg}{a b:Addr}{xs ys:List V}{g:TG}{tb:TS}{D:nN}{σ:St}{H:Hp}(el:xs.length=ys.length)(Pv:Nat->St->Hp->Prop)(h0:Pv 0 σ H)(hl:∀i σ H,i<=xs.length->Pv i σ H->bZ K H a xs/\bZ K H b ys)
  (hs:∀i x y σ H p,xs[i]?=some x->ys[i]?=some y->H p=none->Pv i σ H->g (.ref p) σ (upd H p (.tup [x,y])) λσ2 H2=>tb {D with nx:=Pv (i+1),ct:=Pv (i+1),bk:=D.nx} σ2 H2) (hd:∀σ H,Pv xs.length σ H->D.nx σ H) :
  ∃W:Nat->Nat->St->Hp->Prop,(∃m,W 0 m σ H)/\∀i m σ H,W i m σ H->
   ((LD K a b).stop i H/\D.nx σ H)\/((LD K a b).go i H/\∃N:St->Hp->Prop,(∀σ' H',N σ' H'->∃m',m'<m/\W (i+1) m' σ' H')/\∀x H',(LD K a b).yld i H x H'->g x σ H' λσ2 H2=>tb {D with nx:=N,ct:=N,bk:=D.nx} σ2 H2):=by
 refine⟨λi m σ H=>m=xs.length-i/\i<=xs.length/\Pv i σ H,⟨xs.length,by simp,cA _,h0⟩,?_⟩
 rintro i m σ H ⟨rfl,hi,p⟩
 obtain⟨q1,q2⟩:=hl i σ H hi p
 by_cases hlt:i<xs.length
 ·have hlt2:i<ys.length:=by lia
  refine .inr ⟨⟨xs,xs[i],ys,ys[i],q1,by simp[hlt],q2,by simp[hlt2]⟩,Pv (i+1),λσ' H' p'=>⟨xs.length-(i+1),by lia,rfl,hlt,p'⟩,λx H' y=>?_⟩
  obtain⟨pp,v,u,e1,rfl,rfl,y1,y2⟩:=y
  exact hs i v u σ H pp (y1 xs q1) (y2 ys q2) e1 p
 ·have e:i=xs.length:=by lia
  subst e
  exact .inl ⟨⟨xs,ys,q1,q2,.inl (aC _)⟩,hd σ H p⟩
end L2
namespace PySem
open Sem (wp)
open Builtin MeetsSeq MeetsSeq2 MeetsSeq3
theorem rz:fillsNumberSlot (.type "tuple") "mul"=pure false:=
 fillsNumberSlot_seq (id:="tuple.__mul__") (r:=some (.builtin "tuple.__rmul__")) F.slot_tuple_mul.lookup (by decide +kernel) F.slot_tuple_rmul.lookup (by decide +kernel)
theorem yu:seqRepeat? (.type "tuple")=pure (some (.builtin "tuple.__mul__")):=by
 unfold seqRepeat?
 rw[seqSlot_of (T:="tuple") (name:="__mul__") (id:="tuple.__mul__") F.slot_tuple_mul.lookup (by decide +kernel),seqSlot_of (T:="tuple") (name:="__rmul__") (id:="tuple.__rmul__") F.slot_tuple_rmul.lookup (by decide +kernel)]
 rfl
theorem tS(a:Int)(t:Tok)(l:Addr)(items:Array Value)(n:Nat)(dd:Option Addr)(sl:Array (Option Value)) :
  Meets (Builtin.«int.__rmul__» ⟨[.int a t,.ref l],[]⟩) (λ_ R s=>s.heap.get? l=some {cls:=.type "tuple",dict:=dd,data:=.seq items n,slots:=sl}/\R (.ok (.ret Value.notImplemented)) s):=
 .of_wp λprog w A R s h=>by obtain⟨hp,g,d,tk,os⟩:=s;obtain⟨hl,h⟩:=h;wp_walk;exact⟨_,rfl,h⟩
theorem uU(l:Addr)(items:Array Value)(n:Nat)(dd:Option Addr)(sl:Array (Option Value))(x:Int)(u:Tok)(hlo:-(2 ^ 63)<=x)(hhi:x<2 ^ 63)(he:items.isEmpty=false)(h1:¬x=1)(hp:0<x)(hsz:items.size*x.toNat<=sizeLine) :
  Meets (Builtin.«tuple.__mul__» ⟨[.ref l,.int x u],[]⟩) (λ_ R s=>s.heap.get? l=some {cls:=.type "tuple",dict:=dd,data:=.seq items n,slots:=sl}/\
   R (.ok (.ret (Value.ref s.heap.objs.size))) {s with heap:=s.heap.push {cls:=Value.type "tuple",data:=Data.seq (sS (λx1 x2=>x1++x2) #[] (aO x.toNat items))},toks:=s.toks}):=
 .of_wp λprog w A R s h=>by
  obtain⟨hp,g,d,tk,os⟩:=s;obtain⟨hl,h⟩:=h
  have z1:(decide (x < -(2 ^ 63)) || decide (x >= 2 ^ 63))=false:=by simp;lia
  have z2:(items.isEmpty || x==1)=false:=by simp[he,h1]
  have z3:(decide (x<=0) || items.isEmpty)=false:=by simp[he];lia
  have ex:(items.size:Int)*x=((items.size*x.toNat:Nat):Int):=by
   rw[Int.natCast_mul];congr 1;lia
  have z4:¬((items.size:Int)*x>(2 ^ 63-1) / 8):=by
   rw[ex]
   have:(sizeLine:Nat)<=(2 ^ 63-1) / 8:=by decide
   lia
  have z5:Tuple.tupleTooMany ((items.size:Int)*x)=false:=by
   unfold Tuple.tupleTooMany
   rw[ex]
   exact decide_eq_false (by lia)
  have z6:(sS (λ(x1 x2:Array Value)=>x1++x2) #[] (aO x.toNat items)).size<=sizeLine:=by
   have e:=AutoListH.size_joined items x.toNat #[]
   rw[e,Nat.mul_comm]
   simpa using hsz
  wp_walk
  refine wpAny_ite_false (by rw[z1];rfl) ?_
  wp_walk using AutoSeq1.wpAny_loadPart' hl
  refine wpAny_ite_false (decide_eq_false z4) ?_
  wp_walk
  refine wpAny_ite_false (by rw[z5];rfl) ?_
  wp_walk
  exact⟨_,rfl,h⟩
theorem vR(l:Addr)(items:Array Value)(n:Nat)(dd:Option Addr)(sl:Array (Option Value))(u:Tok) :
  Meets (Builtin.«tuple.__mul__» ⟨[.ref l,.int 1 u],[]⟩) (λ_ R s=>s.heap.get? l=some {cls:=.type "tuple",dict:=dd,data:=.seq items n,slots:=sl}/\R (.ok (.ret (Value.ref l))) s):=
 .of_wp λprog w A R s h=>by
  obtain⟨hp,g,d,tk,os⟩:=s;obtain⟨hl,h⟩:=h
  have z2:(items.isEmpty || (1:Int)==1)=true:=by simp
  wp_walk using AutoSeq1.wpAny_loadPart' hl
  first|exact⟨_,rfl,h⟩|trace_state
theorem uV(l:Addr)(items:Array Value)(n:Nat)(dd:Option Addr)(sl:Array (Option Value))(u:Tok)(he:items.isEmpty=false) :
  Meets (Builtin.«tuple.__mul__» ⟨[.ref l,.int 0 u],[]⟩) (λ_ R s=>s.heap.get? l=some {cls:=.type "tuple",dict:=dd,data:=.seq items n,slots:=sl}/\
   R (.ok (.ret (Value.ref s.heap.objs.size))) {s with heap:=s.heap.push {cls:=Value.type "tuple",data:=Data.seq #[]},toks:=s.toks}):=
 .of_wp λprog w A R s h=>by
  obtain⟨hp,g,d,tk,os⟩:=s;obtain⟨hl,h⟩:=h
  have z2:(items.isEmpty || (0:Int)==1)=false:=by simp[he]
  have z3:(decide ((0:Int)<=0) || items.isEmpty)=true:=by simp
  wp_walk using AutoSeq1.wpAny_loadPart' hl
  first|exact⟨_,rfl,h⟩|trace_state
end PySem
namespace L2
open PySem PySem.Spec PyProof.Rows
section
variable{X:Cx}
def JK(K:Fg):R2:=λx y H Q=>∃(l:Addr) (k:Nat) (xs:List V),x=.ref l/\y=.int (k:Nat)/\eU K H l xs/\xs≠[]/\xs.length*k<=sizeLine/\(k=1->Q (.ref l) H)/\
 (k≠1->∀p,H p=none->Q (.ref p) (upd H p (.tup (aO k xs).flatten)))
theorem Ie:lh X (binaryOp .Mult) (JK X.K):=by
 intro pins s σ H x y v u Q I rx ry h
 obtain⟨l,k,xs,rfl,rfl,hq,hne,hz,q1,q2⟩:=h
 cases rx
 obtain⟨t,rfl⟩:=ry
 obtain⟨its,r,⟨⟨cls,dd,data,sl⟩,e,hc,n,hd⟩,hl⟩:=I.tuple hq
 simp only at hc hd
 subst hc hd
 have hlen:=r.length
 have he:its.toArray.isEmpty=false:=by
  cases its with
  |nil=>simp at hlen;exact absurd hlen hne
  |cons a r'=>rfl
 have hs:its.toArray.size*k<=sizeLine:=by rw[aq,<-hlen];exact hz
 have road:wpAny (model X.prog X.w) X.A (call (.builtin "tuple.__mul__") [.ref l,.int (k:Nat) t]) (EP X pins σ Q) X.xe s->wpAny (model X.prog X.w) X.A (binaryOp .Mult (.ref l) (.int (k:Nat) t)) (EP X pins σ Q) X.xe s:=λhcall=>
  wpAny_binaryOp_repeat_ref (T:="tuple") (U:="int") (by decide) ⟨_,e,rfl⟩ (λs'=>typeIs_int s' k t) rz F.fills_int_mul F.slot_int_rmul yu F.slot_int_index.lookup
   (call_meets F.slot_int_rmul (typeIs_int s k t) F.entry_int_rmul (F.args_int_rmul_2 _ _) (tS k t l its.toArray n dd sl) ⟨e,rfl,⟨_,e,rfl⟩,hcall⟩)
 refine road ?_
 by_cases h1:k=1
 ·subst h1
  exact call_meets F.slot_tuple_mul ⟨_,e,rfl⟩ F.entry_tuple_mul (F.args_tuple_mul_2 _ _) (vR l its.toArray n dd sl t) ⟨e,⟨.ref l,H,I,rfl,q1 rfl⟩⟩
 ·have hn:H s.heap.objs.size=none:=I.hok.fresh (aC _)
  by_cases h0:k=0
  ·subst h0
   refine call_meets F.slot_tuple_mul ⟨_,e,rfl⟩ F.entry_tuple_mul (F.args_tuple_mul_2 _ _) (uV l its.toArray n dd sl t he) ⟨e,⟨.ref s.heap.objs.size,_,?_,rfl,q2 h1 _ hn⟩⟩
   exact I.laid (t':=s.toks) (λb o e=>ak _ e) (aC _) ⟨cA _,[],.nil,⟨_,aN _ rfl,⟨rfl,rfl⟩,_,rfl⟩⟩
  ·have hk64:(k:Int)<2 ^ 63:=by
    have h3:1<=its.toArray.size:=by
     cases its with
     |nil=>simp at he
     |cons a r'=>simp
    have h4:k<=its.toArray.size*k:=Nat.le_mul_of_pos_left k h3
    have h5:(sizeLine:Nat)<2 ^ 63:=by decide
    lia
   refine call_meets F.slot_tuple_mul ⟨_,e,rfl⟩ F.entry_tuple_mul (F.args_tuple_mul_2 _ _) (uU l its.toArray n dd sl k t (by lia) hk64 he (by lia) (by lia) (by simpa using hs)) ⟨e,?_⟩
   have f0:=vZ its k []
   rw[List.nil_append] at f0
   have ek:((k:Nat):Int).toNat=k:=by simp
   rw[ek,f0]
   refine⟨.ref s.heap.objs.size,_,?_,rfl,q2 h1 _ hn⟩
   refine I.laid (t':=s.toks) (λb o e=>ak _ e) (aC _) ⟨?_,(aO k its).flatten,r.rep k,⟨_,aN _ rfl,⟨rfl,rfl⟩,_,rfl⟩⟩
   rw[HJ,Nat.mul_comm];exact hz
theorem xB:kK X (.builtin "divmod") (λxs H Q=>∃i j,xs=[.int i,.int j]/\(0<j/\j<2 ^ 64)/\∀p,H p=none->Q (.ref p) (upd H p (.tup [.int (i / j),.int (i % j)]))):=by
 intro pins s σ H xs us Q I r h
 obtain⟨i,j,rfl,⟨h1,h2⟩,q⟩:=h
 obtain⟨u,w',rfl,⟨t,rfl⟩,⟨t',rfl⟩⟩:=wZ r
 have hb:j.natAbs.log2<9000:=by
  have h3:j.natAbs.log2<64:=(Nat.log2_lt (by lia)).mpr (by lia)
  lia
 refine divmod_int (by lia) ?_ (.inl (PyProof.noPylong_of_log2 hb))
 rw[Int.fdiv_eq_ediv_of_nonneg i (by lia),Int.fmod_eq_emod_of_nonneg i (by lia)]
 have hn:H s.heap.objs.size=none:=I.hok.fresh (aC _)
 refine⟨.ref s.heap.objs.size,_,?_,rfl,q _ hn⟩
 refine I.laid (λb o e=>ak _ e) (aC _) ⟨by simp only[cf,iR];rw[sizeLine_eq];decide,[.int (i / j) s.toks,.int (i % j) (s.toks+1)],.cons ⟨_,rfl⟩ (.cons ⟨_,rfl⟩ .nil),?_⟩
 exact⟨_,aN s.heap rfl,⟨rfl,rfl⟩,0,rfl⟩
inductive u3(K:Fg)(H:Hp):V->String->Bool->Prop where
 |int_int (i:Int):u3 K H (.int i) "int" true
 |int_bool (i:Int):u3 K H (.int i) "bool" false
 |int_tuple (i:Int):u3 K H (.int i) "tuple" false
 |str_tuple (x:Str):u3 K H (.str x) "tuple" false
 |tup_tuple {a:Addr} {xs:List V} (h:eU K H a xs):u3 K H (.ref a) "tuple" true
 |lst_list {a:Addr} {xs:List V} (h:bZ K H a xs):u3 K H (.ref a) "list" true
 |str_str (x:Str):u3 K H (.str x) "str" true
 |bl_bool (b:Bool):u3 K H (.bl b) "bool" true
theorem mv:kK X (.builtin "isinstance") (λxs H Q=>∃x T b,xs=[x,.ty T]/\u3 X.K H x T b/\Q (.bl b) H):=by
 intro pins s σ H xs us Q I r h
 obtain⟨x,T,b,rfl,hi,q⟩:=h
 obtain⟨u,w',rfl,r1,r2⟩:=wZ r
 cases r2
 cases hi with
 |int_int i=>obtain⟨t,rfl⟩:=r1;exact IsiPair.int_int ⟨.bl true,H,I,rfl,q⟩
 |int_bool i=>obtain⟨t,rfl⟩:=r1;exact IsiPair.int_bool ⟨.bl false,H,I.tok _,rfl,q⟩
 |int_tuple i=>obtain⟨t,rfl⟩:=r1;exact IsiPair.int_tuple ⟨.bl false,H,I.tok _,rfl,q⟩
 |str_tuple z=>obtain⟨t,rfl⟩:=r1;exact IsiPair.str_tuple ⟨.bl false,H,I.tok _,rfl,q⟩
 |tup_tuple hs=>
  cases r1
  obtain⟨its,rv,⟨o,e,hc,_⟩,hz⟩:=I.tuple hs
  exact IsiPair.tuple_tuple e hc ⟨.bl true,H,I,rfl,q⟩
 |lst_list hs=>
  cases r1
  obtain⟨its,rv,pl,hz⟩:=I.list hs
  obtain⟨o,e,hc,_⟩:=pl.isList
  exact IsiPair.list_list e hc ⟨.bl true,H,I,rfl,q⟩
 |str_str z=>obtain⟨t,rfl⟩:=r1;exact IsiPair.str_str ⟨.bl true,H,I,rfl,q⟩
 |bl_bool z=>cases r1;exact IsiPair.bool_bool ⟨.bl true,H,I,rfl,q⟩
theorem Bm(bs:List Bool):(jO bs.length).all (λi=>(bs[i]?).getD false)=bs.all id:=by
 rw[Bool.eq_iff_iff,ik,ik]
 constructor
 ·intro h b hb
  obtain⟨i,hi,e⟩:=gW.mp hb
  have:=h i (nK.mpr hi)
  rw[ab hi,fL,e] at this
  exact this
 ·intro h i hi
  have hi:=nK.mp hi
  rw[ab hi,fL]
  exact h _ (dv hi)
theorem yL(hc:X.calm=true):kK X (.builtin "all") (λxs H Q=>∃(p:Addr) (bs:List Bool),xs=[.ref p]/\bZ X.K H p (bs.map V.bl)/\Q (.bl (bs.all id)) H):=by
 intro pins s σ H xs us Q I r h
 obtain⟨p,bs,rfl,hq,q⟩:=h
 obtain⟨u,rfl,rx⟩:=su r
 cases rx
 obtain⟨its,rv,pl,hz⟩:=I.list hq
 have hlen:=rv.length
 rw[ai] at hlen
 have hlt:p<s.heap.objs.size:=by obtain⟨o,e,_⟩:=pl.isList;exact aH e
 refine call_all_walk (wpAny_pyIter_list pl.isList ?_)
 refine⟨_,_,_,_,_,_,λi=>(bs[i]?).getD false,rfl,Walks.list (A:=X.A.in1) (show X.A.in1.handled=none from I.ok.hd hc) s.heap.objs.size p (bt hlt) its.toArray,⟨⟨_,aN _ rfl,rfl,rfl⟩,pl.isList.push _⟩,?_,λh' tk hk=>?_⟩
 ·intro i v s' Q' E' hP hQ
  have hP':its[i]?=some v:=by
   have:its.toArray[i]?=some v:=hP
   simpa using this
  have hi:i<bs.length:=by rw[hlen];exact(aj.mp hP').1
  obtain⟨u,hu,ru⟩:=rv.get (i:=i) (x:=V.bl bs[i]) (by rw[ba,ab hi];rfl)
  rw[hP'] at hu
  cases hu
  cases ru
  have hQ':Q' ((bs[i]?).getD false) s':=hQ
  rw[ab hi,fL] at hQ'
  exact wpAny_truthy_bool hQ'
 ·have e:its.toArray.size=bs.length:=by rw[aq,hlen]
  rw[e,Bm]
  refine⟨.bl _,H,?_,rfl,q⟩
  refine I.kept (t':=tk) λb o eb=>?_
  refine hk b o (λz=>?_) (ak _ eb)
  have e2:b=s.heap.objs.size:=by simpa using z
  have h2:=aH eb
  rw[e2] at h2
  exact dA _ h2
theorem qm(hc:X.calm=true):kK X (.builtin "sum") (λxs H Q=>∃(p:Addr) (ns:List Int),xs=[.ref p]/\bZ X.K H p (ns.map V.int)/\∀z:Int,Q (.int z) H):=by
 intro pins s σ H xs us Q I r h
 obtain⟨p,ns,rfl,hq,q⟩:=h
 obtain⟨u,rfl,rx⟩:=su r
 cases rx
 obtain⟨its,rv,pl,hz⟩:=I.list hq
 have intsOf:∀(ns:List Int) (its:List Value),ck (ns.map V.int) its->∃xs:List (Int×Tok),its=xs.map λp=>Value.int p.1 p.2:=by
  intro ns
  induction ns with
  |nil=>intro its r;cases r;exact⟨[],rfl⟩
  |cons n ns ih=>
   intro its r
   cases r with
   |cons r rr=>
    obtain⟨xs,rfl⟩:=ih _ rr
    obtain⟨t,rfl⟩:=r
    exact⟨(n,t)::xs,rfl⟩
 obtain⟨xs,rfl⟩:=intsOf ns its rv
 refine sum_intListG (xs:=xs.toArray) (I.ok.hd hc) ?_ λh' tk t' hk=>⟨.int _,H,I.kept hk,⟨t',rfl⟩,q _⟩
 have e:=pl.isList
 simpa[intItems] using e
end
section
variable{X:Cx}
theorem Af:∀{ys:List Str} {us:List Value},ck (ys.map V.str) us->StrsAre us ys
 |[],_,r=>by cases r;exact .nil
 |y::ys,_,r=>by
  cases r with
  |cons r rr=>
   obtain⟨t,rfl⟩:=r
   exact .cons _ _ (Af rr)
def JH(K:Fg):V->List V->Hp->VK->Prop:=λx vs H Q=>∃(sep:Str) (p:Addr) (ys:List Str),x=.str sep/\vs=[.ref p]/\bZ K H p (ys.map V.str)/\(ys.map (·.length)).sum+ys.length*sep.length<=16777216/\Q (.str (Txt.join sep ys)) H
theorem HK:Lp X "str.join" (JH X.K):=by
 intro pins s σ H x vs v us Q I rx rv h
 obtain⟨sep,p,ys,rfl,rfl,hq,hz,q⟩:=h
 obtain⟨t,rfl⟩:=rx
 obtain⟨u,rfl,ru⟩:=rv.one
 cases ru
 obtain⟨its,r,pl,_⟩:=I.list hq
 exact join_list pl.isList (by simpa using Af r) hz λt' k=>⟨.str _,H,I.tok k,⟨t',rfl⟩,q⟩
end
section
variable{X:Cx}
def oZ(xs ys:List V):Bool:=(jO (min xs.length ys.length)).all (λj=>tP ((xs[j]?).getD .non) ((ys[j]?).getD .non))&&xs.length==ys.length
def IW(K:Fg)(neg:Bool):R2:=λx y H Q=>∃p q xs ys,x=.ref p/\y=.ref q/\eU K H p xs/\eU K H q ys/\xs.all jk=true/\ys.all jk=true/\Q (.bl (if neg then !oZ xs ys else oZ xs ys)) H
theorem Cz{A:Around}{s:Shared}{xs ys:List V}{us vs:List Value}(r1:ck xs us)(r2:ck ys vs)(f1:xs.all jk=true)(f2:ys.all jk=true) :
  ∀j (h1:j<us.toArray.size) (h2:j<vs.toArray.size),SeqAt.EqAt A s us.toArray[j] vs.toArray[j] (tP ((xs[j]?).getD .non) ((ys[j]?).getD .non)):=by
 intro j h1 h2
 have l1:=r1.length
 have l2:=r2.length
 rw[aq] at h1 h2
 have j1:j<xs.length:=by lia
 have j2:j<ys.length:=by lia
 obtain⟨u,hu,ru⟩:=r1.get (ab j1)
 obtain⟨v,hv,rv⟩:=r2.get (ab j2)
 have eu:us.toArray[j]=u:=by
  have:=ab h1
  rw[hu] at this
  simpa using(Option.some.inj this).symm
 have ev:vs.toArray[j]=v:=by
  have:=ab h2
  rw[hv] at this
  simpa using(Option.some.inj this).symm
 rw[eu,ev,ab j1,ab j2,fL,fL]
 exact rf ru rv (ik.mp f1 _ (dv j1)) (ik.mp f2 _ (dv j2))
theorem Km(hu:X.A.units<cLine):lh X (compareOp .Eq) (IW X.K false):=by
 intro pins s σ H x y v u Q I rx ry h
 obtain⟨p,q,xs,ys,rfl,rfl,h1,h2,f1,f2,qq⟩:=h
 cases rx
 cases ry
 obtain⟨us,r1,t1,_⟩:=I.tuple h1
 obtain⟨vs,r2,t2,_⟩:=I.tuple h2
 refine SeqAt.eq_tupleAt (show s.heap.IsTuple p us.toArray from t1) (show s.heap.IsTuple q vs.toArray from t2) hu (Cz r1 r2 f1 f2) ⟨.bl (oZ xs ys),H,I,?_,qq⟩
 show Value.bool _=Value.bool _
 unfold oZ
 rw[aq,aq,r1.length,r2.length]
def JE(K:Fg):R2:=λx y H Q=>∃p xs z,x=.ref p/\y=.str z/\eU K H p xs/\Q (.bl false) H
theorem HZ(hu:X.A.units<cLine):lh X (compareOp .Eq) (JE X.K):=by
 intro pins s σ H x y v u Q I rx ry h
 obtain⟨p,xs,z,rfl,rfl,h1,qq⟩:=h
 cases rx
 obtain⟨t,rfl⟩:=ry
 obtain⟨us,r1,t1,_⟩:=I.tuple h1
 exact SeqAt.RcAt.tuple_str z t (show s.heap.IsTuple p us.toArray from t1) hu X.prog X.w X.xe _ ⟨.bl false,H,I,rfl,qq⟩
theorem Kr(hu:X.A.units<cLine):lh X (compareOp .NotEq) (IW X.K true):=by
 intro pins s σ H x y v u Q I rx ry h
 obtain⟨p,q,xs,ys,rfl,rfl,h1,h2,f1,f2,qq⟩:=h
 cases rx
 cases ry
 obtain⟨us,r1,t1,_⟩:=I.tuple h1
 obtain⟨vs,r2,t2,_⟩:=I.tuple h2
 refine SeqAt.RcNeAt.tuples (show s.heap.IsTuple p us.toArray from t1) (show s.heap.IsTuple q vs.toArray from t2) hu (Cz r1 r2 f1 f2) X.prog X.w X.xe _ ⟨.bl (!oZ xs ys),H,I,?_,qq⟩
 show Value.bool _=Value.bool _
 unfold oZ
 rw[aq,aq,r1.length,r2.length]
end
section
variable{X:Cx}
def IU(K:Fg)(neg:Bool):R2:=λx y H Q=>∃p q xs ys,x=.ref p/\y=.ref q/\bZ K H p xs/\bZ K H q ys/\xs.all jk=true/\ys.all jk=true/\Q (.bl (if neg then !oZ xs ys else oZ xs ys)) H
theorem yZ{xs ys:List V}(h:xs.length=ys.length):oZ xs ys=(jO xs.length).all (λj=>tP ((xs[j]?).getD .non) ((ys[j]?).getD .non)):=by
 unfold oZ;rw[<-h,Nat.min_self];simp
theorem CI{xs ys:List V}(h:¬xs.length=ys.length):oZ xs ys=false:=by
 unfold oZ;rw[Bool.and_eq_false_iff];right;simpa using h
theorem Kk(hu:X.A.units<cLine):lh X (compareOp .Eq) (IU X.K false):=by
 intro pins s σ H x y v u Q I rx ry h
 obtain⟨p,q,xs,ys,rfl,rfl,h1,h2,f1,f2,qq⟩:=h
 cases rx
 cases ry
 obtain⟨us,r1,t1,_⟩:=I.list h1
 obtain⟨vs,r2,t2,_⟩:=I.list h2
 have l1:=r1.length
 have l2:=r2.length
 by_cases c:xs.length=ys.length
 ·refine SeqAt.eq_listAt t1.isList t2.isList (by rw[aq,aq];lia) hu (Cz r1 r2 f1 f2) ⟨.bl (oZ xs ys),H,I,?_,qq⟩
  show Value.bool _=Value.bool _
  rw[yZ c,aq,l1]
 ·refine SeqAt.eq_list_lengthsAt t1.isList t2.isList (by rw[aq,aq];simp;lia) hu ⟨.bl (oZ xs ys),H,I,?_,qq⟩
  show Value.bool _=Value.bool _
  rw[CI c]
theorem Kp(hu:X.A.units<cLine):lh X (compareOp .NotEq) (IU X.K true):=by
 intro pins s σ H x y v u Q I rx ry h
 obtain⟨p,q,xs,ys,rfl,rfl,h1,h2,f1,f2,qq⟩:=h
 cases rx
 cases ry
 obtain⟨us,r1,t1,_⟩:=I.list h1
 obtain⟨vs,r2,t2,_⟩:=I.list h2
 have l1:=r1.length
 have l2:=r2.length
 by_cases c:xs.length=ys.length
 ·refine SeqAt.RcNeAt.lists t1.isList t2.isList (by rw[aq,aq];lia) hu (Cz r1 r2 f1 f2) X.prog X.w X.xe _ ⟨.bl (!oZ xs ys),H,I,?_,qq⟩
  show Value.bool _=Value.bool _
  rw[yZ c,aq,l1]
 ·refine SeqAt.RcNeAt.lists_lengths t1.isList t2.isList (by rw[aq,aq];simp;lia) hu X.prog X.w X.xe _ ⟨.bl (!oZ xs ys),H,I,?_,qq⟩
  show Value.bool _=Value.bool _
  rw[CI c];rfl
end
section
variable{prog:Program}{w:World}{A:Around}{E:Value->Shared->Prop}
theorem tN{it t:Addr}{items:Array Value}(hne:t≠it):∀(n i:Nat) (s:Shared) (Q:List Value->Shared->Prop),s.heap.IsListIter it t i->s.heap.IsList t items->i+n<=items.size->
  (∀h':Heap,h'.IsListIter it t (i+n)->Heap.SameBut it s.heap h'->Q ((items.toList.drop i).take n) {s with heap:=h'})->wpAny (model prog w) A (draw (.ref it) n) Q E s
 |0,i,s,Q,hit,_,_,hQ=>by
  show wpAny _ _ (pure []) Q E s
  exact wpAny_pure (by simpa using hQ s.heap hit (Heap.SameBut.refl ..))
 |n+1,i,s,Q,hit,ht,hle,hQ=>by
  have hlt:i<items.size:=by lia
  show wpAny _ _ (pyNext (.ref it) >>= _) Q E s
  refine wpAny_bind (wpAny_pyNext_list_item hit ht (x:=items[i]) (by simp[hlt]) λh₁ hit₁ hs₁=>?_)
  refine wpAny_bind (wpAny_holding (tN hne n (i+1) _ _ hit₁ (ht.extBut hs₁.extBut hne) (by lia) λh₂ hit₂ hs₂=>wpAny_pure ?_))
  have hd:items.toList.drop i=items[i]::items.toList.drop (i+1):=by simp[iE,hlt]
  have:=hQ h₂ (by rw[show i+(n+1)=i+1+n by lia];exact hit₂) (hs₁.trans hs₂)
  rw[hd,List.take_succ_cons] at this
  exact this
theorem qW{s:Shared}{t:Addr}{items:Array Value}{Q:List Value->Shared->Prop}(hh:A.handled=none)(ht:s.heap.IsList t items)
  (hQ:∀h':Heap,Heap.ExtBut s.heap.objs.size s.heap h'->Q items.toList {s with heap:=h'}):wpAny (model prog w) A (unpackItems (.ref t) items.size none) Q E s:=by
 have hlt:t≠s.heap.objs.size:=by obtain⟨o,ho,_⟩:=ht;exact bt (aH ho)
 unfold unpackItems
 refine wpAny_bind ?_
 ·unfold notIterableAtAll
  refine wpAny_bind (wpAny_specialOf ht.typeIs slot_list_iter.lookup ?_)
  refine wpAny_pure ?_
  simp only[Bool.false_eq_true,if_false]
  refine wpAny_bind (wpAny_holding (wpAny_pyIter_list ht ?_))
  refine wpAny_bind (wpAny_holding (tN hlt items.size 0 _ _ ⟨_,aN _ rfl,rfl,rfl⟩ (ht.push _) (by lia) λh₁ hit₁ hs₁=>?_))
  have hall:List.take items.size (List.drop 0 items.toList)=items.toList:=by
   rw[nI];exact fZ (by simp)
  rw[hall]
  rw[if_neg (by simp)]
  have ht₁:h₁.IsList t items:=(ht.push _).extBut hs₁.extBut hlt
  refine wpAny_bind (wpAny_holding (wpAny_pyNext_list_end hh hit₁ ht₁ (by simp) λh₂ he₂=>?_))
  simp only[Option.isSome_none,Bool.false_eq_true,if_false]
  refine wpAny_pure (hQ h₂ λb o hb e=>he₂ b o hb (hs₁.extBut b o hb (ak _ e)))
end
section
variable{X:Cx}{pos:Pos}
def E3(K:Fg)(n:Nat)(t:Dk):TG:=λv σ H Q=>∃a xs,v=.ref a/\bZ K H a xs/\xs.length=n/\t xs σ H Q
theorem Ir{es:List Expr}{k:Nat}{t:Dk}{n:Nat}(hc:X.calm=true)(h:Lq X es t)
  (hn:(assignEach es X.env).length=n:=by rfl) (hst:(assignEach es X.env).findIdx? (·.1)=none:=by rfl):PG X (.Tuple es k pos) (E3 X.K n t):=by
 intro pins s σ H v u Q I r hw
 obtain⟨a,xs,e1,hq,hl,hw⟩:=hw
 subst e1
 cases r
 obtain⟨its,rv,ht,hz⟩:=I.list hq
 rw[assign_Tuple]
 refine wpAny_bind (wpAny_standAt ?_)
 unfold unpack
 have e:(assignEach es X.env).length=its.toArray.size:=by simp[hn,<-hl,rv.length]
 rw[e,hst]
 refine wpAny_bind (wpAny_holding (qW (I.ok.hd hc) ht.isList λh' hx=>?_))
 have I1:bQ X pins σ H {s with heap:=h'}:=I.kept (t':=s.toks) λb o e=>hx b o (bt (aH e)) e
 exact h pins _ σ H xs _ Q I1 (by simpa using rv) hw
end
def Mn:R2:=λx y H Q=>∃i j,x=.str i/\y=.str j/\i.length+j.length<=sizeLine/\Q (.str (i++j)) H
def dN(K:Fg):R2:=λx y H Q=>GZ (λi j=>.int (i+j)) x y H Q\/(Mn x y H Q\/(Md x y H Q\/JD K x y H Q))
def rN:R2:=GZ λi j=>.int (i-j)
def je(K:Fg):R2:=λx y H Q=>rI G1 (λi j=>.int (i*j)) x y H Q\/JK K x y H Q
def kq:R2:=rI (λ_ j=>0<j) λi j=>.int (i % j)
def ym:R2:=rI Lx λi j=>.int (i / j)
def wg:R2:=rI Ly λi j=>.int (i ^ j.toNat)
def fh(K:Fg):R2:=λx y H Q=>M8 x y H Q\/(IW K false x y H Q\/(JE K x y H Q\/IU K false x y H Q))
def FZ(K:Fg):R2:=λx y H Q=>M9 x y H Q\/(IW K true x y H Q\/IU K true x y H Q)
def sD:R2:=GZ λi j=>.bl (decide (i<j))
def Me:R2:=GZ λi j=>.bl (decide (j<i))
def MQ:R2:=λx y H Q=>y=.non/\Q (.bl (decide (x=.non))) H
def Mj:R2:=λx y H Q=>y=.non/\Q (.bl (!decide (x=.non))) H
def Ga:V->Hp->VK->Prop:=rU λi=>.int (-i)
def D4(K:Fg):V->Option Int->Option Int->Hp->VK->Prop:=λx lo hi H Q=>Ml K x lo hi H Q\/Mm K x lo hi H Q
def ly(K:Fg):List V->Hp->VK->Prop:=λxs H Q=>∃x n,xs=[x]/\LF K x H n/\Q (.int n) H
def IT:List V->Hp->VK->Prop:=λxs H Q=>∃i j,xs=[.int i,.int j]/\(0<j/\j<2 ^ 64)/\∀p,H p=none->Q (.ref p) (upd H p (.tup [.int (i / j),.int (i % j)]))
def Mi:List V->Hp->VK->Prop:=λxs H Q=>∃i j,xs=[.int i,.int j]/\Q (.int (if j>i then j else i)) H
def JI:List V->Hp->VK->Prop:=λxs H Q=>∃i j,xs=[.int i,.int j]/\Q (.int (if j<i then j else i)) H
def Mo(K:Fg):List V->Hp->VK->Prop:=λxs H Q=>∃(p:Addr) (ns:List Int),xs=[.ref p]/\bZ K H p (ns.map V.int)/\∀z:Int,Q (.int z) H
def K9(K:Fg):List V->Hp->VK->Prop:=λxs H Q=>∃(p:Addr) (bs:List Bool),xs=[.ref p]/\bZ K H p (bs.map V.bl)/\Q (.bl (bs.all id)) H
def zN(K:Fg):List V->Hp->VK->Prop:=λxs H Q=>∃x T b,xs=[x,.ty T]/\u3 K H x T b/\Q (.bl b) H
def we:List V->Hp->VK->Prop:=λxs H Q=>(∃i,xs=[.int i]/\Q (.int i) H)\/∃k,xs=[.bl k]/\Q (.int (if k then 1 else 0)) H
def oW(K:Fg):List V->Hp->VK->Prop:=λxs H Q=>∃p ys,xs=[.ref p]/\(bZ K H p ys\/eU K H p ys)/\∀l,H l=none->Q (.ref l) (upd H l (.lst ys))
def mD(K:Fg):List V->Hp->VK->Prop:=λxs H Q=>∃p ys,xs=[.ref p]/\((bZ K H p ys/\∀l,H l=none->Q (.ref l) (upd H l (.tup ys)))\/(eU K H p ys/\Q (.ref p) H))
def oh(K:Fg)(tl:TE):TI:=λσ H R=>JA K tl σ H R\/LS K tl σ H R
section
variable{X:Cx}
theorem cz:lh X (binaryOp .Add) (dN X.K):=Ki.or (BR.or (Kj.or HX))
theorem fQ:lh X (binaryOp .Mult) (je X.K):=Ko.or Ie
theorem cq(hu:X.A.units<cLine):lh X (compareOp .Eq) (fh X.K):=L3.or ((Km hu).or ((HZ hu).or (Kk hu)))
theorem yh(hu:X.A.units<cLine):lh X (compareOp .NotEq) (FZ X.K):=L4.or ((Kr hu).or (Kp hu))
theorem lA:G9 X (D4 X.K):=Jm.or Li
theorem KI{tg l:Expr}{tl:TE}(hl:PE X l tl):PI X tg l (oh X.K tl):=by
 intro pins s σ H R I h
 rcases h with h|h
 ·exact Iw hl pins s σ H R I h
 ·exact KL hl pins s σ H R I h
end
structure aM(P:Program)(w:World)(K:Fg)(mg:Str->Option Value)(base:Heap)(x:Str)(ps:List Str)(k:Nat)(sp:Sp):Prop where
 ex:∃(f:Addr) (fd:FuncData),mg x=some (.ref f)/\aA K (.ref f)=true/\kJ K fd ps []/\dt P w K mg base eT k f fd ps sp
theorem L7{X:Cx}{x:Str}{ps:List Str}{k:Nat}{sp:Sp}{e:Expr}{es:List Expr}{t:TA}{p pos:Pos}(c:aM X.prog X.w X.K X.mg X.base x ps k sp)(hr:cD k X.A)(hg:Gl X x)(ha:PA X (e::es) t)
  (hdb:(x==("__debug__":Str))=false:=by decide) (he:starEach (e::es) X.env=(false,eval e X.env)::starEach es X.env:=by rfl) (hpl:(backTo pos (starEach es X.env)).any (·.1)=false:=by rfl) :
  PE X (.Call (.Name x p) (e::es) [] pos) (bL sp [] E0 t):=by
 obtain⟨f,fd,hm,hk,hb,F⟩:=c.ex
 exact CS F hr hg hm hk hb .nil wb ha hdb he hpl
structure fW(mg:Str->Option Value):Prop where
 len_:mg "len"=none
 range_:mg "range"=none
 divmod_:mg "divmod"=none
 max_:mg "max"=none
 min_:mg "min"=none
 sum_:mg "sum"=none
 all_:mg "all"=none
 isinstance_:mg "isinstance"=none
 int_:mg "int"=none
 bool_:mg "bool"=none
 list_:mg "list"=none
 tuple_:mg "tuple"=none
 enumerate_:mg "enumerate"=none
 zip_:mg "zip"=none
 sorted_:mg "sorted"=none
 set_:mg "set"=none
 dict_:mg "dict"=none
 str_:mg "str"=none
 any_:mg "any"=none
 reversed_:mg "reversed"=none
 abs_:mg "abs"=none
def fX(a:Addr)(H H':Hp):Prop:=∀b o,b≠a->H b=some o->H' b=some o
theorem fX.refl(a:Addr)(H:Hp):fX a H H:=λ_ _ _ h=>h
theorem fX.trans{a:Addr}{H H1 H2:Hp}(x:fX a H H1)(y:fX a H1 H2):fX a H H2:=λc o n h=>y c o n (x c o n h)
theorem aS.but{a:Addr}{H H':Hp}(x:aS H H'):fX a H H':=λb o _ h=>x b o h
theorem fX.upd_at{a:Addr}{H:Hp}{o:HO}:fX a H (upd H a o):=λb u n h=>by rw[aw n];exact h
theorem fX.new{a p:Addr}{H H1:Hp}{o:HO}(x:fX a H H1)(hp:H1 p=none):fX a H (upd H1 p o):=λb u n h=>by
 rw[aw (ar (x b u n h) hp)];exact x b u n h
theorem aS.new{p:Addr}{H H1:Hp}{o:HO}(x:aS H H1)(hp:H1 p=none):aS H (upd H1 p o):=λb u h=>by
 rw[aw (ar (x b u h) hp)];exact x b u h
theorem fX.free{a p:Addr}{H H':Hp}(x:fX a H H')(n:p≠a)(h:H' p=none):H p=none:=by
 cases q:H p with
 |none=>rfl
 |some o=>rw[x p o n q] at h;cases h
theorem tJ{js:List Nat}{k:Nat}{lo:Int}{n:Nat}{g:TG}{tc:TT}{te:TE}{R:Hp->Prop}{σ:St}{H:Hp}{D:Addr}(Pv:Nat->St->Hp->Prop)(h0:Pv 0 (CH js k σ) (upd H D (.lst [])))
  (hs:∀i σ H,i<n->Pv i σ H->g (.int (lo+i)) σ H λσ2 H2=>uo D tc te {nx:=Pv (i+1),rt:=λ_ _=>False,ct:=Pv (i+1),bk:=λ_ H'=>R H'} σ2 H2) (hd:∀σ H,Pv n σ H->R H) :
  ∃W:Nat->Nat->St->Hp->Prop,(∃m,W 0 m (CH js k σ) (upd H D (.lst [])))/\∀i m σ H,W i m σ H->
   ((G4 lo n).stop i H/\R H)\/((G4 lo n).go i H/\∃N:St->Hp->Prop,(∀σ' H',N σ' H'->∃m',m'<m/\W (i+1) m' σ' H')/\∀x H',(G4 lo n).yld i H x H'->g x σ H' λσ2 H2=>uo D tc te {nx:=N,rt:=λ_ _=>False,ct:=N,bk:=λ_ H'=>R H'} σ2 H2):=
 my (D:={nx:=λ_ H'=>R H',rt:=λ_ _=>False}) Pv h0 hs hd
theorem mw{js:List Nat}{k:Nat}{K:Fg}{a:Addr}{xs:List V}{g:TG}{tc:TT}{te:TE}{R:Hp->Prop}{σ:St}{H:Hp}{D:Addr}(Pv:Nat->St->Hp->Prop)(h0:Pv 0 (CH js k σ) (upd H D (.lst [])))(hl:∀i σ H,i<=xs.length->Pv i σ H->bZ K H a xs)
  (hs:∀i x σ H,xs[i]?=some x->Pv i σ H->g x σ H λσ2 H2=>uo D tc te {nx:=Pv (i+1),rt:=λ_ _=>False,ct:=Pv (i+1),bk:=λ_ H'=>R H'} σ2 H2) (hd:∀σ H,Pv xs.length σ H->R H) :
  ∃W:Nat->Nat->St->Hp->Prop,(∃m,W 0 m (CH js k σ) (upd H D (.lst [])))/\∀i m σ H,W i m σ H->
   ((Jv K a).stop i H/\R H)\/((Jv K a).go i H/\∃N:St->Hp->Prop,(∀σ' H',N σ' H'->∃m',m'<m/\W (i+1) m' σ' H')/\∀x H',(Jv K a).yld i H x H'->g x σ H' λσ2 H2=>uo D tc te {nx:=N,rt:=λ_ _=>False,ct:=N,bk:=λ_ H'=>R H'} σ2 H2):=
 og (D:={nx:=λ_ H'=>R H',rt:=λ_ _=>False}) Pv h0 hl hs hd
theorem nZ{js:List Nat}{k:Nat}{K:Fg}{a:Addr}{xs:List V}{g:TG}{tc:TT}{te:TE}{R:Hp->Prop}{σ:St}{H:Hp}{D:Addr}(Pv:Nat->St->Hp->Prop)(h0:Pv 0 (CH js k σ) (upd H D (.lst [])))(hl:∀i σ H,i<=xs.length->Pv i σ H->eU K H a xs)
  (hs:∀i x σ H,xs[i]?=some x->Pv i σ H->g x σ H λσ2 H2=>uo D tc te {nx:=Pv (i+1),rt:=λ_ _=>False,ct:=Pv (i+1),bk:=λ_ H'=>R H'} σ2 H2) (hd:∀σ H,Pv xs.length σ H->R H) :
  ∃W:Nat->Nat->St->Hp->Prop,(∃m,W 0 m (CH js k σ) (upd H D (.lst [])))/\∀i m σ H,W i m σ H->
   ((Jw K a).stop i H/\R H)\/((Jw K a).go i H/\∃N:St->Hp->Prop,(∀σ' H',N σ' H'->∃m',m'<m/\W (i+1) m' σ' H')/\∀x H',(Jw K a).yld i H x H'->g x σ H' λσ2 H2=>uo D tc te {nx:=N,rt:=λ_ _=>False,ct:=N,bk:=λ_ H'=>R H'} σ2 H2):=
 xK (D:={nx:=λ_ H'=>R H',rt:=λ_ _=>False}) Pv h0 hl hs hd
theorem fX.through{a l:Addr}{H H1 H2:Hp}{o:HO}(x:fX a H H1)(hl:H1 l=none)(y:fX l (upd H1 l o) H2):fX a H H2:=λb u n h=>by
 have h1:=x b u n h
 have nl:b≠l:=ar h1 hl
 exact y b u nl (by rw[aw nl];exact h1)
end L2
end
section
namespace Bg
open PySem L2
inductive bP where
 |num (x:Str) (z:Int)
 |op (x s a b:Str)
 |call (x:Str) (k:Nat) (as:List Str)
 |say (a:Str)
 |jump (to:Nat)
 |test (a:Str) (to:Nat)
 |give (a:Str)
structure bf where
 name:Str
 params:List Str
 rows:List bP
def qX:bP->Str
 |.num _ _=>"num"|.op _ _ _ _=>"op"|.call _ _ _=>"call"|.say _=>"say"|.jump _=>"jump"|.test _ _=>"test"|.give _=>"give"
def eD(H:Hp)(v:V):bP->Prop
 |.num x z=>∃p,v=.ref p/\H p=some (.tup [.str "num",.str x,.int z])
 |.op x s a b=>∃p,v=.ref p/\H p=some (.tup [.str "op",.str x,.str s,.str a,.str b])
 |.call x k as=>∃p q,v=.ref p/\H p=some (.tup [.str "call",.str x,.int (k:Nat),.ref q])/\H q=some (.tup (as.map V.str))
 |.say a=>∃p,v=.ref p/\H p=some (.tup [.str "say",.str a])
 |.jump to=>∃p,v=.ref p/\H p=some (.tup [.str "jump",.int (to:Nat)])
 |.test a to=>∃p,v=.ref p/\H p=some (.tup [.str "test",.str a,.int (to:Nat)])
 |.give a=>∃p,v=.ref p/\H p=some (.tup [.str "give",.str a])
def Tp(H H':Hp):Prop:=∀p xs,H p=some (.tup xs)->H' p=some (.tup xs)
theorem Tp.refl(H:Hp):Tp H H:=λ_ _ h=>h
theorem Tp.trans{H H1 H2:Hp}(x:Tp H H1)(y:Tp H1 H2):Tp H H2:=λp xs h=>y p xs (x p xs h)
theorem Tp.of_same{H H':Hp}(x:aS H H'):Tp H H':=λp xs h=>x p _ h
theorem Tp.of_but{a:Addr}{ys:List V}{H H':Hp}(x:fX a H H')(ha:H a=some (.lst ys)):Tp H H':=λp xs h=>x p _ (by rintro rfl;rw[h] at ha;cases ha) h
theorem Tp.new{p:Addr}{H H1:Hp}{o:HO}(x:Tp H H1)(hp:H1 p=none):Tp H (upd H1 p o):=λb xs h=>by
 rw[aw (ar (x b xs h) hp)];exact x b xs h
theorem Tp.lst{p:Addr}{H H1:Hp}{ys:List V}{o:HO}(x:Tp H H1)(hp:H1 p=some (.lst ys)):Tp H (upd H1 p o):=λb xs h=>by
 have h1:=x b xs h
 rw[aw (by rintro rfl;rw[h1] at hp;cases hp)];exact h1
theorem eD.mono{H H':Hp}{v:V}{r:bP}(h:eD H v r)(t:Tp H H'):eD H' v r:=by
 cases r with
 |num x z=>obtain⟨p,e,h⟩:=h;exact⟨p,e,t _ _ h⟩
 |op x s a b=>obtain⟨p,e,h⟩:=h;exact⟨p,e,t _ _ h⟩
 |call x k as=>obtain⟨p,q,e,h,h'⟩:=h;exact⟨p,q,e,t _ _ h,t _ _ h'⟩
 |say a=>obtain⟨p,e,h⟩:=h;exact⟨p,e,t _ _ h⟩
 |jump to=>obtain⟨p,e,h⟩:=h;exact⟨p,e,t _ _ h⟩
 |test a to=>obtain⟨p,e,h⟩:=h;exact⟨p,e,t _ _ h⟩
 |give a=>obtain⟨p,e,h⟩:=h;exact⟨p,e,t _ _ h⟩
theorem eD.ref{H:Hp}{v:V}{r:bP}(h:eD H v r):∃p xs,v=.ref p/\H p=some (.tup (.str (qX r)::xs)):=by
 cases r with
 |num x z=>obtain⟨p,e,h⟩:=h;exact⟨p,_,e,h⟩
 |op x s a b=>obtain⟨p,e,h⟩:=h;exact⟨p,_,e,h⟩
 |call x k as=>obtain⟨p,q,e,h,h'⟩:=h;exact⟨p,_,e,h⟩
 |say a=>obtain⟨p,e,h⟩:=h;exact⟨p,_,e,h⟩
 |jump to=>obtain⟨p,e,h⟩:=h;exact⟨p,_,e,h⟩
 |test a to=>obtain⟨p,e,h⟩:=h;exact⟨p,_,e,h⟩
 |give a=>obtain⟨p,e,h⟩:=h;exact⟨p,_,e,h⟩
structure bR{α:Type}(R:V->α->Prop)(vs:List V)(rs:List α):Prop where
 len:vs.length=rs.length
 at_:∀(i:Nat) v r,vs[i]?=some v->rs[i]?=some r->R v r
theorem bR.nil{α:Type}{R:V->α->Prop}:bR R [] []:=⟨rfl,λi v r h=>by simp at h⟩
theorem bR.imp{α:Type}{R R':V->α->Prop}{vs:List V}{rs:List α}(h:bR R vs rs)(f:∀v r,R v r->R' v r):bR R' vs rs:=⟨h.len,λi v r a b=>f v r (h.at_ i v r a b)⟩
theorem bR.snoc{α:Type}{R:V->α->Prop}{vs:List V}{rs:List α}{v:V}{r:α}(h:bR R vs rs)(q:R v r):bR R (vs++[v]) (rs++[r]):=by
 refine⟨by simp[h.len],λi w t a b=>?_⟩
 by_cases hi:i<vs.length
 ·rw[bz hi] at a
  rw[bz (by rw[<-h.len];exact hi)] at b
  exact h.at_ i w t a b
 ·rw[bj (by omega)] at a
  rw[bj (by rw[<-h.len];omega)] at b
  have e:i-vs.length=0:=by
   have:=(aj.mp a).1
   simp at this;omega
  rw[e] at a
  rw[<-h.len,e] at b
  simp at a b
  rw[<-a,<-b];exact q
theorem bR.set{α:Type}{R:V->α->Prop}{vs:List V}{rs:List α}{j:Nat}{v:V}{r:α}(h:bR R vs rs)(q:R v r):bR R (vs.set j v) (rs.set j r):=by
 refine⟨by simp[h.len],λi w t a b=>?_⟩
 by_cases e:j=i
 ·subst e
  have hj:j<vs.length:=by have:=(aj.mp a).1;rw[eX] at this;exact this
  rw[bx hj] at a
  rw[bx (by rw[<-h.len];exact hj)] at b
  cases a;cases b;exact q
 ·rw[bT e] at a b
  exact h.at_ i w t a b
theorem bR.get{α:Type}{R:V->α->Prop}{vs:List V}{rs:List α}(h:bR R vs rs){i:Nat}(hi:i<rs.length):∃v r,vs[i]?=some v/\rs[i]?=some r/\R v r:=by
 have h1:i<vs.length:=by rw[h.len];exact hi
 exact⟨vs[i],rs[i],ab h1,ab hi,h.at_ i _ _ (ab h1) (ab hi)⟩
theorem bR.of_v{α:Type}{R:V->α->Prop}{vs:List V}{rs:List α}(h:bR R vs rs){i:Nat}{v:V}(e:vs[i]?=some v):∃r,rs[i]?=some r/\R v r:=by
 have h1:=(aj.mp e).1
 obtain⟨v',r,e1,e2,q⟩:=h.get (i:=i) (by rw[<-h.len];exact h1)
 rw[e] at e1;cases e1
 exact⟨r,e2,q⟩
def nV(H:Hp)(v:V)(b:bf):Prop:=∃p q r rs,v=.ref p/\H p=some (.tup [.str b.name,.ref q,.ref r])/\H q=some (.tup (b.params.map V.str))/\H r=some (.tup rs)/\bR (eD H) rs b.rows
theorem nV.mono{H H':Hp}{v:V}{b:bf}(h:nV H v b)(t:Tp H H'):nV H' v b:=by
 obtain⟨p,q,r,rs,e,h1,h2,h3,h4⟩:=h
 exact⟨p,q,r,rs,e,t _ _ h1,t _ _ h2,t _ _ h3,h4.imp λ_ _ z=>z.mono t⟩
def lu(K:Fg)(H:Hp)(a:Addr)(ns:List Int):Prop:=
 (∃o,H a=some (.frz o (.lst (ns.map V.int))))\/∃(o:Obj) (its:Array Value) (n:Nat),K.lookup a=some o/\o.cls=.type "list"/\o.dict=none/\o.data=.seq its n/\its.size<=sizeLine/\ck (ns.map V.int) its.toList
theorem lu.sq{K:Fg}{H:Hp}{a:Addr}{ns:List Int}(h:lu K H a ns):bZ K H a (ns.map V.int):=by
 rcases h with⟨o,h⟩|h
 ·exact .inl (.inr ⟨o,h⟩)
 ·exact .inr h
def Fz(H H':Hp):Prop:=∀p o u,H p=some (.frz o u)->H' p=some (.frz o u)
theorem Fz.of_but{a:Addr}{ys:List V}{H H':Hp}(x:fX a H H')(ha:H a=some (.lst ys)):Fz H H':=λp o u h=>x p _ (by rintro rfl;rw[h] at ha;cases ha) h
theorem Fz.of_same{H H':Hp}(x:aS H H'):Fz H H':=λp o u h=>x p _ h
theorem lu.mono{K:Fg}{H H':Hp}{a:Addr}{ns:List Int}(h:lu K H a ns)(f:Fz H H'):lu K H' a ns:=by
 rcases h with⟨o,h⟩|h
 ·exact .inl ⟨o,f _ _ _ h⟩
 ·exact .inr h
def kO(K:Fg)(H:Hp)(st:Addr)(k:Nat):Prop:=∃scr ns c,H st=some (.lst [.ref scr,.int (k:Nat),.int c])/\lu K H scr ns/\ns.length<=63
theorem kO.lst{K:Fg}{H:Hp}{st:Addr}{k:Nat}(h:kO K H st k):∃ys,H st=some (.lst ys):=by
 obtain⟨scr,ns,c,e,_⟩:=h;exact⟨_,e⟩
theorem kO.mono{K:Fg}{H H':Hp}{a st:Addr}{k:Nat}{ys:List V}(h:kO K H st k)(x:fX a H H')(ha:H a=some (.lst ys))(n:st≠a):kO K H' st k:=by
 obtain⟨scr,ns,c,e,q,l⟩:=h
 exact⟨scr,ns,c,x _ _ n e,q.mono (.of_but x ha),l⟩
theorem kO.same{K:Fg}{H H':Hp}{st:Addr}{k:Nat}(h:kO K H st k)(x:aS H H'):kO K H' st k:=by
 obtain⟨scr,ns,c,e,q,l⟩:=h
 exact⟨scr,ns,c,x _ _ e,q.mono (.of_same x),l⟩
theorem kO.new{K:Fg}{H:Hp}{st p:Addr}{o:HO}{k:Nat}(h:kO K H st k)(hp:H p=none):kO K (upd H p o) st k:=h.same ((aS.refl H).new hp)
def bK(K:Fg):Sp:=λvs H Q _=>∃(st:Addr) (m:Int) (k:Nat),vs=[.ref st,.int m]/\kO K H st k/\k<=1000000/\0<m/\m<2 ^ 64/\
 ∀(d:Int) (H':Hp),0<=d->d<m->kO K H' st (k+1)->fX st H H'->Q (.int d) H'
def Gj:List Str:=["part","call","say","jump","test","give"]
structure Nm(y:Str):Prop where
 l1:1<=y.length
 l8:y.length<=8
 Hb:∀c∈y.cps.toList,97<=c/\c<=122
 no:y∉Gj
theorem Nm.ne{y:Str}(h:Nm y):y≠"":=by
 rintro rfl
 exact absurd h.l1 (by decide +kernel)
def kr(K:Fg):Sp:=λvs H Q _=>∃(st:Addr) (n k:Nat),vs=[.ref st,.int (n:Nat)]/\kO K H st k/\k<=900000/\n<=20/\
 ∀(l:Addr) (ys:List Str) (k':Nat) (H':Hp),H l=none->ys.length=n->ys.Nodup->(∀y∈ys,Nm y)->H' l=some (.lst (ys.map V.str))->kO K H' st k'->k'<=k+11->fX st H H'->Q (.ref l) H'
def iP(K:Fg):Sp:=λvs H Q _=>∃(st:Addr) (k:Nat),vs=[.ref st]/\kO K H st k/\k<=900000/\
 ∀(z:Int) (k':Nat) (H':Hp),0<=z->z<2 ^ 64->kO K H' st k'->k'<=k+4->fX st H H'->Q (.int z) H'
def wB:List Str:=["+","-","*","<","="]
def tw(ys:List Str)(cs:List Nat)(n:Nat):bP->Prop
 |.num x z=>x∈ys/\0<=z/\z<2 ^ 64
 |.op x s a b=>x∈ys/\s∈wB/\a=""/\b=""
 |.call x k as=>x∈ys/\∃c,cs[k]?=some c/\as=aO c ("":Str)
 |.say a=>a=""
 |.jump to=>to<n
 |.test a to=>a=""/\to<n
 |.give a=>a=""
def hV(ns:List Nat):List V:=ns.map λn=>V.int (n:Nat)
def gB(K:Fg):Sp:=λvs H Q _=>∃(st nm cn:Addr) (n k:Nat) (ys:List Str) (cs:List Nat),vs=[.ref st,.ref nm,.int (n:Nat),.ref cn]/\kO K H st k/\k<=800000/\H nm=some (.lst (ys.map V.str))/\ys≠[]/\ys.length<=100/\
 1<=n/\n<=1000/\H cn=some (.lst (hV cs))/\cs≠[]/\cs.length<=100/\(∀c∈cs,c<=4)/\nm≠st/\cn≠st/\
 ∀(v:V) (r:bP) (k':Nat) (H':Hp),eD H' v r->tw ys cs n r->kO K H' st k'->k'<=k+8->fX st H H'->Q v H'
def cy(n:Nat):bP->List Nat
 |.jump to=>[to]
 |.test _ to=>[n+1,to]
 |.give _=>[]
 |_=>[n+1]
def lB(K:Fg):Sp:=λvs H Q _=>∃(rl:Addr) (n:Nat) (rvs:List V) (v:V) (r:bP),vs=[.ref rl,.int (n:Nat)]/\(H rl=some (.lst rvs)\/H rl=some (.tup rvs))/\rvs[n]?=some v/\eD H v r/\∀l,H l=none->Q (.ref l) (upd H l (.lst (hV (cy n r))))
def kD:bP->V
 |.num x _=>.str x
 |.op x _ _ _=>.str x
 |.call x _ _=>.str x
 |_=>.non
def lO:bP->Bool
 |.jump _=>true
 |.give _=>true
 |_=>false
def tT:bP->Bool
 |.num _ _=>true
 |_=>false
structure tD(ys:List Str)(cs:List Nat)(rs:List bP):Prop where
 pos:rs≠[]
 few:rs.length<=100
 rough:∀r∈rs,tw ys cs rs.length r
def stp(rs:List bP)(n:Nat):Nat:=match rs[n]? with
 |some (.jump t)=>t
 |_=>n
def runJ(rs:List bP):Nat->Nat->Nat
 |0,n=>n
 |k+1,n=>runJ rs k (stp rs n)
def hZ:bP->Bool
 |.jump _=>true
 |_=>false
def tj(rs:List bP):Prop:=∀n,n<rs.length->∀r,rs[runJ rs rs.length n]?=some r->hZ r=false
def jZ(K:Fg):Sp:=λvs H Q _=>∃(rl nm:Addr) (bare:Bool) (rvs:List V) (rs:List bP) (ys:List Str) (R:bP->Prop),vs=[.ref rl,.ref nm,.bl bare]/\H rl=some (.lst rvs)/\bR (eD H) rvs rs/\rs≠[]/\rs.length<=100/\(∀r∈rs,R r)/\R (.say "")/\R (.give "")/\(∀t,R (.jump t)->t<rs.length)/\H nm=some (.lst (ys.map V.str))/\ys≠[]/\(∀y∈ys,bare=true->R (.num y 3))/\nm≠rl/\
 (bare=true->2<=rs.length)/\∀(rvs':List V) (rs':List bP) (H':Hp),H' rl=some (.lst rvs')->bR (eD H') rvs' rs'->rs'.length=rs.length->(∀r∈rs',R r)->(rs'.getLast?.map lO=some true)->(bare=true->rs'.head?.map tT=some true)->tj rs'->fX rl H H'->Q (.ref rl) H'
def xu(H:Hp)(v:V)(ks:List Str):Prop:=∃a,v=.ref a/\H a=some (.lst (ks.map V.str))
structure Cu(ps:List Str)(rs:List bP)(kss:List (List Str)):Prop where
 zero:∀ks,kss[0]?=some ks->∀y∈ks,y∈ps
 on:∀(n m:Nat) r ks km,rs[n]?=some r->m∈cy n r->kss[n]?=some ks->kss[m]?=some km->∀y∈km,y∈ks\/kD r=.str y
def gD(K:Fg):Sp:=λvs H Q _=>∃(rl nm pr:Addr) (rvs:List V) (rs:List bP) (ys ps:List Str) (cs:List Nat),vs=[.ref rl,.ref nm,.ref pr]/\H rl=some (.lst rvs)/\bR (eD H) rvs rs/\tD ys cs rs/\(rs.getLast?.map lO=some true)/\
 H nm=some (.lst (ys.map V.str))/\ys.length<=100/\H pr=some (.lst (ps.map V.str))/\ps.length<=100/\(∀y∈ps,y∈ys)/\(ps=[]->rs.head?.map tT=some true)/\
 ∀(kl:Addr) (refs:List V) (kss:List (List Str)) (H':Hp),H kl=none->H' kl=some (.lst refs)->bR (xu H') refs kss->kss.length=rs.length->(∀(i:Nat) ks,kss[i]?=some ks->ks.length<=100/\(∀y∈ks,y∈ys)/\(ks≠[]\/(i=0/\ps=[])))->Cu ps rs kss->aS H H'->Q (.ref kl) H'
def kB(ks:List Str):bP->bP->Prop
 |.num x z,r=>r=.num x z
 |.op x s _ _,r=>∃a b,r=.op x s a b/\a∈ks/\b∈ks
 |.call x k as,r=>∃bs:List Str,r=.call x k bs/\bs.length=as.length/\∀b∈bs,b∈ks
 |.say _,r=>∃a,r=.say a/\a∈ks
 |.jump to,r=>r=.jump to
 |.test _ to,r=>∃a,r=.test a to/\a∈ks
 |.give _,r=>∃a,r=.give a/\a∈ks
def jY(K:Fg):Sp:=λvs H Q _=>∃(st rl kl:Addr) (k:Nat) (rvs refs:List V) (rs:List bP) (kss:List (List Str)) (ys:List Str) (cs:List Nat),vs=[.ref st,.ref rl,.ref kl]/\kO K H st k/\k<=700000/\H rl=some (.lst rvs)/\bR (eD H) rvs rs/\tD ys cs rs/\(∀y∈ys,y≠"")/\(∀c∈cs,c<=4)/\
 H kl=some (.lst refs)/\bR (xu H) refs kss/\kss.length=rs.length/\(∀(i:Nat) ks,kss[i]?=some ks->ks.length<=100)/\(∀(i:Nat) ks r,kss[i]?=some ks->rs[i]?=some r->ks≠[]\/tT r=true)/\(∀a∈refs,a≠.ref st)/\rl≠st/\kl≠st/\
 ∀(p:Addr) (rvs':List V) (rs':List bP) (k':Nat) (H':Hp),H' p=some (.tup rvs')->bR (eD H') rvs' rs'->rs'.length=rs.length->(∀(i:Nat) ks r r',kss[i]?=some ks->rs[i]?=some r->rs'[i]?=some r'->kB ks r r')->kO K H' st k'->k'<=k+5*rs.length->fX st H H'->Q (.ref p) H'
def dF:bP->List Str
 |.op _ _ a b=>[a,b]
 |.call _ _ as=>as
 |.say a=>[a]
 |.test a _=>[a]
 |.give a=>[a]
 |_=>[]
def Cw(ys:List Str)(cs:List Nat)(n:Nat):bP->Prop
 |.num x z=>x∈ys/\0<=z/\z<2 ^ 64
 |.op x s a b=>x∈ys/\s∈wB/\a∈ys/\b∈ys
 |.call x k as=>x∈ys/\cs[k]?=some as.length/\∀a∈as,a∈ys
 |.say a=>a∈ys
 |.jump to=>to<n
 |.test a to=>a∈ys/\to<n
 |.give a=>a∈ys
structure q5(ys:List Str)(cs:List Nat)(b:bf):Prop where
 pnd:b.params.Nodup
 pin:∀y∈b.params,y∈ys
 pos:b.rows≠[]
 few:b.rows.length<=60
 rows:∀r∈b.rows,Cw ys cs b.rows.length r
 last:b.rows.getLast?.map lO=some true
 ring:tj b.rows
 known:∃kss,kss.length=b.rows.length/\Cu b.params b.rows kss/\∀(n:Nat) r ks,b.rows[n]?=some r->kss[n]?=some ks->∀y∈dF r,y∈ks
structure Bi(ys:List Str)(cs:List Nat)(bs:List bf):Prop where
 ynd:ys.Nodup
 ynm:∀y∈ys,Nm y
 y2:2<=ys.length
 y6:ys.length<=6
 pos:1<=bs.length
 few:bs.length<=5
 nnd:(bs.map (·.name)).Nodup
 nnm:∀b∈bs,Nm b.name
 cnt:bs.map (·.params.length)=cs
 c4:∀c∈cs,c<=4
 part:∀b∈bs,q5 ys cs b
def nh(K:Fg):Sp:=λvs H Q _=>∃(st nm pr cn:Addr) (wd:Str) (m k:Nat) (ys ps:List Str) (cs:List Nat),vs=[.ref st,.str wd,.ref nm,.ref pr,.ref cn,.int (m:Nat)]/\kO K H st k/\k<=600000/\H nm=some (.lst (ys.map V.str))/\ys≠[]/\ys.length<=100/\(∀y∈ys,y≠"")/\
 H pr=some (.lst (ps.map V.str))/\ps.length<=100/\ps.Nodup/\(∀y∈ps,y∈ys)/\H cn=some (.lst (hV cs))/\cs≠[]/\cs.length<=100/\(∀c∈cs,c<=4)/\1<=m/\m<=50/\nm≠st/\pr≠st/\cn≠st/\
 ∀(v:V) (b:bf) (k':Nat) (H':Hp),nV H' v b->b.name=wd->b.params=ps->q5 ys cs b->b.rows.length<=m+1->kO K H' st k'->k'<=k+1000->fX st H H'->Q v H'
def jh(K:Fg):Sp:=λvs H Q _=>∃(st:Addr) (m k:Nat),vs=[.ref st,.int (m:Nat)]/\kO K H st k/\k<=500000/\1<=m/\m<=50/\
 ∀(p:Addr) (pvs:List V) (bs:List bf) (ys:List Str) (cs:List Nat) (k':Nat) (H':Hp),H' p=some (.tup pvs)->bR (nV H') pvs bs->Bi ys cs bs->(∀b∈bs,b.rows.length<=m+1)->kO K H' st k'->k'<=k+10000->fX st H H'->Q (.ref p) H'
def E6:bP->V
 |.jump to=>.int (to:Nat)
 |.test _ to=>.int (to:Nat)
 |_=>.non
def Jn:Sp:=λvs H Q _=>∃v r,vs=[v]/\eD H v r/\∀(p:Addr) (H':Hp),H' p=some (.tup ((dF r).map V.str))->aS H H'->Q (.ref p) H'
abbrev jf(_:Fg):Sp:=Jn
def j4(_:Fg):Sp:=λvs H Q _=>∃v r,vs=[v]/\eD H v r/\∀(H':Hp),aS H H'->Q (kD r) H'
def gL(_:Fg):Sp:=λvs H Q _=>∃v r,vs=[v]/\eD H v r/\Q (E6 r) H
def sp_law(K:Fg):Sp:=λvs H Q _=>∃(scr:Addr) (ns:List Int),vs=[.ref scr]/\lu K H scr ns/\ns.length<=63/\∀H',Q (.bl true) H'
abbrev J7:Nat:=0
abbrev iH:Nat:=1
abbrev HD:Nat:=1
abbrev sJ:Nat:=2
abbrev HH:Nat:=1
abbrev oM:Nat:=2
abbrev zh:Nat:=2
abbrev lJ:Nat:=3
abbrev HC:Nat:=0
abbrev sI:Nat:=1
abbrev Fi:Nat:=0
abbrev qg:Nat:=1
abbrev zj:Nat:=1
abbrev lL:Nat:=2
abbrev Fh:Nat:=1
abbrev qf:Nat:=2
abbrev J8:Nat:=3
abbrev xc:Nat:=4
abbrev DF:Nat:=4
abbrev oK:Nat:=5
abbrev DD:Nat:=0
abbrev oI:Nat:=1
abbrev Fl:Nat:=0
abbrev qh:Nat:=1
abbrev Fk:Nat:=0
abbrev mr:Nat:=1
theorem cT{c:Prop}[Decidable c]{A B:Prop}(h1:c->A)(h2:¬c->B):if decide c=true then A else B:=by
 by_cases h:c
 ·rw[decide_eq_true h];exact za (h1 h)
 ·rw[decide_eq_false h];exact jX (h2 h)
theorem Bw{c:Prop}[Decidable c]{A B:Prop}(h1:¬c->A)(h2:c->B):if(!decide c)=true then A else B:=by
 by_cases h:c
 ·rw[decide_eq_true h];exact jX (h2 h)
 ·rw[decide_eq_false h];exact za (h1 h)
theorem v5{b:Bool}{A B:Prop}(h1:b=true->A)(h2:b=false->B):if b=true then A else B:=by
 cases b with
 |true=>exact za (h1 rfl)
 |false=>exact jX (h2 rfl)
theorem xA{α:Type}{xs:List α}{i:Int}{v:α}(h0:0<=i)(e:xs[i.toNat]?=some v):EH xs i=some v:=by
 have h1:=(aj.mp e).1
 unfold EH Ff
 rw[if_pos h0,if_pos (by lia)]
 exact e
theorem mf{K:Fg}{p:Addr}{xs:List V}{i:Int}{v:V}{H:Hp}{Q:VK}(h:bZ K H p xs)(h0:0<=i)(e:xs[i.toNat]?=some v)(q:Q v H):cQ K (.ref p) (.int i) H Q:=
 .inl ⟨p,xs,i,v,rfl,rfl,h,xA h0 e,q⟩
theorem cH{K:Fg}{p:Addr}{xs:List V}{i:Int}{v:V}{H:Hp}{Q:VK}(h:H p=some (.tup xs))(h0:0<=i)(e:xs[i.toNat]?=some v)(q:Q v H):cQ K (.ref p) (.int i) H Q:=
 .inr (.inl ⟨p,xs,i,v,rfl,rfl,eU.of h,xA h0 e,q⟩)
theorem MN{K:Fg}{z:Str}{i:Int}{c:Nat}{H:Hp}{Q:VK}(hz:z.length<=sizeLine)(h0:0<=i)(e:z.cps.toList[i.toNat]?=some c)(q:Q (.str ⟨#[c]⟩) H):cQ K (.str z) (.int i) H Q:=
 .inr (.inr ⟨z,i,c,rfl,rfl,hz,xA h0 e,q⟩)
theorem Ad{p:Addr}{xs:List V}{i:Int}{v:V}{H:Hp}{Q:Hp->Prop}(h:H p=some (.lst xs))(h0:0<=i)(h1:i.toNat<xs.length)(q:Q (upd H p (.lst (xs.set i.toNat v)))):nE (.ref p) (.int i) v H Q:=by
 refine⟨p,xs,i,i.toNat,rfl,rfl,h,?_,q⟩
 unfold Ff
 rw[if_pos h0,if_pos (by lia)]
theorem cR{n:Nat}(h:n<=100000):n<sizeLine:=iX h (by decide)
theorem DB{ns:List Nat}{i:Nat}{n:Nat}(h:ns[i]?=some n):(hV ns)[i]?=some (.int (n:Nat)):=by
 unfold hV;rw[ba,h];rfl
theorem kX(ns:List Nat):(hV ns).length=ns.length:=by unfold hV;rw[ai]
theorem Ag{ys:List Str}{i:Nat}{y:Str}(h:ys[i]?=some y):(ys.map V.str)[i]?=some (.str y):=by rw[ba,h];rfl
theorem m5{H:Hp}{a b:Addr}{xs ys:List V}(h:H a=some (.lst xs))(h':H b=some (.tup ys)):a≠b:=fP h h' (by intro z;cases z)
theorem kc{D:Addr}{te:TE}{E:nN}{σ:St}{H:Hp}(h:te σ H λy H2=>∃ys,H2 D=some (.lst ys)/\ys.length<sizeLine/\E.nx σ (upd H2 D (.lst (ys++[y])))):uo D p0 te E σ H:=by
 unfold uo p0
 dsimp only
 rw[if_pos rfl]
 exact h
theorem no{x y:V}{A B:Prop}(h:¬x=y)(q:B):if decide (x=y)=true then A else B:=cT (λz=>absurd z h) λ_=>q
theorem yes{x:V}{A B:Prop}(q:A):if decide (x=x)=true then A else B:=cT (λ_=>q) λz=>absurd rfl z
theorem tR{b:Bool}{A B:Prop}(e:b=true)(q:A):if b=true then A else B:=by rw[e];exact za q
theorem u9{b:Bool}{A B:Prop}(e:b=false)(q:B):if b=true then A else B:=by rw[e];exact jX q
theorem lx(xs:List V)(c:Nat):mV xs none (some (c:Int))=xs.take c:=by
 unfold mV
 rw[HT.sIx_none,HT.sIx_nat,nI,Nat.sub_zero,<-List.take_eq_take_min]
theorem yO(xs:List V)(c:Nat):mV xs (some (c:Int)) none=xs.drop c:=by
 unfold mV
 rw[HT.sIx_none,HT.sIx_nat]
 by_cases h:c<=xs.length
 ·rw[Nat.min_eq_left h];exact fZ (by rw[dw];lia)
 ·rw[Nat.min_eq_right (by lia),List.drop_length,ju (by lia),List.take_nil]
theorem Dy(ys:List Str):(ys.map V.str).all jk=true:=by
 rw[ik]
 intro v hv
 obtain⟨y,_,rfl⟩:=dU.mp hv
 rfl
theorem y4(y:Str)(ls:List Str):v7 (.str y) (ls.map V.str)=decide (y∈ls):=by
 unfold v7
 rw[List.any_map,Bool.eq_iff_iff,mh,decide_eq_true_eq]
 constructor
 ·rintro⟨z,hz,e⟩
  have e':(z==y)=true:=e
  have:z=y:=by simpa using e'
  rw[<-this];exact hz
 ·intro h
  exact⟨y,h,by show(y==y)=true;simp⟩
theorem fX.past{a l:Addr}{H H1 H2:Hp}(x:fX a H H1)(hl:H l=none)(y:fX l H1 H2):fX a H H2:=λc u n h=>y c u (ar h hl) (x c u n h)
end Bg
end
section
namespace Bg
open PySem PySem.Spec PyProof.Rows L2
abbrev dY:List Str:=["_law_state","_law_many"]
abbrev Be:List Str:=["_law_state","_law_many","_law_script","_law_k","_law_digit","_law_cell"]
def Gy(K:Fg):TS:=(cU (bq (kq) (bq (kq) (bq (je K) (ah 5) (ah 5)) (tC (.int 1999999973))) (ah 1)))
def Gz(K:Fg):TS:=(bo (bO (bq (kq) (bq (je K) (ah 5) (ah 5)) (tC (.int 2147483587))) (aT 5)) (Gy K))
def Ak(K:Fg):TS:=(bo (bO (bq (kq) (bq (je K) (bq (kq) (ah 5) (tC (.int 2147483629))) (bq (dN K) (ah 3) (tC (.int 3)))) (tC (.int 2147483629))) (aT 5)) (Gz K))
def GA(K:Fg):TS:=(bo (df (bX (bq (Me) (iV (ly K) (af (ah 2) aK)) (tC (.int 0)))) (bO (bq (dN K) (ah 5) (bq (je K) (bq (cQ K) (ah 2) (bq (kq) (bq (je K) (ah 3) (tC (.int 7))) (iV (ly K) (af (ah 2) aK)))) (bq (dN K) (tC (.int 48271)) (ah 3)))) (aT 5)) cG) (Ak K))
def qU(K:Fg):TS:=(bo (bO (bq (dN K) (bq (je K) (ah 3) (tC (.int 7919))) (tC (.int 5))) (aT 5)) (GA K))
def GB(K:Fg):TS:=(cU (ah 4))
def Al(K:Fg):TS:=(df (bX (bq ((IZ K true)) (bq (cQ K) (ah 0) (tC (.int 2))) (gR (af (tC (.int 0)) (af (Lk Ga (tC (.int 1))) aK))))) (bo (bO (iV (IT) (af (bq (cQ K) (ah 0) (tC (.int 2))) (af (ah 1) aK))) (xM K 2 (iM (nG (ah 0) (tC (.int 2)) nE) (iM (aT 4) u6)))) (GB K)) cG)
def Am(K:Fg):TS:=(bo (df (yz (bX (bq (sD) (bq (dN K) (bq (ym) (ah 3) (tC (.int 12))) (tC (.int 1))) (iV (ly K) (af (ah 2) aK)))) (bX (bq (fh K) (bq (kq) (bq (cQ K) (ah 2) (tC (.int 0))) (tC (.int 2))) (tC (.int 1))))) (bo (df (bX (bq (fh K) (bq (kq) (ah 3) (tC (.int 12))) (tC (.int 0)))) (bO (bq (cQ K) (ah 2) (bq (dN K) (bq (ym) (ah 3) (tC (.int 12))) (tC (.int 1)))) (nG (ah 0) (tC (.int 2)) nE)) cG) (Al K)) (df (bX (bq (sD) (ah 3) (iV (ly K) (af (ah 2) aK)))) (cU (bq (kq) (bq (cQ K) (ah 2) (ah 3)) (ah 1))) cG)) (qU K))
def GC(K:Fg):TS:=(bo (bO (bq (dN K) (ah 3) (tC (.int 1))) (nG (ah 0) (tC (.int 1)) nE)) (Am K))
def Gx(K:Fg):TS:=(bo (bO (Ec (D4 K) (ah 0) iD (mG (tC (.int 2)))) (E3 K 2 (iM (aT 2) (iM (aT 3) u6)))) (GC K))
abbrev lq:List Str:=["_law_state","_law_many"]
abbrev sL:List Str:=["_law_state","_law_many","_law_letters","_law_size","_law_at","_law_first","_law_base","_law_found","_law_k","_law_some","_law_name"]
def wN(K:Fg):TS:=(cU (ah 7))
def wO(K:Fg):TS:=(fV (C1 K "list" iA (ah 7) (af (ah 10) aK)))
def wQ(K:Fg):TS:=(bo (df (JM (bX (bq ((IZ K false)) (ah 10) (gR (af (tC (.str "part")) (af (tC (.str "call")) (af (tC (.str "say")) (af (tC (.str "jump")) (af (tC (.str "test")) (af (tC (.str "give")) aK))))))))) (yz (bX (bq (sD) (ah 3) (tC (.int 8)))) (bX (bq (fh K) (bq (kq) (bq (dN K) (ah 3) (ah 8)) (tC (.int 3))) (tC (.int 1)))))) (bO (bq (dN K) (ah 10) (tC (.str "x"))) (aT 10)) cG) (wO K))
def Eg(K:Fg):TS:=(bo (bO (C1 K "str" (JH K) (tC (.str "")) (af (ah 9) aK)) (aT 10)) (wQ K))
def Eh(K:Fg):TS:=(bo (bO (bq (dN K) (bq (dN K) (Ec (D4 K) (ah 6) iD (mG (ah 4))) (iQ (af (bq (cQ K) (ah 2) (bq (kq) (bq (dN K) (ah 5) (bq (je K) (tC (.int 5)) (ah 8))) (tC (.int 26)))) aK))) (Ec (D4 K) (ah 6) (mG (bq (dN K) (ah 4) (tC (.int 1)))) iD)) (aT 9)) (Eg K))
def wR(K:Fg):TS:=(bo (qN (rK (af (ah 1) aK)) (aT 8) (Eh K)) (wN K))
def Ei(K:Fg):TS:=(bo (bO (iQ aK) (aT 7)) (wR K))
def Ej(K:Fg):TS:=(bo (bO (lC [] 1 (rK (af (ah 3) aK)) (aT 11) p0 (bq (cQ K) (ah 2) (bq (kq) (bq (dN K) (ah 5) (bq (je K) (bq (je K) (tC (.int 7)) (ah 11)) (bL (bK K) [] E0 (af (ah 0) (af (tC (.int 4)) aK))))) (tC (.int 26))))) (aT 6)) (Ei K))
def Ek(K:Fg):TS:=(bo (bO (bL (bK K) [] E0 (af (ah 0) (af (tC (.int 26)) aK))) (aT 5)) (Ej K))
def uP(K:Fg):TS:=(bo (bO (bL (bK K) [] E0 (af (ah 0) (af (ah 3) aK))) (aT 4)) (Ek K))
def Cm(K:Fg):TS:=(bo (bO (bq (dN K) (tC (.int 1)) (bL (bK K) [] E0 (af (ah 0) (af (tC (.int 8)) aK)))) (aT 3)) (uP K))
def Dd(K:Fg):TS:=(bo (bO (tC (.str "abcdefghijklmnopqrstuvwxyz")) (aT 2)) (Cm K))
abbrev jy:List Str:=["_law_state"]
abbrev xt:List Str:=["_law_state"]
def Er(K:Fg):TS:=(cU (bq (cQ K) (iQ (af (tC (.int 0)) (af (tC (.int 1)) (af (bq (rN) (bq (rN) (bq (wg) (tC (.int 2)) (tC (.int 64))) (tC (.int 1))) (bL (bK K) [] E0 (af (ah 0) (af (tC (.int 3)) aK)))) (af (bL (bK K) [] E0 (af (ah 0) (af (tC (.int 12)) aK))) aK))))) (bL (bK K) [] E0 (af (ah 0) (af (tC (.int 4)) aK)))))
def Dg(K:Fg):TS:=(bo (df (bX (bq (fh K) (bL (bK K) [] E0 (af (ah 0) (af (tC (.int 2)) aK))) (tC (.int 0)))) (cU (bq (dN K) (bq (je K) (bL (bK K) [] E0 (af (ah 0) (af (bq (wg) (tC (.int 2)) (tC (.int 31))) aK))) (bq (wg) (tC (.int 2)) (tC (.int 33)))) (bL (bK K) [] E0 (af (ah 0) (af (bq (wg) (tC (.int 2)) (tC (.int 31))) aK))))) cG) (Er K))
abbrev gg:List Str:=["_law_state","_law_names_here","_law_many","_law_counts"]
abbrev nS:List Str:=["_law_state","_law_names_here","_law_many","_law_counts","_law_x","_law_sort","_law_k"]
def vG(K:Fg):TS:=(cU (bq (cQ K) (iQ (af (gR (af (tC (.str "jump")) (af (bL (bK K) [] E0 (af (ah 0) (af (ah 2) aK))) aK))) (af (gR (af (tC (.str "give")) (af (tC (.str "")) aK))) aK))) (bq (rN) (ah 5) (tC (.int 10)))))
def vH(K:Fg):TS:=(bo (df (bX (bq (sD) (ah 5) (tC (.int 10)))) (cU (gR (af (tC (.str "test")) (af (tC (.str "")) (af (bL (bK K) [] E0 (af (ah 0) (af (ah 2) aK))) aK))))) cG) (vG K))
def vI(K:Fg):TS:=(bo (df (bX (bq (sD) (ah 5) (tC (.int 8)))) (cU (gR (af (tC (.str "say")) (af (tC (.str "")) aK)))) cG) (vH K))
def vJ(K:Fg):TS:=(cU (gR (af (tC (.str "call")) (af (ah 4) (af (ah 6) (af (bq (je K) (gR (af (tC (.str "")) aK)) (bq (cQ K) (ah 3) (ah 6))) aK))))))
def vK(K:Fg):TS:=(bo (df (bX (bq (fh K) (ah 5) (tC (.int 6)))) (bo (bO (bL (bK K) [] E0 (af (ah 0) (af (iV (ly K) (af (ah 3) aK)) aK))) (aT 6)) (vJ K)) cG) (vI K))
def vL(K:Fg):TS:=(bo (df (bX (bq (sD) (ah 5) (tC (.int 6)))) (cU (gR (af (tC (.str "op")) (af (ah 4) (af (bq (cQ K) (tC (.str "+-*<=")) (bL (bK K) [] E0 (af (ah 0) (af (tC (.int 5)) aK)))) (af (tC (.str "")) (af (tC (.str "")) aK))))))) cG) (vK K))
def vM(K:Fg):TS:=(bo (df (bX (bq (sD) (ah 5) (tC (.int 2)))) (cU (gR (af (tC (.str "num")) (af (ah 4) (af (bL (iP K) [] E0 (af (ah 0) aK)) aK))))) cG) (vL K))
def vN(K:Fg):TS:=(bo (bO (bL (bK K) [] E0 (af (ah 0) (af (tC (.int 12)) aK))) (aT 5)) (vM K))
def sk(K:Fg):TS:=(bo (bO (bq (cQ K) (ah 1) (bL (bK K) [] E0 (af (ah 0) (af (iV (ly K) (af (ah 1) aK)) aK)))) (aT 4)) (vN K))
abbrev lp:List Str:=["_law_rows","_law_n"]
abbrev xk:List Str:=["_law_rows","_law_n"]
def Ed(K:Fg):TS:=(cU (iQ (af (bq (dN K) (ah 1) (tC (.int 1))) aK)))
def Ee(K:Fg):TS:=(bo (df (bX (bq (fh K) (bq (cQ K) (bq (cQ K) (ah 0) (ah 1)) (tC (.int 0))) (tC (.str "give")))) (cU (iQ aK)) cG) (Ed K))
def Ef(K:Fg):TS:=(bo (df (bX (bq (fh K) (bq (cQ K) (bq (cQ K) (ah 0) (ah 1)) (tC (.int 0))) (tC (.str "test")))) (cU (iQ (af (bq (dN K) (ah 1) (tC (.int 1))) (af (bq (cQ K) (bq (cQ K) (ah 0) (ah 1)) (tC (.int 2))) aK)))) cG) (Ee K))
def Dc(K:Fg):TS:=(bo (df (bX (bq (fh K) (bq (cQ K) (bq (cQ K) (ah 0) (ah 1)) (tC (.int 0))) (tC (.str "jump")))) (cU (iQ (af (bq (cQ K) (bq (cQ K) (ah 0) (ah 1)) (tC (.int 1))) aK))) cG) (Ef K))
abbrev jS:List Str:=["_law_rows","_law_names_here","_law_bare"]
abbrev sW:List Str:=["_law_rows","_law_names_here","_law_bare","_law_last","_law_n","_law_to","_law_turn"]
def Ci(K:Fg):TS:=(cU (ah 0))
def Cj(K:Fg):TS:=(df (bX (bq (fh K) (bq (cQ K) (bq (cQ K) (ah 0) (ah 5)) (tC (.int 0))) (tC (.str "jump")))) (bO (bq (cQ K) (iQ (af (gR (af (tC (.str "say")) (af (tC (.str "")) aK))) (af (gR (af (tC (.str "give")) (af (tC (.str "")) aK))) aK))) (iV (we) (af (bq (fh K) (ah 4) (ah 3)) aK))) (nG (ah 0) (ah 4) nE)) cG)
def Ck(K:Fg):TS:=(df (bX (bq (fh K) (bq (cQ K) (bq (cQ K) (ah 0) (ah 5)) (tC (.int 0))) (tC (.str "jump")))) (bO (bq (cQ K) (bq (cQ K) (ah 0) (ah 5)) (tC (.int 1))) (aT 5)) cG)
def uK(K:Fg):TS:=(bo (qN (oh K (ah 0)) (aT 6) (Ck K)) (Cj K))
def uL(K:Fg):TS:=(bo (bO (ah 4) (aT 5)) (uK K))
def uM(K:Fg):TS:=(bo (qN (rK (af (iV (ly K) (af (ah 0) aK)) aK)) (aT 4) (uL K)) (Ci K))
def uN(K:Fg):TS:=(bo (df (yz (tB (ah 2)) (yz (bX (bq (FZ K) (bq (cQ K) (bq (cQ K) (ah 0) (tC (.int 0))) (tC (.int 0))) (tC (.str "num")))) (bX (bq (Me) (ah 3) (tC (.int 0)))))) (bO (gR (af (tC (.str "num")) (af (bq (cQ K) (ah 1) (tC (.int 0))) (af (tC (.int 3)) aK)))) (nG (ah 0) (tC (.int 0)) nE)) cG) (uM K))
def uO(K:Fg):TS:=(bo (df (bX (bq ((IZ K true)) (bq (cQ K) (bq (cQ K) (ah 0) (ah 3)) (tC (.int 0))) (gR (af (tC (.str "jump")) (af (tC (.str "give")) aK))))) (bO (gR (af (tC (.str "give")) (af (tC (.str "")) aK))) (nG (ah 0) (ah 3) nE)) cG) (uN K))
def AC(K:Fg):TS:=(bo (bO (bq (rN) (iV (ly K) (af (ah 0) aK)) (tC (.int 1))) (aT 3)) (uO K))
abbrev gp:List Str:=["_law_rows","_law_names_here","_law_params"]
abbrev ko:List Str:=["_law_rows","_law_names_here","_law_params","_law_known","_law_more","_law_n","_law_left","_law_m","_law_kept"]
def vO(K:Fg):TS:=(cU (ah 3))
def vP(K:Fg):TS:=(bO (tC (.bl true)) (aT 4))
def pJ(K:Fg):TS:=(df (bX (bq (sD) (iV (ly K) (af (ah 8) aK)) (iV (ly K) (af (bq (cQ K) (ah 3) (ah 7)) aK)))) (bo (bO (ah 8) (nG (ah 3) (ah 7) nE)) (vP K)) cG)
def pK(K:Fg):TS:=(bo (bO (lC [] 1 (oh K (bq (cQ K) (ah 3) (ah 7))) (aT 9) (bX (bq ((IZ K false)) (ah 9) (ah 6))) (ah 9)) (aT 8)) (pJ K))
def pL(K:Fg):TS:=(qN (oh K (bL (lB K) [] E0 (af (ah 0) (af (ah 5) aK)))) (aT 7) (pK K))
def pM(K:Fg):TS:=(bo (df (bX (bq ((IZ K false)) (bq (cQ K) (bq (cQ K) (ah 0) (ah 5)) (tC (.int 0))) (gR (af (tC (.str "num")) (af (tC (.str "op")) (af (tC (.str "call")) aK)))))) (bO (bq (dN K) (ah 6) (iQ (af (bq (cQ K) (bq (cQ K) (ah 0) (ah 5)) (tC (.int 1))) aK))) (aT 6)) cG) (pL K))
def me(K:Fg):TS:=(bo (bO (bq (cQ K) (ah 3) (ah 5)) (aT 6)) (pM K))
def pN(K:Fg):TS:=(qN (rK (af (iV (ly K) (af (ah 0) aK)) aK)) (aT 5) (me K))
def vQ(K:Fg):TS:=(bo (bO (tC (.bl false)) (aT 4)) (pN K))
def oB(K:Fg):TS:=(bo (rG (tB (ah 4)) (vQ K)) (vO K))
def oC(K:Fg):TS:=(bo (bO (tC (.bl true)) (aT 4)) (oB K))
def oE(K:Fg):TS:=(bo (bO (iV (oW K) (af (ah 2) aK)) (nG (ah 3) (tC (.int 0)) nE)) (oC K))
def sr(K:Fg):TS:=(bo (bO (lC [] 1 (oh K (ah 0)) (aT 9) p0 (iV (oW K) (af (ah 1) aK))) (aT 3)) (oE K))
abbrev jR:List Str:=["_law_state","_law_rows","_law_known"]
abbrev qj:List Str:=["_law_state","_law_rows","_law_known","_law_found","_law_n","_law_row","_law_some","_law_thing"]
def Cf(K:Fg):TS:=(cU (iV (mD K) (af (ah 3) aK)))
def Cg(K:Fg):TS:=(fV (C1 K "list" iA (ah 3) (af (bq (dN K) (gR (af (bq (cQ K) (ah 5) (tC (.int 0))) aK)) (iV (mD K) (af (ah 6) aK))) aK)))
def uF(K:Fg):TS:=(fV (C1 K "list" iA (ah 6) (af (ah 7) aK)))
def uG(K:Fg):TS:=(bo (df (bX (bq (fh K) (ah 7) (tC (.str "")))) (bO (bq (cQ K) (bq (cQ K) (ah 2) (ah 4)) (bL (bK K) [] E0 (af (ah 0) (af (iV (ly K) (af (bq (cQ K) (ah 2) (ah 4)) aK)) aK)))) (aT 7)) (df (tB (iV (zN K) (af (ah 7) (af (tC (.ty "tuple")) aK)))) (bO (iV (mD K) (af (lC [] 1 (oh K (ah 7)) (aT 8) p0 (bq (cQ K) (bq (cQ K) (ah 2) (ah 4)) (bL (bK K) [] E0 (af (ah 0) (af (iV (ly K) (af (bq (cQ K) (ah 2) (ah 4)) aK)) aK))))) aK)) (aT 7)) cG)) (uF K))
def uH(K:Fg):TS:=(bo (qN (oh K (Ec (D4 K) (ah 5) (mG (tC (.int 1))) iD)) (aT 7) (uG K)) (Cg K))
def qa(K:Fg):TS:=(bo (bO (iQ aK) (aT 6)) (uH K))
def uI(K:Fg):TS:=(bo (qN (E9 K (af (ah 1) aK)) (xM K 2 (iM (aT 4) (iM (aT 5) u6))) (qa K)) (Cf K))
def An(K:Fg):TS:=(bo (bO (iQ aK) (aT 3)) (uI K))
abbrev mS:List Str:=["_law_state","_law_word","_law_names_here","_law_params","_law_counts","_law_most"]
abbrev xp:List Str:=["_law_state","_law_word","_law_names_here","_law_params","_law_counts","_law_most","_law_many","_law_rows","_law_known"]
def AM(K:Fg):TS:=(cU (gR (af (ah 1) (af (iV (mD K) (af (ah 3) aK)) (af (bL (jY K) [] E0 (af (ah 0) (af (ah 7) (af (ah 8) aK)))) aK)))))
def AN(K:Fg):TS:=(bo (bO (bL (gD K) [] E0 (af (ah 7) (af (ah 2) (af (ah 3) aK)))) (aT 8)) (AM K))
def AO(K:Fg):TS:=(bo (bO (bL (jZ K) [] E0 (af (ah 7) (af (ah 2) (af (bq (fh K) (iV (ly K) (af (ah 3) aK)) (tC (.int 0))) aK)))) (aT 7)) (AN K))
def AQ(K:Fg):TS:=(bo (bO (lC [] 1 (rK (af (ah 6) aK)) (aT 9) p0 (bL (gB K) [] E0 (af (ah 0) (af (ah 2) (af (ah 6) (af (ah 4) aK)))))) (aT 7)) (AO K))
def GE(K:Fg):TS:=(bo (bO (iV (Mi) (af (bq (dN K) (tC (.int 1)) (iV (we) (af (bq (fh K) (iV (ly K) (af (ah 3) aK)) (tC (.int 0))) aK))) (af (bq (dN K) (tC (.int 1)) (bL (bK K) [] E0 (af (ah 0) (af (ah 5) aK)))) aK))) (aT 6)) (AQ K))
abbrev i8:List Str:=["_law_state","_law_most"]
abbrev oN:List Str:=["_law_state","_law_most","_law_five","_law_words","_law_names_here","_law_counts","_law_found","_law_word","_law_many","_law_turn","_law_params"]
def AR(K:Fg):TS:=(cU (iV (mD K) (af (ah 6) aK)))
def rZ(K:Fg):TS:=(fV (C1 K "list" iA (ah 6) (af (bL (nh K) [] E0 (af (ah 0) (af (ah 7) (af (ah 4) (af (ah 10) (af (ah 5) (af (ah 1) aK))))))) aK)))
def r8(K:Fg):TS:=(bo (bO (Ec (D4 K) (bq (dN K) (Ec (D4 K) (ah 4) (mG (ah 9)) iD) (Ec (D4 K) (ah 4) iD (mG (ah 9)))) iD (mG (ah 8))) (aT 10)) (rZ K))
def se(K:Fg):TS:=(bo (bO (bL (bK K) [] E0 (af (ah 0) (af (iV (ly K) (af (ah 4) aK)) aK))) (aT 9)) (r8 K))
def sf(K:Fg):TS:=(bo (qN (JZ K (af (ah 3) (af (ah 5) aK))) (xM K 2 (iM (aT 7) (iM (aT 8) u6))) (se K)) (AR K))
def sg(K:Fg):TS:=(bo (bO (iQ aK) (aT 6)) (sf K))
def sh(K:Fg):TS:=(bo (bO (lC [7] 0 (oh K (ah 3)) (aT 7) p0 (bL (bK K) [] E0 (af (ah 0) (af (bq (dN K) (iV (JI) (af (tC (.int 4)) (af (iV (ly K) (af (ah 4) aK)) aK))) (tC (.int 1))) aK)))) (aT 5)) (sg K))
def si(K:Fg):TS:=(bo (bO (bL (kr K) [] E0 (af (ah 0) (af (bq (dN K) (tC (.int 2)) (bL (bK K) [] E0 (af (ah 0) (af (tC (.int 5)) aK)))) aK))) (aT 4)) (sh K))
def sj(K:Fg):TS:=(bo (bO (Ec (D4 K) (bL (kr K) [] E0 (af (ah 0) (af (tC (.int 5)) aK))) iD (mG (bq (cQ K) (iQ (af (bq (dN K) (tC (.int 1)) (bL (bK K) [] E0 (af (ah 0) (af (tC (.int 3)) aK)))) (af (tC (.int 5)) aK))) (ah 2)))) (aT 3)) (si K))
def wW(K:Fg):TS:=(bo (bO (iV (we) (af (bq (fh K) (bq (kq) (bq (ym) (iV (Mo K) (af (Ec (D4 K) (bq (cQ K) (ah 0) (tC (.int 0))) iD (mG (tC (.int 1)))) aK)) (tC (.int 4))) (tC (.int 16))) (tC (.int 5))) aK)) (aT 2)) (sj K))
end Bg
end
section
namespace Bg
open PySem L2
abbrev Hb:Str:="abcdefghijklmnopqrstuvwxyz"
theorem Cy:Hb.length<=sizeLine:=by decide +kernel
def one(c:Nat):Str:=⟨#[c]⟩
theorem yN:∀cs:List Nat,(Txt.join "" (cs.map one)).cps.toList=cs
 |[]=>by decide +kernel
 |c::r=>by
  unfold Txt.join
  rw[StrLaws.glued_eq_join]
  induction r generalizing c with
  |nil=>rfl
  |cons d r ih=>
   show(one c++("":Str)++Str.join "" ((d::r).map one)).cps.toList=_
   have e:(one c++("":Str)++Str.join "" ((d::r).map one)).cps.toList=(one c).cps.toList++("":Str).cps.toList++(Str.join "" ((d::r).map one)).cps.toList:=by
    show((one c).cps++("":Str).cps++(Str.join "" ((d::r).map one)).cps).toList=_
    rw[kE,kE]
   rw[e,ih d]
   rfl
theorem mB(y:Str):y.length=y.cps.toList.length:=by
 show y.cps.size=_
 rw[dQ]
theorem yK:∀j:Nat,j<26->Hb.cps.toList[j]?=some (97+j):=by decide +kernel
theorem Gk:∀y∈Gj,y.length<=4:=by decide +kernel
theorem D9:∀y∈Gj,y.cps.toList.getLast?≠some 120:=by decide +kernel
theorem CB(y:Str):(y++"x").cps.toList=y.cps.toList++[120]:=by
 show(y.cps++("x":Str).cps).toList=_
 rw[kE]
 rfl
theorem zx{y:Str}{cs:List Nat}(h:y.cps.toList=cs)(l1:1<=cs.length)(l8:cs.length<=8)(a:∀c∈cs,97<=c/\c<=122)(n:y∉Gj):Nm y:=
 ⟨by rw[mB,h];exact l1,by rw[mB,h];exact l8,by rw[h];exact a,n⟩
theorem LY{y:Str}{cs:List Nat}(h:y.cps.toList=cs)(l8:cs.length<=7)(a:∀c∈cs,97<=c/\c<=122):Nm (y++"x"):=by
 have e:=CB y
 rw[h] at e
 refine⟨by rw[mB,e,aD];simp,by rw[mB,e,aD];simp;lia,λc hc=>?_,λhm=>?_⟩
 ·rw[e] at hc
  rcases aP.mp hc with z|z
  ·exact a c z
  ·rw[au.mp z];decide
 ·have:=D9 _ hm
  rw[e,List.getLast?_append] at this
  exact this rfl
def MG(st b l:Addr)(n sz at':Nat)(f:Int)(H4:Hp)(i:Nat):St->Hp->Prop:=λσ' H'=>∃(ys:List Str) (o1 o2 o3:Option V),σ'=[some (.ref st),some (.int (n:Nat)),some (.str Hb),some (.int (sz:Nat)),some (.int (at':Nat)),some (.int f),some (.ref b),some (.ref l),o1,o2,o3]/\H' l=some (.lst (ys.map V.str))/\ys.length=i/\(∀y∈ys,Nm y)/\(∀(j:Nat) y,ys[j]?=some y->y.cps.toList[at']?=some (97+((f+5*(j:Int)) % 26).toNat))/\fX l (upd H4 l (.lst [])) H'
theorem Jc{K:Fg}{vs:List V}{H:Hp}{Q:VK}{E:XK}(h:kr K vs H Q E):Dd K {nx:=λ_ H'=>Q .non H',rt:=Q} (cN sL vs) H:=by
 obtain⟨st,n,k,rfl,S,hk,hn,q⟩:=h
 refine⟨_,rfl,st,8,k,rfl,S,by lia,by decide,by decide,λd H1 d0 d1 S1 B1=>.inl ⟨_,_,rfl,rfl,?_⟩⟩
 obtain⟨sz,hsz,z1,z8⟩:∃sz:Nat,(1:Int)+d=(sz:Int)/\1<=sz/\sz<=8:=⟨(1+d).toNat,by lia,by lia,by lia⟩
 show uP K _ [some (.ref st),some (.int (n:Nat)),some (.str Hb),some (.int ((1:Int)+d)),none,none,none,none,none,none,none] H1
 rw[hsz]
 refine⟨_,rfl,_,rfl,st,_,k+1,rfl,S1,by lia,by lia,by lia,λa H2 a0 a1 S2 B2'=>?_⟩
 obtain⟨at',rfl⟩:∃j:Nat,a=(j:Int):=⟨a.toNat,by lia⟩
 have B2:=B1.trans B2'
 refine⟨_,rfl,st,26,k+2,rfl,S2,by lia,by decide,by decide,λf H3 f0 f1 S3 B3'=>?_⟩
 have B3:=B2.trans B3'
 refine⟨_,rfl,_,rfl,by lia,by lia,λb hb=>?_⟩
 obtain⟨ys3,hs3⟩:=S3.lst
 have nb:b≠st:=λz=>by rw[z,hs3] at hb;cases hb
 refine tJ (λi σ' H'=>∃(bc:List Nat) (kk:Nat) (o:Option V),σ'=[some (.ref st),some (.int (n:Nat)),some (.str Hb),some (.int (sz:Nat)),some (.int (at':Nat)),some (.int f),none,none,none,none,none,o]/\
  H' b=some (.lst ((bc.map one).map V.str))/\bc.length=i/\(∀c∈bc,97<=c/\c<=122)/\kO K H' st kk/\kk<=k+3+i/\fX st H H') ?_ ?_ ?_
 ·exact⟨[],k+3,none,rfl,ae,rfl,by simp,S3.new hb,by lia,B3.new hb⟩
 ·rintro i σ' H' hi ⟨bs,kk,o,rfl,hbl,hlen,hone,S4,hkk,B4⟩
  have hi:i<sz:=by simpa using hi
  refine kc ?_
  refine⟨_,rfl,_,rfl,_,rfl,.inl ⟨_,_,rfl,rfl,.inl ⟨by decide,by decide⟩,_,rfl,st,4,kk,rfl,S4,by lia,by decide,by decide,λe H5 e0 e1 S5 B5=>.inl ⟨_,_,rfl,rfl,.inr ⟨by lia,by lia⟩,.inl ⟨_,_,rfl,rfl,_,_,rfl,rfl,(by show(0:Int)<26;decide),?_⟩⟩⟩⟩
  have x0:0<=(f+7*(0+(i:Int))*e) % 26:=cI _ (by decide)
  have x1:(f+7*(0+(i:Int))*e) % 26<26:=cC _ (by decide)
  refine MN Cy x0 (yK _ (by lia)) ?_
  have x2:((f+7*(0+(i:Int))*e) % 26).toNat<26:=by lia
  generalize ((f+7*(0+(i:Int))*e) % 26).toNat=x at x2
  have h5:=B5 b _ nb hbl
  refine⟨_,h5,cR (by rw[ai,ai];lia),bs++[97+x],kk+1,_,rfl,?_,by simp[hlen],?_,?_,by lia,?_⟩
  ·rw[ae,bw,bw];rfl
  ·intro y hy
   rcases aP.mp hy with z|z
   ·exact hone y z
   ·rw[au.mp z];lia
  ·exact S5.mono .upd_at h5 (Ne.symm nb)
  ·exact λc' u n' h'=>by
    have w:=(B4.trans B5) c' u n' h'
    have ncb:c'≠b:=λz=>by
     have:H c'=none:=(B3.free (λz'=>n' z') (by rw[z];exact hb))
     rw[this] at h';cases h'
    rw[aw ncb];exact w
 ·rintro σ' H4 ⟨bs,kk,o,rfl,hbl,hlen,hone,S4,hkk,B4⟩
  have hlen:bs.length=sz:=by simpa using hlen
  have hkk:kk<=k+3+sz:=by simpa using hkk
  refine⟨(by show 0<=sizeLine;decide),λl hl=>?_⟩
  have nlb:b≠l:=ar hbl hl
  obtain⟨ys4,hs4⟩:=S4.lst
  have nls:st≠l:=ar hs4 hl
  have Hl:H l=none:=B4.free (Ne.symm nls) hl
  show wR K _ [some (.ref st),some (.int (n:Nat)),some (.str Hb),some (.int (sz:Nat)),some (.int (at':Nat)),some (.int f),some (.ref b),some (.ref l),none,none,none] (upd H4 l (.lst []))
  refine⟨_,rfl,_,rfl,by lia,by lia,my (MG st b l n sz at' f H4) ⟨[],none,none,none,rfl,ae,rfl,by simp,by simp,.refl _ _⟩ ?_ ?_⟩
  ·rintro i σ' H5 hi ⟨ys,o1,o2,o3,rfl,hyl,ylen,yok,ycd,B5⟩
   have hi:i<n:=by simpa using hi
   have hb5:H5 b=some (.lst ((bs.map one).map V.str)):=B5 b _ nlb (by rw[aw nlb];exact hbl)
   refine⟨_,rfl,_,rfl,_,rfl,.inl ⟨b,_,rfl,bZ.of hb5,λp1 hp1=>?_⟩⟩
   rw[lx,<-gI,<-gI]
   have np1b:b≠p1:=ar hb5 hp1
   have np1l:l≠p1:=ar hyl hp1
   refine⟨_,rfl,_,rfl,_,rfl,.inl ⟨_,_,rfl,rfl,.inl ⟨by decide,by decide⟩,.inl ⟨_,_,rfl,rfl,_,_,rfl,rfl,(by show(0:Int)<26;decide),?_⟩⟩⟩
   have e00:(0:Int)+(i:Int)=(i:Int):=by lia
   rw[e00]
   have x0:0<=(f+5*(i:Int)) % 26:=cI _ (by decide)
   have x1:(f+5*(i:Int)) % 26<26:=cC _ (by decide)
   obtain⟨c,hc⟩:∃c,c=97+((f+5*(i:Int)) % 26).toNat:=⟨_,rfl⟩
   refine MN Cy x0 (by rw[yK _ (by lia),<-hc]) ⟨(by show 1<=sizeLine;decide),λp2 hp2=>?_⟩
   have np12:p1≠p2:=ar ae hp2
   have np2b:b≠p2:=ar (by rw[aw np1b];exact hb5) hp2
   have np2l:l≠p2:=ar (by rw[aw np1l];exact hyl) hp2
   refine .inr (.inr (.inl ⟨p1,p2,_,_,rfl,rfl,by rw[aw np12,ae],ae,?_,λp3 hp3=>?_⟩))
   ·have:=cR (n:=9) (by decide)
    rw[ai,ai,bG]
    show min at' bs.length+1<=sizeLine
    lia
   have np13:p1≠p3:=ar (by rw[aw np12];exact ae) hp3
   have np3b:b≠p3:=ar (by rw[aw np2b,aw np1b];exact hb5) hp3
   have np3l:l≠p3:=ar (by rw[aw np2l,aw np1l];exact hyl) hp3
   refine⟨_,rfl,_,rfl,.inl ⟨_,_,rfl,rfl,_,rfl,.inl ⟨b,_,rfl,bZ.of (by rw[aw np3b,aw np2b,aw np1b];exact hb5),λp4 hp4=>?_⟩⟩⟩
   rw[show((at':Int)+1)=((at'+1:Nat):Int) by lia,yO,<-pb,<-pb]
   have np34:p3≠p4:=ar ae hp4
   have np4l:l≠p4:=ar (by rw[aw np3l,aw np2l,aw np1l];exact hyl) hp4
   refine .inr (.inr (.inl ⟨p3,p4,_,_,rfl,rfl,by rw[aw np34,ae],ae,?_,λp5 hp5=>?_⟩))
   ·have:=cR (n:=100) (by decide)
    rw[aD,ai,ai,ai,ai,bG,dw]
    show min at' bs.length+1+(bs.length-(at'+1))<=sizeLine
    lia
   have np5l:l≠p5:=ar (by rw[aw np4l,aw np3l,aw np2l,aw np1l];exact hyl) hp5
   have ew:((bs.take at').map one).map V.str++[V.str ⟨#[c]⟩]++((bs.drop (at'+1)).map one).map V.str=((bs.take at'++[c]++bs.drop (at'+1)).map one).map V.str:=by rw[bw,bw,bw,bw];rfl
   rw[ew]
   have wl:(bs.take at'++[c]++bs.drop (at'+1)).length=sz:=by rw[aD,aD,bG,dw,cc];lia
   have wone:∀y∈bs.take at'++[c]++bs.drop (at'+1),97<=y/\y<=122:=λy hy=>by
    rcases aP.mp hy with z|z
    ·rcases aP.mp z with z|z
     ·exact hone y (gX z)
     ·rw[au.mp z];lia
    ·exact hone y (List.mem_of_mem_drop z)
   have wat:(bs.take at'++[c]++bs.drop (at'+1))[at']?=some c:=by
    have tl:(bs.take at').length=at':=by rw[bG];lia
    rw[jt,bj (by lia),tl,eZ]
    rfl
   generalize bs.take at'++[c]++bs.drop (at'+1)=w at wl wone wat ⊢
   have B6:=((((B5.new (o:=.lst (((bs.take at').map one).map V.str)) hp1).new (o:=.lst [V.str ⟨#[c]⟩]) hp2).new (o:=.lst (((bs.take at').map one).map V.str++[V.str ⟨#[c]⟩])) hp3).new (o:=.lst (((bs.drop (at'+1)).map one).map V.str)) hp4).new (o:=.lst ((w.map one).map V.str)) hp5
   have h6:(upd (upd (upd (upd (upd H5 p1 (.lst (((bs.take at').map one).map V.str))) p2 (.lst [V.str ⟨#[c]⟩])) p3 (.lst (((bs.take at').map one).map V.str++[V.str ⟨#[c]⟩]))) p4 (.lst (((bs.drop (at'+1)).map one).map V.str))) p5 (.lst ((w.map one).map V.str))) l=some (.lst (ys.map V.str)):=by
    rw[aw np5l,aw np4l,aw np3l,aw np2l,aw np1l];exact hyl
   have g6:(upd (upd (upd (upd (upd H5 p1 (.lst (((bs.take at').map one).map V.str))) p2 (.lst [V.str ⟨#[c]⟩])) p3 (.lst (((bs.take at').map one).map V.str++[V.str ⟨#[c]⟩]))) p4 (.lst (((bs.drop (at'+1)).map one).map V.str))) p5 (.lst ((w.map one).map V.str))) p5=some (.lst ((w.map one).map V.str)):=ae
   generalize (upd (upd (upd (upd (upd H5 p1 (.lst (((bs.take at').map one).map V.str))) p2 (.lst [V.str ⟨#[c]⟩])) p3 (.lst (((bs.take at').map one).map V.str++[V.str ⟨#[c]⟩]))) p4 (.lst (((bs.drop (at'+1)).map one).map V.str))) p5 (.lst ((w.map one).map V.str)))=H6 at B6 h6 g6 ⊢
   have wsum:((w.map one).map (·.length)).sum=w.length:=by
    rw[List.map_map,show((λx:Str=>x.length) ∘ one)=λ_=>1 from rfl,List.map_const',List.sum_replicate_nat,Nat.mul_one]
   refine⟨rfl,_,rfl,"",p5,w.map one,rfl,rfl,bZ.of g6,?_,?_⟩
   ·have e:("":Str).length=0:=by decide +kernel
    rw[wsum,e,Nat.mul_zero];lia
   have jl:=yN w
   generalize Txt.join "" (w.map one)=nmw at jl ⊢
   show wQ K _ [some (.ref st),some (.int (n:Nat)),some (.str Hb),some (.int (sz:Nat)),some (.int (at':Nat)),some (.int f),some (.ref b),some (.ref l),some (.int (i:Int)),some (.ref p5),some (.str nmw)] H6
   have nl:nmw.length=sz:=by rw[mB,jl,wl]
   have app:∀(nw:Str) (H7:Hp),Nm nw->nw.cps.toList[at']?=some c->fX l (upd H4 l (.lst [])) H7->H7 l=some (.lst (ys.map V.str))->wO K {nx:=MG st b l n sz at' f H4 (i+1),rt:=Q,ct:=MG st b l n sz at' f H4 (i+1),bk:=wN K {nx:=λ_ H'=>Q .non H',rt:=Q}} [some (.ref st),some (.int (n:Nat)),some (.str Hb),some (.int (sz:Nat)),some (.int (at':Nat)),some (.int f),some (.ref b),some (.ref l),some (.int (i:Int)),some (.ref p5),some (.str nw)] H7:=λnw H7 w1 w2 B7 h7=>by
    refine⟨_,rfl,.inl ⟨rfl,_,bZ.of h7⟩,_,rfl,l,_,_,rfl,rfl,h7,cR (by rw[ai];lia),?_⟩
    refine⟨ys++[nw],_,_,_,rfl,?_,by simp[ylen],?_,?_,B7.trans .upd_at⟩
    ·rw[ae,bw];rfl
    ·intro y hy
     rcases aP.mp hy with z|z
     ·exact yok y z
     ·rw[au.mp z];exact w1
    ·intro j y hy
     by_cases cj:j<ys.length
     ·rw[bz cj] at hy;exact ycd j y hy
     ·have cj2:j=i:=by
       have:=(aj.mp hy).1
       rw[aD,cc] at this
       lia
      subst cj2
      rw[bj (by lia),ylen,eZ] at hy
      cases hy
      rw[<-hc];exact w2
   refine⟨_,rfl,(by show 6<=sizeLine;decide),λt ht=>⟨t,_,rfl,.inr (eU.of ae),rfl,rfl,_,rfl,?_⟩⟩
   have ntl:l≠t:=ar h6 ht
   have B7:=B6.new (o:=.tup [V.str "part",V.str "call",V.str "say",V.str "jump",V.str "test",V.str "give"]) ht
   have h7:(upd H6 t (.tup [V.str "part",V.str "call",V.str "say",V.str "jump",V.str "test",V.str "give"])) l=some (.lst (ys.map V.str)):=by rw[aw ntl];exact h6
   have xl:("x":Str).length=1:=by decide +kernel
   have xat:(nmw++"x").cps.toList[at']?=some c:=by
    rw[CB,jl,bz (by rw[wl];lia)];exact wat
   show if v7 (.str nmw) (Gj.map V.str)=true then _ else _
   rw[y4]
   refine cT (λhin=>?_) (λhin=>?_)
   ·refine⟨_,rfl,.inr (.inl ⟨_,_,rfl,rfl,by rw[xl];have:=cR (n:=100) (by decide);lia,?_⟩)⟩
    have z4:=Gk _ hin
    exact app _ _ (LY jl (by rw[wl];lia) wone) xat B7 h7
   ·refine⟨_,rfl,_,_,rfl,rfl,_,rfl,cT (λh8=>?_) (λ_=>?_)⟩
    ·refine⟨_,rfl,_,rfl,.inl ⟨_,_,rfl,rfl,_,_,rfl,rfl,(by show(0:Int)<3;decide),.inl ⟨rfl,_,rfl,cT (λ_=>?_) (λ_=>?_)⟩⟩⟩
     ·refine⟨_,rfl,.inr (.inl ⟨_,_,rfl,rfl,by rw[xl];have:=cR (n:=100) (by decide);lia,?_⟩)⟩
      exact app _ _ (LY jl (by rw[wl];lia) wone) xat B7 h7
     ·exact app _ _ (zx jl (by lia) (by lia) wone hin) (by rw[jl];exact wat) B7 h7
    ·exact jX (app _ _ (zx jl (by lia) (by lia) wone hin) (by rw[jl];exact wat) B7 h7)
  ·rintro σ' H5 ⟨ys,o1,o2,o3,rfl,hyl,ylen,yok,ycd,B5⟩
   have ylen:ys.length=n:=by simpa using ylen
   have nd:ys.Nodup:=by
    rw[List.Nodup,List.pairwise_iff_getElem]
    intro i j hi hj lt e
    have e1:=ycd i _ (ab hi)
    have e2:=ycd j _ (ab hj)
    rw[e,e2] at e1
    have e3:=Option.some.inj e1
    have a1:0<=(f+5*(i:Int)) % 26:=cI _ (by decide)
    have a2:0<=(f+5*(j:Int)) % 26:=cI _ (by decide)
    lia
   refine⟨_,rfl,q l ys kk H5 Hl ylen nd yok hyl ((S4.new hl).mono B5 ae nls) (by lia) (B4.through hl B5)⟩
structure MJ(rl:Addr)(H:Hp)(R:bP->Prop)(n:Nat)(H':Hp)(rvs:List V)(rs:List bP):Prop where
 at_:H' rl=some (.lst rvs)
 all:bR (eD H') rvs rs
 len:rs.length=n
 rough:∀r∈rs,R r
 but:fX rl H H'
theorem MJ.vlen{rl:Addr}{H H':Hp}{R:bP->Prop}{n:Nat}{rvs:List V}{rs:List bP}(m:MJ rl H R n H' rvs rs):rvs.length=n:=m.all.len.trans m.len
theorem MJ.grown{rl:Addr}{H H' H2:Hp}{R:bP->Prop}{n:Nat}{rvs:List V}{rs:List bP}(m:MJ rl H R n H' rvs rs)(s:aS H' H2):MJ rl H R n H2 rvs rs:=
 ⟨s _ _ m.at_,m.all.imp λ_ _ z=>z.mono (.of_same s),m.len,m.rough,λb o nb h=>s _ _ (m.but b o nb h)⟩
theorem MJ.set{rl:Addr}{H H':Hp}{R:bP->Prop}{n:Nat}{rvs:List V}{rs:List bP}{v:V}{r:bP}(j:Nat)(m:MJ rl H R n H' rvs rs)(q:eD H' v r)(ro:R r) :
  MJ rl H R n (upd H' rl (.lst (rvs.set j v))) (rvs.set j v) (rs.set j r):=by
 have t:Tp H' (upd H' rl (.lst (rvs.set j v))):=(Tp.refl H').lst m.at_
 refine⟨ae,(m.all.set q).imp λ_ _ z=>z.mono t,by rw[eX];exact m.len,λr' hr'=>?_,m.but.trans .upd_at⟩
 rcases List.mem_or_eq_of_mem_set hr' with z|z
 ·exact m.rough r' z
 ·rw[z];exact ro
theorem MJ.get{rl:Addr}{H H':Hp}{R:bP->Prop}{n:Nat}{rvs:List V}{rs:List bP}(m:MJ rl H R n H' rvs rs){j:Nat}(hj:j<n):∃p xs r,rvs[j]?=some (.ref p)/\rs[j]?=some r/\H' p=some (.tup (.str (qX r)::xs))/\eD H' (.ref p) r/\R r:=by
 obtain⟨v,r,e1,e2,q⟩:=m.all.get (i:=j) (by rw[m.len];exact hj)
 obtain⟨p,xs,rfl,hp⟩:=q.ref
 exact⟨p,xs,r,e1,e2,hp,q,m.rough r (az e2)⟩
def Ju(n:Nat)(rs:List bP):Prop:=∃r,rs[n-1]?=some r/\lO r=true
def LH(bare:Bool)(rs:List bP):Prop:=bare=true->∃r,rs[0]?=some r/\tT r=true
theorem oY{r:bP}(h:qX r="jump"):∃to,r=.jump to:=by
 cases r with
 |jump to=>exact⟨to,rfl⟩
 |num x z=>exact absurd h (by show ¬("num":Str)="jump";decide +kernel)
 |op x s a b=>exact absurd h (by show ¬("op":Str)="jump";decide +kernel)
 |call x k as=>exact absurd h (by show ¬("call":Str)="jump";decide +kernel)
 |say a=>exact absurd h (by show ¬("say":Str)="jump";decide +kernel)
 |test a to=>exact absurd h (by show ¬("test":Str)="jump";decide +kernel)
 |give a=>exact absurd h (by show ¬("give":Str)="jump";decide +kernel)
theorem J2{r:bP}(h:qX r="num"):tT r=true:=by
 cases r with
 |num x z=>rfl
 |jump to=>exact absurd h (by show ¬("jump":Str)="num";decide +kernel)
 |op x s a b=>exact absurd h (by show ¬("op":Str)="num";decide +kernel)
 |call x k as=>exact absurd h (by show ¬("call":Str)="num";decide +kernel)
 |say a=>exact absurd h (by show ¬("say":Str)="num";decide +kernel)
 |test a to=>exact absurd h (by show ¬("test":Str)="num";decide +kernel)
 |give a=>exact absurd h (by show ¬("give":Str)="num";decide +kernel)
theorem J0{r:bP}(h:v7 (.str (qX r)) [V.str "jump",V.str "give"]=true):lO r=true:=by
 cases r with
 |jump to=>rfl
 |give a=>rfl
 |num x z=>exact absurd h (by show ¬v7 (.str "num") [V.str "jump",V.str "give"]=true;decide +kernel)
 |op x s a b=>exact absurd h (by show ¬v7 (.str "op") [V.str "jump",V.str "give"]=true;decide +kernel)
 |call x k as=>exact absurd h (by show ¬v7 (.str "call") [V.str "jump",V.str "give"]=true;decide +kernel)
 |say a=>exact absurd h (by show ¬v7 (.str "say") [V.str "jump",V.str "give"]=true;decide +kernel)
 |test a to=>exact absurd h (by show ¬v7 (.str "test") [V.str "jump",V.str "give"]=true;decide +kernel)
theorem qL{a b:Str}(h:V.str a=V.str b):a=b:=by cases h;rfl
theorem Ae{rs:List bP}{n:Nat}(h:∀r,rs[n]?=some r->hZ r=false):stp rs n=n:=by
 unfold stp
 cases e:rs[n]? with
 |none=>rfl
 |some r=>cases r with
  |jump t=>exact absurd (h _ e) (by show ¬true=false;decide)
  |_=>rfl
theorem oX{rs:List bP}{n:Nat}(h:∀r,rs[n]?=some r->hZ r=false):∀k,runJ rs k n=n
 |0=>rfl
 |k+1=>by
  show runJ rs k (stp rs n)=n
  rw[Ae h];exact oX h k
theorem mE(rs:List bP):∀(k n:Nat),runJ rs (k+1) n=stp rs (runJ rs k n)
 |0,n=>rfl
 |k+1,n=>by
  show runJ rs (k+1) (stp rs n)=stp rs (runJ rs k (stp rs n))
  exact mE rs k (stp rs n)
theorem Gm{rs:List bP}{j:Nat}{r':bP}(hr:hZ r'=false)(hj:j<rs.length):∀(k m:Nat),(∀r,rs[runJ rs k m]?=some r->hZ r=false)->∀r,(rs.set j r')[runJ (rs.set j r') k m]?=some r->hZ r=false:=by
 have at_j:∀r,(rs.set j r')[j]?=some r->hZ r=false:=λr e=>by
  rw[bx hj] at e;cases e;exact hr
 intro k
 induction k with
 |zero=>
  intro m h r e
  by_cases c:j=m
  ·subst c;exact at_j r e
  ·have e':(rs.set j r')[m]?=some r:=e
   rw[bT c] at e';exact h r e'
 |succ k ih=>
  intro m h r e
  by_cases c:j=m
  ·subst c
   rw[oX at_j] at e;exact at_j r e
  ·have es:stp (rs.set j r') m=stp rs m:=by unfold stp;rw[bT c]
   have e':(rs.set j r')[runJ (rs.set j r') k (stp (rs.set j r') m)]?=some r:=e
   rw[es] at e'
   exact ih (stp rs m) h r e'
theorem qw{r:bP}(h:¬qX r="jump"):hZ r=false:=by
 cases r<;>first|rfl|exact absurd rfl h
def ME(rl nm:Addr)(bare:Bool)(H:Hp)(R:bP->Prop)(n i:Nat):St->Hp->Prop:=λσ' H'=>∃(rvs:List V) (rs:List bP) (o4 o5 o6:Option V),σ'=[some (.ref rl),some (.ref nm),some (.bl bare),some (.int ((n-1:Nat):Nat)),o4,o5,o6]/\MJ rl H R n H' rvs rs/\Ju n rs/\LH bare rs/\∀m,m<i->∀r,rs[runJ rs n m]?=some r->hZ r=false
theorem Gc{K:Fg}{vs:List V}{H:Hp}{Q:VK}{E:XK}(h:jZ K vs H Q E):AC K {nx:=λ_ H'=>Q .non H',rt:=Q} (cN sW vs) H:=by
 obtain⟨rl,nm,bare,rvs,rs,ys,R,rfl,hrl,hA,hpos,hfew,hR,rSay,rGive,rJump,hnm,ysne,rNum,nnr,hbare,q⟩:=h
 obtain⟨n,hn⟩:∃n,n=rs.length:=⟨_,rfl⟩
 have n1:1<=n:=by rw[hn];exact dR.mpr hpos
 have n100:n<=100:=by rw[hn];exact hfew
 have M0:MJ rl H R n H rvs rs:=⟨hrl,hA,hn.symm,hR,.refl _ _⟩
 refine⟨_,rfl,_,_,rfl,.inl ⟨_,bZ.of hrl,rfl⟩,_,_,rfl,rfl,?_⟩
 show uO K _ [some (.ref rl),some (.ref nm),some (.bl bare),some (.int (((rvs.length:Nat):Int)-1)),none,none,none] H
 rw[show((rvs.length:Nat):Int)-1=((n-1:Nat):Nat) by rw[M0.vlen];lia]
 have loop:∀H',ME rl nm bare H R n 0 [some (.ref rl),some (.ref nm),some (.bl bare),some (.int ((n-1:Nat):Nat)),none,none,none] H'->uM K {nx:=λ_ H'=>Q .non H',rt:=Q} [some (.ref rl),some (.ref nm),some (.bl bare),some (.int ((n-1:Nat):Nat)),none,none,none] H':=λH' P0=>by
  obtain⟨rvs0,rs0,_,_,_,_,MM,_,_,_⟩:=id P0
  refine⟨_,rfl,_,_,rfl,.inl ⟨_,bZ.of MM.at_,rfl⟩,_,rfl,by lia,by rw[MM.vlen];lia,my (λi=>ME rl nm bare H R n i) P0 ?_ ?_⟩
  ·rintro i σ' H1 hi ⟨rvs,rs,o4,o5,o6,rfl,M,hE,hN,hJ⟩
   have hi:i<n:=by rw[MM.vlen] at hi;simpa using hi
   have e0:(0:Int)+(i:Int)=((i:Nat):Int):=by lia
   show uL K _ [some (.ref rl),some (.ref nm),some (.bl bare),some (.int ((n-1:Nat):Nat)),some (.int ((0:Int)+(i:Int))),o5,o6] H1
   rw[e0]
   refine⟨_,rfl,?_⟩
   show uK K _ [some (.ref rl),some (.ref nm),some (.bl bare),some (.int ((n-1:Nat):Nat)),some (.int (i:Nat)),some (.int (i:Nat)),o6] H1
   refine .inl ⟨_,rfl,rl,rfl,⟨_,bZ.of M.at_⟩,og (xs:=rvs) (λj σ H'=>∃(to:Nat) (o:Option V),σ=[some (.ref rl),some (.ref nm),some (.bl bare),some (.int ((n-1:Nat):Nat)),some (.int (i:Nat)),some (.int (to:Nat)),o]/\H'=H1/\to<n/\(∀r,rs[i]?=some r->tT r=true->to=i)/\to=runJ rs j i)
    ⟨i,o6,rfl,rfl,hi,λ_ _ _=>rfl,rfl⟩ (λ_ _ _ _ ⟨_,_,_,e,_⟩=>by rw[e];exact bZ.of M.at_) ?_ ?_⟩
   ·rintro j x σ' H2 hx ⟨to,o,rfl,rfl,hto,hk,hrun⟩
    obtain⟨p,xs,r,e1,e2,hp,hra,hro⟩:=M.get hto
    have e1':rvs[((to:Nat):Int).toNat]?=some (.ref p):=by simpa using e1
    refine⟨_,rfl,_,rfl,mf (bZ.of M.at_) (by lia) e1' (cH hp (by decide) rfl (.inl ⟨rfl,_,rfl,cT (λhw=>?_) (λhw=>?_)⟩))⟩
    ·obtain⟨t',rfl⟩:=oY (qL hw)
     obtain⟨p',e3,hp'⟩:=hra
     cases e3
     refine⟨_,rfl,_,rfl,mf (bZ.of M.at_) (by lia) e1' (cH hp' (by decide) rfl ?_)⟩
     refine⟨t',_,rfl,rfl,by rw[hn];exact rJump _ hro,λr hr hnum=>?_,?_⟩
     ·have:=hk r hr hnum
      rw[this] at e2
      rw[e2] at hr;cases hr;cases hnum
     ·rw[mE,<-hrun];unfold stp;rw[e2]
    ·refine⟨to,_,rfl,rfl,hto,hk,?_⟩
     rw[mE,<-hrun,Ae]
     intro r' hr'
     rw[e2] at hr';cases hr'
     exact qw λz=>hw (by rw[z])
   ·rintro σ' H2 ⟨to,o,rfl,rfl,hto,hk,hrun⟩
    rw[M.vlen] at hrun
    obtain⟨p,xs,r,e1,e2,hp,hra,hro⟩:=M.get hto
    have e1':rvs[((to:Nat):Int).toNat]?=some (.ref p):=by simpa using e1
    refine⟨_,rfl,_,rfl,mf (bZ.of M.at_) (by lia) e1' (cH hp (by decide) rfl (.inl ⟨rfl,_,rfl,cT (λhw=>?_) (λhw=>⟨rvs,rs,_,_,_,rfl,M,hE,hN,λm hm=>?_⟩)⟩))⟩
    rotate_left
    ·by_cases cm:m<i
     ·exact hJ m cm
     ·have:m=i:=by lia
      subst this
      intro r' hr'
      rw[<-hrun,e2] at hr';cases hr'
      exact qw λz=>hw (by rw[z])
    obtain⟨t',rfl⟩:=oY (qL hw)
    refine⟨(by show 2<=sizeLine;decide),λp1 hp1=>⟨(by show 2<=sizeLine;decide),λp2 hp2=>⟨(by show 2<=sizeLine;decide),λl hl=>?_⟩⟩⟩
    have n12:p1≠p2:=ar ae hp2
    have n1l:p1≠l:=ar (by rw[aw n12];exact ae) hl
    have n2l:p2≠l:=ar ae hl
    have sm:aS H2 (upd (upd (upd H2 p1 (.tup [V.str "say",V.str ""])) p2 (.tup [V.str "give",V.str ""])) l (.lst [V.ref p1,V.ref p2])):=(((aS.refl H2).new hp1).new hp2).new hl
    have M2:=M.grown sm
    have hl2:(upd (upd (upd H2 p1 (.tup [V.str "say",V.str ""])) p2 (.tup [V.str "give",V.str ""])) l (.lst [V.ref p1,V.ref p2])) l=some (.lst [V.ref p1,V.ref p2]):=ae
    have h1:(upd (upd (upd H2 p1 (.tup [V.str "say",V.str ""])) p2 (.tup [V.str "give",V.str ""])) l (.lst [V.ref p1,V.ref p2])) p1=some (.tup [V.str "say",V.str ""]):=by rw[aw n1l,aw n12,ae]
    have h2:(upd (upd (upd H2 p1 (.tup [V.str "say",V.str ""])) p2 (.tup [V.str "give",V.str ""])) l (.lst [V.ref p1,V.ref p2])) p2=some (.tup [V.str "give",V.str ""]):=by rw[aw n2l,ae]
    generalize (upd (upd (upd H2 p1 (.tup [V.str "say",V.str ""])) p2 (.tup [V.str "give",V.str ""])) l (.lst [V.ref p1,V.ref p2]))=H3 at M2 hl2 h1 h2 ⊢
    have fin:∀(v:V) (r:bP),eD H3 v r->R r->hZ r=false->(i=n-1->lO r=true)->nG (ah 0) (ah 4) nE v [some (.ref rl),some (.ref nm),some (.bl bare),some (.int ((n-1:Nat):Nat)),some (.int (i:Nat)),some (.int (to:Nat)),o] H3 (ME rl nm bare H R n (i+1)):=λv r hv hr hj he=>by
     refine⟨_,rfl,_,rfl,Ad M2.at_ (by lia) (by rw[M2.vlen];simpa using hi) ?_⟩
     have ei:((i:Nat):Int).toNat=i:=by simp
     rw[ei]
     refine⟨_,rs.set i r,_,_,_,rfl,M2.set i hv hr,?_,λhb=>?_,λm hm=>?_⟩
     ·obtain⟨r1,a1,a2⟩:=hE
      by_cases c:i=n-1
      ·exact⟨r,by rw[<-c,bx (by rw[M2.len];exact hi)],he c⟩
      ·exact⟨r1,by rw[bT c];exact a1,a2⟩
     ·obtain⟨r0,a1,a2⟩:=hN hb
      have c:i≠0:=λc=>by
       subst c
       have:=hk r0 a1 a2
       subst this
       rw[e2] at a1;cases a1;cases a2
      exact⟨r0,by rw[bT c];exact a1,a2⟩
     ·have il:i<rs.length:=by rw[M2.len];exact hi
      by_cases cm:m<i
      ·exact Gm hj il n m (hJ m cm)
      ·have:m=i:=by lia
       subst this
       have atm:∀r',(rs.set m r)[m]?=some r'->hZ r'=false:=λr' e=>by rw[bx il] at e;cases e;exact hj
       intro r' hr'
       rw[oX atm] at hr'
       exact atm r' hr'
    refine⟨_,rfl,_,rfl,.inl ⟨rfl,?_⟩⟩
    refine .inr ⟨_,rfl,?_⟩
    by_cases c:i=n-1
    ·have ec:decide (V.int (i:Nat)=V.int ((n-1:Nat):Nat))=true:=by rw[c];exact decide_eq_true rfl
     rw[ec]
     exact mf (bZ.of hl2) (by decide) rfl (fin _ (.give "") ⟨p2,rfl,h2⟩ rGive rfl λ_=>rfl)
    ·have ec:decide (V.int (i:Nat)=V.int ((n-1:Nat):Nat))=false:=decide_eq_false (λz=>c (by injection z with z;lia))
     rw[ec]
     exact mf (bZ.of hl2) (by decide) rfl (fin _ (.say "") ⟨p1,rfl,h1⟩ rSay rfl λz=>absurd z c)
  ·rintro σ' H1 ⟨rvs,rs',o4,o5,o6,rfl,M,hE,hN,hJ⟩
   rw[MM.vlen,gM] at hJ
   refine⟨_,rfl,q rvs rs' H1 M.at_ M.all (M.len.trans hn) M.rough ?_ ?_ (by intro m hm;rw[M.len] at hm ⊢;exact hJ m hm) M.but⟩
   ·obtain⟨r,a1,a2⟩:=hE
    rw[cB,M.len,a1,bY,a2]
   ·intro hb
    obtain⟨r,a1,a2⟩:=hN hb
    rw[jv,a1,bY,a2]
 have second:∀(H':Hp) (rvs:List V) (rs:List bP),MJ rl H R n H' rvs rs->Ju n rs->uN K {nx:=λ_ H'=>Q .non H',rt:=Q} [some (.ref rl),some (.ref nm),some (.bl bare),some (.int ((n-1:Nat):Nat)),none,none,none] H':=λH' rvs rs M hE=>by
  refine⟨_,rfl,bare,rfl,v5 (λhb=>?_) (λhb=>?_)⟩
  ·have n2:2<=n:=by rw[hn];exact hbare hb
   obtain⟨p,xs,r,e1,e2,hp,hra,hro⟩:=M.get (j:=0) (by lia)
   refine⟨_,rfl,mf (bZ.of M.at_) (by decide) e1 (cH hp (by decide) rfl (.inl ⟨rfl,_,rfl,Bw (λhw=>?_) (λhw=>?_)⟩))⟩
   ·refine⟨_,rfl,_,_,rfl,rfl,_,rfl,cT (λ_=>?_) (λhz=>absurd (show(0:Int)<((n-1:Nat):Nat) by lia) hz)⟩
    have hnm':=M.but nm _ nnr hnm
    obtain⟨y,yr,rfl⟩:∃y yr,ys=y::yr:=List.exists_cons_of_ne_nil ysne
    refine⟨_,rfl,mf (bZ.of hnm') (by decide) rfl ⟨(by show 3<=sizeLine;decide),λp2 hp2=>?_⟩⟩
    have M2:=M.grown ((aS.refl H').new (o:=.tup [V.str "num",V.str y,V.int 3]) hp2)
    refine⟨_,rfl,Ad M2.at_ (by decide) (by rw[M2.vlen];exact n1) (loop _ ⟨_,rs.set 0 (.num y 3),_,_,_,rfl,M2.set 0 ⟨p2,rfl,ae⟩ (rNum y ay hb),?_,λ_=>⟨.num y 3,bx (by rw[M.len];exact n1),rfl⟩,λ_ z=>absurd z (gF _)⟩)⟩
    obtain⟨r1,a1,a2⟩:=hE
    exact⟨r1,by rw[bT (by lia)];exact a1,a2⟩
   ·exact jX (loop _ ⟨rvs,rs,_,_,_,rfl,M,hE,λ_=>⟨r,e2,J2 (qL hw)⟩,λ_ z=>absurd z (gF _)⟩)
  ·exact jX (loop _ ⟨rvs,rs,_,_,_,rfl,M,hE,λhb'=>(by rw[hb] at hb';cases hb'),λ_ z=>absurd z (gF _)⟩)
 obtain⟨p,xs,r,e1,e2,hp,hra,hro⟩:=M0.get (j:=n-1) (by lia)
 have e1':rvs[((n-1:Nat):Int).toNat]?=some (.ref p):=by simpa using e1
 refine⟨_,rfl,_,rfl,mf (bZ.of hrl) (by lia) e1' (cH hp (by decide) rfl ⟨(by show 2<=sizeLine;decide),λt ht=>⟨t,_,rfl,.inr (eU.of ae),rfl,rfl,_,rfl,?_⟩⟩)⟩
 have M1:=M0.grown ((aS.refl H).new (o:=.tup [V.str "jump",V.str "give"]) ht)
 refine v5 (λhb=>?_) (λhb=>?_)
 ·refine⟨(by show 2<=sizeLine;decide),λp2 hp2=>?_⟩
  have M2:=M1.grown ((aS.refl _).new (o:=.tup [V.str "give",V.str ""]) hp2)
  refine⟨_,rfl,_,rfl,Ad M2.at_ (by lia) (by rw[M2.vlen];lia) ?_⟩
  have ei:((n-1:Nat):Int).toNat=n-1:=by simp
  rw[ei]
  exact second _ _ _ (M2.set (n-1) (r:=.give "") ⟨p2,rfl,ae⟩ rGive) ⟨.give "",bx (by rw[M0.len];lia),rfl⟩
 ·refine second _ _ _ M1 ⟨r,e2,J0 ?_⟩
  have hb':(!v7 (.str (qX r)) [V.str "jump",V.str "give"])=false:=hb
  simpa using hb'
def Jx(kl:Addr)(H:Hp)(v:V)(ks:List Str):Prop:=∃a,v=.ref a/\a≠kl/\H a=some (.lst (ks.map V.str))
theorem Jx.same{kl:Addr}{H H':Hp}{v:V}{ks:List Str}(h:Jx kl H v ks)(s:aS H H'):Jx kl H' v ks:=by
 obtain⟨a,e,n,h⟩:=h;exact⟨a,e,n,s _ _ h⟩
theorem Jx.upd{kl:Addr}{H:Hp}{v:V}{ks:List Str}{o:HO}(h:Jx kl H v ks):Jx kl (upd H kl o) v ks:=by
 obtain⟨a,e,n,h⟩:=h;exact⟨a,e,n,by rw[aw n];exact h⟩
def rE(kss:List (List Str)):Nat:=(kss.map nJ).sum
theorem Ah:∀{kss:List (List Str)} {m:Nat} {ks kp:List Str},kss[m]?=some ks->rE (kss.set m kp)+ks.length=rE kss+kp.length
 |[],m,ks,kp,h=>by simp at h
 |a::r,0,ks,kp,h=>by
  simp at h;subst h
  show kp.length+rE r+a.length=a.length+rE r+kp.length
  lia
 |a::r,m+1,ks,kp,h=>by
  have ih:=Ah (kss:=r) (m:=m) (ks:=ks) (kp:=kp) (by simpa using h)
  show a.length+rE (r.set m kp)+ks.length=a.length+rE r+kp.length
  lia
structure KJ(kl:Addr)(H:Hp)(ys ps:List Str)(w:Str)(n:Nat)(H':Hp)(refs:List V)(kss:List (List Str)):Prop where
 at_:H' kl=some (.lst refs)
 all:bR (Jx kl H') refs kss
 len:kss.length=n
 wit:∀(i:Nat) ks,kss[i]?=some ks->ks.length<=100/\(∀y∈ks,y∈ys)/\(w∈ks\/(i=0/\ps=[]))
 same:aS H H'
theorem KJ.grown{kl:Addr}{H H' H2:Hp}{ys ps:List Str}{w:Str}{n:Nat}{refs:List V}{kss:List (List Str)}(k:KJ kl H ys ps w n H' refs kss)(s:aS H' H2):KJ kl H ys ps w n H2 refs kss:=
 ⟨s _ _ k.at_,k.all.imp λ_ _ z=>z.same s,k.len,k.wit,k.same.trans s⟩
theorem KJ.vlen{kl:Addr}{H H':Hp}{ys ps:List Str}{w:Str}{n:Nat}{refs:List V}{kss:List (List Str)}(k:KJ kl H ys ps w n H' refs kss):refs.length=n:=k.all.len.trans k.len
theorem KJ.get{kl:Addr}{H H':Hp}{ys ps:List Str}{w:Str}{n:Nat}{refs:List V}{kss:List (List Str)}(k:KJ kl H ys ps w n H' refs kss){j:Nat}(hj:j<n):∃a ks,refs[j]?=some (.ref a)/\kss[j]?=some ks/\a≠kl/\H' a=some (.lst (ks.map V.str)):=by
 obtain⟨v,ks,e1,e2,a,rfl,n1,h1⟩:=k.all.get (i:=j) (by rw[k.len];exact hj)
 exact⟨a,ks,e1,e2,n1,h1⟩
theorem KJ.set{kl a:Addr}{H H':Hp}{ys ps:List Str}{w:Str}{n m:Nat}{refs:List V}{kss:List (List Str)}{kp:List Str}(k:KJ kl H ys ps w n H' refs kss)(hkl:H kl=none)(na:a≠kl)(ha:H' a=some (.lst (kp.map V.str)))
  (hw:kp.length<=100/\(∀y∈kp,y∈ys)/\(w∈kp\/(m=0/\ps=[]))):KJ kl H ys ps w n (upd H' kl (.lst (refs.set m (.ref a)))) (refs.set m (.ref a)) (kss.set m kp):=by
 refine⟨ae,bR.set (k.all.imp λ_ _ z=>z.upd) ⟨a,rfl,na,by rw[aw na];exact ha⟩,by rw[eX];exact k.len,λi ks e=>?_,λb o h=>?_⟩
 ·by_cases c:m=i
  ·subst c
   have hi:m<kss.length:=by have:=(aj.mp e).1;rw[eX] at this;exact this
   rw[bx hi] at e;cases e;exact hw
  ·rw[bT c] at e;exact k.wit i ks e
 ·rw[aw (ar h hkl)];exact k.same _ _ h
theorem y0{α:Type}(p:α->Bool)(l:List α)(i:Nat)(v:α)(h:l[i]?=some v):(l.take (i+1)).filter p=(l.take i).filter p++(if p v=true then[v] else[]):=by
 rw[jw,h,List.filter_append]
 cases hp:p v<;>simp[hp]
theorem Hy{r:bP}(h:v7 (.str (qX r)) [V.str "num",V.str "op",V.str "call"]=true):∃x,kD r=.str x:=by
 cases r with
 |num x z=>exact⟨x,rfl⟩
 |op x s a b=>exact⟨x,rfl⟩
 |call x k as=>exact⟨x,rfl⟩
 |jump to=>exact absurd h (by show ¬v7 (.str "jump") [V.str "num",V.str "op",V.str "call"]=true;decide +kernel)
 |say a=>exact absurd h (by show ¬v7 (.str "say") [V.str "num",V.str "op",V.str "call"]=true;decide +kernel)
 |test a to=>exact absurd h (by show ¬v7 (.str "test") [V.str "num",V.str "op",V.str "call"]=true;decide +kernel)
 |give a=>exact absurd h (by show ¬v7 (.str "give") [V.str "num",V.str "op",V.str "call"]=true;decide +kernel)
theorem Jj{H:Hp}{p:Addr}{r:bP}{x:Str}(h:eD H (.ref p) r)(e:kD r=.str x):∃xs,H p=some (.tup (.str (qX r)::.str x::xs)):=by
 cases r with
 |num y z=>cases e;obtain⟨p',e',h⟩:=h;cases e';exact⟨_,h⟩
 |op y s a b=>cases e;obtain⟨p',e',h⟩:=h;cases e';exact⟨_,h⟩
 |call y k as=>cases e;obtain⟨p',q,e',h,_⟩:=h;cases e';exact⟨_,h⟩
 |jump to=>cases e
 |say a=>cases e
 |test a to=>cases e
 |give a=>cases e
theorem Fw{ys:List Str}{cs:List Nat}{rs:List bP}{i m j:Nat}{r:bP}(hr:rs[i]?=some r)(ro:tw ys cs rs.length r)(hE:rs.getLast?.map lO=some true)(hm:(cy i r)[j]?=some m):m<rs.length:=by
 have hi:i<rs.length:=(aj.mp hr).1
 have nx:lO r=false->i+1<rs.length:=λhe=>by
  by_cases c:i+1<rs.length
  ·exact c
  ·have ei:i=rs.length-1:=by lia
   rw[cB,<-ei,hr,bY,he] at hE
   cases hE
 have mem:=az hm
 cases r with
 |jump to=>rw[au.mp mem];exact ro
 |test a to=>
  rcases bp.mp mem with e|e
  ·rw[e];exact nx rfl
  ·rw[au.mp e];exact ro.2
 |give a=>cases mem
 |num x z=>rw[au.mp mem];exact nx rfl
 |op x s a b=>rw[au.mp mem];exact nx rfl
 |call x k as=>rw[au.mp mem];exact nx rfl
 |say a=>rw[au.mp mem];exact nx rfl
def tu(rs:List bP)(i:Nat)(kss:List (List Str)):Prop:=∀(n m:Nat) r ks km,n<i->rs[n]?=some r->m∈cy n r->kss[n]?=some ks->kss[m]?=some km->∀y∈km,y∈ks\/kD r=.str y
def xw(ps:List Str)(kss:List (List Str)):Prop:=∀ks,kss[0]?=some ks->∀y∈ks,y∈ps
theorem xw.set{ps:List Str}{kss:List (List Str)}{m:Nat}{km kp:List Str}(h:xw ps kss)(e:kss[m]?=some km)(s:∀y∈kp,y∈km):xw ps (kss.set m kp):=by
 intro ks e0 y hy
 by_cases c:m=0
 ·subst c
  have hl:0<kss.length:=(aj.mp e).1
  rw[bx hl] at e0;cases e0
  exact h km e y (s y hy)
 ·rw[bT c] at e0;exact h ks e0 y hy
def Lr(rl nm pr kl:Addr)(H:Hp)(ys ps:List Str)(w:Str)(rs:List bP)(B i:Nat):St->Hp->Prop:=λσ' H'=>∃(refs:List V) (kss:List (List Str)) (more:Bool) (o5 o6 o7 o8:Option V),σ'=[some (.ref rl),some (.ref nm),some (.ref pr),some (.ref kl),some (.bl more),o5,o6,o7,o8]/\KJ kl H ys ps w rs.length H' refs kss/\2*rE kss+more.toNat<=B/\xw ps kss/\(more=false->tu rs i kss)
def MK(rl nm pr kl:Addr)(H:Hp)(ys ps:List Str)(w:Str)(rs:List bP)(B i:Nat)(la l:Addr)(ls:List Str)(ms:List Nat)(kss0:List (List Str))(j:Nat):St->Hp->Prop:=λσ' H'=>∃(refs:List V) (kss:List (List Str)) (more:Bool) (o7 o8:Option V),σ'=[some (.ref rl),some (.ref nm),some (.ref pr),some (.ref kl),some (.bl more),some (.int (i:Nat)),some (.ref la),o7,o8]/\KJ kl H ys ps w rs.length H' refs kss/\2*rE kss+more.toNat<=B/\H' la=some (.lst (ls.map V.str))/\H' l=some (.lst (hV ms))/\xw ps kss/\
 (more=false->kss=kss0/\tu rs i kss0/\∀j',j'<j->∀m km,ms[j']?=some m->kss0[m]?=some km->∀y∈km,y∈ls)
def uZ(a b:Addr)(H H':Hp):Prop:=∀c o,c≠a->c≠b->H c=some o->H' c=some o
theorem uZ.refl(a b:Addr)(H:Hp):uZ a b H H:=λ_ _ _ _ h=>h
theorem uZ.trans{a b:Addr}{H H1 H2:Hp}(x:uZ a b H H1)(y:uZ a b H1 H2):uZ a b H H2:=λc o n m h=>y c o n m (x c o n m h)
theorem uZ.of_l{a b:Addr}{H H':Hp}(x:fX a H H'):uZ a b H H':=λc o n _ h=>x c o n h
theorem uZ.of_r{a b:Addr}{H H':Hp}(x:fX b H H'):uZ a b H H':=λc o _ m h=>x c o m h
theorem uZ.upd_r{a b:Addr}{H:Hp}{o:HO}:uZ a b H (upd H b o):=.of_r .upd_at
theorem uZ.tp{a b:Addr}{H H':Hp}{xs ys:List V}(x:uZ a b H H')(ha:H a=some (.lst xs))(hb:H b=some (.lst ys)):Tp H H':=λp zs h=>
 x p _ (by rintro rfl;rw[h] at ha;cases ha) (by rintro rfl;rw[h] at hb;cases hb) h
theorem uZ.but{a b:Addr}{H H1 H2:Hp}(x:fX a H H1)(hb:H b=none)(y:uZ a b H1 H2):fX a H H2:=λc o n h=>y c o n (ar h hb) (x c o n h)
def xE:V->Nat
 |.str s=>if s="" then 1 else 0
 |.ref _=>4
 |_=>0
def Dl(ks:List Str)(H:Hp):V->Prop
 |.str s=>s=""->ks≠[]
 |.int _=>True
 |.ref q=>∃as:List Str,H q=some (.tup (as.map V.str))/\as.length<=4/\ks≠[]
 |_=>False
theorem Dl.mono{ks:List Str}{H H':Hp}{x:V}(h:Dl ks H x)(t:Tp H H'):Dl ks H' x:=by
 cases x with
 |str s=>exact h
 |int i=>exact h
 |ref q=>obtain⟨as,h1,h2⟩:=h;exact⟨as,t _ _ h1,h2⟩
 |_=>exact h.elim
def EB(ks:List Str)(H:Hp)(y x:V):Prop:=match x with
 |.str s=>(s=""->∃z∈ks,y=.str z)/\(s≠""->y=.str s)
 |.int i=>y=.int i
 |.ref q=>∃(as bs:List Str) (q':Addr),H q=some (.tup (as.map V.str))/\y=.ref q'/\H q'=some (.tup (bs.map V.str))/\bs.length=as.length/\∀b∈bs,b∈ks
 |_=>False
theorem EB.mono{ks:List Str}{H H':Hp}{x y:V}(h:EB ks H y x)(t:Tp H H'):EB ks H' y x:=by
 cases x with
 |str s=>exact h
 |int i=>exact h
 |ref q=>obtain⟨as,bs,q',h1,h2,h3,h4⟩:=h;exact⟨as,bs,q',t _ _ h1,h2,t _ _ h3,h4⟩
 |_=>exact h.elim
theorem CJ{K:Fg}{σ:St}{st kl a:Addr}{i k:Nat}{refs:List V}{ks:List Str}{H:Hp}{Q:VK}(h0:σ[0]?=some (some (.ref st)))(h2:σ[2]?=some (some (.ref kl)))(h4:σ[4]?=some (some (.int (i:Nat))))
  (hkl:H kl=some (.lst refs)) (hr:refs[i]?=some (.ref a)) (ha:H a=some (.lst (ks.map V.str))) (ne:ks≠[]) (len:ks.length<=100) (S:kO K H st k) (hk:k<=900000) (na:a≠st)
  (q:∀(y:Str) (H':Hp),y∈ks->kO K H' st (k+1)->fX st H H'->Q (.str y) H') :
  bq (cQ K) (bq (cQ K) (ah 2) (ah 4)) (bL (bK K) [] E0 (af (ah 0) (af (iV (ly K) (af (bq (cQ K) (ah 2) (ah 4)) aK)) aK))) σ H Q:=by
 have hl:0<ks.length:=dR.mpr ne
 have hr':refs[((i:Nat):Int).toNat]?=some (.ref a):=by simpa using hr
 refine⟨_,h2,_,h4,mf (bZ.of hkl) (by lia) hr' ⟨_,h0,_,h2,_,h4,mf (bZ.of hkl) (by lia) hr' ⟨_,_,rfl,.inl ⟨_,bZ.of ha,rfl⟩,st,_,k,rfl,S,by lia,by rw[ai];lia,by rw[ai];lia,λd H1 d0 d1 S1 B1=>?_⟩⟩⟩
 rw[ai] at d1
 have dl:d.toNat<ks.length:=by lia
 exact mf (bZ.of (B1 a _ na ha)) d0 (Ag (ab dl)) (q _ H1 (dv dl) S1 B1)
theorem EZ{K:Fg}{st rl kl fd p sm a:Addr}{i k:Nat}{refs vs:List V}{ks:List Str}{x:V}{H:Hp}{D:nN}(hkl:H kl=some (.lst refs))(hr:refs[i]?=some (.ref a))(ha:H a=some (.lst (ks.map V.str)))(len:ks.length<=100)(S:kO K H st k)(hk:k<=800000)(na:a≠st)(nk:kl≠st)
  (hsm:H sm=some (.lst vs)) (vl:vs.length<=100) (ns:sm≠st) (ok:Dl ks H x)
  (q:∀(y:V) (k':Nat) (H':Hp),EB ks H' y x->H' sm=some (.lst (vs++[y]))->kO K H' st k'->k'<=k+xE x->uZ st sm H H'->D.nx [some (.ref st),some (.ref rl),some (.ref kl),some (.ref fd),some (.int (i:Nat)),some (.ref p),some (.ref sm),some y] H') :
  uG K D [some (.ref st),some (.ref rl),some (.ref kl),some (.ref fd),some (.int (i:Nat)),some (.ref p),some (.ref sm),some x] H:=by
 have app:∀(y:V) (k':Nat) (H1:Hp),EB ks H1 y x->kO K H1 st k'->k'<=k+xE x->fX st H H1->uF K D [some (.ref st),some (.ref rl),some (.ref kl),some (.ref fd),some (.int (i:Nat)),some (.ref p),some (.ref sm),some y] H1:=λy k' H1 f S1 l1 B1=>by
  have h1:=B1 sm _ ns hsm
  refine⟨_,rfl,.inl ⟨rfl,_,bZ.of h1⟩,_,rfl,sm,_,_,rfl,rfl,h1,cR (by lia),?_⟩
  exact q y k' _ (f.mono ((Tp.refl H1).lst h1)) ae (S1.mono .upd_at h1 (Ne.symm ns)) l1 ((uZ.of_l B1).trans .upd_r)
 cases x with
 |str s=>
  refine⟨_,rfl,.inl ⟨rfl,_,rfl,cT (λe=>?_) (λe=>?_)⟩⟩
  ·have e':s="":=by cases e;rfl
   refine CJ rfl rfl rfl hkl hr ha (ok e') len S (by lia) na λy H' hy S' B'=>?_
   refine app (.str y) _ H' ⟨λ_=>⟨y,hy,rfl⟩,λz=>absurd e' z⟩ S' ?_ B'
   show k+1<=k+(if s="" then 1 else 0)
   rw[if_pos e'];exact aC _
  ·refine⟨_,rfl,_,_,_,rfl,.str_tuple _,_,rfl,jX ?_⟩
   exact app (.str s) k H ⟨λz=>absurd (by rw[z]) e,λ_=>rfl⟩ S (by lia) (.refl _ _)
 |int j=>
  refine⟨_,rfl,.inl ⟨rfl,_,rfl,no (λz=>by cases z) ?_⟩⟩
  refine⟨_,rfl,_,_,_,rfl,.int_tuple _,_,rfl,jX ?_⟩
  exact app (.int j) k H rfl S (by lia) (.refl _ _)
 |ref t=>
  obtain⟨as,ht,l4,ne⟩:=ok
  obtain⟨ys0,hst⟩:=S.lst
  have nt:t≠st:=Ne.symm (m5 hst ht)
  refine⟨_,rfl,.inr (.inr (.inl ⟨t,_,_,rfl,rfl,eU.of ht,_,rfl,jX ?_⟩))⟩
  refine⟨_,rfl,_,_,_,rfl,.tup_tuple (eU.of ht),_,rfl,za ?_⟩
  refine .inr ⟨_,rfl,t,rfl,⟨_,eU.of ht⟩,λL hL=>?_⟩
  have nL:L≠st:=λz=>by rw[z,hst] at hL;cases hL
  refine nZ (xs:=as.map V.str) (λj σ' H'=>∃(bs:List Str) (k':Nat) (o:Option V),σ'=[some (.ref st),some (.ref rl),some (.ref kl),some (.ref fd),some (.int (i:Nat)),some (.ref p),some (.ref sm),some (.ref t),o]/\H' L=some (.lst (bs.map V.str))/\bs.length=j/\(∀b∈bs,b∈ks)/\kO K H' st k'/\k'<=k+j/\fX st H H') ?_ ?_ ?_ ?_
  ·exact⟨[],k,none,rfl,ae,rfl,by simp,S.new hL,by lia,(fX.refl st H).new hL⟩
  ·rintro j σ' H' _ ⟨_,_,_,_,_,_,_,_,_,B⟩
   exact eU.of (B t _ nt ht)
  ·rintro j x σ' H' hx ⟨bs,k',o,rfl,hb,bl,bm,S',hk',B'⟩
   have jl:j<as.length:=by have:=(aj.mp hx).1;rw[ai] at this;exact this
   refine kc (CJ rfl rfl rfl (B' kl _ nk hkl) hr (B' a _ na ha) ne len S' (by lia) na λy H2 hy S2 B2=>?_)
   have h2:=B2 L _ nL hb
   refine⟨_,h2,cR (by rw[ai];lia),bs++[y],k'+1,_,rfl,by rw[ae,bw];rfl,by simp[bl],λb hb'=>?_,S2.mono .upd_at h2 (Ne.symm nL),by lia,?_⟩
   ·rcases aP.mp hb' with z|z
    ·exact bm b z
    ·rw[au.mp z];exact hy
   ·exact λc u n h=>by rw[aw (ar h hL)];exact(B'.trans B2) c u n h
  ·rintro σ' H2 ⟨bs,k',o,_,hb,bl,bm,S',hk',B'⟩
   rw[ai] at bl hk'
   refine⟨L,_,rfl,.inl ⟨bZ.of hb,λl hl=>?_⟩⟩
   have nl:L≠l:=ar hb hl
   have h2:=B' t _ nt ht
   refine app (.ref l) k' _ ⟨as,bs,l,by rw[aw (ar h2 hl)];exact h2,rfl,ae,bl,bm⟩ (S'.new hl) ?_ (B'.new hl)
   show k'<=k+4
   lia
 |_=>exact ok.elim
theorem EK(w:V)(rest:List V):mV (w::rest) (some 1) none=rest:=by
 unfold mV
 have e1:HT.sIx (w::rest).length 0 (some 1)=1:=by
  rw[show(1:Int)=((1:Nat):Int) from rfl,HT.sIx_nat,cf];lia
 rw[e1,HT.sIx_none,List.drop_succ_cons,nI,cf]
 exact fZ (by lia)
theorem EJ(w:V){rest:List V}(h:rest≠[]):¬(HT.sIx (w::rest).length 0 (some 1)=0/\HT.sIx (w::rest).length (w::rest).length none=(w::rest).length):=by
 rintro⟨h1,_⟩
 rw[show(1:Int)=((1:Nat):Int) from rfl,HT.sIx_nat,cf] at h1
 lia
theorem JX{K:Fg}{st rl kl fd p a:Addr}{i k:Nat}{refs fs rest:List V}{w:Str}{ks:List Str}{H:Hp}{D:nN}{o6 o7:Option V}(hkl:H kl=some (.lst refs))(hr:refs[i]?=some (.ref a))(ha:H a=some (.lst (ks.map V.str)))(len:ks.length<=100)(S:kO K H st k)(hk:k<=750000)(na:a≠st)(nk:kl≠st)
  (hp:H p=some (.tup (.str w::rest))) (rne:rest≠[]) (rl4:rest.length<=4) (ok:∀x∈rest,Dl ks H x) (cs5:(rest.map xE).sum<=5) (hfd:H fd=some (.lst fs)) (fl:fs.length<=100) (nf:fd≠st)
  (q:∀(o6 o7:Option V) (p':Addr) (vs:List V) (k':Nat) (H':Hp),H' fd=some (.lst (fs++[.ref p']))->H' p'=some (.tup (.str w::vs))->bR (EB ks H') vs rest->kO K H' st k'->k'<=k+5->uZ st fd H H'->D.nx [some (.ref st),some (.ref rl),some (.ref kl),some (.ref fd),some (.int (i:Nat)),some (.ref p),o6,o7] H') :
  qa K D [some (.ref st),some (.ref rl),some (.ref kl),some (.ref fd),some (.int (i:Nat)),some (.ref p),o6,o7] H:=by
 obtain⟨ys0,hst⟩:=S.lst
 refine⟨(by show 0<=sizeLine;decide),λsm hsm=>?_⟩
 have nsm:sm≠st:=λz=>by rw[z,hst] at hsm;cases hsm
 have s1:aS H (upd H sm (.lst [])):=(aS.refl H).new hsm
 have g1:(upd H sm (.lst [])) sm=some (.lst []):=ae
 show uH K D [some (.ref st),some (.ref rl),some (.ref kl),some (.ref fd),some (.int (i:Nat)),some (.ref p),some (.ref sm),o7] (upd H sm (.lst []))
 generalize upd H sm (.lst [])=H1 at s1 g1 ⊢
 refine .inr ⟨_,rfl,_,rfl,.inr ⟨p,_,rfl,eU.of (s1 _ _ hp),EJ _ rne,λtp htp=>?_⟩⟩
 rw[EK]
 have s2:aS H (upd H1 tp (.tup rest)):=s1.new htp
 have g2:(upd H1 tp (.tup rest)) sm=some (.lst []):=by rw[aw (ar g1 htp)];exact g1
 have t2:(upd H1 tp (.tup rest)) tp=some (.tup rest):=ae
 generalize upd H1 tp (.tup rest)=H2 at s2 g2 t2 ⊢
 have nts:tp≠st:=Ne.symm (m5 (s2 _ _ hst) t2)
 have ntm:tp≠sm:=Ne.symm (m5 g2 t2)
 have nfm:fd≠sm:=ar hfd hsm
 have nkm:kl≠sm:=ar hkl hsm
 have nam:a≠sm:=ar ha hsm
 have nps:p≠st:=Ne.symm (m5 hst hp)
 have npm:p≠sm:=ar hp hsm
 refine⟨tp,rfl,⟨_,eU.of t2⟩,xK (xs:=rest) (λj σ' H'=>∃(vs:List V) (k':Nat) (o:Option V),σ'=[some (.ref st),some (.ref rl),some (.ref kl),some (.ref fd),some (.int (i:Nat)),some (.ref p),some (.ref sm),o]/\H' sm=some (.lst vs)/\bR (EB ks H') vs (rest.take j)/\kO K H' st k'/\k'<=k+((rest.take j).map xE).sum/\uZ st sm H2 H') ?_ ?_ ?_ ?_⟩
 ·exact⟨[],k,o7,rfl,g2,.nil,S.same s2,by simp,.refl _ _ _⟩
 ·rintro j σ' H' _ ⟨_,_,_,_,_,_,_,_,B⟩
  exact eU.of (B tp _ nts ntm t2)
 ·rintro j x σ' H' hx ⟨vs,k',o,rfl,hvs,hA,S',hk',B'⟩
  have jl:j<rest.length:=(aj.mp hx).1
  have et:rest.take (j+1)=rest.take j++[x]:=by rw[jw,hx];rfl
  have c5:((rest.take j).map xE).sum<=5:=by
   have e:=congrArg (λl=>(l.map xE).sum) (List.take_append_drop j rest)
   simp only[bw,List.sum_append] at e
   lia
  have vl:vs.length<=4:=by rw[hA.len,bG];lia
  refine EZ (B' kl _ nk nkm (s2 _ _ hkl)) hr (B' a _ na nam (s2 _ _ ha)) len S' (by lia) na nk hvs (by lia) nsm (((ok x (az hx)).mono (.of_same s2)).mono (B'.tp (s2 _ _ hst) g2)) λy k2 H3 f h3 S3 l3 B3=>?_
  obtain⟨ys1,hst'⟩:=S'.lst
  refine⟨vs++[y],k2,_,rfl,h3,?_,S3,?_,B'.trans B3⟩
  ·rw[et];exact(hA.imp λ_ _ z=>z.mono (B3.tp hst' hvs)).snoc f
  ·rw[et,bw,List.sum_append]
   show k2<=k+(((rest.take j).map xE).sum+(xE x+0))
   lia
 ·rintro σ' H3 ⟨vs,k',o,rfl,hvs,hA,S',hk',B'⟩
  rw[ip] at hA hk'
  have h3p:=B' p _ nps npm (s2 _ _ hp)
  have h3f:=B' fd _ nf nfm (s2 _ _ hfd)
  obtain⟨ys1,hst'⟩:=S'.lst
  have vl:vs.length=rest.length:=hA.len
  have vne:vs≠[]:=λz=>rne (cO.mp (by rw[<-vl,z];rfl))
  have BH:fX st H H3:=(uZ.but (s2.but) hsm B')
  refine⟨_,rfl,.inl ⟨rfl,_,bZ.of h3f⟩,_,rfl,cH h3p (by decide) rfl ⟨(by show 1<=sizeLine;decide),λt1 ht1=>⟨_,rfl,sm,_,rfl,.inl ⟨bZ.of (by rw[aw (ar hvs ht1)];exact hvs),λt4 ht4=>?_⟩⟩⟩⟩
  have n14:t1≠t4:=ar ae ht4
  refine .inr (.inr (.inr ⟨t1,t4,[.str w],vs,rfl,rfl,eU.of (by rw[aw n14];exact ae),eU.of ae,by simp,?_,λz=>absurd z vne,λ_ t5 ht5=>?_⟩))
  ·have:=cR (n:=100) (by decide)
   show 1+vs.length<=sizeLine
   lia
  have s5:aS H3 (upd (upd (upd H3 t1 (.tup [.str w])) t4 (.tup vs)) t5 (.tup (.str w::vs))):=(((aS.refl H3).new ht1).new ht4).new ht5
  have g5:(upd (upd (upd H3 t1 (.tup [.str w])) t4 (.tup vs)) t5 (.tup (.str w::vs))) t5=some (.tup (.str w::vs)):=ae
  show iA (.ref fd) [.ref t5] (upd (upd (upd H3 t1 (.tup [.str w])) t4 (.tup vs)) t5 (.tup (.str w::vs))) λx H1=>D.nx [some (.ref st),some (.ref rl),some (.ref kl),some (.ref fd),some (.int (i:Nat)),some (.ref p),some (.ref sm),o] H1
  generalize upd (upd (upd H3 t1 (.tup [.str w])) t4 (.tup vs)) t5 (.tup (.str w::vs))=H5 at s5 g5 ⊢
  have h5f:=s5 _ _ h3f
  refine⟨fd,_,_,rfl,rfl,h5f,cR (by lia),?_⟩
  have tp6:Tp H5 (upd H5 fd (.lst (fs++[.ref t5]))):=(Tp.refl H5).lst h5f
  refine q _ _ t5 vs k' _ ae (tp6 _ _ g5) ((hA.imp λ_ _ z=>z.mono (.of_same s5)).imp λ_ _ z=>z.mono tp6) ((S'.same s5).mono .upd_at h5f (Ne.symm nf)) (by lia) ?_
  exact λc u n m h=>by rw[aw m];exact s5 _ _ (BH c u n h)
theorem Gr{s:Str}(h:s∈wB):s≠"":=by
 intro e
 subst e
 exact absurd h (by decide +kernel)
theorem zq{as bs:List Str}(h:as.map V.str=bs.map V.str):as.length=bs.length:=by
 have:=congrArg nJ h
 simpa using this
theorem sO{ks:List Str}{H:Hp}{y:V}{s:Str}(h:EB ks H y (.str s))(n:s≠""):y=.str s:=h.2 n
theorem qo{ks:List Str}{H:Hp}{y:V}(h:EB ks H y (.str "")):∃z∈ks,y=.str z:=h.1 rfl
theorem sM{s:Str}(n:s≠""):xE (.str s)=0:=by
 show(if s="" then 1 else 0)=0
 rw[if_neg n]
theorem MA{vs:List V}(h:vs.length=2):∃a b,vs=[a,b]:=by
 match vs,h with
 |[a,b],_=>exact⟨a,b,rfl⟩
theorem MU{vs:List V}(h:vs.length=1):∃a,vs=[a]:=by
 match vs,h with
 |[a],_=>exact⟨a,rfl⟩
theorem Ni{vs:List V}(h:vs.length=3):∃a b c,vs=[a,b,c]:=by
 match vs,h with
 |[a,b,c],_=>exact⟨a,b,c,rfl⟩
theorem Nj{vs:List V}(h:vs.length=4):∃a b c d,vs=[a,b,c,d]:=by
 match vs,h with
 |[a,b,c,d],_=>exact⟨a,b,c,d,rfl⟩
theorem Hr{H:Hp}{p:Addr}{r:bP}{ys ks:List Str}{cs:List Nat}{n:Nat}(hra:eD H (.ref p) r)(ro:tw ys cs n r)(yne:∀y∈ys,y≠"")(cs4:∀c∈cs,c<=4)(hks:ks≠[]\/tT r=true) :
  ∃rest,H p=some (.tup (.str (qX r)::rest))/\rest≠[]/\rest.length<=4/\(∀x∈rest,Dl ks H x)/\(rest.map xE).sum<=5/\∀(H':Hp) (p':Addr) (vs:List V),bR (EB ks H') vs rest->H' p'=some (.tup (.str (qX r)::vs))->Tp H H'->∃r',eD H' (.ref p') r'/\kB ks r r':=by
 cases r with
 |num x z=>
  obtain⟨p',e,h⟩:=hra
  cases e
  have xn:=yne x ro.1
  refine⟨_,h,by simp,by simp,λv hv=>?_,?_,λH' p' vs hA hp' t=>?_⟩
  ·rcases bp.mp hv with rfl|hv
   ·exact λz=>absurd z xn
   ·rw[au.mp hv];exact trivial
  ·show xE (.str x)+(0+0)<=5
   rw[sM xn];decide
  ·obtain⟨a,b,rfl⟩:=MA hA.len
   have e1:=sO (hA.at_ 0 _ _ rfl rfl) xn
   have e2:b=.int z:=hA.at_ 1 _ _ rfl rfl
   subst e1 e2
   exact⟨.num x z,⟨p',rfl,hp'⟩,rfl⟩
 |op x s a b=>
  obtain⟨p',e,h⟩:=hra
  cases e
  obtain⟨xy,ss,rfl,rfl⟩:=ro
  have xn:=yne x xy
  have sn:=Gr ss
  have kn:ks≠[]:=hks.resolve_right (by intro z;cases z)
  refine⟨_,h,by simp,by simp,λv hv=>?_,?_,λH' p' vs hA hp' t=>?_⟩
  ·rcases bp.mp hv with rfl|hv
   ·exact λz=>absurd z xn
   ·rcases bp.mp hv with rfl|hv
    ·exact λz=>absurd z sn
    ·rcases bp.mp hv with rfl|hv
     ·exact λ_=>kn
     ·rw[au.mp hv];exact λ_=>kn
  ·show xE (.str x)+(xE (.str s)+(xE (.str "")+(xE (.str "")+0)))<=5
   rw[sM xn,sM sn];decide +kernel
  ·obtain⟨v1,v2,v3,v4,rfl⟩:=Nj hA.len
   have e1:=sO (hA.at_ 0 _ _ rfl rfl) xn
   have e2:=sO (hA.at_ 1 _ _ rfl rfl) sn
   obtain⟨z3,m3,e3⟩:=qo (hA.at_ 2 _ _ rfl rfl)
   obtain⟨z4,m4,e4⟩:=qo (hA.at_ 3 _ _ rfl rfl)
   subst e1 e2 e3 e4
   exact⟨.op x s z3 z4,⟨p',rfl,hp'⟩,z3,z4,rfl,m3,m4⟩
 |call x k as=>
  obtain⟨p',q,e,h,hq⟩:=hra
  cases e
  obtain⟨xy,c,hc,rfl⟩:=ro
  have xn:=yne x xy
  have kn:ks≠[]:=hks.resolve_right (by intro z;cases z)
  have c4:=cs4 c (az hc)
  refine⟨_,h,by simp,by simp,λv hv=>?_,?_,λH' p' vs hA hp' t=>?_⟩
  ·rcases bp.mp hv with rfl|hv
   ·exact λz=>absurd z xn
   ·rcases bp.mp hv with rfl|hv
    ·exact trivial
    ·rw[au.mp hv];exact⟨_,hq,by rw[cb];exact c4,kn⟩
  ·show xE (.str x)+(0+(4+0))<=5
   rw[sM xn];decide
  ·obtain⟨v1,v2,v3,rfl⟩:=Ni hA.len
   have e1:=sO (hA.at_ 0 _ _ rfl rfl) xn
   have e2:v2=.int (k:Nat):=hA.at_ 1 _ _ rfl rfl
   obtain⟨as',bs,q',hq',e3,h3,hl,hm⟩:=(show EB ks H' v3 (.ref q) from hA.at_ 2 _ _ rfl rfl)
   subst e1 e2 e3
   have:=t _ _ hq
   rw[hq'] at this
   have e:=zq (HO.tup.inj (Option.some.inj this))
   exact⟨.call x k bs,⟨p',q',rfl,hp',h3⟩,bs,rfl,hl.trans e,hm⟩
 |say a=>
  obtain⟨p',e,h⟩:=hra
  cases e
  have ro:a="":=ro
  subst ro
  have kn:ks≠[]:=hks.resolve_right (by intro z;cases z)
  refine⟨_,h,by simp,by simp,λv hv=>?_,?_,λH' p' vs hA hp' t=>?_⟩
  ·rw[au.mp hv];exact λ_=>kn
  ·show xE (.str "")+0<=5
   decide +kernel
  ·obtain⟨v1,rfl⟩:=MU hA.len
   obtain⟨z,m,e⟩:=qo (hA.at_ 0 _ _ rfl rfl)
   subst e
   exact⟨.say z,⟨p',rfl,hp'⟩,z,rfl,m⟩
 |jump to=>
  obtain⟨p',e,h⟩:=hra
  cases e
  refine⟨_,h,by simp,by simp,λv hv=>?_,?_,λH' p' vs hA hp' t=>?_⟩
  ·rw[au.mp hv];exact trivial
  ·show 0+0<=5
   decide
  ·obtain⟨v1,rfl⟩:=MU hA.len
   have e:v1=.int (to:Nat):=hA.at_ 0 _ _ rfl rfl
   subst e
   exact⟨.jump to,⟨p',rfl,hp'⟩,rfl⟩
 |test a to=>
  obtain⟨p',e,h⟩:=hra
  cases e
  obtain⟨ro,_⟩:a=""/\_:=ro
  subst ro
  have kn:ks≠[]:=hks.resolve_right (by intro z;cases z)
  refine⟨_,h,by simp,by simp,λv hv=>?_,?_,λH' p' vs hA hp' t=>?_⟩
  ·rcases bp.mp hv with rfl|hv
   ·exact λ_=>kn
   ·rw[au.mp hv];exact trivial
  ·show xE (.str "")+(0+0)<=5
   decide +kernel
  ·obtain⟨v1,v2,rfl⟩:=MA hA.len
   obtain⟨z,m,e⟩:=qo (hA.at_ 0 _ _ rfl rfl)
   have e2:v2=.int (to:Nat):=hA.at_ 1 _ _ rfl rfl
   subst e e2
   exact⟨.test z to,⟨p',rfl,hp'⟩,z,rfl,m⟩
 |give a=>
  obtain⟨p',e,h⟩:=hra
  cases e
  have ro:a="":=ro
  subst ro
  have kn:ks≠[]:=hks.resolve_right (by intro z;cases z)
  refine⟨_,h,by simp,by simp,λv hv=>?_,?_,λH' p' vs hA hp' t=>?_⟩
  ·rw[au.mp hv];exact λ_=>kn
  ·show xE (.str "")+0<=5
   decide +kernel
  ·obtain⟨v1,rfl⟩:=MU hA.len
   obtain⟨z,m,e⟩:=qo (hA.at_ 0 _ _ rfl rfl)
   subst e
   exact⟨.give z,⟨p',rfl,hp'⟩,z,rfl,m⟩
theorem Gb{K:Fg}{vs:List V}{H:Hp}{Q:VK}{E:XK}(h:jY K vs H Q E):An K {nx:=λ_ H'=>Q .non H',rt:=Q} (cN qj vs) H:=by
 obtain⟨st,rl,kl,k,rvs,refs,rs,kss,ys,cs,rfl,S,hk,hrl,hA,hOk,yne,cs4,hkl,hT,klen,k100,kne,rst,nrl,nkl,q⟩:=h
 obtain⟨ys0,hst⟩:=S.lst
 refine⟨(by show 0<=sizeLine;decide),λfd hfd=>?_⟩
 have nf:fd≠st:=λz=>by rw[z,hst] at hfd;cases hfd
 have s1:aS H (upd H fd (.lst [])):=(aS.refl H).new hfd
 have g1:(upd H fd (.lst [])) fd=some (.lst []):=ae
 show uI K _ [some (.ref st),some (.ref rl),some (.ref kl),some (.ref fd),none,none,none,none] (upd H fd (.lst []))
 generalize upd H fd (.lst [])=H1 at s1 g1 ⊢
 refine⟨_,rfl,rl,rfl,⟨_,bZ.of (s1 _ _ hrl)⟩,E2 (xs:=rvs) (λi σ' H'=>∃(fs:List V) (rs':List bP) (k':Nat) (o4 o5 o6 o7:Option V),σ'=[some (.ref st),some (.ref rl),some (.ref kl),some (.ref fd),o4,o5,o6,o7]/\H' fd=some (.lst fs)/\bR (eD H') fs rs'/\rs'.length=i/\
  (∀(j:Nat) ks r r',kss[j]?=some ks->rs[j]?=some r->rs'[j]?=some r'->kB ks r r')/\kO K H' st k'/\k'<=k+5*i/\fX st H H') ?_ ?_ ?_ ?_⟩
 ·exact⟨[],[],k,none,none,none,none,rfl,g1,.nil,rfl,λj ks r r' _ _ z=>by simp at z,S.same s1,by lia,s1.but⟩
 ·rintro i σ' H' _ ⟨_,_,_,_,_,_,_,_,_,_,_,_,_,_,B⟩
  exact bZ.of (B rl _ nrl hrl)
 ·rintro i x σ' H' tp hx htp ⟨fs,rs',k',o4,o5,o6,o7,rfl,hfs,hR,rlen,hF,S',hk',B'⟩
  obtain⟨r,hr,hra⟩:=hA.of_v hx
  obtain⟨p,xs,rfl,_⟩:=hra.ref
  have il:i<rs.length:=(aj.mp hr).1
  have few:=hOk.few
  obtain⟨v,ks,e1,e2,a,rfl,ha⟩:=hT.get (i:=i) (by rw[klen];exact il)
  have na:a≠st:=λz=>rst (.ref a) (az e1) (by rw[z])
  have B2:fX st H (upd H' tp (.tup [.int (i:Nat),.ref p])):=B'.new htp
  have s2:aS H' (upd H' tp (.tup [.int (i:Nat),.ref p])):=(aS.refl H').new htp
  have g2:(upd H' tp (.tup [.int (i:Nat),.ref p])) tp=some (.tup [.int (i:Nat),.ref p]):=ae
  generalize upd H' tp (.tup [.int (i:Nat),.ref p])=H2 at B2 s2 g2 ⊢
  refine⟨tp,_,rfl,eU.of g2,rfl,_,_,rfl,_,_,rfl,rfl,?_⟩
  show qa K _ [some (.ref st),some (.ref rl),some (.ref kl),some (.ref fd),some (.int (i:Nat)),some (.ref p),o6,o7] H2
  have T2:Tp H H2:=.of_but B2 hst
  obtain⟨rest,h1,h2,h3,h4,h5,h6⟩:=Hr (ks:=ks) (hra.mono T2) (hOk.rough r (az hr)) yne cs4 (kne i ks r e2 hr)
  have f2:=s2 _ _ hfs
  have S2:=S'.same s2
  obtain⟨ys2,hst2⟩:=S2.lst
  refine JX (B2 kl _ nkl hkl) e1 (B2 a _ na ha) (k100 i ks e2) S2 (by lia) na nkl h1 h2 h3 h4 h5 f2 (by rw[hR.len,rlen];lia) nf λp6 p7 p' vs k3 H3 f3 g3 hA3 S3 l3 B3=>?_
  have T3:Tp H2 H3:=B3.tp hst2 f2
  obtain⟨r',hr',hf'⟩:=h6 H3 p' vs hA3 g3 T3
  refine⟨fs++[.ref p'],rs'++[r'],k3,_,_,_,_,rfl,f3,((hR.imp λ_ _ z=>(z.mono (.of_same s2)).mono T3)).snoc hr',by simp[rlen],λj ks' r1 r2 a1 a2 a3=>?_,S3,by lia,?_⟩
  ·by_cases c:j<rs'.length
   ·rw[bz c] at a3
    exact hF j ks' r1 r2 a1 a2 a3
   ·have c2:j=i:=by
     have:=(aj.mp a3).1
     rw[aD,cc] at this
     lia
    subst c2
    rw[bj (by lia),rlen,eZ] at a3
    cases a3
    rw[e2] at a1;cases a1
    rw[hr] at a2;cases a2
    exact hf'
  ·exact λc u n h=>by
    have hc:=B2 c u n h
    exact B3 c u n (ar h hfd) hc
 ·rintro σ' H' ⟨fs,rs',k',o4,o5,o6,o7,rfl,hfs,hR,rlen,hF,S',hk',B'⟩
  rw[hA.len] at rlen hk'
  refine⟨_,rfl,fd,_,rfl,.inl ⟨bZ.of hfs,λl hl=>?_⟩⟩
  exact q l fs rs' k' _ ae (hR.imp λ_ _ z=>z.mono ((Tp.refl H').new hl)) rlen hF (S'.new hl) hk' (B'.new hl)
theorem Di{K:Fg}{H:Hp}{st:Addr}{k:Nat}{v:V}{ks:List Str}(S:kO K H st k)(h:xu H v ks):v≠.ref st:=by
 rintro rfl
 obtain⟨a,e,h⟩:=h
 cases e
 obtain⟨scr,ns,c,hs,_⟩:=S
 rw[h] at hs
 cases ks with
 |nil=>cases hs
 |cons y r=>cases hs
theorem Bt{ks:List Str}{r r':bP}(h:kB ks r r')(n:Nat):cy n r'=cy n r:=by
 cases r with
 |num x z=>have h:r'=.num x z:=h;subst h;rfl
 |op x s a b=>obtain⟨_,_,rfl,_⟩:=h;rfl
 |call x k as=>obtain⟨_,rfl,_⟩:=h;rfl
 |say a=>obtain⟨_,rfl,_⟩:=h;rfl
 |jump t=>have h:r'=.jump t:=h;subst h;rfl
 |test a t=>obtain⟨_,rfl,_⟩:=h;rfl
 |give a=>obtain⟨_,rfl,_⟩:=h;rfl
theorem Dx{ks:List Str}{r r':bP}(h:kB ks r r'):kD r'=kD r:=by
 cases r with
 |num x z=>have h:r'=.num x z:=h;subst h;rfl
 |op x s a b=>obtain⟨_,_,rfl,_⟩:=h;rfl
 |call x k as=>obtain⟨_,rfl,_⟩:=h;rfl
 |say a=>obtain⟨_,rfl,_⟩:=h;rfl
 |jump t=>have h:r'=.jump t:=h;subst h;rfl
 |test a t=>obtain⟨_,rfl,_⟩:=h;rfl
 |give a=>obtain⟨_,rfl,_⟩:=h;rfl
theorem EY{ks:List Str}{r r':bP}(h:kB ks r r'):lO r'=lO r:=by
 cases r with
 |num x z=>have h:r'=.num x z:=h;subst h;rfl
 |op x s a b=>obtain⟨_,_,rfl,_⟩:=h;rfl
 |call x k as=>obtain⟨_,rfl,_⟩:=h;rfl
 |say a=>obtain⟨_,rfl,_⟩:=h;rfl
 |jump t=>have h:r'=.jump t:=h;subst h;rfl
 |test a t=>obtain⟨_,rfl,_⟩:=h;rfl
 |give a=>obtain⟨_,rfl,_⟩:=h;rfl
theorem Dv{ks:List Str}{r r':bP}(h:kB ks r r'):hZ r'=hZ r:=by
 cases r with
 |num x z=>have h:r'=.num x z:=h;subst h;rfl
 |op x s a b=>obtain⟨_,_,rfl,_⟩:=h;rfl
 |call x k as=>obtain⟨_,rfl,_⟩:=h;rfl
 |say a=>obtain⟨_,rfl,_⟩:=h;rfl
 |jump t=>have h:r'=.jump t:=h;subst h;rfl
 |test a t=>obtain⟨_,rfl,_⟩:=h;rfl
 |give a=>obtain⟨_,rfl,_⟩:=h;rfl
theorem Bu{ks:List Str}{r r':bP}(h:kB ks r r'):∀y∈dF r',y∈ks:=by
 cases r with
 |num x z=>have h:r'=.num x z:=h;subst h;intro y hy;cases hy
 |op x s a b=>
  obtain⟨c,d,rfl,h1,h2⟩:=h
  intro y hy
  rcases bp.mp hy with rfl|hy
  ·exact h1
  ·rw[au.mp hy];exact h2
 |call x k as=>obtain⟨_,rfl,_,h⟩:=h;exact h
 |say a=>obtain⟨_,rfl,h⟩:=h;intro y hy;rw[au.mp hy];exact h
 |jump t=>have h:r'=.jump t:=h;subst h;intro y hy;cases hy
 |test a t=>obtain⟨_,rfl,h⟩:=h;intro y hy;rw[au.mp hy];exact h
 |give a=>obtain⟨_,rfl,h⟩:=h;intro y hy;rw[au.mp hy];exact h
theorem Ht{ys ks:List Str}{cs:List Nat}{n:Nat}{r r':bP}(ro:tw ys cs n r)(hk:∀y∈ks,y∈ys)(h:kB ks r r'):Cw ys cs n r':=by
 cases r with
 |num x z=>have h:r'=.num x z:=h;subst h;exact ro
 |op x s a b=>obtain⟨c,d,rfl,h1,h2⟩:=h;exact⟨ro.1,ro.2.1,hk _ h1,hk _ h2⟩
 |call x k as=>
  obtain⟨bs,rfl,hl,h⟩:=h
  obtain⟨r1,c,r2,r3⟩:=ro
  refine⟨r1,?_,λa ha=>hk _ (h a ha)⟩
  rw[hl,r3,cb];exact r2
 |say a=>obtain⟨_,rfl,h⟩:=h;exact hk _ h
 |jump t=>have h:r'=.jump t:=h;subst h;exact ro
 |test a t=>obtain⟨_,rfl,h⟩:=h;exact⟨hk _ h,ro.2⟩
 |give a=>obtain⟨_,rfl,h⟩:=h;exact hk _ h
structure pe(rs rs':List bP):Prop where
 len:rs'.length=rs.length
 fill:∀(i:Nat) r r',rs[i]?=some r->rs'[i]?=some r'->∃ks,kB ks r r'
theorem pe.get{rs rs':List bP}(h:pe rs rs'){i:Nat}{r':bP}(e:rs'[i]?=some r'):∃r ks,rs[i]?=some r/\kB ks r r':=by
 have hi:i<rs.length:=by rw[<-h.len];exact(aj.mp e).1
 obtain⟨ks,f⟩:=h.fill i _ _ (ab hi) e
 exact⟨_,ks,ab hi,f⟩
theorem pe.stp{rs rs':List bP}(h:pe rs rs')(n:Nat):stp rs' n=stp rs n:=by
 unfold Bg.stp
 cases e:rs'[n]? with
 |none=>
  have:rs[n]?=none:=by rw[List.getElem?_eq_none_iff] at e ⊢;rw[<-h.len];exact e
  rw[this]
 |some r'=>
  obtain⟨r,ks,e1,f⟩:=h.get e
  rw[e1]
  cases r with
  |num x z=>have f:r'=.num x z:=f;subst f;rfl
  |op x s a b=>obtain⟨_,_,rfl,_⟩:=f;rfl
  |call x k as=>obtain⟨_,rfl,_⟩:=f;rfl
  |say a=>obtain⟨_,rfl,_⟩:=f;rfl
  |jump t=>have f:r'=.jump t:=f;subst f;rfl
  |test a t=>obtain⟨_,rfl,_⟩:=f;rfl
  |give a=>obtain⟨_,rfl,_⟩:=f;rfl
theorem pe.runJ{rs rs':List bP}(h:pe rs rs'):∀(k n:Nat),runJ rs' k n=runJ rs k n
 |0,_=>rfl
 |k+1,n=>by
  show Bg.runJ rs' k (Bg.stp rs' n)=Bg.runJ rs k (Bg.stp rs n)
  rw[h.stp];exact pe.runJ h k _
theorem pe.ring{rs rs':List bP}(h:pe rs rs')(q:tj rs):tj rs':=by
 intro n hn r' e
 rw[h.len] at hn
 rw[h.len,h.runJ] at e
 obtain⟨r,ks,e1,f⟩:=h.get e
 rw[Dv f];exact q n hn r e1
theorem Ld{K:Fg}{vs:List V}{H:Hp}{Q:VK}{E:XK}(h:nh K vs H Q E):GE K {nx:=λ_ H'=>Q .non H',rt:=Q} (cN xp vs) H:=by
 obtain⟨st,nm,pr,cn,wd,m,k,ys,ps,cs,rfl,S,hk,hnm,ysne,ysl,yne,hpr,psl,pnd,pin,hcn,csne,csl,cs4,m1,m50,nnm,npr,ncn,q⟩:=h
 refine⟨_,rfl,_,_,rfl,.inl ⟨_,bZ.of hpr,rfl⟩,.inl ⟨rfl,.inr ⟨_,rfl,.inl ⟨_,_,rfl,rfl,_,rfl,_,rfl,st,_,k,rfl,S,by lia,by lia,by lia,λd H1 d0 d1 S1 B1=>.inl ⟨_,_,rfl,rfl,_,_,rfl,?_⟩⟩⟩⟩⟩
 rw[ai]
 obtain⟨n,hn,n1,n51,nm1,n2⟩:∃n:Nat,(if 1+d>1+(if decide (V.int ((ps.length:Nat):Int)=V.int 0)=true then 1 else 0) then 1+d else 1+(if decide (V.int ((ps.length:Nat):Int)=V.int 0)=true then 1 else 0))=(n:Int)/\1<=n/\n<=52/\n<=m+1/\(ps=[]->2<=n):=by
  by_cases c:ps=[]
  ·have e:decide (V.int ((ps.length:Nat):Int)=V.int 0)=true:=by rw[c];rfl
   rw[e,if_pos rfl]
   by_cases c2:1+d>1+1
   ·rw[if_pos c2];exact⟨(1+d).toNat,by lia,by lia,by lia,by lia,λ_=>by lia⟩
   ·rw[if_neg c2];exact⟨2,rfl,by lia,by lia,by lia,λ_=>by lia⟩
  ·have e:decide (V.int ((ps.length:Nat):Int)=V.int 0)=false:=decide_eq_false λz=>c (cO.mp (by injection z with z;lia))
   rw[e,if_neg Bool.false_ne_true]
   by_cases c2:1+d>1+0
   ·rw[if_pos c2];exact⟨(1+d).toNat,by lia,by lia,by lia,by lia,λz=>absurd z c⟩
   ·rw[if_neg c2];exact⟨1,rfl,by lia,by lia,by lia,λz=>absurd z c⟩
 rw[hn]
 show AQ K _ [some (.ref st),some (.str wd),some (.ref nm),some (.ref pr),some (.ref cn),some (.int (m:Nat)),some (.int (n:Nat)),none,none] H1
 refine⟨_,rfl,_,rfl,by lia,by lia,λL hL=>?_⟩
 obtain⟨ys1,hs1⟩:=S1.lst
 have nL:L≠st:=λz=>by rw[z,hs1] at hL;cases hL
 have HL:H L=none:=B1.free nL hL
 refine tJ (λi σ' H'=>∃(rvs:List V) (rs:List bP) (k':Nat) (o:Option V),σ'=[some (.ref st),some (.str wd),some (.ref nm),some (.ref pr),some (.ref cn),some (.int (m:Nat)),some (.int (n:Nat)),none,none,o]/\
  H' L=some (.lst rvs)/\bR (eD H') rvs rs/\rs.length=i/\(∀r∈rs,tw ys cs n r)/\kO K H' st k'/\k'<=k+1+8*i/\fX st H H') ?_ ?_ ?_
 ·exact⟨[],[],k+1,none,rfl,ae,.nil,rfl,by simp,S1.new hL,by lia,B1.new hL⟩
 ·rintro i σ' H' hi ⟨rvs,rs,k',o,rfl,hrl,hA,rlen,ro,S',hk',B'⟩
  have hi:i<n:=by simpa using hi
  refine kc ⟨_,rfl,_,rfl,_,rfl,_,rfl,st,nm,cn,n,k',ys,cs,rfl,S',by lia,B' nm _ nnm hnm,ysne,ysl,n1,by lia,B' cn _ ncn hcn,csne,csl,cs4,nnm,ncn,λv r k2 H2 hv hr S2 l2 B2=>?_⟩
  have h2:=B2 L _ nL hrl
  have t2:Tp H' H2:=by obtain⟨_,e⟩:=S'.lst;exact .of_but B2 e
  have t3:Tp H2 (upd H2 L (.lst (rvs++[v]))):=(Tp.refl H2).lst h2
  refine⟨_,h2,cR (by rw[hA.len];lia),rvs++[v],rs++[r],k2,_,rfl,ae,(hA.imp λ_ _ z=>(z.mono t2).mono t3).snoc (hv.mono t3),by simp[rlen],λr' hr'=>?_,S2.mono .upd_at h2 (Ne.symm nL),by lia,?_⟩
  ·rcases aP.mp hr' with z|z
   ·exact ro r' z
   ·rw[au.mp z];exact hr
  ·exact fX.past (B'.trans B2) HL .upd_at
 ·rintro σ' H2 ⟨rvs,rs,k2,o,_,hrl,hA,rlen,ro,S2,hk2,B2⟩
  have rlen:rs.length=n:=by simpa using rlen
  have hk2:k2<=k+1+8*n:=by simpa using hk2
  have nnL:nm≠L:=ar hnm HL
  have npL:pr≠L:=ar hpr HL
  have Ok:tD ys cs rs:=⟨λz=>by rw[z] at rlen;simp at rlen;lia,by lia,by rw[rlen];exact ro⟩
  show AO K _ [some (.ref st),some (.str wd),some (.ref nm),some (.ref pr),some (.ref cn),some (.int (m:Nat)),some (.int (n:Nat)),some (.ref L),none] H2
  have hpr2:=B2 pr _ npr hpr
  have ebare:decide (V.int (((ps.map V.str).length:Nat):Int)=V.int 0)=true->ps=[]:=λz=>by
   have z':=of_decide_eq_true z
   rw[ai] at z'
   injection z' with z'
   exact cO.mp (by lia)
  have ebare':ps=[]->decide (V.int (((ps.map V.str).length:Nat):Int)=V.int 0)=true:=λz=>by rw[z];rfl
  refine⟨_,rfl,_,rfl,_,rfl,_,_,rfl,.inl ⟨_,bZ.of hpr2,rfl⟩,.inl ⟨rfl,L,nm,_,rvs,rs,ys,tw ys cs n,rfl,hrl,hA,Ok.pos,Ok.few,ro,rfl,rfl,λt ht=>by rw[rlen];exact ht,B2 nm _ nnm hnm,ysne,λy hy _=>⟨hy,by decide,by decide⟩,nnL,λz=>by rw[rlen];exact n2 (ebare z),λrvs' rs' H3 h3 hA3 len3 hR3 hE3 hN3 hJ3 B3=>?_⟩⟩
  have n3:rs'.length=n:=len3.trans rlen
  have Ok3:tD ys cs rs':=⟨λz=>by rw[z] at n3;simp at n3;lia,by lia,by rw[n3];exact hR3⟩
  have S3:kO K H3 st k2:=S2.mono B3 hrl (Ne.symm nL)
  have BH3:fX st H H3:=fX.past B2 HL B3
  show AN K _ [some (.ref st),some (.str wd),some (.ref nm),some (.ref pr),some (.ref cn),some (.int (m:Nat)),some (.int (n:Nat)),some (.ref L),none] H3
  refine⟨_,rfl,_,rfl,_,rfl,L,nm,pr,rvs',rs',ys,ps,cs,rfl,h3,hA3,Ok3,hE3,BH3 nm _ nnm hnm,ysl,BH3 pr _ npr hpr,psl,pin,λz=>hN3 (ebare' z),λkl refs kss H4 hkl h4 hT lk hK hKn s4=>?_⟩
  have S4:=S3.same s4
  have BH4:fX st H H4:=BH3.trans s4.but
  have nkl:kl≠st:=λz=>by obtain⟨_,e⟩:=S3.lst;rw[z,e] at hkl;cases hkl
  show AM K _ [some (.ref st),some (.str wd),some (.ref nm),some (.ref pr),some (.ref cn),some (.int (m:Nat)),some (.int (n:Nat)),some (.ref L),some (.ref kl)] H4
  refine⟨_,rfl,_,rfl,pr,_,rfl,.inl ⟨bZ.of (BH4 pr _ npr hpr),λt ht=>?_⟩⟩
  have s5:aS H4 (upd H4 t (.tup (ps.map V.str))):=(aS.refl H4).new ht
  have g5:(upd H4 t (.tup (ps.map V.str))) t=some (.tup (ps.map V.str)):=ae
  generalize upd H4 t (.tup (ps.map V.str))=H5 at s5 g5 ⊢
  have S5:=S4.same s5
  have hT5:bR (xu H5) refs kss:=hT.imp λ_ _ ⟨a,e,h⟩=>⟨a,e,s5 _ _ h⟩
  refine⟨_,rfl,_,rfl,_,rfl,st,L,kl,k2,rvs',refs,rs',kss,ys,cs,rfl,S5,by lia,s5 _ _ (s4 _ _ h3),(hA3.imp λ_ _ z=>(z.mono (.of_same s4)).mono (.of_same s5)),Ok3,yne,cs4,s5 _ _ h4,hT5,lk,λi ks e=>(hK i ks e).1,λi ks r e1 e2=>?_,λa ha=>?_,nL,nkl,λp rvs6 rs6 k6 H6 h6 hA6 len6 hF S6 l6 B6=>?_⟩
  ·rcases(hK i ks e1).2.2 with z|⟨z1,z2⟩
   ·exact .inl z
   ·subst z1
    have:=hN3 (ebare' z2)
    rw[jv,e2] at this
    exact .inr (Option.some.inj this)
  ·obtain⟨i,hi,e⟩:=gW.mp ha
   obtain⟨ks,_,z⟩:=hT5.of_v (i:=i) (v:=a) (by rw[ab hi,e])
   exact Di S5 z
  refine⟨(by show 3<=sizeLine;decide),λf hf=>?_⟩
  obtain⟨_,e5⟩:=S5.lst
  have t6:Tp H5 H6:=.of_but B6 e5
  have t7:Tp H6 (upd H6 f (.tup [.str wd,.ref t,.ref p])):=(Tp.refl H6).new hf
  have ksAt:∀(i:Nat) r,rs'[i]?=some r->∃ks,kss[i]?=some ks:=λi r e=>⟨_,ab (by rw[lk];exact(aj.mp e).1)⟩
  have al:pe rs' rs6:=⟨len6,λi r r' e1 e2=>by
   obtain⟨ks,ek⟩:=ksAt i r e1
   exact⟨ks,hF i ks r r' ek e1 e2⟩⟩
  have both:∀(i:Nat) r',rs6[i]?=some r'->∃r ks,rs'[i]?=some r/\kss[i]?=some ks/\kB ks r r':=λi r' e=>by
   obtain⟨r,_,e1,_⟩:=al.get e
   obtain⟨ks,ek⟩:=ksAt i r e1
   exact⟨r,ks,e1,ek,hF i ks r r' ek e1 e⟩
  have ok:q5 ys cs ⟨wd,ps,rs6⟩:=by
   refine⟨pnd,pin,λz=>?_,?_,λr' hr'=>?_,?_,al.ring hJ3,kss,?_,⟨hKn.zero,λi m r' ks km e hm ek em y hy=>?_⟩,λi r' ks e ek=>?_⟩
   ·have z':rs6=[]:=z
    rw[z',n3] at len6;simp at len6;lia
   ·show rs6.length<=60
    lia
   ·show Cw ys cs rs6.length r'
    obtain⟨i,hi,e⟩:=gW.mp hr'
    obtain⟨r,ks,e1,e2,f⟩:=both i r' (by rw[<-e];exact ab hi)
    rw[len6,n3]
    exact Ht (hR3 r (az e1)) (hK i ks e2).2.1 f
   ·show rs6.getLast?.map lO=some true
    have hl:rs6.length-1<rs6.length:=by lia
    obtain⟨r,ks,e1,e2,f⟩:=both (rs6.length-1) _ (ab hl)
    rw[cB,ab hl,bY,EY f]
    rw[cB,<-len6,e1,bY] at hE3
    exact hE3
   ·show kss.length=rs6.length
    rw[lk,len6]
   ·obtain⟨r,ks',e1,e2,f⟩:=both i r' e
    rw[Bt f] at hm
    rw[Dx f]
    exact hKn.on i m r ks km e1 hm ek em y hy
   ·obtain⟨r,ks',e1,e2,f⟩:=both i r' e
    rw[ek] at e2;cases e2
    exact Bu f
  refine q _ ⟨wd,ps,rs6⟩ k6 _ ⟨f,t,p,rvs6,rfl,ae,t7 _ _ (t6 _ _ g5),t7 _ _ h6,hA6.imp λ_ _ z=>z.mono t7⟩ rfl rfl ok (by show rs6.length<=m+1;lia) (S6.new hf) (by lia) ?_
  exact((BH4.trans s5.but).trans B6).new hf
inductive GY(rs:List bP)(un:Option Str):Nat->Prop where
 |zero:GY rs un 0
 |step {n m:Nat} {r:bP}:GY rs un n->rs[n]?=some r->(∀y,un=some y->kD r≠.str y)->m∈cy n r->GY rs un m
structure eL(rs:List bP):Prop where
 pos:0<rs.length
 few:rs.length<64
 inr:∀(n m:Nat) r,rs[n]?=some r->m∈cy n r->m<rs.length
 ring:tj rs
theorem GY.lt{rs:List bP}{un:Option Str}(g:eL rs){m:Nat}(h:GY rs un m):m<rs.length:=by
 cases h with
 |zero=>exact g.pos
 |step _ e _ hm=>exact g.inr _ _ _ e hm
theorem Fv{rs:List bP}(hg:∀r∈rs,∀t:Nat,E6 r=.int (t:Nat)->t<rs.length)(hE:rs.getLast?.map lO=some true):∀(n m:Nat) r,rs[n]?=some r->m∈cy n r->m<rs.length:=by
 intro i m r hr mem
 have hi:i<rs.length:=(aj.mp hr).1
 have nx:lO r=false->i+1<rs.length:=λhe=>by
  by_cases c:i+1<rs.length
  ·exact c
  ·have ei:i=rs.length-1:=by lia
   rw[cB,<-ei,hr,bY,he] at hE
   cases hE
 have hm:=hg r (az hr)
 cases r with
 |jump to=>rw[au.mp mem];exact hm to rfl
 |test a to=>
  rcases bp.mp mem with e|e
  ·rw[e];exact nx rfl
  ·rw[au.mp e];exact hm to rfl
 |give a=>cases mem
 |num x z=>rw[au.mp mem];exact nx rfl
 |op x s a b=>rw[au.mp mem];exact nx rfl
 |call x k as=>rw[au.mp mem];exact nx rfl
 |say a=>rw[au.mp mem];exact nx rfl
theorem q5.good{ys:List Str}{cs:List Nat}{b:bf}(h:q5 ys cs b):eL b.rows:=by
 have:=h.few
 refine⟨dR.mpr h.pos,by lia,Fv (λr hr t e=>?_) h.last,h.ring⟩
 have ro:=h.rows r hr
 cases r with
 |jump to=>
  injection e with e
  have:to=t:=by lia
  subst this;exact ro
 |test a to=>
  injection e with e
  have:to=t:=by lia
  subst this;exact ro.2
 |_=>cases e
theorem zW(rs:List bP):∀(j k n:Nat),runJ rs (j+k) n=runJ rs j (runJ rs k n)
 |j,0,n=>rfl
 |j,k+1,n=>by
  show runJ rs (j+k) (stp rs n)=runJ rs j (runJ rs k (stp rs n))
  exact zW rs j k (stp rs n)
theorem Gu{rs:List bP}(g:eL rs){n:Nat}(h:n<rs.length):stp rs n<rs.length:=by
 unfold stp
 rw[ab h]
 cases e:rs[n] with
 |jump t=>exact g.inr n t (.jump t) (by rw[ab h,e]) (au.mpr rfl)
 |_=>exact h
theorem yv{rs:List bP}(g:eL rs):∀(k:Nat) {n:Nat},n<rs.length->runJ rs k n<rs.length
 |0,_,h=>h
 |k+1,_,h=>yv g k (Gu g h)
theorem zX{rs:List bP}{k n:Nat}(hk:k<=rs.length)(h:∀r,rs[runJ rs k n]?=some r->hZ r=false):runJ rs rs.length n=runJ rs k n:=by
 have e:rs.length=(rs.length-k)+k:=by lia
 rw[e,zW]
 exact oX h _
def eF(_:Fg):Sp:=λvs H Q _=>∃(rt:Addr) (n:Nat) (rvs:List V) (rs:List bP),vs=[.ref rt,.int (n:Nat)]/\H rt=some (.tup rvs)/\bR (eD H) rvs rs/\eL rs/\n<rs.length/\Q (.int (runJ rs rs.length n:Nat)) H
def vS(rs:List bP)(m:Nat):Prop:=GY rs none m/\∀r,rs[m]?=some r->hZ r=false
abbrev Bz:Nat:=1
abbrev jQ:Nat:=2
end Bg
end
section
namespace L2
open PySem PySem.Spec PyProof.Rows
structure QE(X:Cx)(e:Expr)(t:TE):Prop where
 up:PE X e t
structure QT(X:Cx)(e:Expr)(t:TT):Prop where
 up:PT X e t
structure QW(X:Cx)(e:Expr)(t:TT):Prop where
 up:PW X e t
structure QA(X:Cx)(e:List Expr)(t:TA):Prop where
 up:PA X e t
structure QS(X:Cx)(e:Stmt)(t:TS):Prop where
 up:PS X e t
structure kU(X:Cx)(e:List Stmt)(t:TS):Prop where
 up:jV X e t
structure QG(X:Cx)(e:Expr)(t:TG):Prop where
 up:PG X e t
structure LK(X:Cx)(e:List Expr)(t:Dk):Prop where
 up:Lq X e t
structure QI(X:Cx)(a b:Expr)(t:TI):Prop where
 up:PI X a b t
structure QO(X:Cx)(e:Option Expr)(t:TO):Prop where
 up:PO X e t
structure G8(X:Cx)(e:List Expr)(t:TT):Prop where
 up:Dj X e t
theorem qv(i:Nat){x:Str}{pos:Pos}(hN:X.N[i]?=some x:=by rfl)(hv:LM X.env.scope x:=by first|exact Or.inl rfl|exact Or.inr (Or.inl rfl)|exact Or.inr (Or.inr rfl))(hd:(x==("__debug__":Str))=false:=by decide)(hcd:(x==("__classdict__":Str))=false:=by decide):QE X (.Name x pos) (ah i):=
 ⟨pv i hN hv hd hcd⟩
theorem ax{i j pos}:QE X (.Constant (.int i) j pos) (tC (.int i)):=
 ⟨Ky ⟩
theorem qz{b j pos}:QE X (.Constant (.bool b) j pos) (tC (.bl b)):=
 ⟨L5 ⟩
theorem oq{j pos}:QE X (.Constant .none j pos) (tC .non):=
 ⟨KA ⟩
theorem bg{x j pos}:QE X (.Constant (.str x) j pos) (tC (.str x)):=
 ⟨KD ⟩
theorem bH{op:Operator}{r:R2}(ho:lh X (binaryOp op) r)(ha:QE X a ta)(hb:QE X b tb):QE X (.BinOp a op b pos) (bq r ta tb):=
 ⟨L9 ho ha.up hb.up⟩
theorem zM{op:UnaryOp}{r:V->Hp->VK->Prop}(ho:Mw X (unaryOp op) r)(ha:QE X a ta):QE X (.UnaryOp op a pos) (Lk r ta):=
 ⟨Ma ho ha.up⟩
theorem FX(ha:QE X a ta):QE X (.UnaryOp .Not a pos) (Aj ta):=
 ⟨KB ha.up⟩
theorem jB{op:CmpOp}{r:R2}(ho:lh X (compareOp op) r)(ha:QE X a ta)(hb:QE X b tb)(hm:behindInMarks op b=false):QE X (.Compare a [op] [b] pos) (bq r ta tb):=
 ⟨Ij ho ha.up hb.up hm⟩
theorem FW{rest:List Expr}(ha:QE X a ta)(hb:QE X (.BoolOp .And (b::rest) pos) tb):QE X (.BoolOp .And (a::b::rest) pos) (Ai ta tb):=
 ⟨Ku ha.up hb.up⟩
theorem FY{op}{t:TE}(h:QE X a t):QE X (.BoolOp op [a] pos) t:=
 ⟨KC h.up⟩
theorem ui{c:Expr}(hc:QT X c tA)(ha:QE X a ta)(hb:QE X b tb):QE X (.IfExp c a b pos) (Mr tA ta tb):=
 ⟨FO hc.up ha.up hb.up⟩
theorem ib{lo hi:Option Expr}{r:V->Option Int->Option Int->Hp->VK->Prop}(hr:G9 X r)(he:QE X e te)(hl:QO X lo tl)(hu:QO X hi th):QE X (.Subscript e (.Slice lo hi none p2) pos) (Ec r te tl th):=
 ⟨FQ hr he.up hl.up hu.up⟩
theorem aQ{r:R2}(hr:GW X r)(ha:QE X a ta)(hb:QE X b tb)(hs:Cv b):QE X (.Subscript a b pos) (bq r ta tb):=
 ⟨L8 hr ha.up hb.up hs⟩
theorem cY{x1}(h:QA X es t):QE X (.Tuple es x1 pos) (gR t):=
 ⟨KE h.up⟩
theorem dc(h:QA X es t):QE X (.List es pos) (iQ t):=
 ⟨Kz h.up⟩
theorem nC{id:String}(pa:PlainAttrs T)(slot:Slot T name id)(hty:typeOf (.builtin id)=pure (.type "method_descriptor"))(hm:Lp X id r)(ho:QE X o to)(ha:QA X (e::es) t)(hbase:attributeBase o name X.env (eval o X.env)=eval o X.env:=by rfl)(hfew:((backTo cpos (starEach (e::es) X.env)).all (λx=>!x.1)&&(backToKw cpos (keywordEach [] X.env)).all (λx=>x.1.isSome)
   && decide ((e::es).length+([]:List Keyword).length+(if([]:List Keyword).isEmpty then 0 else 1)<30))=true:=by rfl) (hline:(apos.endLine==cpos.line)=true:=by rfl) (hs:starEach (e::es) X.env=(false,eval e X.env)::starEach es X.env:=by rfl) (hplain:(backTo cpos (starEach es X.env)).any (·.1)=false:=by rfl):QE X (.Call (.Attribute o name apos) (e::es) [] cpos) (C1 X.K T r to t):=
 ⟨L6 pa slot hty hm ho.up ha.up hbase hfew hline hs hplain⟩
theorem ug{id:String}(pa:PlainAttrs T)(slot:Slot T name id)(hty:typeOf (.builtin id)=pure (.type "method_descriptor"))(hm:Lp X id r)(ho:QE X o to)(hbase:attributeBase o name X.env (eval o X.env)=eval o X.env:=by rfl)(hline:(apos.endLine==cpos.line)=true:=by rfl):QE X (.Call (.Attribute o name apos) [] [] cpos) (Cd X.K T r to):=
 ⟨Kv pa slot hty hm ho.up hbase hline⟩
theorem bN{id:String}(hc:kK X (.builtin id) r)(hg:Gl X x)(hm:X.mg x=none)(hv:bootBuiltins x=some (.builtin id))(ha:QA X (e::es) t)(hn:x≠"__name__":=by decide)(hdb:(x==("__debug__":Str))=false:=by decide)(he:starEach (e::es) X.env=(false,eval e X.env)::starEach es X.env:=by rfl)(hpl:(backTo pos (starEach es X.env)).any (·.1)=false:=by rfl):QE X (.Call (.Name x p) (e::es) [] pos) (iV r t):=
 ⟨FN hc hg hm hv ha.up hn hdb he hpl⟩
theorem cK(hc:kK X (.type T) r)(hg:Gl X x)(hm:X.mg x=none)(hv:bootBuiltins x=some (.type T))(ha:QA X (e::es) t)(hn:x≠"__name__":=by decide)(hdb:(x==("__debug__":Str))=false:=by decide)(he:starEach (e::es) X.env=(false,eval e X.env)::starEach es X.env:=by rfl)(hpl:(backTo pos (starEach es X.env)).any (·.1)=false:=by rfl):QE X (.Call (.Name x p) (e::es) [] pos) (iV r t):=
 ⟨DY hc hg hm hv ha.up hn hdb he hpl⟩
theorem bV{X:Cx}{x:Str}{ps:List Str}{k:Nat}{sp:Sp}{e:Expr}{es:List Expr}{t:TA}{p pos:Pos}(c:aM X.prog X.w X.K X.mg X.base x ps k sp)(hr:cD k X.A)(hg:Gl X x)(ha:QA X (e::es) t)(hdb:(x==("__debug__":Str))=false:=by decide)(he:starEach (e::es) X.env=(false,eval e X.env)::starEach es X.env:=by rfl)(hpl:(backTo pos (starEach es X.env)).any (·.1)=false:=by rfl):QE X (.Call (.Name x p) (e::es) [] pos) (bL sp [] E0 t):=
 ⟨L7 c hr hg ha.up hdb he hpl⟩
theorem qA{wi:TI}(ok:sV sc N scope NY js)(hsc:X.env.scope=sc)(hN:X.N=N)(hk:NY.length=N.length+k)(hc:X.calm=true)(hit:QI X target iter wi)(hg:∀cl C s₀ H₀ fp,QG (dZ X NY scope cl C s₀ H₀ fp) target g)(hi:∀cl C s₀ H₀ fp,G8 (dZ X NY scope cl C s₀ H₀ fp) ifs tc)(he:∀cl C s₀ H₀ fp,QE (dZ X NY scope cl C s₀ H₀ fp) elt te)(hs:∀x,foldedSetIterable iter X.env x=pure x:=by intro _;rfl):QE X (.ListComp elt [⟨target,iter,ifs,0⟩] scope pos) (lC js k wi g tc te):=
 ⟨Ik ok hsc hN hk hc hit.up (λcl C s₀ H₀ fp=>(hg cl C s₀ H₀ fp).up) (λcl C s₀ H₀ fp=>(hi cl C s₀ H₀ fp).up) (λcl C s₀ H₀ fp=>(he cl C s₀ H₀ fp).up) hs⟩
theorem oU{wi:TI}{i:Nat}{y:Str}{py spos:Pos}(ok:sV sc N scope NY js)(hsc:X.env.scope=sc)(hN:X.N=N)(hk:NY.length=N.length+k)(hc:X.calm=true)(hit:QI X target iter wi)(hg:∀cl C s₀ H₀ fp,QG (dZ X NY scope cl C s₀ H₀ fp) target g)(hi:∀cl C s₀ H₀ fp,G8 (dZ X NY scope cl C s₀ H₀ fp) ifs tc)(he:∀cl C s₀ H₀ fp,QE (dZ X NY scope cl C s₀ H₀ fp) elt te)(nd:X.N.Nodup)(hy:X.N[i]?=some y)(hl:GX X.env.scope y)(hsw:swapsWith (.ListComp elt [⟨target,iter,ifs,0⟩] scope pos) (some (.Name y py)) spos.line X.env=pure true)(hs:∀x,foldedSetIterable iter X.env x=pure x:=by intro _;rfl)(hf:X.fn y=true\/X.env.scope.names.lookup y=some .local:=by first|exact .inl rfl|exact .inr rfl|assumption):QS X (.Assign [.Name y py] (.ListComp elt [⟨target,iter,ifs,0⟩] scope pos) spos) (bO (lC js k wi g tc te) (aT i)):=
 ⟨ID ok hsc hN hk hc hit.up (λcl C s₀ H₀ fp=>(hg cl C s₀ H₀ fp).up) (λcl C s₀ H₀ fp=>(hi cl C s₀ H₀ fp).up) (λcl C s₀ H₀ fp=>(he cl C s₀ H₀ fp).up) nd hy hl hsw hs hf⟩
theorem jC :QO X none iD:=
 ⟨IA ⟩
theorem jD(h:QE X e te):QO X (some e) (mG te):=
 ⟨IB h.up⟩
theorem av :QA X [] aK:=
 ⟨Kt ⟩
theorem aa(ha:QE X e te)(hr:QA X es t)(hs:starEach (e::es) X.env=(false,eval e X.env)::starEach es X.env:=by rfl):QA X (e::es) (af te t):=
 ⟨Ig ha.up hr.up hs⟩
theorem bh{op:CmpOp}{r:R2}(ho:lh X (compareOp op) r)(ha:QE X a ta)(hb:QE X b tb)(hm:behindInMarks op b=false):QT X (.Compare a [op] [b] pos) (bX (bq r ta tb)):=
 ⟨II ho ha.up hb.up hm⟩
theorem lW(ha:QT X a tA):QT X (.UnaryOp .Not a pos) (sE tA):=
 ⟨KU ha.up⟩
theorem pZ{rest:List Expr}(ha:QT X a tA)(hb:QW X (.BoolOp .And (b::rest) pos) tB'):QW X (.BoolOp .And (a::b::rest) pos) (yz tA tB'):=
 ⟨KY ha.up hb.up⟩
theorem oV(ha:QT X a tA):QW X (.BoolOp .And [a] pos) tA:=
 ⟨IJ ha.up⟩
theorem wc{rest:List Expr}(ha:QT X a tA)(hb:QW X (.BoolOp .Or (b::rest) pos) tB'):QW X (.BoolOp .Or (a::b::rest) pos) (JM tA tB'):=
 ⟨Mc ha.up hb.up⟩
theorem BV(ha:QT X a tA):QW X (.BoolOp .Or [a] pos) tA:=
 ⟨KZ ha.up⟩
theorem QW.pt{X:Cx}{e:Expr}{t:TT}(h:QW X e t):QT X e t:=
 ⟨PW.pt h.up⟩
theorem iL{e:Expr}{t:TE}(h:QE X e t)(he:∀whole,isTrue e X.env whole=(do let v <-whole;standAt e.pos;holding [v] (truthy v)):=by intro _;rfl):QT X e (tB t):=
 ⟨KW h.up he⟩
theorem kY{a:Expr}{ta:TA}{p pos:Pos}(hg:Gl X "range")(hm:X.mg "range"=none)(ha:QA X [a] ta)(hs:starEach [a] X.env=[(false,eval a X.env)]:=by rfl):QI X tg (.Call (.Name "range" p) [a] [] pos) (rK ta):=
 ⟨D0 hg hm ha.up hs⟩
theorem IP{a:Expr}{ta:TA}{p pos:Pos}(hg:Gl X "enumerate")(hm:X.mg "enumerate"=none)(ha:QA X [a] ta)(hs:starEach [a] X.env=[(false,eval a X.env)]:=by rfl):QI X (.Tuple elts k tpos) (.Call (.Name "enumerate" p) [a] [] pos) (E9 X.K ta):=
 ⟨Iv hg hm ha.up hs⟩
theorem K7{a b:Expr}{ta:TA}{p pos:Pos}(hg:Gl X "zip")(hm:X.mg "zip"=none)(ha:QA X [a,b] ta)(hs:starEach [a,b] X.env=[(false,eval a X.env),(false,eval b X.env)]:=by rfl)(hs2:starEach [b] X.env=[(false,eval b X.env)]:=by rfl):QI X (.Tuple elts k tpos) (.Call (.Name "zip" p) [a,b] [] pos) (JZ X.K ta):=
 ⟨KM hg hm ha.up hs hs2⟩
theorem jd{tg l:Expr}{tl:TE}(hl:QE X l tl):QI X tg l (oh X.K tl):=
 ⟨KI hl.up⟩
theorem bS{i:Nat}{x:Str}(hN:X.N.Nodup)(hi:X.N[i]?=some x)(hx:GX X.env.scope x)(hf:X.fn x=true\/X.env.scope.names.lookup x=some .local:=by first|exact .inl rfl|exact .inr rfl|assumption):QG X (.Name x pos) (aT i):=
 ⟨Iq hN hi hx hf⟩
theorem pY{es:List Expr}{k:Nat}{t:Dk}{n:Nat}(hc:X.calm=true)(h:LK X es t)(hn:(assignEach es X.env).length=n:=by rfl)(hst:(assignEach es X.env).findIdx? (·.1)=none:=by rfl):QG X (.Tuple es k pos) (xM X.K n t):=
 ⟨KH hc h.up hn hst⟩
theorem IM{es:List Expr}{k:Nat}{t:Dk}{n:Nat}(hc:X.calm=true)(h:LK X es t)(hn:(assignEach es X.env).length=n:=by rfl)(hst:(assignEach es X.env).findIdx? (·.1)=none:=by rfl):QG X (.Tuple es k pos) (E3 X.K n t):=
 ⟨Ir hc h.up hn hst⟩
theorem lR :LK X [] u6:=
 ⟨Iu ⟩
theorem dm{e:Expr}{es:List Expr}{t:TG}{u:Dk}(h1:QG X e t)(h2:LK X es u)(hs:(assignEach (e::es) X.env).map (·.2)=assign e X.env::(assignEach es X.env).map (·.2):=by rfl):LK X (e::es) (iM t u):=
 ⟨FR h1.up h2.up hs⟩
theorem jc{o i:Expr}{to ti:TE}{t:Ha}(ho:QE X o to)(hi:QE X i ti)(hs:G7 X t)(ha:∀v,assign (.Subscript o i pos) X.env v=(do
   let ov <-holding [v] (eval o X.env)
   let iv <-holding [v,ov] (eval i X.env)
   standAt pos
   holding [v,ov,iv] (setItem ov iv v)
   release [v,ov,iv] []):=by intro _;rfl):QG X (.Subscript o i pos) (nG to ti t):=
 ⟨KG ho.up hi.up hs ha⟩
theorem bu{i:Nat}{x:Str}{e:Expr}{te:TE}{pos':Pos}(hN:X.N.Nodup)(hi:X.N[i]?=some x)(hx:GX X.env.scope x)(he:QE X e te)(hs:swapsWith e (some (.Name x pos')) pos.line X.env=pure false:=by rfl)(hf:X.fn x=true\/X.env.scope.names.lookup x=some .local:=by first|exact .inl rfl|exact .inr rfl|assumption):QS X (.Assign [.Name x pos'] e pos) (bO te (aT i)):=
 ⟨KS hN hi hx he.up hs hf⟩
theorem fR{tg e:Expr}{te:TE}{g:TG}(he:QE X e te)(hg:QG X tg g)(hs:swapsWithSole [tg] e pos.line X.env=pure false:=by rfl)(hw:swappedStores [tg] e X.env=pure none:=by rfl)(h1:(assignEach [tg] X.env).map (·.2)=[assign tg X.env]:=by rfl):QS X (.Assign [tg] e pos) (bO te g):=
 ⟨KN he.up hg.up hs hw h1⟩
theorem cZ(he:QE X e te)(hs:swapsWith e none pos.line X.env=pure false:=by rfl):QS X (.Expr e pos) (fV te):=
 ⟨IE he.up hs⟩
theorem bA(he:QE X e te):QS X (.Return (some e) pos) (cU te):=
 ⟨KR he.up⟩
theorem IS :QS X (.Return none pos) Gv:=
 ⟨IF ⟩
theorem cv{c:Expr}{a b:List Stmt}{tc:TT}(hc:QT X c tc)(ha:kU X a t)(hb:kU X b u):QS X (.If c a b pos) (df tc t u):=
 ⟨Mb hc.up ha.up hb.up⟩
theorem qB{c:Expr}{body:List Stmt}{tc:TT}{tb:TS}(hp:PassesOwn (model X.prog X.w) X.A X.env X.xe)(hc:QT X c tc)(hb:kU X body tb):QS X (.While c body [] pos) (rG tc tb):=
 ⟨FU hp hc.up hb.up⟩
theorem kC{iter:Expr}{body:List Stmt}{wi:TI}{g:TG}{tb:TS}{pos:Pos}(hp:PassesOwn (model X.prog X.w) X.A X.env X.xe)(hc:X.calm=true)(hi:QI X tg iter wi)(hg:QG X tg g)(hb:kU X body tb)(hs:∀x,foldedSetIterable iter X.env x=pure x:=by intro _;rfl):QS X (.For tg iter body [] pos) (qN wi g tb):=
 ⟨KQ hp hc hi.up hg.up hb.up hs⟩
theorem ao{st:Stmt}{rest:List Stmt}(h1:QS X st t)(h2:kU X rest u):kU X (st::rest) (bo t u):=
 ⟨FV h1.up h2.up⟩
theorem aB{st:Stmt}(h1:QS X st t):kU X [st] t:=
 ⟨IH h1.up⟩
theorem bD :kU X [] cG:=
 ⟨IG ⟩
theorem m7{x:Str}{v:V}{u:Value}{pos:Pos}(hg:Gl X x)(hm:X.mg x=none)(hv:bootBuiltins x=some u)(r:cP v u)(hn:x≠"__name__":=by decide)(hd:(x==("__debug__":Str))=false:=by decide):QE X (.Name x pos) (tC v):=
 ⟨Ii hg hm hv r hn hd⟩
theorem kg{X:Cx}:G8 X [] p0:=
 ⟨Iy ⟩
theorem IQ{X:Cx}{c:Expr}{t:TT}(h:QT X c t):G8 X [c] t:=
 ⟨Iz h.up⟩
section
variable{κ:Type}[DecidableEq κ]
def gE(kvs:List (κ×V))(k:κ):Option V:=(kvs.find? λkv=>decide (kv.1=k)).map (·.2)
def iz(kvs:List (κ×V))(k:κ)(v:V):List (κ×V):=
 if(kvs.any λkv=>decide (kv.1=k))=true then kvs.map (λkv=>if kv.1=k then(kv.1,v) else kv) else kvs++[(k,v)]
theorem eS{p:κ×V}{r:List (κ×V)}{k:κ}(e:p.1=k):gE (p::r) k=some p.2:=by simp[gE,eV,e]
theorem eR{p:κ×V}{r:List (κ×V)}{k:κ}(e:¬p.1=k):gE (p::r) k=gE r k:=by simp[gE,eV,e]
theorem ku(k:κ):∀kvs:List (κ×V),(kvs.any λkv=>decide (kv.1=k))=(gE kvs k).isSome
 |[]=>rfl
 |p::r=>by
  rw[j6]
  by_cases e:p.1=k
  ·simp only[eS e,decide_eq_true e,Bool.true_or,Option.isSome_some]
  ·rw[eR e,decide_eq_false e,Bool.false_or];exact ku k r
theorem A9(k j:κ)(y:V):∀kvs:List (κ×V),gE (kvs.map λkv=>if kv.1=k then(kv.1,y) else kv) j=(gE kvs j).map λx=>if j=k then y else x
 |[]=>rfl
 |p::r=>by
  have ih:=A9 k j y r
  rw[bJ]
  by_cases h:p.1=k
  ·rw[if_pos h]
   by_cases e:p.1=j
   ·rw[eS (p:=(p.1,y)) e,eS e,bY,if_pos (e.symm.trans h)]
   ·rw[eR (p:=(p.1,y)) e,eR e,ih]
  ·rw[if_neg h]
   by_cases e:p.1=j
   ·rw[eS (p:=p) e,eS e,bY,if_neg (λz=>h (e.trans z))]
   ·rw[eR (p:=p) e,eR e,ih]
theorem wY(k j:κ)(y:V):∀kvs:List (κ×V),gE kvs k=none->gE (kvs++[(k,y)]) j=if j=k then some y else gE kvs j
 |[],_=>by
  by_cases e:k=j
  ·rw[if_pos e.symm];exact eS (p:=(k,y)) e
  ·rw[if_neg (λz=>e z.symm)];exact eR (p:=(k,y)) e
 |p::r,hn=>by
  rw[List.cons_append]
  have hk:¬p.1=k:=λz=>by rw[eS z] at hn;cases hn
  rw[eR hk] at hn
  have ih:=wY k j y r hn
  by_cases e:p.1=j
  ·rw[eS e,eS e,if_neg (λz=>hk (e.trans z))]
  ·rw[eR e,eR e,ih]
theorem Ba(kvs:List (κ×V))(k j:κ)(y:V):gE (iz kvs k y) j=if j=k then some y else gE kvs j:=by
 unfold iz
 by_cases a:(kvs.any λkv=>decide (kv.1=k))=true
 ·rw[if_pos a,A9]
  rw[ku] at a
  by_cases e:j=k
  ·obtain⟨x,hx⟩:=fF.mp a
   rw[if_pos e,e,hx,bY,if_pos rfl]
  ·rw[if_neg e]
   cases gE kvs j with
   |none=>rfl
   |some x=>rw[bY,if_neg e]
 ·rw[if_neg a]
  refine wY k j y kvs ?_
  rw[ku] at a
  cases q:gE kvs k with
  |none=>rfl
  |some x=>rw[q] at a;exact(a rfl).elim
theorem ia(kvs:List (κ×V))(k:κ)(v:V):(iz kvs k v).length<=kvs.length+1:=by
 unfold iz
 split
 ·rw[ai];lia
 ·rw[aD,cf,iR];lia
theorem zK{kvs:List (κ×V)}{k:κ}(v:V)(h:gE kvs k=none):iz kvs k v=kvs++[(k,v)]:=by
 unfold iz
 rw[ku,h]
 exact if_neg (by decide)
theorem nX.isSome_eq{o:Option V}{u:Option Value}(r:nX o u):o.isSome=u.isSome:=by
 cases o with
 |none=>cases u with
  |none=>rfl
  |some _=>exact(show False from r).elim
 |some _=>cases u with
  |none=>exact(show False from r).elim
  |some _=>rfl
theorem KV.val{kvs:List (κ×V)}{vs:List (κ×Value)}(r:KV kvs vs)(k:κ):nX (gE kvs k) (valueAt vs k):=by
 unfold KV at r
 induction r with
 |nil=>exact True.intro
 |@cons p q ps qs h t ih=>
  obtain⟨h1,h2⟩:=h
  by_cases e:p.1=k
  ·have e':q.1=k:=h1.symm.trans e
   have b:valueAt (q::qs) k=some q.2:=by simp[valueAt,eV,e']
   rw[eS e,b];exact h2
  ·have e':¬q.1=k:=λz=>e (h1.trans z)
   have b:valueAt (q::qs) k=valueAt qs k:=by simp[valueAt,eV,e']
   rw[eR e,b];exact ih
theorem KV.any{kvs:List (κ×V)}{vs:List (κ×Value)}(r:KV kvs vs)(k:κ):(kvs.any λkv=>decide (kv.1=k))=vs.any λkv=>decide (kv.1=k):=by
 unfold KV at r
 induction r with
 |nil=>rfl
 |cons h t ih=>rw[j6,j6,ih,h.1]
theorem KV.repl{kvs:List (κ×V)}{vs:List (κ×Value)}(r:KV kvs vs)(k:κ){y:V}{u:Value}(ry:cP y u) :
  KV (kvs.map λkv=>if kv.1=k then(kv.1,y) else kv) (vs.map λkv=>if kv.1=k then(kv.1,u) else kv):=by
 unfold KV at r ⊢
 induction r with
 |nil=>exact .nil
 |@cons p q ps qs h t ih=>
  rw[bJ,bJ]
  refine .cons ?_ ih
  obtain⟨h1,h2⟩:=h
  by_cases e:p.1=k
  ·rw[if_pos e,if_pos (h1.symm.trans e)];exact⟨h1,ry⟩
  ·rw[if_neg e,if_neg (λz=>e (h1.trans z))];exact⟨h1,h2⟩
theorem KV.put{kvs:List (κ×V)}{vs:List (κ×Value)}(r:KV kvs vs)(k:κ){y:V}{u:Value}(ry:cP y u):KV (iz kvs k y) (stored vs k u):=by
 unfold iz stored
 rw[r.any k]
 by_cases e:(vs.any λkv=>decide (kv.1=k))=true
 ·rw[if_pos e,if_pos e];exact r.repl k ry
 ·rw[if_neg e,if_neg e];exact Paired.snoc r ⟨rfl,ry⟩
theorem KV.length{kvs:List (κ×V)}{vs:List (κ×Value)}(r:KV kvs vs):kvs.length=vs.length:=Paired.length r
end
theorem zb{P:Program}{w:World}{k:dB}{u:Value}(r:cP (kV k) u):(d8 P w).is k u=true:=by
 cases k with
 |inl i=>obtain⟨t,e⟩:=(show ∃t,u=Value.int i t from r);subst e;exact zr P w i t
 |inr x=>obtain⟨t,e⟩:=(show ∃t,u=Value.str x t from r);subst e;exact zt P w x t
theorem v8{P:Program}{w:World}:∀{ks:List dB} {us:List Value},ck (ks.map kV) us->ItemsAre (d8 P w) ks us
 |[],_,r=>by rw[dS] at r;cases r;exact .nil
 |k::ks,_,r=>by
  rw[bJ] at r
  cases r with
  |cons h t=>exact .cons (zb h) (v8 t)
abbrev KT(H:Hp):List (List dB×V)->List (List dB×Addr×Value)->Prop:=Paired λp q=>p.1=q.1/\H q.2.1=some (.tup (p.1.map kV))/\cP p.2 q.2.2
theorem KT.val{H:Hp}{kvs:List (List dB×V)}{xs:List (List dB×Addr×Value)}(r:KT H kvs xs)(k:List dB):nX (gE kvs k) ((atKey xs k).map (·.2)):=by
 induction r with
 |nil=>exact True.intro
 |@cons p q ps qs h t ih=>
  obtain⟨h1,_,h2⟩:=h
  by_cases e:p.1=k
  ·have e':q.1=k:=h1.symm.trans e
   have b:atKey (q::qs) k=some q.2:=by simp[atKey,eV,e']
   rw[eS e,b];exact h2
  ·have e':¬q.1=k:=λz=>e (h1.trans z)
   have b:atKey (q::qs) k=atKey qs k:=by simp[atKey,eV,e']
   rw[eR e,b];exact ih
theorem KT.repl{H:Hp}{kvs:List (List dB×V)}{xs:List (List dB×Addr×Value)}(r:KT H kvs xs)(k:List dB){y:V}{u:Value}(ry:cP y u) :
  KT H (kvs.map λkv=>if kv.1=k then(kv.1,y) else kv) (xs.map (putAt k u)):=by
 induction r with
 |nil=>exact .nil
 |@cons p q ps qs h t ih=>
  rw[bJ,bJ]
  refine .cons ?_ ih
  obtain⟨h1,h2,h3⟩:=h
  unfold putAt
  by_cases e:p.1=k
  ·rw[if_pos e,if_pos (h1.symm.trans e)];exact⟨h1,h2,ry⟩
  ·rw[if_neg e,if_neg (λz=>e (h1.trans z))];exact⟨h1,h2,h3⟩
theorem KT.put{H:Hp}{kvs:List (List dB×V)}{xs:List (List dB×Addr×Value)}(r:KT H kvs xs)(k:List dB){b:Addr}{y:V}{u:Value}(hb:H b=some (.tup (k.map kV)))(ry:cP y u) :
  KT H (iz kvs k y) (storedH xs k b u):=by
 have e:(kvs.any λkv=>decide (kv.1=k))=(atKey xs k).isSome:=by
  rw[ku,(r.val k).isSome_eq,Option.isSome_map]
 unfold iz storedH
 rw[e]
 by_cases q:(atKey xs k).isSome=true
 ·rw[if_pos q,if_pos q];exact r.repl k ry
 ·rw[if_neg q,if_neg q];exact Paired.snoc r ⟨rfl,hb,ry⟩
theorem KT.keeps{H H':Hp}{kvs:List (List dB×V)}{xs:List (List dB×Addr×Value)}(r:KT H kvs xs)(ht:∀b ys,H b=some (.tup ys)->H' b=some (.tup ys)):KT H' kvs xs:=
 Paired.mapP r λ_ _ z=>⟨z.1,ht _ _ z.2.1,z.2.2⟩
section
variable{P:Program}{w:World}{H:Hp}{h:Heap}{a:Addr}
theorem JL{u:HO}(ok:qd P w H h)(e:Rd H a u):gQ P w H h a u:=e.ok ok
theorem yY{kvs:List (dB×V)}(ok:qd P w H h)(e:Rd H a (.dK kvs)):kvs.length<=sizeLine/\(a==sysModules)=false/\∃vs,KV kvs vs/\h.DictOf (d8 P w) a vs:=
 show gQ P w H h a (.dK kvs) from JL ok e
theorem oa{kvs:List (dB×V)}(ok:qd P w H h)(e:H a=some (.dK kvs)):kvs.length<=sizeLine/\(a==sysModules)=false/\∃vs,KV kvs vs/\h.DictOf (d8 P w) a vs:=yY ok (.inl e)
theorem BB{ks:List dB}(ok:qd P w H h)(e:H a=some (.tup (ks.map kV))):(tupleKind (d8 P w)).is h ks a:=by
 obtain⟨_,its,r,o,h1,h2,n,h3⟩:=(show gQ P w H h a (.tup (ks.map kV)) from ok a _ e)
 exact⟨o,its.toArray,n,h1,h2.1,h3,by simpa using v8 r⟩
theorem CG{kvs:List (List dB×V)}(ok:qd P w H h)(e:Rd H a (.dT kvs)):kvs.length<=sizeLine/\(a==sysModules)=false/\
  ∃xs,KT H kvs xs/\h.DictOfH (tupleKind (d8 P w)) a xs:=by
 obtain⟨z,y,xs,r,o,es,ep,h1,h2,h3,h4,h5⟩:=(show gQ P w H h a (.dT kvs) from JL ok e)
 refine⟨z,y,xs,r,o,es,ep,h1,h2,h3,h4,λx hx=>?_,h5⟩
 have all:∀{l:List (List dB×V)} {m:List (List dB×Addr×Value)},KT H l m->∀x∈m,(tupleKind (d8 P w)).is h x.1 x.2.1:=by
  intro l m q
  induction q with
  |nil=>intro x hx;exact nomatch hx
  |@cons p q ps qs hq t ih=>
   intro x hx
   rcases bp.mp hx with e|hx
   ·subst e
    exact BB ok (by rw[<-hq.1];exact hq.2.1)
   ·exact ih x hx
 exact all r x hx
theorem LP{kvs:List (List dB×V)}(ok:qd P w H h)(e:H a=some (.dT kvs)):kvs.length<=sizeLine/\(a==sysModules)=false/\
  ∃xs,KT H kvs xs/\h.DictOfH (tupleKind (d8 P w)) a xs:=CG ok (.inl e)
end
def sv(H:Hp)(a:Addr)(y:V)(r:Option V):Prop:=
 (∃kvs k,Rd H a (.dK kvs)/\y=kV k/\r=gE kvs k)\/∃kvs k b,Rd H a (.dT kvs)/\y=.ref b/\H b=some (.tup (k.map kV))/\r=gE kvs k
def u2(H:Hp)(a:Addr)(y v:V)(H':Hp):Prop:=
 (∃kvs k,H a=some (.dK kvs)/\y=kV k/\kvs.length<sizeLine/\H'=upd H a (.dK (iz kvs k v)))\/
 ∃kvs k b,H a=some (.dT kvs)/\y=.ref b/\H b=some (.tup (k.map kV))/\kvs.length<sizeLine/\H'=upd H a (.dT (iz kvs k v))
theorem sv.k{H:Hp}{a:Addr}{kvs:List (dB×V)}{k:dB}(e:H a=some (.dK kvs)):sv H a (kV k) (gE kvs k):=.inl ⟨kvs,k,.inl e,rfl,rfl⟩
theorem u2.k{H:Hp}{a:Addr}{kvs:List (dB×V)}{k:dB}{v:V}(e:H a=some (.dK kvs))(hl:kvs.length<sizeLine):u2 H a (kV k) v (upd H a (.dK (iz kvs k v))):=.inl ⟨kvs,k,e,rfl,hl,rfl⟩
section
variable{X:Cx}{pins:List (Addr×Obj)}{σ:St}{H:Hp}{s:Shared}{a:Addr}{y v:V}{u r:Value}{o:Option V}{A:Around}{E:Value->Shared->Prop}
theorem bQ.big(I:bQ X pins σ H s):sysModules<s.heap.objs.size:=by
 have h:mainGlobals<s.heap.objs.size:=(I.mod.glob.keeps I.bk).lt
 exact Nat.lt_trans (by decide) h
theorem Do{Q:Value->Shared->Prop}(hu:A.units+1<cLine)(I:bQ X pins σ H s)(g:sv H a y (some v))(ry:cP y u)(h:∀w' s',bQ X pins σ H s'->cP v w'->Q w' s') :
  wpAny (model X.prog X.w) A (getItem (.ref a) u) Q E s:=by
 rcases g with⟨kvs,k,e,ey,l⟩|⟨kvs,k,b,e,ey,eb,l⟩
 ·subst ey
  obtain⟨z,hd,vs,rel,dd⟩:=yY I.hok e
  obtain⟨w',hw,rw'⟩:=nX.some_of (v:=v) (o:=valueAt vs k) (by rw[l];exact rel.val k)
  exact wpAny_getItem_of (zb ry) dd.mapOf hw (h w' _ (I.tok _) rw')
 ·subst ey
  cases(show u=Value.ref b from ry)
  obtain⟨z,hd,xs,rel,dd⟩:=CG I.hok e
  obtain⟨w',hw,rw'⟩:=nX.some_of (v:=v) (o:=(atKey xs k).map (·.2)) (by rw[l];exact rel.val k)
  obtain⟨p,hp,hp2⟩:=Option.map_eq_some_iff.mp hw
  refine wpAny_getItem_heap (tupleKind_room_in1 hu) (BB I.hok eb) dd hp ?_
  rw[hp2]
  exact h w' _ (I.tok _) rw'
theorem sN{h':Heap}{t':Nat}{ob:HO}(I:bQ X pins σ H s)(mu:LG (H a))(hs:Heap.SameBut a s.heap h')(he:∃q,h'.get? a=some q)(new:gQ X.prog X.w (upd H a ob) h' a ob) :
  bQ X pins σ (upd H a ob) {s with heap:=h',toks:=t'}:=
 I.write (x:=a) (e:=a) mu (.inl rfl) (λb q hb z=>(hs.2 b hb).trans z) he new
theorem tM{P:Program}{w:World}{H':Hp}{h':Heap}{kvs:List (dB×V)}{vs:List (dB×Value)}(z:kvs.length<=sizeLine)(hd:(a==sysModules)=false)(rel:KV kvs vs)(dd:h'.DictOf (d8 P w) a vs) :
  gQ P w H' h' a (.dK kvs):=⟨z,hd,vs,rel,dd⟩
theorem Ds{H':Hp}{Q:Unit->Shared->Prop}(hu:A.units+1<cLine)(I:bQ X pins σ H s)(g:u2 H a y v H')(ry:cP y u)(rv:cP v r)(h:∀s',bQ X pins σ H' s'->Q () s') :
  wpAny (model X.prog X.w) A (setItem (.ref a) u r) Q E s:=by
 rcases g with⟨kvs,k,e,ey,l,eH⟩|⟨kvs,k,b,e,ey,eb,l,eH⟩
 ·subst ey eH
  obtain⟨z,hd,vs,rel,dd⟩:=oa I.hok e
  have hz:vs.length<=sizeLine:=by rw[<-rel.length];exact z
  have hl:(iz kvs k v).length<=sizeLine:=by have:=ia kvs k v;lia
  refine wpAny_setItem_pairs (hsz:=hz) (zb ry) dd λh' dd' hs=>h _ ?_
  have he:∃q,h'.get? a=some q:=let⟨q,_,_,hq,_⟩:=dd';⟨q,hq⟩
  exact sN I (by rw[e];exact True.intro) hs he (tM hl hd (rel.put k rv) dd')
 ·subst ey eH
  cases(show u=Value.ref b from ry)
  obtain⟨z,hd,xs,rel,dd⟩:=LP I.hok e
  have hz:xs.length<=sizeLine:=by rw[<-Paired.length rel];exact z
  have hl:(iz kvs k v).length<=sizeLine:=by have:=ia kvs k v;lia
  refine wpAny_setItem_heap (hsz:=hz) (tupleKind_room_in1 hu) (BB I.hok eb) dd λh' dd' hs=>h _ ?_
  obtain⟨q,es,ep,hq,h2,h3,h4,_,h5⟩:=dd'
  refine sN I (by rw[e];exact True.intro) hs ⟨q,hq⟩ ⟨hl,hd,_,(rel.put k eb rv).keeps λc ys ec=>?_,q,es,ep,hq,h2,h3,h4,h5⟩
  rw[aw (fP ec e (λz=>nomatch z))]
  exact ec
end
section
variable{X:Cx}{pins:List (Addr×Obj)}{σ:St}{H:Hp}{s:Shared}{a:Addr}{kvs:List (dB×V)}{k:dB}{u:Value}{A:Around}{E:Value->Shared->Prop}
theorem Hh{Q:Value->Shared->Prop}(I:bQ X pins σ H s)(e:H a=some (.dK kvs))(h:∀s',bQ X pins σ (upd H a (.dK [])) s'->Q .none s'):wpAny (model X.prog X.w) A (call (.builtin "dict.clear") [.ref a]) Q E s:=by
 obtain⟨z,hd,vs,rel,dd⟩:=oa I.hok e
 refine call_meetsIn PySem.F.slot_dict_clear dd.typeIs PySem.F.entry_dict_clear (PySem.F.args_dict_clear_1 _) (meets_dict_clear (d8 X.prog X.w) a) ⟨vs,dd,by rw[<-rel.length];exact z,λh' dd' hs=>h _ ?_⟩
 have he:∃q,h'.get? a=some q:=let⟨q,_,_,hq,_⟩:=dd';⟨q,hq⟩
 exact sN (t':=s.toks) I (by rw[e];exact True.intro) hs he (tM (cA _) hd .nil dd')
end
def JP(i:Expr):Prop:=∀ov iv,subscripted i false ov iv=operate [ov,iv] (getItem ov iv)
theorem Jo{prog:Program}{w:World}{A:Around}{E:Value->Shared->Prop}{s:Shared}{env:Env}{value slice:Expr}{pos:Pos}{T id:String}{Q:Value->Shared->Prop}
  (hl:typeLookup (.type T) "__getitem__"=pure (some (.builtin id))) (hs:JP slice)
  (h:wpAny (model prog w) A (eval value env) (λo s₁=>wpAny (model prog w) A (eval slice env) (λi s₂=>s₂.TypeIs o T/\wpAny (model prog w) A (getItem o i) Q E s₂) E s₁) E s) :
  wpAny (model prog w) A (eval (.Subscript value slice pos) env) Q E s:=by
 refine Subscript_ (wpAny_mono h (λo s₁ h₁=>wpAny_mono h₁ (λi s₂ h₂=>?_) λ_ _ x=>x) λ_ _ x=>x)
 obtain⟨hT,h₂⟩:=h₂
 unfold subscriptTail
 refine wpAny_bind ?_
 rw[getitemInPython_of_ne hT.not_modules]
 refine wpAny_bind (wpAny_specialOf hT hl ?_)
 have fin:wpAny (model prog w) A (subscripted slice false o i) (λr s₃=>wpAny (model prog w) A (letTemporaryGo value o r >>= λ_=>pure r) Q E s₃) E s₂:=by
  rw[hs o i]
  exact wpAny_operating (wpAny_mono h₂ (λr s₃ h₃=>wpAny_bind (wpAny_letTemporaryGo (wpAny_pure h₃))) λ_ _ x=>x)
 first
  |exact wpAny_pure (wpAny_bind fin)
  |exact wpAny_bind (wpAny_pure (wpAny_bind fin))
  |exact wpAny_bind fin
theorem yX{X:Cx}{pins:List (Addr×Obj)}{σ:St}{H:Hp}{s:Shared}{a:Addr}{y:V}{o:Option V}(I:bQ X pins σ H s)(g:sv H a y o):s.TypeIs (.ref a) "dict":=by
 rcases g with⟨kvs,k,e,_,_⟩|⟨kvs,k,b,e,_,_,_⟩
 ·obtain⟨_,_,vs,_,dd⟩:=yY I.hok e
  exact dd.typeIs
 ·obtain⟨_,_,xs,_,dd⟩:=CG I.hok e
  exact dd.typeIs
def ox(td ty:TE):TE:=λσ H Q=>td σ H λx H1=>ty σ H1 λy H2=>∃a v,x=.ref a/\sv H2 a y (some v)/\Q v H2
section
variable{X:Cx}{o i e value:Expr}{pos pos' tpos:Pos}{td ty tv:TE}
theorem Il(hu:X.A.units+1<cLine)(ho:PE X o td)(hi:PE X i ty)(hs:JP i):PE X (.Subscript o i pos) (ox td ty):=by
 intro pins s σ H Q I h
 refine Jo PySem.F.slot_dict_getitem.lookup hs (fK (ho pins s σ H _ I h) λu s1 ⟨x,H1,I1,rx,q1⟩=>fK (hi pins s1 σ H1 _ I1 q1) λiv s2 ⟨y,H2,I2,ry,a,v,ex,g,q2⟩=>?_)
 subst ex
 obtain rfl:u=Value.ref a:=rx
 exact⟨yX I2 g,Do hu I2 g ry λw' s3 I3 rw'=>⟨v,H2,I3,rw',q2⟩⟩
end
theorem EW{P:Program}{w:World}{H:Hp}(h:Heap)(hb:sysModules<h.objs.size):gQ P w H (h.push {cls:=.type "dict",data:=.dict #[]}) h.objs.size (.dK []):=
 ⟨cA _,beq_eq_false_iff_ne.mpr (Ne.symm (bt hb)),[],.nil,Heap.DictOf.new h⟩
section
variable{X:Cx}{pos:Pos}
end
def Ce:List (TE×TE)->St->Hp->(List (V×V)->Hp->Prop)->Prop
 |[],_,H,Q=>Q [] H
 |(tk,tv)::r,σ,H,Q=>tk σ H λx H1=>tv σ H1 λy H2=>Ce r σ H2 λps H3=>Q ((x,y)::ps) H3
abbrev VV:List (V×V)->List (Value×Value)->Prop:=Paired λp q=>cP p.1 q.1/\cP p.2 q.2
def LJ(X:Cx)(pos:Pos)(keys:List (Option Expr))(values:List Expr)(trs:List (TE×TE)):Prop:=
 ∀(pins:List (Addr×Obj)) (s:Shared) (σ:St) (H:Hp) (Q:List (V×V)->Hp->Prop),bQ X pins σ H s->Ce trs σ H Q->
  wpAny (model X.prog X.w) X.A (evalPairs (pairTrees keys values X.env pos)) (λvs s'=>∃ps H',bQ X pins σ H' s'/\VV ps vs/\Q ps H') X.xe s
theorem IC{X:Cx}{pos:Pos}:LJ X pos [] [] []:=λpins s σ H Q I h=>pairTrees_nil_walk ⟨[],H,I,.nil,h⟩
theorem FT{X:Cx}{pos:Pos}{k v:Expr}{ks:List (Option Expr)}{vs:List Expr}{tk tv:TE}{trs:List (TE×TE)}(hk:PE X k tk)(hv:PE X v tv)(hr:LJ X pos ks vs trs) :
  LJ X pos (some k::ks) (v::vs) ((tk,tv)::trs):=λpins s σ H Q I h=>
 pairTrees_cons_walk (fK (hk pins s σ H _ I h) λu s1 ⟨x,H1,I1,rx,q1⟩=>fK (hv pins s1 σ H1 _ I1 q1) λw2 s2 ⟨y,H2,I2,ry,q2⟩=>
  fK (hr pins s2 σ H2 _ I2 q2) λws s3 ⟨ps,H3,I3,rel,q3⟩=>⟨(x,y)::ps,H3,I3,.cons ⟨rx,ry⟩ rel,q3⟩)
def fO(kvs more:List (dB×V)):List (dB×V):=more.foldl (λacc kv=>iz acc kv.1 kv.2) kvs
theorem KV.merge:∀{more:List (dB×V)} {rs:List (dB×Value)} {kvs:List (dB×V)} {vs:List (dB×Value)},KV more rs->KV kvs vs->KV (fO kvs more) (merged vs rs):=by
 intro more rs kvs vs r
 unfold KV at r
 induction r generalizing kvs vs with
 |nil=>intro q;exact q
 |@cons p q ps qs h t ih=>
  intro r0
  have e:KV (iz kvs p.1 p.2) (stored vs q.1 q.2):=by
   have:=r0.put p.1 h.2
   rw[<-h.1];exact this
  exact ih e
theorem ke:∀(more kvs:List (dB×V)),(fO kvs more).length<=kvs.length+more.length
 |[],kvs=>by show kvs.length<=kvs.length+0;lia
 |p::r,kvs=>by
  have h1:=ke r (iz kvs p.1 p.2)
  have h2:=ia kvs p.1 p.2
  show(fO (iz kvs p.1 p.2) r).length<=_
  rw[cf];lia
theorem tF{P:Program}{w:World}:∀{kvs:List (dB×V)} {ws:List (Value×Value)},VV (kvs.map λkv=>(kV kv.1,kv.2)) ws->∃rs,Carries (d8 P w) ws rs/\KV kvs rs
 |[],_,r=>by rw[dS] at r;cases r;exact⟨[],True.intro,.nil⟩
 |p::kvs,_,r=>by
  rw[bJ] at r
  cases r with
  |@cons a b as bs h t=>
   obtain⟨rs,c,q⟩:=tF (P:=P) (w:=w) t
   obtain⟨b1,b2⟩:=b
   exact⟨(p.1,b2)::rs,⟨zb h.1,rfl,c⟩,.cons ⟨rfl,h.2⟩ q⟩
def C2(trs:List (TE×TE)):TE:=λσ H Q=>∀p,H p=none->Ce trs σ (upd H p (.dK [])) λps H2=>H2 p=some (.dK [])/\∃kvs:List (dB×V),ps=kvs.map (λkv=>(kV kv.1,kv.2))/\kvs.length<=15/\Q (.ref p) (upd H2 p (.dK (fO [] kvs)))
theorem Im{X:Cx}{pos:Pos}{keys:List (Option Expr)}{values:List Expr}{trs:List (TE×TE)}(h:LJ X pos keys values trs)(hall:keys.all (·.isSome)=true)(hl:keys.length=values.length)(h0:keys≠[])
  (h15:keys.length<=15):PE X (.Dict keys values pos) (C2 trs):=by
 intro pins s σ H Q I q
 have hn:=I.hok.fresh (aC s.heap.objs.size)
 have I1:=I.laid (a:=s.heap.objs.size) (o:=.dK []) (h':=s.heap.push {cls:=.type "dict",data:=.dict #[]}) (t':=s.toks) (λ_ _ q=>ak _ q) (aC _) (EW s.heap I.big)
 refine wpAny_Dict_walk (knd:=d8 X.prog X.w) hall hl h0 h15 (fK (h pins _ σ _ _ I1 (q _ hn)) λws s2 ⟨ps,H2,I2,rel,e,kvs,ep,lk,q2⟩=>?_)
 subst ep
 obtain⟨rs,c,rk⟩:=tF (P:=X.prog) (w:=X.w) rel
 obtain⟨z,hd,vs0,r0,dd⟩:=oa I2.hok e
 cases r0
 refine⟨rs,c,dd,λh' dd' hs=>⟨.ref s.heap.objs.size,_,?_,rfl,q2⟩⟩
 have hz:(fO [] kvs).length<=sizeLine:=by
  have h1:=ke kvs []
  rw[iR] at h1
  rw[sizeLine_eq];lia
 have he:∃q,h'.get? s.heap.objs.size=some q:=let⟨q,_,_,hq,_⟩:=dd';⟨q,hq⟩
 exact sN I2 (by rw[e];exact True.intro) hs he (tM hz hd (rk.merge .nil) dd')
def Na(H:Hp)(a:Addr):Prop:=(∃kvs,Rd H a (.dK kvs))\/∃kvs,Rd H a (.dT kvs)
theorem Fc{X:Cx}{pins:List (Addr×Obj)}{σ:St}{H:Hp}{s:Shared}{a:Addr}(I:bQ X pins σ H s)(d:Na H a) :
  s.TypeIs (.ref a) "dict"/\(∀b,Value.ref a=.ref b->∃ob,s.heap.get? b=some ob/\ob.dict=none)/\(a==sysModules)=false:=by
 rcases d with⟨kvs,e⟩|⟨kvs,e⟩
 ·obtain⟨_,hd,vs,_,dd⟩:=yY I.hok e
  refine⟨dd.typeIs,λb q=>?_,hd⟩
  cases q
  obtain⟨ob,_,_,h1,h2,_⟩:=dd
  exact⟨ob,h1,h2.2.1⟩
 ·obtain⟨_,hd,xs,_,dd⟩:=CG I.hok e
  refine⟨dd.typeIs,λb q=>?_,hd⟩
  cases q
  obtain⟨ob,_,_,h1,h2,_⟩:=dd
  exact⟨ob,h1,h2.2.1⟩
section
variable{X:Cx}{pins:List (Addr×Obj)}{σ:St}{H:Hp}{s:Shared}{a:Addr}{y d:V}{u r:Value}{o:Option V}{A:Around}{E:Value->Shared->Prop}
end
section
variable{X:Cx}{o e f:Expr}{apos cpos:Pos}{td ty tx:TE}
end
section
variable{X:Cx}{pins:List (Addr×Obj)}{σ:St}{H:Hp}{s:Shared}{a:Addr}{kvs:List (dB×V)}{A:Around}{E:Value->Shared->Prop}
theorem EL{Q:Value->Shared->Prop}(I:bQ X pins σ H s)(e:Rd H a (.dK kvs))(h:∀p s',H p=none->bQ X pins σ (upd H p (.dK kvs)) s'->Q (.ref p) s'):wpAny (model X.prog X.w) A (call (.type "dict") [.ref a]) Q E s:=by
 obtain⟨z,hd,vs,rel,dd⟩:=yY I.hok e
 refine kt_call_dict hd dd (by rw[<-rel.length];exact z) λh' dd' hs=>?_
 refine h _ _ (I.hok.fresh (aC _)) (I.laid (a:=s.heap.objs.size) (o:=.dK kvs) (t':=s.toks) (λb q hq=>?_) (aC _) (tM z (beq_eq_false_iff_ne.mpr (Ne.symm (bt I.big))) rel dd'))
 exact(hs.2 b (bt (aH hq))).trans (ak _ hq)
end
section
variable{X:Cx}{pins:List (Addr×Obj)}{σ:St}{H:Hp}{s:Shared}{a:Addr}{y:V}{u:Value}{A:Around}{E:Value->Shared->Prop}
end
section
variable{X:Cx}
end
section
variable{κ:Type}[DecidableEq κ]
theorem GP{kvs:List (κ×V)}{k:κ}(h:gE kvs k=none):¬k∈kvs.map (·.1):=by
 intro m
 obtain⟨p,hp,e⟩:=dU.mp m
 have q:(kvs.any λkv=>decide (kv.1=k))=true:=mh.mpr ⟨p,hp,decide_eq_true e⟩
 rw[ku,h] at q
 exact absurd q (by simp)
theorem Jt{kvs:List (κ×V)}{k:κ}{v:V}(h:gE kvs k=some v):k∈kvs.map (·.1):=by
 have q:(kvs.any λkv=>decide (kv.1=k))=true:=by
  rw[ku,h]
  all_goals rfl
 obtain⟨p,hp,e⟩:=mh.mp q
 exact dU.mpr ⟨p,hp,of_decide_eq_true e⟩
theorem CP:∀{l:List κ} {k:κ},l.Nodup->¬k∈l->(l++[k]).Nodup
 |[],k,_,_=>by simp
 |a::r,k,h,hk=>by
  obtain⟨h1,h2⟩:=dO.mp h
  show(a::(r++[k])).Nodup
  refine dO.mpr ⟨λm=>?_,CP h2 λm=>hk (bp.mpr (Or.inr m))⟩
  rcases aP.mp m with q|q
  ·exact h1 q
  ·exact hk (bp.mpr (Or.inl (au.mp q).symm))
theorem HM{kvs:List (κ×V)}{k:κ}(v:V)(hn:(kvs.map (·.1)).Nodup)(h:gE kvs k=none):((iz kvs k v).map (·.1)).Nodup:=by
 rw[zK v h,bw]
 exact CP hn (GP h)
end
def uk:V->V->V->Hp->(Hp->Prop)->Prop:=λo i v H Q=>∃a H',o=.ref a/\u2 H a i v H'/\Q H'
section
variable{X:Cx}
theorem mF(hu:X.A.units+1<cLine):G7 X uk:=by
 intro pins s σ H o i v ov iv u Q I ro ri rv h
 obtain⟨a,H',rfl,g,q⟩:=h
 cases ro
 exact Ds hu I g ri rv λs' I'=>⟨H',I',q⟩
end
structure G2(K:Fg)(x qual:Str)(st:Stmt)(dV:Value)(f:Addr)(fd:FuncData):Prop where
 ex:∃(oc:Value) (od:Option Addr) (kV doc pm:Value) (an:Option Addr) (cdv ct:Value) (osl:Array (Option Value)),
  fd=aI x qual (bB st) (aL st) (ag st) dV kV doc pm an cdv ct/\K.lookup f=some ⟨oc,od,.func fd,osl⟩/\aE K cdv qual=true
 kp:aA K (.ref f)=true
section
variable{P:Program}{w:World}{K:Fg}{mg:Str->Option Value}{base:Heap}
theorem G2.ok{x qual:Str}{st:Stmt}{dV:Value}{f:Addr}{fd:FuncData}{N ps:List Str}{k:Nat}{sp:Sp}(F:G2 K x qual st dV f fd)(S:bM N ps (ag st))(len:∀vs H Q E,sp vs H Q E->vs.length=ps.length)
  (hbody:∀(cdv:Value) (A:Around) (outer:List Env) (s:Shared) (H:Hp) (vs:List V) (Q:VK) (E:XK),cD k (A.deeper (envOfC qual (ag st) s.heap.objs.size f cdv))->sp vs H Q E->
   ∃t,jV (eO eT P w K mg base N qual (ag st) f cdv A outer s H E).nox (aL st) t/\t {nx:=λ_ H'=>Q .non H',rt:=Q} (cN N vs) H):dt P w K mg base eT (k+1) f fd ps sp:=by
 obtain⟨oc,od,kV,doc,pm,an,cdv,ct,osl,rfl,lk,hcd⟩:=F.ex
 refine Jy lk hcd S len λA outer s H vs Q E hr hsp=>?_
 obtain⟨t,h,q⟩:=hbody cdv A outer s H vs Q E hr hsp
 exact⟨t,h.nox,q⟩
theorem Hv{x qual:Str}{st:Stmt}{dV:Value}{f:Addr}{oc:Value}{od an:Option Addr}{osl:Array (Option Value)}{kV doc pm cdv ct:Value}(l:K.lookup f=some ⟨oc,od,.func (aI x qual (bB st) (aL st) (ag st) dV kV doc pm an cdv ct),osl⟩)
  (c:aE K cdv qual=true) (k:aA K (.ref f)=true):G2 K x qual st dV f (aI x qual (bB st) (aL st) (ag st) dV kV doc pm an cdv ct):=⟨⟨oc,od,kV,doc,pm,an,cdv,ct,osl,rfl,l,c⟩,k⟩
end
structure qe(P:Program)(w:World)(K:Fg)(mg:Str->Option Value)(base:Heap)(x:Str)(ps:List Str)(k:Nat)(dvs:List V)(sp:Sp):Prop where
 ex:∃(f:Addr) (fd:FuncData) (ds:List Value),mg x=some (.ref f)/\aA K (.ref f)=true/\kJ K fd ps ds/\ck dvs ds/\dt P w K mg base eT k f fd ps sp
theorem Kx{X:Cx}{x:Str}{ps:List Str}{k:Nat}{dvs:List V}{sp:Sp}{e:Expr}{es:List Expr}{t:TA}{p pos:Pos}(c:qe X.prog X.w X.K X.mg X.base x ps k dvs sp)(hr:cD k X.A)(hg:Gl X x)(ha:PA X (e::es) t)
  (hdb:(x==("__debug__":Str))=false:=by decide) (he:starEach (e::es) X.env=(false,eval e X.env)::starEach es X.env:=by rfl) (hpl:(backTo pos (starEach es X.env)).any (·.1)=false:=by rfl) :
  PE X (.Call (.Name x p) (e::es) [] pos) (bL sp dvs E0 t):=by
 obtain⟨f,fd,ds,hm,hk,hb,hd,F⟩:=c.ex
 exact CS F hr hg hm hk hb hd wb ha hdb he hpl
structure Mv(X:Cx)(pos:Pos)(keys:List (Option Expr))(values:List Expr)(trs:List (TE×TE)):Prop where
 up:LJ X pos keys values trs
theorem IR{X:Cx}{pos:Pos}:Mv X pos [] [] []:=⟨IC⟩
theorem uj{X:Cx}{pos:Pos}{k v:Expr}{ks:List (Option Expr)}{vs:List Expr}{tk tv:TE}{trs:List (TE×TE)}(hk:QE X k tk)(hv:QE X v tv)(hr:Mv X pos ks vs trs):Mv X pos (some k::ks) (v::vs) ((tk,tv)::trs):=⟨FT hk.up hv.up hr.up⟩
theorem IL{X:Cx}{pos:Pos}{keys:List (Option Expr)}{values:List Expr}{trs:List (TE×TE)}(h:Mv X pos keys values trs)(hall:keys.all (·.isSome)=true)(hl:keys.length=values.length)(h0:keys≠[])(h15:keys.length<=15):QE X (.Dict keys values pos) (C2 trs):=⟨Im h.up hall hl h0 h15⟩
theorem K6{X:Cx}{x:Str}{ps:List Str}{k:Nat}{dvs:List V}{sp:Sp}{e:Expr}{es:List Expr}{t:TA}{p pos:Pos}(c:qe X.prog X.w X.K X.mg X.base x ps k dvs sp)(hr:cD k X.A)(hg:Gl X x)(ha:QA X (e::es) t)
  (hdb:(x==("__debug__":Str))=false:=by decide) (he:starEach (e::es) X.env=(false,eval e X.env)::starEach es X.env:=by rfl) (hpl:(backTo pos (starEach es X.env)).any (·.1)=false:=by rfl) :
  QE X (.Call (.Name x p) (e::es) [] pos) (bL sp dvs E0 t):=⟨Kx c hr hg ha.up hdb he hpl⟩
end L2
end
section
namespace PySem.W
open PySem PySem.Calls PyProof.Rows PyProof.V PySem.Spec
section
variable{prog:Program}{w:World}{A:Around}{E:Value->Shared->Prop}{s:Shared}{r l:Addr}
end
end PySem.W
namespace L2
open PySem PySem.Spec PyProof.Rows
section
variable{X:Cx}
end
end L2
end
section
namespace HT
open PySem PyProof.Rows
section
variable{prog:Program}{w:World}{A:Around}{E:Value->Shared->Prop}{s:Shared}
end
end HT
namespace L2
open PySem PySem.Spec PyProof.Rows
section
variable{X:Cx}
end
end L2
end
section
namespace PySem
open Sem (wp)
theorem zp:typeLookup (.type "zip") "keys"=pure none:=by rw[typeLookup_type,builtinLookup_eq_fast];kernel_rfl
theorem rH:typeLookup (.type "zip") "__getattr__"=pure none:=by rw[typeLookup_type,builtinLookup_eq_fast];kernel_rfl
theorem mW:entryFor table "zip.__getattribute__"=some Builtin.«object.__getattribute__»:=
 entryFor_alias (id':="object.__getattribute__") (by kernel_rfl) (by decide +kernel) (by decide +kernel) (by kernel_rfl)
theorem kP(a:Addr)(fs:Array Value)(sl:Array (Option Value))(name:Str)(u:Tok)(hmiss:typeLookup (.type "zip") name=pure none)(hname:(["__module__","__name__","__qualname__","__doc__","__annotations__"]:List Str).contains name=false)(hsz:name.length+100<=sizeLine:=by size_fits) :
  Meets (Builtin.«object.__getattribute__» ⟨[.ref a,.str name u],[]⟩) (λA R s=>s.heap.get? a=some {cls:=.type "zip",dict:=none,data:=.fields fs,slots:=sl}/\raisesAttr (.ref a) name A R s):=
 Meets.of_wp λprog w A R s hs=>by
  obtain⟨hp,g,d,tk,os⟩:=s
  obtain⟨hx,hs⟩:=hs
  have hT:(⟨hp,g,d,tk,os⟩:Shared).TypeIs (.ref a) "zip":=⟨_,hx,rfl⟩
  unfold Builtin.«object.__getattribute__»
  repeat (any_goals (first|assumption|wp_step))
  simp only[hname,Bool.false_eq_true,if_false]
  repeat (any_goals (first|assumption|wp_step))
  exact wpAny_raiseAttrError hs.1 hs.2 (attrMsg_fits (by decide +kernel) hsz)
theorem Fn{prog:Program}{w:World}{A:Around}{E:Value->Shared->Prop}{s:Shared}{a:Addr}{fs:Array Value}{Q:Option Value->Shared->Prop}{sl:Array (Option Value)}
  (hx:s.heap.get? a=some {cls:=.type "zip",dict:=none,data:=.fields fs,slots:=sl}) (hA:A.handled=none)
  (h:∀h' tk,(∀b u,s.heap.get? b=some u->h'.get? b=some u)->Q none {s with heap:=h',toks:=tk}):wpAny (model prog w) A (getAttr? (.ref a) "keys") Q E s:=by
 obtain⟨hp,g,d,tk,os⟩:=s
 have hT:∀tk',(⟨hp,g,d,tk',os⟩:Shared).TypeIs (.ref a) "zip":=λ_=>⟨_,hx,rfl⟩
 have f1:=sub_AttributeError
 have f3:=F.slot_zip_getattribute.lookup
 have f4:=F.slot_zip_getattribute.bind (.ref a)
 have f5:=rH
 unfold getAttr? getAttrBy? getAttrBy
 repeat (any_goals (first|assumption|exact hT _|((with_reducible show wpAny _ _ (call (Value.builtin "zip.__getattribute__") _ _) _ _ _);refine call_meets F.slot_zip_getattribute (hT _) mW (F.args_zip_getattribute_2 _ _) (kP a fs sl "keys" _ zp (by decide +kernel) (by decide +kernel)) ⟨hx,hA,λh' tk' e hx'=>?_⟩)|wp_step))
 obtain⟨t',u',he⟩:=hx'.there
 show wpAny _ _ (getattributeRaised _ _ _ _ _ _ _) _ _ _
 unfold getattributeRaised
 repeat (any_goals (first|assumption|wp_step))
 exact h _ _ hx'.keeps
namespace F
theorem entry_dict_update_loop:entryFor table "dict.update.loop"=some Builtin.«dict.update.loop»:=entryFor_of_tree (by kernel_rfl)
theorem plain_dict_update_loop:plainId "dict.update.loop"=true:=by decide +kernel
end F
def iG(tp:Bool)(h:Heap)(i l:Addr)(k:Nat):Prop:=match tp with
 |true=>h.IsTupleIter i l k
 |false=>h.IsListIter i l k
def eM(tp:Bool)(h:Heap)(l:Addr)(xs:Array Value):Prop:=match tp with
 |true=>h.IsTuple l xs
 |false=>h.IsList l xs
theorem iG.at{tp:Bool}{h h':Heap}{i l:Addr}{k:Nat}(x:iG tp h i l k)(e:∀o,h.get? i=some o->h'.get? i=some o):iG tp h' i l k:=by
 cases tp with
 |true=>exact Heap.IsTupleIter.at (show h.IsTupleIter i l k from x) e
 |false=>exact Heap.IsListIter.at (show h.IsListIter i l k from x) e
theorem eM.at{tp:Bool}{h h':Heap}{l:Addr}{xs:Array Value}(x:eM tp h l xs)(e:∀o,h.get? l=some o->h'.get? l=some o):eM tp h' l xs:=by
 cases tp with
 |true=>obtain⟨o,ho,r⟩:=(show h.IsTuple l xs from x);exact⟨o,e o ho,r⟩
 |false=>exact Heap.IsList.at (show h.IsList l xs from x) e
theorem iG.extBut{tp:Bool}{h h':Heap}{i l b:Addr}{k:Nat}(x:iG tp h i l k)(hs:Heap.ExtBut b h h')(n:i≠b):iG tp h' i l k:=x.at λo e=>hs i o n e
theorem eM.extBut{tp:Bool}{h h':Heap}{l b:Addr}{xs:Array Value}(x:eM tp h l xs)(hs:Heap.ExtBut b h h')(n:l≠b):eM tp h' l xs:=x.at λo e=>hs l o n e
theorem iG.lt{tp:Bool}{h:Heap}{i l:Addr}{k:Nat}(x:iG tp h i l k):i<h.objs.size:=by
 cases tp with
 |true=>obtain⟨o,ho,_⟩:=(show h.IsTupleIter i l k from x);exact aH ho
 |false=>obtain⟨o,ho,_⟩:=(show h.IsListIter i l k from x);exact aH ho
theorem eM.lt{tp:Bool}{h:Heap}{l:Addr}{xs:Array Value}(x:eM tp h l xs):l<h.objs.size:=by
 cases tp with
 |true=>obtain⟨o,ho,_⟩:=(show h.IsTuple l xs from x);exact aH ho
 |false=>obtain⟨o,ho,_⟩:=(show h.IsList l xs from x);exact aH ho
def y9(tp:Bool)(l:Addr):Obj:={cls:=.type (if tp then "tuple_iterator" else "list_iterator"),data:=.fields #[.ref l,.int 0 0]}
section
variable{prog:Program}{w:World}{A:Around}{E:Value->Shared->Prop}{s:Shared}
theorem uf{tp:Bool}{l:Addr}{xs:Array Value}{Q:Value->Shared->Prop}(hl:eM tp s.heap l xs)(hQ:Q (.ref s.heap.objs.size) {s with heap:=s.heap.push (y9 tp l)}):wpAny (model prog w) A (pyIter (.ref l)) Q E s:=by
 cases tp with
 |true=>exact wpAny_pyIter_tuple (show s.heap.IsTuple l xs from hl) hQ
 |false=>exact wpAny_pyIter_list (show s.heap.IsList l xs from hl) hQ
theorem y8{tp:Bool}{l:Addr}(h:Heap):iG tp (h.push (y9 tp l)) h.objs.size l 0:=by
 cases tp with
 |true=>exact⟨_,aN _ rfl,rfl,rfl⟩
 |false=>exact⟨_,aN _ rfl,rfl,rfl⟩
theorem qu{it t:Addr}{i:Nat}{items}{x:Value}{Q:Value->Shared->Prop}(hit:s.heap.IsTupleIter it t i)
  (ht:s.heap.IsTuple t items) (hx:items[i]?=some x)
  (hQ:∀h',h'.IsTupleIter it t (i+1)->Heap.SameBut it s.heap h'->Q x {s with heap:=h'}) :
  wpAny (model prog w) A (Builtin.SmallTypes.nextOf (.ref it)) Q E s:=by
 obtain⟨o,ho,hc,hd⟩:=id hit
 obtain⟨ol,hol,_,nl,hdl⟩:=ht
 unfold Builtin.SmallTypes.nextOf
 refine wpAny_bind (wpAny_callSpecial?_slot (name:=Str.ofString "__next__") hit.typeIs F.slot_tuple_iterator_next
  (wpAny_call_entry F.slot_tuple_iterator_next hit.typeIs F.entry_tuple_iterator_next ?_ (F.args_tuple_iterator_next_1 _)))
 show wpAny _ _ (field (.ref it) 0 >>= _) _ _ s
 refine wpAny_bind (wpAny_field ho hd (x:=.ref t) rfl ?_)
 show wpAny _ _ (if(Value.ref t==Value.none)=true then _ else _) _ _ s
 rw[if_neg (show ¬((Value.ref t==Value.none)=true) from Bool.false_ne_true)]
 show wpAny _ _ (field (.ref it) 1 >>= _) _ _ s
 refine wpAny_bind (wpAny_field ho hd (x:=.int i 0) rfl ?_)
 show wpAny _ _ (seqItems? (.ref t) >>= _) _ _ s
 refine wpAny_bind (wpAny_seqItems hol hdl ?_)
 simp only[gM,hx]
 refine wpAny_bind (wpAny_setField ho hd (by simp) (wpAny_pure ⟨x,rfl,wpAny_pure (hQ _ ?_ (Heap.SameBut.update ..))⟩))
 exact⟨_,Heap.get?_update_self _ ho (Obj.isFreed_of_fields (Obj.data_mapFields hd _)),(Obj.cls_mapFields ..).trans hc,by
  rw[Obj.data_mapFields hd];simp[rawInt]⟩
theorem rn{it t:Addr}{i:Nat}{items}{Q:Value->Shared->Prop}(hh:A.handled=none)
  (hit:s.heap.IsTupleIter it t i) (ht:s.heap.IsTuple t items) (hx:items[i]?=none)
  (hE:∀h' e,Heap.ExtBut it s.heap h'->(∃o,h'.get? e=some o/\o.cls=.type "StopIteration")->E (.ref e) {s with heap:=h'}):wpAny (model prog w) A (Builtin.SmallTypes.nextOf (.ref it)) Q E s:=by
 obtain⟨o,ho,hc,hd⟩:=id hit
 obtain⟨ol,hol,_,nl,hdl⟩:=ht
 unfold Builtin.SmallTypes.nextOf
 refine wpAny_bind (wpAny_callSpecial?_slot (name:=Str.ofString "__next__") hit.typeIs F.slot_tuple_iterator_next
  (wpAny_call_entry F.slot_tuple_iterator_next hit.typeIs F.entry_tuple_iterator_next ?_ (F.args_tuple_iterator_next_1 _)))
 show wpAny _ _ (field (.ref it) 0 >>= _) _ _ s
 refine wpAny_bind (wpAny_field ho hd (x:=.ref t) rfl ?_)
 show wpAny _ _ (if(Value.ref t==Value.none)=true then _ else _) _ _ s
 rw[if_neg (show ¬((Value.ref t==Value.none)=true) from Bool.false_ne_true)]
 show wpAny _ _ (field (.ref it) 1 >>= _) _ _ s
 refine wpAny_bind (wpAny_field ho hd (x:=.int i 0) rfl ?_)
 show wpAny _ _ (seqItems? (.ref t) >>= _) _ _ s
 refine wpAny_bind (wpAny_seqItems hol hdl ?_)
 simp only[gM,hx]
 refine wpAny_bind (wpAny_rule (wpAny_bind (wpAny_setField ho hd (by simp) ?_)))
 show wpAny _ _ (newExc (.type "StopIteration") [] >>= _) _ _ _
 refine wpAny_bind ?_
 simp only[newExc,newTuple]
 refine wpAny_bind (wpAny_newObj_type ?_ (by size_fits))
 refine wpAny_bind (m:=firstArgMember _ _) (wpAny_of_eq (a:=Value.none) (by first|rfl|(simp only[firstArgMember];rfl)) ?_)
 refine wpAny_newObj_type ?_ (by size_fits)
 simp only[raiseNew]
 refine wpAny_bind (wpAny_handled ?_)
 first|rw[show A.in1.handled=none from hh]|rw[hh]
 refine wpAny_bind (wpAny_pure (wpAny_throw ?_))
 exact hE _ _ (((Heap.SameBut.update ..).extBut.push _).push _) ⟨_,aN _ rfl,rfl⟩
theorem lP{tp:Bool}{it l:Addr}{i:Nat}{xs:Array Value}{x:Value}{Q:Value->Shared->Prop}(hit:iG tp s.heap it l i)(hl:eM tp s.heap l xs)(hx:xs[i]?=some x)
  (hQ:∀h',iG tp h' it l (i+1)->Heap.SameBut it s.heap h'->Q x {s with heap:=h'}):wpAny (model prog w) A (Builtin.SmallTypes.nextOf (.ref it)) Q E s:=by
 cases tp with
 |true=>exact qu hit hl hx hQ
 |false=>exact wpAny_nextOf_list_item hit hl hx hQ
theorem ub{tp:Bool}{it l:Addr}{i:Nat}{xs:Array Value}{Q:Value->Shared->Prop}(hh:A.handled=none)(hit:iG tp s.heap it l i)(hl:eM tp s.heap l xs)(hx:xs[i]?=none)
  (hE:∀h' e,Heap.ExtBut it s.heap h'->(∃o,h'.get? e=some o/\o.cls=.type "StopIteration")->E (.ref e) {s with heap:=h'}):wpAny (model prog w) A (Builtin.SmallTypes.nextOf (.ref it)) Q E s:=by
 cases tp with
 |true=>exact rn hh hit hl hx hE
 |false=>exact wpAny_nextOf_list_end hh hit hl hx hE
end
abbrev lU(h:Heap)(z TI TO T0:Addr)(b:Bool):Prop:=
 h.get? z=some {cls:=.type "zip",dict:=none,data:=.fields #[rawInt T0,.bool b,.bool false,.ref TI,.ref TO],slots:=#[]}
section
variable{prog:Program}{w:World}{A:Around}{E:Value->Shared->Prop}{s:Shared}{t1 t2:Bool}
theorem w9{a:Addr}{Q:Option Obj->Shared->Prop}(h:Q (s.heap.get? a) s):wpAny (model prog w) A (loadIfAlive a) Q E s:=λΓ p hin=>by
 show wp _ Γ (Sem.loadIfAlive a Sem.pure) _ _ p s
 rw[Sem.wp_loadIfAlive]
 exact wpAny_pure (M:=model prog w) (A:=A) (E:=E) h Γ p hin
theorem Ex{z TI TO T0 i1 i2 l1 l2:Addr}{k1 k2:Nat}{xs ys:Array Value}{x y:Value}{b:Bool}{oT:Obj}{Q:Value->Shared->Prop}(D:ZipApart z TI TO i1 i2 l1 l2)
  (hz:lU s.heap z TI TO T0 b) (hTI:IsPair s.heap TI (.ref i1) (.ref i2)) (hT0:s.heap.get? T0=some oT)
  (h1:iG t1 s.heap i1 l1 k1) (h2:iG t2 s.heap i2 l2 k2) (hl1:eM t1 s.heap l1 xs) (hl2:eM t2 s.heap l2 ys) (hx:xs[k1]?=some x) (hy:ys[k2]?=some y)
  (hQ:∀h',lU h' z TI TO T0 true->iG t1 h' i1 l1 (k1+1)->iG t2 h' i2 l2 (k2+1)->IsPair h' s.heap.objs.size x y->h'.objs.size=s.heap.objs.size+1->
   (∀c o,c≠z->c≠i1->c≠i2->s.heap.get? c=some o->h'.get? c=some o)->Q (.ref s.heap.objs.size) {s with heap:=h'}) :
  wpAny (model prog w) A (Builtin.«zip.__next__» ⟨[.ref z],[]⟩) (λfin s'=>∃v,fin=.done (.ret v)/\Q v s') E s:=by
 show wpAny _ _ (field (.ref z) 2 >>= _) _ _ _
 refine wpAny_bind (wpAny_field hz rfl (x:=.bool false) rfl ?_)
 show wpAny _ _ (field (.ref z) 3 >>= _) _ _ _
 refine wpAny_bind (wpAny_field hz rfl (x:=.ref TI) rfl ?_)
 refine wpAny_bind (wpAny_seqItems hTI rfl ?_)
 show wpAny _ _ (Builtin.SmallTypes.ownedTupleIsFree (.ref z) >>= _) _ _ _
 refine wpAny_bind ?_
 unfold Builtin.SmallTypes.ownedTupleIsFree
 refine wpAny_bind (wpAny_field hz rfl (x:=rawInt T0) rfl ?_)
 show wpAny _ _ (loadIfAlive (T0:Int).toNat >>= _) _ _ _
 have hn:(T0:Int).toNat=T0:=by lia
 rw[hn]
 refine wpAny_bind (w9 ?_)
 rw[hT0]
 show wpAny _ _ (field (.ref z) 1 >>= _) _ _ _
 refine wpAny_bind (wpAny_field hz rfl (x:=.bool b) rfl ?_)
 have key:∀h₁,lU h₁ z TI TO T0 true->Heap.SameBut z s.heap h₁->wpAny (model prog w) A (Builtin.SmallTypes.nextOf (.ref i1)) (λv1 s1=>v1=x/\wpAny (model prog w) A (Builtin.SmallTypes.nextOf (.ref i2)) (λv2 s2=>v2=y/\Q (.ref s2.heap.objs.size) {s2 with heap:=s2.heap.push {cls:=.type "tuple",data:=.seq #[x,y]}}) E s1) E {s with heap:=h₁}:=by
  intro h₁ hz₁ hs₁
  refine lP (h1.extBut hs₁.extBut D.i1z) (hl1.extBut hs₁.extBut D.l1z) hx λh₂ h1₂ hs₂=>⟨rfl,?_⟩
  refine lP ((h2.extBut hs₁.extBut D.i2z).extBut hs₂.extBut D.i12.symm) ((hl2.extBut hs₁.extBut D.l2z).extBut hs₂.extBut D.l2i1) hy λh₃ h2₃ hs₃=>⟨rfl,?_⟩
  have hsz:h₃.objs.size=s.heap.objs.size:=by rw[hs₃.1,hs₂.1,hs₁.1]
  have hz₃:lU h₃ z TI TO T0 true:=hs₃.extBut _ _ D.i2z.symm (hs₂.extBut _ _ D.i1z.symm hz₁)
  show Q (.ref h₃.objs.size) _
  rw[hsz]
  refine hQ _ (ak _ hz₃) ((h1₂.extBut hs₃.extBut D.i12).at λo e=>ak _ e) (h2₃.at λo e=>ak _ e) ?_ (by rw[eI,hsz]) λc o c1 c2 c3 e=>ak _ (hs₃.extBut _ _ c3 (hs₂.extBut _ _ c2 (hs₁.extBut _ _ c1 e)))
  rw[<-hsz];exact aN _ rfl
 cases b with
 |true=>
  rw[if_neg (by decide)]
  refine wpAny_pure ?_
  rw[if_neg (by decide)]
  simp only[iW,eW,gS]
  refine wpAny_bind (wpAny_bind (wpAny_bind (wpAny_holding ?_)))
  show wpAny _ _ (Builtin.SmallTypes.nextOf (.ref i1) >>= _) _ _ _
  refine wpAny_bind (wpAny_mono (key s.heap hz (Heap.SameBut.refl ..)) (λv1 s1 k1=>?_) λ_ _ h=>h)
  obtain⟨rfl,k1⟩:=k1
  refine wpAny_pure (wpAny_pure ?_)
  refine wpAny_bind (wpAny_bind (wpAny_holding ?_))
  show wpAny _ _ (Builtin.SmallTypes.nextOf (.ref i2) >>= _) _ _ _
  refine wpAny_bind (wpAny_mono k1 (λv2 s2 k2=>?_) λ_ _ h=>h)
  obtain⟨rfl,k2⟩:=k2
  refine wpAny_pure (wpAny_pure (wpAny_pure ?_))
  refine wpAny_bind (wpAny_newTuple ?_ (hsz:=by show 2<=sizeLine;decide))
  exact wpAny_pure ⟨_,rfl,k2⟩
 |false=>
  rw[if_pos (by decide)]
  refine wpAny_bind (wpAny_setField_rec hz (by simp) λh₁ hz₁ hs₁=>?_)
  replace hz₁:lU h₁ z TI TO T0 true:=hz₁
  refine wpAny_pure ?_
  rw[if_neg (by decide)]
  simp only[iW,eW,gS]
  refine wpAny_bind (wpAny_bind (wpAny_bind (wpAny_holding ?_)))
  show wpAny _ _ (Builtin.SmallTypes.nextOf (.ref i1) >>= _) _ _ _
  refine wpAny_bind (wpAny_mono (key h₁ hz₁ hs₁) (λv1 s1 k1=>?_) λ_ _ h=>h)
  obtain⟨rfl,k1⟩:=k1
  refine wpAny_pure (wpAny_pure ?_)
  refine wpAny_bind (wpAny_bind (wpAny_holding ?_))
  show wpAny _ _ (Builtin.SmallTypes.nextOf (.ref i2) >>= _) _ _ _
  refine wpAny_bind (wpAny_mono k1 (λv2 s2 k2=>?_) λ_ _ h=>h)
  obtain⟨rfl,k2⟩:=k2
  refine wpAny_pure (wpAny_pure (wpAny_pure ?_))
  refine wpAny_bind (wpAny_newTuple ?_ (hsz:=by show 2<=sizeLine;decide))
  exact wpAny_pure ⟨_,rfl,k2⟩
theorem GS{z TI TO T0 i1 i2 l1 l2:Addr}{k1 k2:Nat}{xs ys:Array Value}{b:Bool}{oT:Obj}{Q:Fin->Shared->Prop}(hh:A.handled=none)(D:ZipApart z TI TO i1 i2 l1 l2)
  (hz:lU s.heap z TI TO T0 b) (hTI:IsPair s.heap TI (.ref i1) (.ref i2)) (hT0:s.heap.get? T0=some oT)
  (h1:iG t1 s.heap i1 l1 k1) (h2:iG t2 s.heap i2 l2 k2) (hl1:eM t1 s.heap l1 xs) (hl2:eM t2 s.heap l2 ys) (hend:xs[k1]?=none)
  (hE:∀h' e,(∀c o,c≠z->c≠i1->c≠i2->s.heap.get? c=some o->h'.get? c=some o)->(∃o,h'.get? e=some o/\o.cls=.type "StopIteration")->E (.ref e) {s with heap:=h'}) :
  wpAny (model prog w) A (Builtin.«zip.__next__» ⟨[.ref z],[]⟩) Q E s:=by
 show wpAny _ _ (field (.ref z) 2 >>= _) _ _ _
 refine wpAny_bind (wpAny_field hz rfl (x:=.bool false) rfl ?_)
 show wpAny _ _ (field (.ref z) 3 >>= _) _ _ _
 refine wpAny_bind (wpAny_field hz rfl (x:=.ref TI) rfl ?_)
 refine wpAny_bind (wpAny_seqItems hTI rfl ?_)
 show wpAny _ _ (Builtin.SmallTypes.ownedTupleIsFree (.ref z) >>= _) _ _ _
 refine wpAny_bind ?_
 unfold Builtin.SmallTypes.ownedTupleIsFree
 refine wpAny_bind (wpAny_field hz rfl (x:=rawInt T0) rfl ?_)
 show wpAny _ _ (loadIfAlive (T0:Int).toNat >>= _) _ _ _
 have hn:(T0:Int).toNat=T0:=by lia
 rw[hn]
 refine wpAny_bind (w9 ?_)
 rw[hT0]
 show wpAny _ _ (field (.ref z) 1 >>= _) _ _ _
 refine wpAny_bind (wpAny_field hz rfl (x:=.bool b) rfl ?_)
 have key:∀(h₁:Heap) (Q':Value->Shared->Prop),Heap.SameBut z s.heap h₁->wpAny (model prog w) A (Builtin.SmallTypes.nextOf (.ref i1)) Q' E {s with heap:=h₁}:=by
  intro h₁ Q' hs₁
  refine ub hh (h1.extBut hs₁.extBut D.i1z) (hl1.extBut hs₁.extBut D.l1z) hend λh₂ e hs₂ he=>?_
  exact hE h₂ e (λc o c1 c2 _ x=>hs₂ _ _ c2 (hs₁.extBut _ _ c1 x)) he
 cases b with
 |true=>
  rw[if_neg (by decide)]
  refine wpAny_pure ?_
  rw[if_neg (by decide)]
  simp only[iW,eW,gS]
  refine wpAny_bind (wpAny_bind (wpAny_bind (wpAny_holding ?_)))
  show wpAny _ _ (Builtin.SmallTypes.nextOf (.ref i1) >>= _) _ _ _
  exact wpAny_bind (key s.heap _ (Heap.SameBut.refl ..))
 |false=>
  rw[if_pos (by decide)]
  refine wpAny_bind (wpAny_setField_rec hz (by simp) λh₁ hz₁ hs₁=>?_)
  refine wpAny_pure ?_
  rw[if_neg (by decide)]
  simp only[iW,eW,gS]
  refine wpAny_bind (wpAny_bind (wpAny_bind (wpAny_holding ?_)))
  show wpAny _ _ (Builtin.SmallTypes.nextOf (.ref i1) >>= _) _ _ _
  exact wpAny_bind (key h₁ _ hs₁)
end
structure JO(z TI TO:Addr)(f:Value)(b:Bool)(h h':Heap):Prop where
 at_:h'.get? z=some {cls:=.type "zip",dict:=none,data:=.fields #[f,.bool b,.bool false,.ref TI,.ref TO],slots:=#[]}
 sm:Heap.SameBut z h h'
section
variable{prog:Program}{w:World}{A:Around}{E:Value->Shared->Prop}{s:Shared}{t1 t2:Bool}
theorem CO{z TI TO:Addr}{f f':Value}{b:Bool}{Q:Unit->Shared->Prop}(hz:s.heap.get? z=some {cls:=.type "zip",dict:=none,data:=.fields #[f,.bool b,.bool false,.ref TI,.ref TO],slots:=#[]})
  (k:∀h',JO z TI TO f' b s.heap h'->Q () {s with heap:=h'}):wpAny (model prog w) A (setField (.ref z) 0 f') Q E s:=
 wpAny_setField_rec hz (by simp) λh' a e=>k h' ⟨a,e⟩
theorem Ew{z TI TO i1 i2 l1 l2:Addr}{k1 k2:Nat}{xs ys:Array Value}{x y a b:Value}{Q:Value->Shared->Prop}(D:ZipApart z TI TO i1 i2 l1 l2)
  (hz:IsZip s.heap z TI TO .none) (hTI:IsPair s.heap TI (.ref i1) (.ref i2)) (hTO:IsPair s.heap TO a b)
  (h1:iG t1 s.heap i1 l1 k1) (h2:iG t2 s.heap i2 l2 k2) (hl1:eM t1 s.heap l1 xs) (hl2:eM t2 s.heap l2 ys) (hx:xs[k1]?=some x) (hy:ys[k2]?=some y)
  (k:∀h',lU h' z TI TO s.heap.objs.size false->iG t1 h' i1 l1 (k1+1)->iG t2 h' i2 l2 (k2+1)->IsPair h' s.heap.objs.size x y->IsPair h' TO x y->
   (∀c o,c≠z->c≠TO->c≠i1->c≠i2->s.heap.get? c=some o->h'.get? c=some o)->Q (.ref s.heap.objs.size) {s with heap:=h'}) :
  wpAny (model prog w) A (Builtin.«zip.__next__» ⟨[.ref z],[]⟩) (λfin s'=>∃v,fin=.done (.ret v)/\Q v s') E s:=by
 refine wpAny_bind (m:=field (.ref z) 2) (wpAny_field hz rfl (x:=.bool false) rfl ?_)
 refine wpAny_bind (m:=field (.ref z) 3) (wpAny_field hz rfl (x:=.ref TI) rfl (wpAny_bind (wpAny_seqItems hTI rfl ?_)))
 refine wpAny_bind (m:=Builtin.SmallTypes.ownedTupleIsFree (.ref z)) (wpAny_bind (wpAny_field hz rfl (x:=.none) rfl (wpAny_pure ?_)))
 refine wpAny_bind (wpAny_rule (wpAny_bind (wpAny_field hz rfl (x:=.ref TO) rfl (wpAny_bind (CO hz λg1 m1=>?_)))))
 simp only[List.zipIdx_cons,List.zipIdx_nil,eW,gS]
 have e1:=m1.sm.extBut
 refine wpAny_bind (wpAny_bind (wpAny_bind (wpAny_onRaise (wpAny_bind (m:=Builtin.SmallTypes.nextOf (.ref i1)) (lP (h1.extBut e1 D.i1z) (hl1.extBut e1 D.l1z) hx λg2 i1' s2=>wpAny_pure ?_)))))
 have e2:=s2.extBut
 have o2:IsPair g2 TO a b:=e2 _ _ D.TOi1 (e1 _ _ D.TOz hTO)
 refine wpAny_bind (wpAny_seqItems o2 rfl (wpAny_bind (wpAny_updateSeq_pair o2 λg3 o3 s3=>wpAny_bind (wpAny_letGo (wpAny_pure ?_)))))
 have e3:=s3.extBut
 replace o3:IsPair g3 TO x b:=o3
 refine wpAny_bind (wpAny_bind (wpAny_onRaise (wpAny_bind (m:=Builtin.SmallTypes.nextOf (.ref i2)) (lP (((h2.extBut e1 D.i2z).extBut e2 D.i12.symm).extBut e3 D.TOi2.symm) (((hl2.extBut e1 D.l2z).extBut e2 D.l2i1).extBut e3 D.l2TO) hy λg4 i2' s4=>wpAny_pure ?_))))
 have e4:=s4.extBut
 have o4:IsPair g4 TO x b:=e4 _ _ D.TOi2 o3
 refine wpAny_bind (wpAny_seqItems o4 rfl (wpAny_bind (wpAny_updateSeq_pair o4 λg5 o5 s5=>wpAny_bind (wpAny_letGo (wpAny_pure (wpAny_pure ?_))))))
 have e5:=s5.extBut
 replace o5:IsPair g5 TO x y:=o5
 refine wpAny_bind (wpAny_seqItems o5 rfl (wpAny_bind (wpAny_newTuple ?_)))
 have size:g5.objs.size=s.heap.objs.size:=(s5.1.trans (s4.1.trans (s3.1.trans (s2.1.trans m1.sm.1))))
 have z5:=ak {cls:=.type "tuple",data:=.seq #[x,y]} (e5 _ _ D.TOz.symm (e4 _ _ D.i2z.symm (e3 _ _ D.TOz.symm (e2 _ _ D.i1z.symm m1.at_))))
 have zl:z≠g5.objs.size:=by rw[size];exact bt (aH hz)
 refine wpAny_bind (m:=Builtin.SmallTypes.ownedTupleHandOut (.ref z) (.ref g5.objs.size)) (wpAny_bind (CO z5 λg6 m6=>wpAny_setField_rec m6.at_ (by simp) λg7 z7 s7=>wpAny_pure ⟨_,rfl,?_⟩))
 have up:∀c o,c≠z->g5.get? c=some o->g7.get? c=some o:=λc o n e=>s7.extBut _ _ n (m6.sm.extBut _ _ n (ak _ e))
 have pr:IsPair g7 g5.objs.size x y:=s7.extBut _ _ (Ne.symm zl) (m6.sm.extBut _ _ (Ne.symm zl) (aN _ rfl))
 rw[size] at pr
 show Q (.ref g5.objs.size) _
 have z7':lU g7 z TI TO g5.objs.size false:=z7
 rw[size] at z7' ⊢
 refine k g7 z7' ?_ ?_ pr (up _ _ D.TOz o5) λc o c1 c2 c3 c4 e=>up c o c1 (e5 _ _ c2 (e4 _ _ c4 (e3 _ _ c2 (e2 _ _ c3 (e1 _ _ c1 e)))))
 ·exact(((i1'.extBut e3 D.TOi1.symm).extBut e4 D.i12).extBut e5 D.TOi1.symm).at λo e=>up _ o D.i1z e
 ·exact(i2'.extBut e5 D.TOi2.symm).at λo e=>up _ o D.i2z e
theorem GR{z TI TO i1 i2 l1 l2:Addr}{k1 k2:Nat}{xs ys:Array Value}{Q:Fin->Shared->Prop}(hh:A.handled=none)(D:ZipApart z TI TO i1 i2 l1 l2)
  (hz:IsZip s.heap z TI TO .none) (hTI:IsPair s.heap TI (.ref i1) (.ref i2)) (h1:iG t1 s.heap i1 l1 k1) (hl1:eM t1 s.heap l1 xs) (hx:xs[k1]?=none)
  (k:∀h' e,(∀c o,c≠z->c≠i1->c≠i2->s.heap.get? c=some o->h'.get? c=some o)->(∃o,h'.get? e=some o/\o.cls=.type "StopIteration")->E (.ref e) {s with heap:=h'}) :
  wpAny (model prog w) A (Builtin.«zip.__next__» ⟨[.ref z],[]⟩) Q E s:=by
 refine wpAny_bind (m:=field (.ref z) 2) (wpAny_field hz rfl (x:=.bool false) rfl ?_)
 refine wpAny_bind (m:=field (.ref z) 3) (wpAny_field hz rfl (x:=.ref TI) rfl (wpAny_bind (wpAny_seqItems hTI rfl ?_)))
 refine wpAny_bind (m:=Builtin.SmallTypes.ownedTupleIsFree (.ref z)) (wpAny_bind (wpAny_field hz rfl (x:=.none) rfl (wpAny_pure ?_)))
 refine wpAny_bind (wpAny_rule (wpAny_bind (wpAny_field hz rfl (x:=.ref TO) rfl (wpAny_bind (CO hz λg1 m1=>?_)))))
 simp only[List.zipIdx_cons,List.zipIdx_nil,eW,gS]
 have e1:=m1.sm.extBut
 refine wpAny_bind (wpAny_bind (wpAny_bind (wpAny_onRaise (wpAny_bind (m:=Builtin.SmallTypes.nextOf (.ref i1)) (ub hh (h1.extBut e1 D.i1z) (hl1.extBut e1 D.l1z) hx λg2 e x2 ⟨oe,he,ce⟩=>?_)))))
 have z2:=x2 _ _ D.i1z.symm m1.at_
 have ne:e≠z:=λq=>by subst q;rw[z2] at he;cases he;simp at ce
 exact CO z2 λg3 m3=>k g3 e (λc o c1 c2 _ q=>m3.sm.extBut _ _ c1 (x2 _ _ c2 (e1 _ _ c1 q))) ⟨oe,m3.sm.extBut _ _ ne he,ce⟩
end
abbrev Lv(t1:Bool)(h:Heap)(l1:Addr):Heap:=h.push (y9 t1 l1)
abbrev Ms(t1 t2:Bool)(h:Heap)(l1 l2:Addr):Heap:=(Lv t1 h l1).push (y9 t2 l2)
abbrev Mt(t1 t2:Bool)(h:Heap)(l1 l2:Addr):Heap:=(Ms t1 t2 h l1 l2).push {cls:=.type "tuple",data:=.seq #[.ref h.objs.size,.ref (Lv t1 h l1).objs.size]}
abbrev Mu(t1 t2:Bool)(h:Heap)(l1 l2:Addr):Heap:=(Mt t1 t2 h l1 l2).push {cls:=.type "tuple",data:=.seq #[.none,.none]}
abbrev Lw(t1 t2:Bool)(h:Heap)(l1 l2:Addr):Heap:=(Mu t1 t2 h l1 l2).push {cls:=.type "zip",data:=.fields #[.none,.bool false,.bool false,.ref (Ms t1 t2 h l1 l2).objs.size,.ref (Mt t1 t2 h l1 l2).objs.size]}
theorem vn{t1 t2:Bool}(l1 l2:Addr)(xs ys:Array Value) :
  Meets (Builtin.«zip.__new__» ⟨[.type "zip",.ref l1,.ref l2],[]⟩) (λ_ R s=>eM t1 s.heap l1 xs/\eM t2 s.heap l2 ys/\
   R (.ok (.ret (.ref (Mu t1 t2 s.heap l1 l2).objs.size))) {s with heap:=Lw t1 t2 s.heap l1 l2}):=
 .of_wp λprog w A R s h=>by
  obtain⟨hp,g,d,tk,os⟩:=s
  obtain⟨a1,a2,h⟩:=h
  have hsub:=sub_zip
  have b1:eM t1 (Shared.heap ⟨hp,g,d,tk,os⟩) l1 xs:=a1
  have b2:eM t2 (Shared.heap ⟨hp.push (y9 t1 l1),g,d,tk,os⟩) l2 ys:=a2.at λo e=>ak _ e
  wp_walk using uf b1,uf b2
  exact⟨_,rfl,h⟩
section
variable{prog:Program}{w:World}{A:Around}{R:Result->Shared->Prop}{t1 t2:Bool}{K:Type}[DecidableEq K]{knd:KeyKind prog w K}
structure nY(t1 t2:Bool)(z TI TO i1 i2 l1 l2:Addr)(xs ys:Array Value)(i:Nat)(h:Heap):Prop where
 ti:IsPair h TI (.ref i1) (.ref i2)
 a1:iG t1 h i1 l1 i
 a2:iG t2 h i2 l2 i
 s1:eM t1 h l1 xs
 s2:eM t2 h l2 ys
 st:(IsZip h z TI TO .none/\∃a b,IsPair h TO a b)\/∃T0 b o,lU h z TI TO T0 b/\h.get? T0=some o/\o.cls=.type "tuple"
theorem nY.typeIs{z TI TO i1 i2 l1 l2:Addr}{xs ys:Array Value}{i:Nat}{s:Shared}(st:nY t1 t2 z TI TO i1 i2 l1 l2 xs ys i s.heap):s.TypeIs (.ref z) "zip":=by
 rcases st.st with⟨h,_⟩|⟨_,_,_,h,_⟩<;>exact⟨_,h,rfl⟩
theorem GT{E:Value->Shared->Prop}{z TI TO i1 i2 l1 l2:Addr}{xs ys:Array Value}{i:Nat}{s:Shared}{x y:Value}{Q:Option Value->Shared->Prop}(D:ZipApart z TI TO i1 i2 l1 l2)(st:nY t1 t2 z TI TO i1 i2 l1 l2 xs ys i s.heap)(hx:xs[i]?=some x)(hy:ys[i]?=some y)
  (k:∀h',nY t1 t2 z TI TO i1 i2 l1 l2 xs ys (i+1) h'->IsPair h' s.heap.objs.size x y->(∀c o,c≠z->c≠TO->c≠i1->c≠i2->s.heap.get? c=some o->h'.get? c=some o)->Q (some (.ref s.heap.objs.size)) {s with heap:=h'}) :
  wpAny (model prog w) A (pyNext (.ref z)) Q E s:=by
 have go:∀{h':Heap} {T0:Addr} {b:Bool} {o:Obj},lU h' z TI TO T0 b->h'.get? T0=some o->o.cls=.type "tuple"->iG t1 h' i1 l1 (i+1)->iG t2 h' i2 l2 (i+1)->(∀c o,c≠z->c≠TO->c≠i1->c≠i2->s.heap.get? c=some o->h'.get? c=some o)->nY t1 t2 z TI TO i1 i2 l1 l2 xs ys (i+1) h':=λhz h0 hc b1 b2 kp=>
  ⟨kp _ _ D.TIz D.TITO D.TIi1 D.TIi2 st.ti,b1,b2,st.s1.at λo e=>kp _ o D.l1z D.l1TO D.l1i1 D.l1i2 e,st.s2.at λo e=>kp _ o D.l2z D.l2TO D.l2i1 D.l2i2 e,.inr ⟨_,_,_,hz,h0,hc⟩⟩
 have hT:=st.typeIs
 unfold pyNext
 refine wpAny_bind (wpAny_attempt (wpAny_callSpecial?_slot (name:=Str.ofString "__next__") hT F.slot_zip_next (wpAny_call_entry F.slot_zip_next hT F.entry_zip_next ?_ (F.args_zip_next_1 _))))
 rcases st.st with⟨hz,a,b,ho⟩|⟨T0,b,o,hz,h0,hc⟩
 ·exact Ew D hz st.ti ho st.a1 st.a2 st.s1 st.s2 hx hy λh' z' b1 b2 pr _ kp=>wpAny_pure (k h' (go z' pr rfl b1 b2 kp) pr kp)
 ·refine Ex D hz st.ti h0 st.a1 st.a2 st.s1 st.s2 hx hy λh' z' b1 b2 pr _ kp=>wpAny_pure (k h' ?_ pr λc o c1 _ c3 c4 e=>kp c o c1 c3 c4 e)
  have n0:∀{c:Addr} {oc:Obj},s.heap.get? c=some oc->oc.cls≠.type "tuple"->T0≠c:=λe nc q=>by subst q;rw[h0] at e;cases e;exact nc hc
  have nz:T0≠z:=n0 hz (show Value.type "zip"≠Value.type "tuple" by decide)
  have n1:T0≠i1:=by
   cases t1 with
   |true=>obtain⟨oi,e,ci,_⟩:=(show s.heap.IsTupleIter i1 l1 i from st.a1);exact n0 e (by rw[ci];decide)
   |false=>obtain⟨oi,e,ci,_⟩:=(show s.heap.IsListIter i1 l1 i from st.a1);exact n0 e (by rw[ci];decide)
  have n2:T0≠i2:=by
   cases t2 with
   |true=>obtain⟨oi,e,ci,_⟩:=(show s.heap.IsTupleIter i2 l2 i from st.a2);exact n0 e (by rw[ci];decide)
   |false=>obtain⟨oi,e,ci,_⟩:=(show s.heap.IsListIter i2 l2 i from st.a2);exact n0 e (by rw[ci];decide)
  exact go z' (kp _ _ nz n1 n2 h0) hc b1 b2 λc o c1 _ c3 c4 e=>kp c o c1 c3 c4 e
theorem GU{E:Value->Shared->Prop}{z TI TO i1 i2 l1 l2:Addr}{xs ys:Array Value}{i:Nat}{s:Shared}{Q:Option Value->Shared->Prop}(hh:A.handled=none)(D:ZipApart z TI TO i1 i2 l1 l2)(st:nY t1 t2 z TI TO i1 i2 l1 l2 xs ys i s.heap)(hx:xs[i]?=none)
  (k:∀h',(∀c o,c≠z->c≠i1->c≠i2->s.heap.get? c=some o->h'.get? c=some o)->Q none {s with heap:=h'}):wpAny (model prog w) A (pyNext (.ref z)) Q E s:=by
 have hT:=st.typeIs
 have fin:∀(h':Heap) (e:Addr),(∀c o,c≠z->c≠i1->c≠i2->s.heap.get? c=some o->h'.get? c=some o)->(∃o,h'.get? e=some o/\o.cls=.type "StopIteration")->
   wpAny (model prog w) A (isInstance (.ref e) (.type "StopIteration")) (λa s'=>a=true/\Q none s') E {s with heap:=h'}:=λh' e kp ⟨o,ho,hc⟩=>wpAny_isInstance (T:="StopIteration") (b:=true) ⟨o,ho,hc⟩ isSubtype_stop ⟨rfl,k h' kp⟩
 unfold pyNext
 refine wpAny_bind (wpAny_attempt (wpAny_callSpecial?_slot (name:=Str.ofString "__next__") hT F.slot_zip_next (wpAny_call_entry F.slot_zip_next hT F.entry_zip_next ?_ (F.args_zip_next_1 _))))
 rcases st.st with⟨hz,a,b,ho⟩|⟨T0,b,o,hz,h0,hc⟩
 ·refine GR (ys:=ys) (k2:=0) hh D hz st.ti st.a1 st.s1 hx λh' e kp he=>wpAny_bind (wpAny_mono (fin h' e kp he) (λa s' q=>?_) λ_ _ z=>z)
  obtain⟨rfl,q⟩:=q
  exact wpAny_pure q
 ·refine GS hh D hz st.ti h0 st.a1 st.a2 st.s1 st.s2 hx λh' e kp he=>wpAny_bind (wpAny_mono (fin h' e kp he) (λa s' q=>?_) λ_ _ z=>z)
  obtain⟨rfl,q⟩:=q
  exact wpAny_pure q
theorem nY.keep{z TI TO i1 i2 l1 l2 d:Addr}{xs ys:Array Value}{i:Nat}{h h':Heap}(st:nY t1 t2 z TI TO i1 i2 l1 l2 xs ys i h)(hd:d≠z/\d≠TI/\d≠TO/\d≠i1/\d≠i2/\d≠l1/\d≠l2)(nd:∀o,h.get? d=some o->o.cls≠.type "tuple")(kp:∀c o,c≠d->h.get? c=some o->h'.get? c=some o):nY t1 t2 z TI TO i1 i2 l1 l2 xs ys i h':=by
 obtain⟨d1,d2,d3,d4,d5,d6,d7⟩:=hd
 refine⟨kp _ _ d2.symm st.ti,st.a1.at λo e=>kp _ o d4.symm e,st.a2.at λo e=>kp _ o d5.symm e,st.s1.at λo e=>kp _ o d6.symm e,st.s2.at λo e=>kp _ o d7.symm e,?_⟩
 rcases st.st with⟨hz,a,b,ho⟩|⟨T0,b,o,hz,h0,hc⟩
 ·exact .inl ⟨kp _ _ d1.symm hz,a,b,kp _ _ d3.symm ho⟩
 ·exact .inr ⟨T0,b,o,kp _ _ d1.symm hz,kp _ _ (λq=>nd o (by rw[<-q];exact h0) hc) h0,hc⟩
theorem Js{d z TI TO i1 i2 l1 l2:Addr}{xs ys:Array Value}{ks:List K}{res:Value}(hh:A.handled=none)(D:ZipApart z TI TO i1 i2 l1 l2)(hd:d≠z/\d≠TI/\d≠TO/\d≠i1/\d≠i2/\d≠l1/\d≠l2)(hl:xs.size=ys.size)(hk:ks.length=xs.size)
  (his:∀(j:Nat) k x,ks[j]?=some k->xs[j]?=some x->knd.is k x=true) (hz:xs.size<=1000) :
  ∀(m i:Nat) (s:Shared) (kvs:List (K×Value)),xs.size-i=m->i<=xs.size->nY t1 t2 z TI TO i1 i2 l1 l2 xs ys i s.heap->s.heap.DictOf knd d kvs->kvs.length<=i->
   (∀h' tk,h'.DictOf knd d (merged kvs ((ks.zip ys.toList).drop i))->(∀c o,c≠d->c≠z->c≠TO->c≠i1->c≠i2->s.heap.get? c=some o->h'.get? c=some o)->R (.ok (.ret res)) {s with heap:=h',toks:=tk})->
   codeAny (model prog w) A (.builtin "dict.update.loop" ⟨[.ref d,.ref z,rawInt i,res],[]⟩) R s:=by
 intro m
 induction m with
 |zero=>
  intro i s kvs hm hi st dd hlen hR
  have ei:i=xs.size:=by lia
  refine codeAny_builtin F.entry_dict_update_loop ?_
  rw[Around.under_plainId F.plain_dict_update_loop _]
  show wpAny _ A.in1 (pyNext (.ref z) >>= _) _ _ s
  have hx:xs[i]?=none:=by rw[ei];exact Array.getElem?_eq_none (aC _)
  refine wpAny_bind (GU (A:=A.in1) hh D st hx λh' kp=>?_)
  have e0:(ks.zip ys.toList).drop i=[]:=ju (by rw[iS];lia)
  rw[e0] at hR
  refine wpAny_bind (wpAny_pure (wpAny_pure (hR h' s.toks ?_ λc o _ c2 _ c4 c5 e=>kp c o c2 c4 c5 e)))
  obtain⟨o,es,ep,ho,r⟩:=dd
  exact⟨o,es,ep,kp d o hd.1 hd.2.2.2.1 hd.2.2.2.2.1 ho,r⟩
 |succ m ih=>
  intro i s kvs hm hi st dd hlen hR
  refine codeAny_builtin F.entry_dict_update_loop ?_
  rw[Around.under_plainId F.plain_dict_update_loop _]
  show wpAny _ A.in1 (pyNext (.ref z) >>= _) _ _ s
  have il:i<xs.size:=by lia
  have hx:xs[i]?=some xs[i]:=Array.getElem?_eq_getElem il
  have hy:ys[i]?=some (ys[i]'(by lia)):=Array.getElem?_eq_getElem (by lia)
  refine wpAny_bind (GT D st hx hy λh' st' pr kp=>?_)
  refine wpAny_bind (wpAny_holding (wpAny_bind (wpAny_tryCatch ?_)))
  unfold Builtin.Dict.pairItems
  refine wpAny_bind (wpAny_typeOf (T:="tuple") ⟨_,pr,rfl⟩ ?_)
  rw[if_pos (by decide)]
  refine wpAny_bind (wpAny_seqItems pr rfl (wpAny_pure ?_))
  obtain⟨o,es,ep,ho,r⟩:=dd
  have dd':h'.DictOf knd d kvs:=⟨o,es,ep,kp d o hd.1 hd.2.2.1 hd.2.2.2.1 hd.2.2.2.2.1 ho,r⟩
  have kl:i<ks.length:=by lia
  have hki:ks[i]?=some ks[i]:=ab kl
  refine wpAny_holding (wpAny_dictSet_pairs (knd:=knd) (his i _ _ hki hx) dd' (λh2 d2 s2=>?_) (hsz:=bC hlen (bC hi (bC hz (by decide)))))
  have e1:(i:Int)+1=((i+1:Nat):Int):=by lia
  refine wpAny_pure ⟨plainId_quiet F.plain_dict_update_loop _,?_⟩
  rw[e1]
  have el:(ks.zip ys.toList).drop i=(ks[i],ys[i]'(by lia))::(ks.zip ys.toList).drop (i+1):=by
   have hz2:i<(ks.zip ys.toList).length:=by
    have e:ys.toList.length=ys.size:=dQ
    rw[iS];lia
   rw[iE hz2,List.getElem_zip]
   rfl
  rw[el] at hR
  have nd:∀o,h'.get? d=some o->o.cls≠.type "tuple":=λo e=>by
   obtain⟨o',_,_,e',x,_⟩:=dd'
   rw[e] at e';cases e'
   rw[x.1];decide
  refine ih (i+1) _ (stored kvs ks[i] (ys[i]'(by lia))) (by lia) (by lia) (st'.keep hd nd λc o n e=>s2.extBut c o n e) d2 ?_ λh3 tk3 d3 kp3=>?_
  ·have:=merged_length_le kvs [(ks[i],ys[i]'(by lia))]
   exact bC this (Nat.add_le_add_right hlen 1)
  ·exact hR h3 tk3 d3 λc o c1 c2 c3 c4 c5 e=>kp3 c o c1 c2 c3 c4 c5 (s2.extBut c o c1 (kp c o c2 c3 c4 c5 e))
end
section
variable{prog:Program}{w:World}{A:Around}{E:Value->Shared->Prop}{s:Shared}{t1 t2:Bool}{K:Type}[DecidableEq K]{knd:KeyKind prog w K}
theorem EV{z TI TO i1 i2 l1 l2:Addr}{xs ys:Array Value}{ks:List K}{Q:Value->Shared->Prop}{a b:Value}(hh:A.handled=none)(D:ZipApart z TI TO i1 i2 l1 l2)(hz:IsZip s.heap z TI TO .none)(hTO:IsPair s.heap TO a b)(ti:IsPair s.heap TI (.ref i1) (.ref i2))
  (a1:iG t1 s.heap i1 l1 0) (a2:iG t2 s.heap i2 l2 0) (s1:eM t1 s.heap l1 xs) (s2:eM t2 s.heap l2 ys) (hl:xs.size=ys.size) (hk:ks.length=xs.size)
  (his:∀(j:Nat) k x,ks[j]?=some k->xs[j]?=some x->knd.is k x=true) (h1000:xs.size<=1000)
  (hQ:∀h' tk,h'.DictOf knd s.heap.objs.size (merged [] (ks.zip ys.toList))->(∀c o,c≠z->c≠TO->c≠i1->c≠i2->s.heap.get? c=some o->h'.get? c=some o)->Q (.ref s.heap.objs.size) {s with heap:=h',toks:=tk}) :
  wpAny (model prog w) A (call (.type "dict") [.ref z]) Q E s:=by
 refine callType_codes (Q₁:=λobj s₁=>obj=.ref s.heap.objs.size/\s₁={s with heap:=s.heap.push {cls:=.type "dict",data:=.dict #[]}}) F.kt_called_dict (F.kt_typeCall_dict_1 _) F.entry_dict_init (kt_code_dict_new _ ⟨rfl,rfl⟩) ?_
 rintro obj s₁ ⟨rfl,rfl⟩
 have dn:(s.heap.push {cls:=.type "dict",data:=.dict #[]}).DictOf knd s.heap.objs.size []:=Heap.DictOf.new s.heap
 have up:∀c o,s.heap.get? c=some o->(s.heap.push {cls:=.type "dict",data:=.dict #[]}).get? c=some o:=λc o e=>ak _ e
 refine⟨dn.typeIs,F.args_dict_init_2 _ _,?_⟩
 refine wpAny_bind (m:=Builtin.Dict.selfAndRest _ _) (wpAny_bind (wpAny_notOrdered_dict dn.typeIs (wpAny_pure ?_)))
 show wpAny _ _ (Builtin.Dict.updateFrom "dict.__init__" s.heap.objs.size (.ref z) [] .none) _ _ _
 refine wpAny_bind (wpAny_typeOf (T:="zip") ⟨_,up _ _ hz,rfl⟩ ?_)
 rw[if_pos (by decide)]
 refine wpAny_bind (Fn (up _ _ hz) hh λh1 tk1 k1=>?_)
 have k2:∀c o,s.heap.get? c=some o->h1.get? c=some o:=λc o e=>k1 c o (up c o e)
 rw[if_pos (show(none:Option Value).isNone=true from rfl)]
 refine wpAny_bind (wpAny_rule (wpAny_bind (wpAny_pyIter_zip (k2 _ _ hz) (wpAny_pure ⟨plainId_quiet F.plain_dict_update_loop _,?_⟩))))
 have st:nY t1 t2 z TI TO i1 i2 l1 l2 xs ys 0 h1:=⟨k2 _ _ ti,a1.at λo e=>k2 _ o e,a2.at λo e=>k2 _ o e,s1.at λo e=>k2 _ o e,s2.at λo e=>k2 _ o e,.inl ⟨k2 _ _ hz,a,b,k2 _ _ hTO⟩⟩
 have lt:∀{c o},s.heap.get? c=some o->s.heap.objs.size≠c:=λe=>gb (aH e)
 have dn1:h1.DictOf knd s.heap.objs.size []:=by
  obtain⟨o,es,ep,ho,r⟩:=dn
  exact⟨o,es,ep,k1 _ _ ho,r⟩
 refine Js (A:=A.in1) (knd:=knd) hh D ⟨lt hz,lt ti,lt hTO,gb a1.lt,gb a2.lt,gb s1.lt,gb s2.lt⟩ hl hk his h1000 xs.size 0 _ [] rfl (cA _) st dn1 (cA _) λh' tk d' kp=>⟨rfl,?_⟩
 exact hQ h' tk d' λc o c2 c3 c4 c5 e=>kp c o (Ne.symm (lt e)) c2 c3 c4 c5 (k2 _ _ e)
theorem xC{l1 l2:Addr}{xs ys:Array Value}{Q:Value->Shared->Prop}(a1:eM t1 s.heap l1 xs)(a2:eM t2 s.heap l2 ys)
  (h:∀h' z TI TO i1 i2,s.heap.objs.size<=TI->ZipApart z TI TO i1 i2 l1 l2->s.heap.objs.size<=z->s.heap.objs.size<=TO->s.heap.objs.size<=i1->s.heap.objs.size<=i2->IsZip h' z TI TO .none->IsPair h' TO .none .none->IsPair h' TI (.ref i1) (.ref i2)->iG t1 h' i1 l1 0->iG t2 h' i2 l2 0->
   (∀c o,s.heap.get? c=some o->h'.get? c=some o)->Q (.ref z) {s with heap:=h'}) :
  wpAny (model prog w) A (call (.type "zip") [.ref l1,.ref l2]) Q E s:=by
 refine callType_new F.called_zip (by decide) (F.typeCall_zip_2 _ _) (F.newCall_zip_2 _ _) (λobj=>F.args_object_init_3 obj _ _) F.entry_zip_new (vn (t1:=t1) (t2:=t2) l1 l2 xs ys) ⟨a1,a2,?_⟩
 have zA:(Lv t1 s.heap l1).objs.size=s.heap.objs.size+1:=eI ..
 have zB:(Ms t1 t2 s.heap l1 l2).objs.size=s.heap.objs.size+2:=(eI ..).trans (by rw[zA])
 have zC:(Mt t1 t2 s.heap l1 l2).objs.size=s.heap.objs.size+3:=(eI ..).trans (by rw[zB])
 have zD:(Mu t1 t2 s.heap l1 l2).objs.size=s.heap.objs.size+4:=(eI ..).trans (by rw[zC])
 have q1:=a1.lt
 have q2:=a2.lt
 have pz:(Lw t1 t2 s.heap l1 l2).get? (Mu t1 t2 s.heap l1 l2).objs.size=some _:=aN _ rfl
 have po:(Lw t1 t2 s.heap l1 l2).get? (Mt t1 t2 s.heap l1 l2).objs.size=some _:=ak _ (aN _ rfl)
 have pi:(Lw t1 t2 s.heap l1 l2).get? (Ms t1 t2 s.heap l1 l2).objs.size=some _:=ak _ (ak _ (aN _ rfl))
 have b2:iG t2 (Lw t1 t2 s.heap l1 l2) (Lv t1 s.heap l1).objs.size l2 0:=(y8 (Lv t1 s.heap l1)).at λo e=>ak _ (ak _ (ak _ e))
 have b1:iG t1 (Lw t1 t2 s.heap l1 l2) s.heap.objs.size l1 0:=(y8 s.heap).at λo e=>ak _ (ak _ (ak _ (ak _ e)))
 refine⟨⟨_,pz,rfl⟩,h _ (Mu t1 t2 s.heap l1 l2).objs.size (Ms t1 t2 s.heap l1 l2).objs.size (Mt t1 t2 s.heap l1 l2).objs.size s.heap.objs.size (Lv t1 s.heap l1).objs.size (by lia) ?_ (by lia) (by lia) (by lia) (by lia) pz po pi b1 b2 λc o e=>
  ak _ (ak _ (ak _ (ak _ (ak _ e))))⟩
 rw[zD,zB,zC,zA]
 exact PyProof.Rows.zipApart_new q1 q2
end
end PySem
namespace L2
open PySem PySem.Spec PyProof.Rows
def qM(K:Fg)(t:TA):TE:=λσ H Q=>t σ H λvs H1=>∃(p q:Addr) (ys:List Str) (zs:List V),vs=[.ref p,.ref q]/\eU K H1 p (ys.map V.str)/\(bZ K H1 q zs\/eU K H1 q zs)/\ys.length=zs.length/\ys.length<=1000/\
 ∀d,H1 d=none->Q (.ref d) (upd H1 d (.dK (fO [] ((ys.map Sum.inr).zip zs))))
section
variable{X:Cx}
theorem Fo:∀{ks:List dB} {zs:List V} {us:List Value},ck zs us->KV (ks.zip zs) (ks.zip us)
 |[],_,_,_=>by simp only[List.zip_nil_left];exact .nil
 |k::r,[],_,h=>by cases h;simp only[List.zip_nil_right];exact .nil
 |k::r,z::zs,_,h=>by
  cases h with
  |cons a b=>exact .cons ⟨rfl,a⟩ (Fo b)
theorem BS{a b:Expr}{ta:TA}{p1 p2 pos pos2:Pos}(hg:Gl X "dict")(hg2:Gl X "zip")(hm:X.mg "dict"=none)(hm2:X.mg "zip"=none)(hc:X.calm=true)(ha:PA X [a,b] ta)
  (hs2:starEach [a,b] X.env=[(false,eval a X.env),(false,eval b X.env)]:=by rfl) (hs3:starEach [b] X.env=[(false,eval b X.env)]:=by rfl) (hs:starEach [.Call (.Name "zip" p2) [a,b] [] pos2] X.env=[(false,eval (.Call (.Name "zip" p2) [a,b] [] pos2) X.env)]:=by rfl) :
  PE X (.Call (.Name "dict" p1) [.Call (.Name "zip" p2) [a,b] [] pos2] [] pos) (qM X.K ta):=by
 intro pins s σ H Q I h
 refine wpAny_Call_Name_kw (mX I hg hm boot_dict ?_)
 refine cu ?_ hs rfl
 rw[hs]
 show wpAny _ _ (spliced ((false,eval (.Call (.Name "zip" p2) [a,b] [] pos2) X.env)::backTo pos [])) _ _ s
 refine Calls.spliced_cons ?_
 refine wpAny_Call_Name_kw (mX I hg2 hm2 boot_zip ?_)
 refine cu (fK (ha pos2 pins s σ H _ I h) λus s1 ⟨vs,H1,I1,r1,q1⟩=>?_) (by rw[hs2,hs3]) (by rw[hs3];rfl)
 obtain⟨p,q,ys,zs,rfl,hp,hq,hl,h1000,k⟩:=q1
 obtain⟨u,u',rfl,rp,rq⟩:=wZ r1
 cases rp
 cases rq
 obtain⟨its1,rv1,pl1,z1⟩:=I1.tuple hp
 have l1:=rv1.length
 rw[ai] at l1
 have fin:∀(t2:Bool) (its2:List Value),eM t2 s1.heap q its2.toArray->ck zs its2->wpAny (model X.prog X.w) X.A (call (.type "zip") [.ref p,.ref q]) (λv s'=>wpAny (model X.prog X.w) X.A (spliced (backTo pos [])) (λvs s2=>wpAny (model X.prog X.w) X.A (call (.type "dict") (v::vs)) (EP X pins σ Q) X.xe s2) X.xe s') X.xe s1:=λt2 its2 a2 rv2=>by
  have l2:=rv2.length
  refine xC (t1:=true) (t2:=t2) (xs:=its1.toArray) (ys:=its2.toArray) (show s1.heap.IsTuple p its1.toArray from pl1) a2 λh' z TI TO i1 i2 _ D gz gO g1 g2 hz hO hI b1 b2 kp=>Calls.spliced_nil ?_
  have a1':eM true h' p its1.toArray:=(show eM true s1.heap p its1.toArray from pl1).at λo e=>kp _ o e
  refine EV (t1:=true) (t2:=t2) (K:=dB) (knd:=d8 X.prog X.w) (ks:=ys.map Sum.inr) (I1.ok.hd hc) D hz hO hI b1 b2 a1' (a2.at λo e=>kp _ o e) (by simp;lia) (by simp;lia) (λj k x hk hx=>?_) (by simp;lia) λh2 tk d2 kp2=>?_
  ·rw[ba] at hk
   cases ey:ys[j]? with
   |none=>rw[ey] at hk;cases hk
   |some y=>
    rw[ey] at hk
    have hk':Sum.inr y=k:=Option.some.inj hk
    subst hk'
    obtain⟨u,hu,ru⟩:=rv1.get (i:=j) (x:=.str y) (by rw[ba,ey];rfl)
    have hx':its1[j]?=some x:=by simpa using hx
    rw[hu] at hx';cases hx'
    exact zb (k:=Sum.inr y) ru
  ·have k0:∀c o,s1.heap.get? c=some o->h2.get? c=some o:=λc o e=>by
    have lt:=aH e
    exact kp2 c o (bt (aU lt gz)) (bt (aU lt gO)) (bt (aU lt g1)) (bt (aU lt g2)) (kp c o e)
   have big:=I1.big
   have lt2:s1.heap.objs.size<=h'.objs.size:=bC gz (mI (aH hz))
   have kvz:KV (fO [] ((ys.map Sum.inr).zip zs)) (merged [] ((ys.map Sum.inr).zip its2)):=KV.merge (Fo rv2) .nil
   have hlen:(fO [] ((ys.map Sum.inr).zip zs)).length<=sizeLine:=bC (ke _ _) (by simp only[iR,iS,ai];exact bC (by lia) (show 1000<=sizeLine by decide))
   have hn:H1 h'.objs.size=none:=I1.hok.fresh lt2
   refine⟨.ref h'.objs.size,_,I1.laid (t':=tk) (o:=.dK (fO [] ((ys.map Sum.inr).zip zs))) k0 lt2 (tM hlen (beq_eq_false_iff_ne.mpr (gb (aU big lt2))) kvz (by simpa using d2)),rfl,k _ hn⟩
 rcases hq with hq|hq
 ·obtain⟨its2,rv2,pl2,z2⟩:=I1.list hq
  exact fin false its2 pl2.isList rv2
 ·obtain⟨its2,rv2,pl2,z2⟩:=I1.tuple hq
  exact fin true its2 pl2 rv2
theorem uh{a b:Expr}{ta:TA}{p1 p2 pos pos2:Pos}(hg:Gl X "dict")(hg2:Gl X "zip")(hm:X.mg "dict"=none)(hm2:X.mg "zip"=none)(hc:X.calm=true)(ha:QA X [a,b] ta)
  (hs2:starEach [a,b] X.env=[(false,eval a X.env),(false,eval b X.env)]:=by rfl) (hs3:starEach [b] X.env=[(false,eval b X.env)]:=by rfl) (hs:starEach [.Call (.Name "zip" p2) [a,b] [] pos2] X.env=[(false,eval (.Call (.Name "zip" p2) [a,b] [] pos2) X.env)]:=by rfl) :
  QE X (.Call (.Name "dict" p1) [.Call (.Name "zip" p2) [a,b] [] pos2] [] pos) (qM X.K ta):=⟨BS hg hg2 hm hm2 hc ha.up hs2 hs3 hs⟩
end
def aR(K:Fg)(x:Str):Addr:=match aF K mainGlobals x with
 |some (some (.ref C))=>C
 |_=>0
theorem tH{K:Fg}{x:Str}{C:Addr}(h:aF K mainGlobals x=some (some (.ref C))):aR K x=C:=by unfold aR;rw[h]
def nB(s:Stmt)(i:Nat):Stmt:=match s with
 |.ClassDef _ _ _ b _ _ _ _ _ _ _=>b.getD i (.Pass ⟨0,0,0,0⟩)
 |_=>.Pass ⟨0,0,0,0⟩
structure cg(P:Program)(w:World)(K:Fg)(mg:Str->Option Value)(base:Heap)(C:Addr)(m:Str)(ps:List Str)(k:Nat)(sp:Sp):Prop where
 ex:∃(f:Addr) (fd:FuncData),G5 K C m f/\kJ K fd ps []/\dt P w K mg base eT k f fd ps sp
structure mL(P:Program)(w:World)(K:Fg)(mg:Str->Option Value)(base:Heap)(x:Str)(C:Addr)(ps:List Str)(k:Nat)(sp:Sp):Prop where
 ex:∃(f:Addr) (fd:FuncData),mg x=some (.ref C)/\Mk K C f/\kJ K fd ps []/\dt P w K mg base eT k f fd ps sp
section
variable{X:Cx}{C:Addr}{m x:Str}{ps:List Str}{k:Nat}{sp:Sp}{e o:Expr}{es:List Expr}{ta:TE}{t:TA}{p pos apos:Pos}
theorem oS{pl:Sem Bool}(c:qc X.K C)(M:cg X.prog X.w X.K X.mg X.base C m ps k sp)(hr:cD k X.A)(he:QE X o ta)(ha:QA X (e::es) t)
  (hst:starEach (e::es) X.env=(false,eval e X.env)::starEach es X.env:=by rfl) (hpl:(backTo pos (starEach es X.env)).any (·.1)=false:=by rfl)
  (ht:eval (.Call (.Attribute o m apos) (e::es) [] pos) X.env=(do
   let ov <-eval o X.env
   standAt apos.atName
   let(f,first) <-holding [ov] (getMethod ov m pl)
   callWith pos f first (backTo pos (starEach (e::es) X.env)) (backToKw pos (keywordEach [] X.env))):=by rfl) :
  QE X (.Call (.Attribute o m apos) (e::es) [] pos) (iF C m sp [] E0 ta t):=by
 obtain⟨f,fd,hm,hb,F⟩:=M.ex
 exact⟨Ip (pl:=pl) he.up c hm F hr hb .nil wb ha.up hst hpl ht⟩
theorem gH{pl:Sem Bool}(c:qc X.K C)(M:cg X.prog X.w X.K X.mg X.base C m ps k sp)(hr:cD k X.A)(he:QE X o ta)
  (ht:eval (.Call (.Attribute o m apos) [] [] pos) X.env=(do
   let ov <-eval o X.env
   standAt apos.atName
   let(f,first) <-holding [ov] (getMethod ov m pl)
   callWith pos f first (backTo pos (starEach [] X.env)) (backToKw pos (keywordEach [] X.env))):=by rfl) :
  QE X (.Call (.Attribute o m apos) [] [] pos) (iF C m sp [] E0 ta aK):=by
 obtain⟨f,fd,hm,hb,F⟩:=M.ex
 exact⟨FP (pl:=pl) he.up c hm F hr hb .nil wb ht⟩
theorem sR(M:mL X.prog X.w X.K X.mg X.base x C ps k sp)(hr:cD (k+1) X.A)(hg:Gl X x)(ha:QA X (e::es) t)
  (hdb:(x==("__debug__":Str))=false:=by decide) (he:starEach (e::es) X.env=(false,eval e X.env)::starEach es X.env:=by rfl) (hpl:(backTo pos (starEach es X.env)).any (·.1)=false:=by rfl) :
  QE X (.Call (.Name x p) (e::es) [] pos) (wD C sp [] E0 t):=by
 obtain⟨f,fd,hm,hM,hb,F⟩:=M.ex
 exact⟨Io hM F hr hg hm hb .nil wb ha.up hdb he hpl⟩
theorem du{f:Str}(he:QE X e ta)(hb:attributeBase e f X.env (eval e X.env)=eval e X.env):QE X (.Attribute e f pos) (jr X.K ta f):=⟨Kw he.up hb⟩
theorem m8{f:Str}{value:Expr}{tv:TE}{pos':Pos}(ha:QE X o ta)(hv:QE X value tv)(hs:swapsWith value (some (.Attribute o f pos')) pos.line X.env=pure false):QS X (.Assign [.Attribute o f pos'] value pos) (uq X.K ta tv f):=⟨KP ha.up hv.up hs⟩
theorem K8{i:Nat}{y:Str}{te:TE}{op:Operator}{ti:LL}{pos':Pos}(hN:X.N.Nodup)(hi:X.N[i]?=some y)(hx:GX X.env.scope y)(he:QE X e te)(ho:MH X op ti)(hf:X.fn y=true\/X.env.scope.names.lookup y=some .local:=by first|exact .inl rfl|exact .inr rfl|assumption) :
  QS X (.AugAssign (.Name y pos') op e pos) (Lj i te ti):=⟨KO hN hi hx he.up ho hf⟩
theorem lQ{d i:Expr}{td ty:TE}(hu:X.A.units+1<cLine)(ho:QE X d td)(hi:QE X i ty)(hs:JP i):QE X (.Subscript d i pos) (ox td ty):=⟨Il hu ho.up hi.up hs⟩
end
def yk:List V->Hp->VK->Prop:=λxs H Q=>∃(a:Addr) (kvs:List (dB×V)),xs=[.ref a]/\H a=some (.dK kvs)/\∀p,H p=none->Q (.ref p) (upd H p (.dK kvs))
theorem pU{X:Cx}:kK X (.type "dict") yk:=by
 intro pins s σ H xs us Q I r h
 obtain⟨a,kvs,rfl,e,q⟩:=h
 obtain⟨u,rfl,rx⟩:=su r
 cases rx
 exact EL I (.inl e) λp s' hn I'=>⟨.ref p,_,I',rfl,q p hn⟩
section
variable{X:Cx}
theorem tL{es:List Bool}{us vs:List Value}(h1:us.length=es.length)(h2:vs.length=es.length):((jO (min us.toArray.size vs.toArray.size)).all (λj=>(es[j]?).getD false)&&us.toArray.size==vs.toArray.size)=es.all id:=by
 rw[aq,aq,h1,h2,Nat.min_self,Bm]
 simp
end
inductive Bd(K:Fg)(H:Hp):Nat->V->V->Bool->Prop where
 |flat {d:Nat} {x y:V} (hx:jk x=true) (hy:jk y=true):Bd K H d x y (tP x y)
 |same {d:Nat} {a:Addr}:Bd K H d (.ref a) (.ref a) true
 |lists {d:Nat} {a b:Addr} {us vs:List V} {es:List Bool} (n:a≠b) (ha:bZ K H a us) (hb:bZ K H b vs) (l1:us.length=vs.length) (l2:es.length=us.length) (h:∀(j:Nat) x y e,us[j]?=some x->vs[j]?=some y->es[j]?=some e->Bd K H d x y e):Bd K H (d+1) (.ref a) (.ref b) (es.all id)
 |listsL {d:Nat} {a b:Addr} {us vs:List V} (n:a≠b) (ha:bZ K H a us) (hb:bZ K H b vs) (l1:us.length≠vs.length):Bd K H (d+1) (.ref a) (.ref b) false
 |tups {d:Nat} {a b:Addr} {us vs:List V} {es:List Bool} (n:a≠b) (ha:eU K H a us) (hb:eU K H b vs) (l1:us.length=vs.length) (l2:es.length=us.length) (h:∀(j:Nat) x y e,us[j]?=some x->vs[j]?=some y->es[j]?=some e->Bd K H d x y e):Bd K H (d+1) (.ref a) (.ref b) (es.all id)
section
variable{X:Cx}
theorem xO{A:Around}{s:Shared}{kb:List (dB×V)}{vb:List (dB×Value)}(rb:KV kb vb){ka:List (dB×V)}{va:List (dB×Value)}(ra:KV ka va):∀(f:Nat->V),(∀(j:Nat) k v,ka[j]?=some (k,v)->gE kb k=some (f j))->(∀(j:Nat) k v u w,ka[j]?=some (k,v)->cP v u->cP (f j) w->SeqAt.EqAt A s u w true)->PySem.W.KeqHits A s vb va true:=by
 induction ra with
 |nil=>intro f _ _;exact .nil
 |@cons p q ps qs r _ ih=>
  intro f h1 h2
  obtain⟨k,v⟩:=p
  obtain⟨k',u⟩:=q
  obtain⟨e,rv⟩:=r
  have e':k=k':=e
  subst e'
  have hv:=h1 0 k v rfl
  have rel:=rb.val k
  rw[hv] at rel
  obtain⟨w,hw,rw'⟩:=nX.some_of rel
  have hh:=ih (λj=>f (j+1)) (λj k v e=>h1 (j+1) k v e) λj k v u w e=>h2 (j+1) k v u w e
  exact .hit hw (h2 0 k v u w rfl rv rw') hh
theorem oP{A:Around}{s:Shared}{xs ys:List V}{us vs:List Value}{es:List Bool}(r1:ck xs us)(r2:ck ys vs)(hl:xs.length=ys.length)(he:es.length=xs.length)
  (h:∀(j:Nat) a b e u v,xs[j]?=some a->ys[j]?=some b->es[j]?=some e->cP a u->cP b v->SeqAt.EqAt A s u v e) :
  ∀j (h1:j<us.toArray.size) (h2:j<vs.toArray.size),SeqAt.EqAt A s us.toArray[j] vs.toArray[j] ((es[j]?).getD false):=by
 intro j h1 h2
 have l1:=r1.length
 have l2:=r2.length
 rw[aq] at h1 h2
 have j1:j<xs.length:=by lia
 have j2:j<ys.length:=by lia
 have j3:j<es.length:=by lia
 obtain⟨u,hu',ru⟩:=r1.get (ab j1)
 obtain⟨v,hv,rv⟩:=r2.get (ab j2)
 have eu:us.toArray[j]=u:=by
  have:=ab h1
  rw[hu'] at this
  simpa using(Option.some.inj this).symm
 have ev:vs.toArray[j]=v:=by
  have:=ab h2
  rw[hv] at this
  simpa using(Option.some.inj this).symm
 rw[eu,ev,ab j3,fL]
 exact h j _ _ _ _ _ (ab j1) (ab j2) (ab j3) ru rv
theorem tO{es:List Bool}{us:List Value}(h1:us.length=es.length):(jO us.toArray.size).all (λj=>(es[j]?).getD false)=es.all id:=by
 rw[aq,h1,Bm]
theorem rg{pins:List (Addr×Obj)}{σ:St}{H:Hp}{s:Shared}(I:bQ X pins σ H s){d:Nat}{x y:V}{b:Bool}(h:Bd X.K H d x y b):∀{A:Around} {u v:Value},A.units+d<cLine->cP x u->cP y v->SeqAt.EqAt A s u v b:=by
 induction h with
 |flat hx hy=>exact λ_ rx ry=>rf rx ry hx hy
 |same=>
  intro A u v _ rx ry
  cases rx
  cases ry
  exact SeqAt.EqAt.same _
 |@lists d a b us vs es n ha hb hl he h ih=>
  intro A u v hu rx ry
  cases rx
  cases ry
  obtain⟨us',r1,t1,_⟩:=I.list ha
  obtain⟨vs',r2,t2,_⟩:=I.list hb
  have l1:=r1.length
  have l2:=r2.length
  have:=SeqAt.EqAt.of_refs n (SeqAt.RcAt.lists (A:=A) t1.isList t2.isList (by rw[aq,aq];lia) (by lia) (oP (A:=A.in1) r1 r2 hl he λj a b e u v e1 e2 e3 ru rv=>ih j a b e e1 e2 e3 (by show A.units+1+d<cLine;lia) ru rv))
  rw[tO (by lia)] at this
  exact this
 |@listsL d a b us vs n ha hb hl=>
  intro A u v hu rx ry
  cases rx
  cases ry
  obtain⟨us',r1,t1,_⟩:=I.list ha
  obtain⟨vs',r2,t2,_⟩:=I.list hb
  have l1:=r1.length
  have l2:=r2.length
  exact SeqAt.EqAt.of_refs n (SeqAt.RcAt.lists_lengths (A:=A) t1.isList t2.isList (by rw[aq,aq];simp;lia) (by lia))
 |@tups d a b us vs es n ha hb hl he h ih=>
  intro A u v hu rx ry
  cases rx
  cases ry
  obtain⟨us',r1,t1,_⟩:=I.tuple ha
  obtain⟨vs',r2,t2,_⟩:=I.tuple hb
  have l1:=r1.length
  have l2:=r2.length
  have:=SeqAt.EqAt.of_refs n (SeqAt.RcAt.tuples (A:=A) (show s.heap.IsTuple a us'.toArray from t1) (show s.heap.IsTuple b vs'.toArray from t2) (by lia) (oP (A:=A.in1) r1 r2 hl he λj a b e u v e1 e2 e3 ru rv=>ih j a b e e1 e2 e3 (by show A.units+1+d<cLine;lia) ru rv))
  rw[tL (by lia) (by lia)] at this
  exact this
def IV(K:Fg)(neg:Bool):R2:=λx y H Q=>∃(p q:Addr) (xs ys:List V),x=.ref p/\y=.ref q/\((bZ K H p xs/\bZ K H q ys)\/(eU K H p xs/\eU K H q ys/\xs.length=ys.length))/\
 ((xs.length≠ys.length/\Q (.bl neg) H)\/∃es:List Bool,xs.length=ys.length/\es.length=xs.length/\(∀(j:Nat) a b e,xs[j]?=some a->ys[j]?=some b->es[j]?=some e->Bd K H 4 a b e)/\Q (.bl (if neg then !es.all id else es.all id)) H)
theorem Kl(hu:X.A.units+5<cLine):lh X (compareOp .Eq) (IV X.K false):=by
 intro pins s σ H x y v u Q I rx ry h
 obtain⟨p,q,xs,ys,rfl,rfl,hk,hc⟩:=h
 cases rx
 cases ry
 have hu':X.A.units<cLine:=by lia
 rcases hk with⟨h1,h2⟩|⟨h1,h2,hl0⟩
 ·obtain⟨us,r1,t1,_⟩:=I.list h1
  obtain⟨vs,r2,t2,_⟩:=I.list h2
  have l1:=r1.length
  have l2:=r2.length
  rcases hc with⟨hl,qq⟩|⟨es,hl,he,hE,qq⟩
  ·exact SeqAt.eq_list_lengthsAt t1.isList t2.isList (by rw[aq,aq];simp;lia) hu' ⟨.bl false,H,I,rfl,qq⟩
  ·refine SeqAt.eq_listAt t1.isList t2.isList (by rw[aq,aq];lia) hu' (oP (A:=X.A.in1) r1 r2 hl he λj a b e u v e1 e2 e3 ru rv=>rg I (hE j a b e e1 e2 e3) (by show X.A.units+1+4<cLine;lia) ru rv) ⟨.bl (es.all id),H,I,?_,qq⟩
   show Value.bool _=Value.bool _
   rw[tO (by lia)]
 ·obtain⟨us,r1,t1,_⟩:=I.tuple h1
  obtain⟨vs,r2,t2,_⟩:=I.tuple h2
  have l1:=r1.length
  have l2:=r2.length
  rcases hc with⟨hl,_⟩|⟨es,hl,he,hE,qq⟩
  ·exact absurd hl0 hl
  ·refine SeqAt.eq_tupleAt (show s.heap.IsTuple p us.toArray from t1) (show s.heap.IsTuple q vs.toArray from t2) hu' (oP (A:=X.A.in1) r1 r2 hl he λj a b e u v e1 e2 e3 ru rv=>rg I (hE j a b e e1 e2 e3) (by show X.A.units+1+4<cLine;lia) ru rv) ⟨.bl (es.all id),H,I,?_,qq⟩
   show Value.bool _=Value.bool _
   rw[tL (by lia) (by lia)]
theorem Kq(hu:X.A.units+5<cLine):lh X (compareOp .NotEq) (IV X.K true):=by
 intro pins s σ H x y v u Q I rx ry h
 obtain⟨p,q,xs,ys,rfl,rfl,hk,hc⟩:=h
 cases rx
 cases ry
 have hu':X.A.units<cLine:=by lia
 rcases hk with⟨h1,h2⟩|⟨h1,h2,hl0⟩
 ·obtain⟨us,r1,t1,_⟩:=I.list h1
  obtain⟨vs,r2,t2,_⟩:=I.list h2
  have l1:=r1.length
  have l2:=r2.length
  rcases hc with⟨hl,qq⟩|⟨es,hl,he,hE,qq⟩
  ·exact SeqAt.RcNeAt.lists_lengths t1.isList t2.isList (by rw[aq,aq];simp;lia) hu' X.prog X.w X.xe _ ⟨.bl true,H,I,rfl,qq⟩
  ·refine SeqAt.RcNeAt.lists t1.isList t2.isList (by rw[aq,aq];lia) hu' (oP (A:=X.A.in1) r1 r2 hl he λj a b e u v e1 e2 e3 ru rv=>rg I (hE j a b e e1 e2 e3) (by show X.A.units+1+4<cLine;lia) ru rv) X.prog X.w X.xe _ ⟨.bl (!es.all id),H,I,?_,qq⟩
   show Value.bool _=Value.bool _
   rw[tO (by lia)]
 ·obtain⟨us,r1,t1,_⟩:=I.tuple h1
  obtain⟨vs,r2,t2,_⟩:=I.tuple h2
  have l1:=r1.length
  have l2:=r2.length
  rcases hc with⟨hl,_⟩|⟨es,hl,he,hE,qq⟩
  ·exact absurd hl0 hl
  ·refine SeqAt.RcNeAt.tuples (show s.heap.IsTuple p us.toArray from t1) (show s.heap.IsTuple q vs.toArray from t2) hu' (oP (A:=X.A.in1) r1 r2 hl he λj a b e u v e1 e2 e3 ru rv=>rg I (hE j a b e e1 e2 e3) (by show X.A.units+1+4<cLine;lia) ru rv) X.prog X.w X.xe _ ⟨.bl (!es.all id),H,I,?_,qq⟩
   show Value.bool _=Value.bool _
   rw[tL (by lia) (by lia)]
def CU(K:Fg)(neg:Bool):R2:=λx y H Q=>∃(a b:Addr) (ka kb:List (dB×V)) (f:Nat->V),x=.ref a/\y=.ref b/\H a=some (.dK ka)/\H b=some (.dK kb)/\ka.length=kb.length/\(∀(j:Nat) k v,ka[j]?=some (k,v)->gE kb k=some (f j))/\(∀(j:Nat) k v,ka[j]?=some (k,v)->Bd K H 4 v (f j) true)/\Q (.bl (!neg)) H
theorem HY(hu:X.A.units+5<cLine):lh X (compareOp .Eq) (CU X.K false):=by
 intro pins s σ H x y v u Q I rx ry h
 obtain⟨a,b,ka,kb,f,rfl,rfl,ha,hb,hl,hf,hE,qq⟩:=h
 cases rx
 cases ry
 obtain⟨_,la,va,ra,da⟩:=oa I.hok ha
 obtain⟨_,lb,vb,rb,db⟩:=oa I.hok hb
 refine PySem.W.keq_eq (r:=true) la lb da db (by lia) (λ_=>xO rb ra f hf λj k v u w e ru rw'=>rg I (hE j k v e) (by show X.A.units+1+4<cLine;lia) ru rw') ⟨.bl true,H,I,?_,qq⟩
 show Value.bool _=Value.bool _
 rw[<-ra.length,<-rb.length,hl];simp
theorem Ia(hu:X.A.units+5<cLine):lh X (compareOp .NotEq) (CU X.K true):=by
 intro pins s σ H x y v u Q I rx ry h
 obtain⟨a,b,ka,kb,f,rfl,rfl,ha,hb,hl,hf,hE,qq⟩:=h
 cases rx
 cases ry
 obtain⟨_,la,va,ra,da⟩:=oa I.hok ha
 obtain⟨_,lb,vb,rb,db⟩:=oa I.hok hb
 refine PySem.W.keq_ne (r:=true) la lb da db (by lia) (λ_=>xO rb ra f hf λj k v u w e ru rw'=>rg I (hE j k v e) (by show X.A.units+1+4<cLine;lia) ru rw') ⟨.bl false,H,I,?_,qq⟩
 show Value.bool _=Value.bool _
 rw[<-ra.length,<-rb.length,hl];simp
def D3(K:Fg):R2:=λx y H Q=>IV K false x y H Q\/(CU K false x y H Q\/fh K x y H Q)
def La(K:Fg):R2:=λx y H Q=>IV K true x y H Q\/(CU K true x y H Q\/FZ K x y H Q)
theorem yg(hu:X.A.units+5<cLine):lh X (compareOp .Eq) (D3 X.K):=(Kl hu).or ((HY hu).or (cq (by lia)))
theorem Ks(hu:X.A.units+5<cLine):lh X (compareOp .NotEq) (La X.K):=(Kq hu).or ((Ia hu).or (yh (by lia)))
end
section
variable{X:Cx}{pins:List (Addr×Obj)}{σ:St}{H:Hp}{s:Shared}{d:Addr}{kvs:List (dB×V)}{u u':HO}
end
section
variable{X:Cx}{tg:Expr}
end
end L2
end
section
namespace PySem
open Sem (wp)
section
variable{prog:Program}{w:World}{A:Around}{R:Result->Shared->Prop}{K:Type}[DecidableEq K]{knd:KeyKind prog w K}
end
section
variable{prog:Program}{w:World}{A:Around}{E:Value->Shared->Prop}{s:Shared}{K:Type}[DecidableEq K]{knd:KeyKind prog w K}
end
end PySem
end
section
namespace L2
open PySem PySem.Spec PyProof.Rows
section
variable{X:Cx}
theorem w4:∀{xs:List V} {us:List Value},us.length=xs.length->(∀(j:Nat) x u,xs[j]?=some x->us[j]?=some u->cP x u)->ck xs us
 |[],[],_,_=>.nil
 |x::xs,u::us,hl,h=>.cons (h 0 x u rfl rfl) (w4 (Nat.succ.inj hl) λj x u e1 e2=>h (j+1) x u e1 e2)
end
section
variable{X:Cx}
end
theorem Kf{kvs:List (dB×V)}{vs:List (dB×Value)}(r:KV kvs vs):∀{i:Nat} {p:dB×V} {q:dB×Value},kvs[i]?=some p->vs[i]?=some q->p.1=q.1/\cP p.2 q.2:=by
 induction r with
 |nil=>intro i p q e _;simp at e
 |@cons a b as bs h _ ih=>
  intro i p q e1 e2
  match i with
  |0=>cases e1;cases e2;exact h
  |i+1=>exact ih e1 e2
section
variable{X:Cx}{tg:Expr}
structure M0(X:Cx)(o:Expr)(m:Str)(apos cpos:Pos):Prop where
 base:attributeBase o m X.env (eval o X.env)=eval o X.env
 line:(apos.endLine==cpos.line)=true
def yA(td:TE):TE:=λσ H Q=>td σ H λx H1=>∃a kvs,x=.ref a/\H1 a=some (.dK kvs)/\Q .non (upd H1 a (.dK []))
theorem DZ{l:Expr}{tl:TE}{apos cpos:Pos}(hl:PE X l tl)(m:M0 X l "clear" apos cpos):PE X (.Call (.Attribute l "clear" apos) [] [] cpos) (yA tl):=by
 intro pins s σ H Q I h
 refine wpAny_Call_method (T:="dict") (id:="dict.clear") m.base rfl m.line PySem.F.plainAttrs_dict PySem.F.slot_dict_clear PySem.F.type_dict_clear (fK (hl pins s σ H _ I h) λv s1 ⟨x,H1,I1,r1,q1⟩=>?_)
 obtain⟨d,kvs,rfl,e,q⟩:=q1
 cases r1
 obtain⟨t1,t2,_⟩:=Fc I1 (.inl ⟨kvs,.inl e⟩)
 refine⟨t1,t2,?_⟩
 show wpAny _ _ (callWith cpos (.builtin "dict.clear") [.ref d] [] []) _ _ s1
 exact Calls.callWith_builtin rfl (kI (Hh I1 e λs2 I2=>⟨.non,_,I2,rfl,q⟩))
end
section
variable{X:Cx}{tg l o e f:Expr}{tl td ty tx:TE}{apos cpos:Pos}
theorem D2(hl:QE X l tl)(m:M0 X l "clear" apos cpos):QE X (.Call (.Attribute l "clear" apos) [] [] cpos) (yA tl):=⟨DZ hl.up m⟩
theorem xP{A:Around}{k:Nat}(hr:cD k A):A.units+5<cLine:=iX (kG (by decide:5<=64) _) hr.units
end
end L2
end
section
namespace Bg
open PySem L2
theorem GQ{ks:List dB}:∀{us:List V} {j:Nat} {k:dB} {u:V},ks.Nodup->ks[j]?=some k->us[j]?=some u->gE (ks.zip us) k=some u:=by
 induction ks with
 |nil=>intro us j k u _ e _;simp at e
 |cons a r ih=>
  intro us j k u nd e1 e2
  obtain⟨na,nr⟩:=dO.mp nd
  cases us with
  |nil=>simp at e2
  |cons b t=>
   rw[List.zip_cons_cons]
   match j with
   |0=>cases e1;cases e2;exact eS rfl
   |j+1=>
    have hk:k∈r:=az e1
    exact(eR (λz=>na (by rw[show a=k from z];exact hk))).trans (ih nr e1 e2)
theorem ua:∀(more acc:List (dB×V)),((acc++more).map (·.1)).Nodup->fO acc more=acc++more
 |[],acc,_=>by show acc=acc++[];rw[kx]
 |p::r,acc,nd=>by
  have hn:gE acc p.1=none:=by
   cases e:gE acc p.1 with
   |none=>rfl
   |some v=>
    have m:=Jt e
    rw[bw,bJ] at nd
    exact absurd rfl ((List.nodup_append.mp nd).2.2 _ m _ ay)
  show fO (iz acc p.1 p.2) r=acc++p::r
  rw[zK _ hn,ua r (acc++[(p.1,p.2)]) (by rw[jt];exact nd),jt]
  rfl
def Sd(rs:List bP)(m:Nat):Nat:=runJ rs rs.length m
def MC(rs:List bP)(n t:Nat):Prop:=∃r m,rs[n]?=some r/\m∈cy n r/\Sd rs m=t
theorem Gs{rs:List bP}(g:eL rs){n:Nat}(h:vS rs n):n<rs.length:=h.1.lt g
theorem uX{rs:List bP}(g:eL rs):∀(k:Nat) {m:Nat},GY rs none m->GY rs none (runJ rs k m)
 |0,_,h=>h
 |k+1,m,h=>by
  show GY rs none (runJ rs k (stp rs m))
  refine uX g k ?_
  unfold stp
  cases e:rs[m]? with
  |none=>exact h
  |some r=>
   cases r with
   |jump to=>exact .step h e (λy z=>by cases z) (by unfold cy;exact ay)
   |_=>exact h
theorem Cc{rs:List bP}(g:eL rs){n t:Nat}(h:vS rs n)(e:MC rs n t):vS rs t:=by
 obtain⟨r,m,hr,hm,rfl⟩:=e
 have wm:GY rs none m:=.step h.1 hr (λy z=>by cases z) hm
 exact⟨uX g _ wm,λr' hr'=>g.ring m (g.inr _ _ _ hr hm) r' hr'⟩
def fU(_:Fg):Sp:=λvs H Q _=>∃(rt:Addr) (n:Nat) (rvs:List V) (rs:List bP),vs=[.ref rt,.int (n:Nat)]/\H rt=some (.tup rvs)/\bR (eD H) rvs rs/\eL rs/\n<rs.length/\Q (.int (Sd rs n:Nat)) H
abbrev HG:Nat:=0
abbrev lM:Nat:=1
def Lu(s:Str)(a b:Int):Int:=if s="+" then a+b else if s="-" then a-b else a*b
def uY(s:Str)(a b:Int):Int:=if s="<" then(if a<b then 1 else 0) else if s="=" then(if a=b then 1 else 0) else Lu s a b % 18446744073709551616
def u1(a:Int):Prop:=0<=a/\a<2 ^ 64
theorem Lm(s:Str)(a b:Int):u1 (uY s a b):=by
 have e:(2:Int) ^ 64=18446744073709551616:=by decide
 unfold uY u1
 rw[e]
 split
 ·split<;>decide
 ·split
  ·split<;>decide
  ·exact⟨cI _ (by decide),cC _ (by decide)⟩
def eQ(_:Fg):Sp:=λvs H Q _=>∃(s:Str) (a b:Int),vs=[.str s,.int a,.int b]/\u1 a/\u1 b/\Q (.int (Lu s a b)) H
def jg(_:Fg):Sp:=λvs H Q _=>∃(s:Str) (a b:Int),vs=[.str s,.int a,.int b]/\u1 a/\u1 b/\Q (.int (uY s a b)) H
abbrev vd:Nat:=0
abbrev j8:Nat:=1
abbrev DE:Nat:=1
abbrev oJ:Nat:=2
theorem cJ{σ:St}{H:Hp}{R:List V->Hp->Prop}(h:R [] H):aK σ H R:=h
structure tE(K:Fg)(C:Addr):Prop where
 cl:qc K C
 no:iI K C "opened"
 ns:iI K C "spoken"
 nu:iI K C "outcome"
def JF(ol sl:Addr):List (Str×V):=[("opened",.ref ol),("spoken",.ref sl),("outcome",.non)]
def ic(K:Fg):Sp:=λvs H Q _=>∃(x dx C:Addr),vs=[.ref x]/\H x=some (.ins C dx [])/\tE K C/\
 ∀(ol sl:Addr) (H':Hp),H ol=none->H sl=none->ol≠sl->H' x=some (.ins C dx (JF ol sl))->H' ol=some (.lst [])->H' sl=some (.lst [])->fX x H H'->Q .non H'
def cF(K:Fg):Sp:=λvs H Q _=>∃(w C dx ol:Addr) (fs:List (Str×V)) (fvs:List V),vs=[.ref w]/\H w=some (.ins C dx fs)/\tE K C/\fs.lookup ("opened":Str)=some (.ref ol)/\H ol=some (.lst fvs)/\∀b:Bool,(b=true↔fvs=[])->Q (.bl b) H
def dM(K:Fg):Sp:=λvs H Q _=>∃(w C dx sl:Addr) (fs:List (Str×V)) (xs:List V),vs=[.ref w]/\H w=some (.ins C dx fs)/\tE K C/\fs.lookup ("spoken":Str)=some (.ref sl)/\H sl=some (.lst xs)/\∀l,H l=none->Q (.ref l) (upd H l (.lst xs))
def cS(K:Fg):Sp:=λvs H Q _=>∃(w C dx:Addr) (fs:List (Str×V)) (v:V),vs=[.ref w]/\H w=some (.ins C dx fs)/\tE K C/\fs.lookup ("outcome":Str)=some v/\Q v H
abbrev Bx:Nat:=0
abbrev mJ:Nat:=1
abbrev zc:Nat:=0
abbrev fY:Nat:=1
abbrev By:Nat:=0
abbrev jP:Nat:=1
abbrev xS:Nat:=0
abbrev iq:Nat:=1
structure iJ(K:Fg):Prop where
 clW:qc K (aR K "Walk")
 clF:qc K (aR K "Frame")
 nWp:iI K (aR K "Walk") "program"
 nWo:iI K (aR K "Walk") "opened"
 nWs:iI K (aR K "Walk") "spoken"
 nWu:iI K (aR K "Walk") "outcome"
 nFp:iI K (aR K "Frame") "part"
 nFr:iI K (aR K "Frame") "row"
 nFn:iI K (aR K "Frame") "names"
structure Fr where
 part:Nat
 row:Nat
 nm:List (dB×V)
structure jb where
 fs:List Fr
 said:List Int
 out:V
def Du(p r n:V):List (Str×V):=[("part",p),("row",r),("names",n)]
def MB(pp ol sl:Addr)(out:V):List (Str×V):=[("opened",.ref ol),("spoken",.ref sl),("outcome",out),("program",.ref pp)]
inductive mn(K:Fg)(H:Hp):List V->List Addr->List Fr->Prop where
 |nil:mn K H [] [] []
 |snoc {fvs:List V} {ds:List Addr} {fs:List Fr} {a dx d:Addr} {f:Fr} (h:mn K H fvs ds fs) (na:V.ref a∉fvs) (nd:d∉ds) (ha:H a=some (.ins (aR K "Frame") dx (Du (.int (f.part:Nat)) (.int (f.row:Nat)) (.ref d)))) (hd:H d=some (.dK f.nm)) :
   mn K H (fvs++[.ref a]) (ds++[d]) (fs++[f])
theorem mn.keep{K:Fg}{H H':Hp}{fvs:List V}{ds:List Addr}{fs:List Fr}(h:mn K H fvs ds fs)(kf:∀a,V.ref a∈fvs->∀o,H a=some o->H' a=some o)(kd:∀d∈ds,∀o,H d=some o->H' d=some o):mn K H' fvs ds fs:=by
 induction h with
 |nil=>exact .nil
 |snoc h na nd ha hd ih=>
  exact .snoc (ih (λa m=>kf a (aW _ m)) λd m=>kd d (aW _ m)) na nd (kf _ (aJ _ ay) _ ha) (kd _ (aJ _ ay) _ hd)
theorem ow{α:Type}{a b:List α}{x y:α}(h:a++[x]=b++[y]):a=b/\x=y:=by
 have:=List.append_inj' h rfl
 exact⟨this.1,by injection this.2⟩
theorem mn.last{K:Fg}{H:Hp}{fvs:List V}{ds:List Addr}{fs:List Fr}{f:Fr}(h:mn K H fvs ds (fs++[f])):∃fvs' ds' a dx d,fvs=fvs'++[.ref a]/\ds=ds'++[d]/\mn K H fvs' ds' fs/\V.ref a∉fvs'/\d∉ds'/\H a=some (.ins (aR K "Frame") dx (Du (.int (f.part:Nat)) (.int (f.row:Nat)) (.ref d)))/\H d=some (.dK f.nm):=by
 generalize e:fs++[f]=gs at h
 cases h with
 |nil=>simp at e
 |snoc h na nd ha hd=>
  obtain⟨rfl,rfl⟩:=ow e
  exact⟨_,_,_,_,_,rfl,rfl,h,na,nd,ha,hd⟩
theorem mn.len{K:Fg}{H:Hp}{fvs:List V}{ds:List Addr}{fs:List Fr}(h:mn K H fvs ds fs):fvs.length=fs.length:=by
 induction h with
 |nil=>rfl
 |snoc _ _ _ _ _ ih=>simp[ih]
theorem mn.ins{K:Fg}{H:Hp}{fvs:List V}{ds:List Addr}{fs:List Fr}(h:mn K H fvs ds fs){a:Addr}(m:V.ref a∈fvs):∃dx l,H a=some (.ins (aR K "Frame") dx l)/\∃p r d,l=Du p r d:=by
 induction h with
 |nil=>cases m
 |snoc _ _ _ ha _ ih=>
  rcases aP.mp m with z|z
  ·exact ih z
  ·have:=au.mp z
   injection this with this
   subst this
   exact⟨_,_,ha,_,_,_,rfl⟩
theorem mn.dct{K:Fg}{H:Hp}{fvs:List V}{ds:List Addr}{fs:List Fr}(h:mn K H fvs ds fs){d:Addr}(m:d∈ds):∃l,H d=some (.dK l):=by
 induction h with
 |nil=>cases m
 |snoc _ _ _ _ hd ih=>
  rcases aP.mp m with z|z
  ·exact ih z
  ·rw[au.mp z];exact⟨_,hd⟩
structure eN(K:Fg)(H0 H:Hp)(w pp dx ol sl:Addr)(fvs:List V)(ds:List Addr)(n:Nat)(st:jb):Prop where
 at_:H w=some (.ins (aR K "Walk") dx (MB pp ol sl st.out))
 op:H ol=some (.lst fvs)
 sp:H sl=some (.lst (st.said.map V.int))
 ne:ol≠sl
 fr:mn K H fvs ds st.fs
 sm:aS H0 H
 nw:H0 w=none
 no:H0 ol=none
 ns:H0 sl=none
 nf:∀a,V.ref a∈fvs->H0 a=none
 nd:∀d∈ds,H0 d=none
 few:fvs.length<=n
 saw:st.said.length<=n
 nms:∀f∈st.fs,f.nm.length<=n+100
def dz(K:Fg)(H0 H:Hp)(w pp:Addr)(n:Nat)(st:jb):Prop:=∃dx ol sl fvs ds,eN K H0 H w pp dx ol sl fvs ds n st
structure hU(H:Hp)(pp:Addr)(bs:List bf):Prop where
 ex:∃pvs,H pp=some (.tup pvs)/\bR (nV H) pvs bs
 good:∀b∈bs,eL b.rows
 few:∀b∈bs,b.params.length<=100
theorem hU.same{H H':Hp}{pp:Addr}{bs:List bf}(h:hU H pp bs)(s:aS H H'):hU H' pp bs:=by
 obtain⟨pvs,e,a⟩:=h.ex
 exact⟨⟨pvs,s _ _ e,a.imp λ_ _ z=>z.mono (.of_same s)⟩,h.good,h.few⟩
def go(b:bf)(n:Nat):Nat:=runJ b.rows b.rows.length n
def u7(nm:List (dB×V))(y:Str)(i:Int):Prop:=gE nm (Sum.inr y)=some (.int i)/\u1 i
def put(nm:List (dB×V))(x:Str)(i:Int):List (dB×V):=iz nm (Sum.inr x) (.int i)
def gG(b:bf)(k:Nat)(zs:List Int):Fr:=⟨k,go b 0,fO [] ((b.params.map Sum.inr).zip (zs.map V.int))⟩
inductive yI(bs:List bf):jb->jb->Prop where
 |num {fs:List Fr} {f:Fr} {b:bf} {x:Str} {z:Int} {said:List Int} (hb:bs[f.part]?=some b) (hr:b.rows[f.row]?=some (.num x z)):yI bs ⟨fs++[f],said,.non⟩ ⟨fs++[⟨f.part,go b (f.row+1),put f.nm x z⟩],said,.non⟩
 |op {fs:List Fr} {f:Fr} {b:bf} {x s p q:Str} {i j:Int} {said:List Int} (hb:bs[f.part]?=some b) (hr:b.rows[f.row]?=some (.op x s p q)) (hi:u7 f.nm p i) (hj:u7 f.nm q j):yI bs ⟨fs++[f],said,.non⟩ ⟨fs++[⟨f.part,go b (f.row+1),put f.nm x (uY s i j)⟩],said,.non⟩
 |say {fs:List Fr} {f:Fr} {b:bf} {p:Str} {i:Int} {said:List Int} (hb:bs[f.part]?=some b) (hr:b.rows[f.row]?=some (.say p)) (hi:u7 f.nm p i):yI bs ⟨fs++[f],said,.non⟩ ⟨fs++[⟨f.part,go b (f.row+1),f.nm⟩],said++[i],.non⟩
 |yes {fs:List Fr} {f:Fr} {b:bf} {p:Str} {i:Int} {to:Nat} {said:List Int} (hb:bs[f.part]?=some b) (hr:b.rows[f.row]?=some (.test p to)) (hi:u7 f.nm p i) (h0:i≠0):yI bs ⟨fs++[f],said,.non⟩ ⟨fs++[⟨f.part,go b to,f.nm⟩],said,.non⟩
 |no {fs:List Fr} {f:Fr} {b:bf} {p:Str} {to:Nat} {said:List Int} (hb:bs[f.part]?=some b) (hr:b.rows[f.row]?=some (.test p to)) (hi:u7 f.nm p 0):yI bs ⟨fs++[f],said,.non⟩ ⟨fs++[⟨f.part,go b (f.row+1),f.nm⟩],said,.non⟩
 |call {fs:List Fr} {f:Fr} {b c:bf} {x:Str} {k:Nat} {as:List Str} {zs:List Int} {said:List Int} (hb:bs[f.part]?=some b) (hr:b.rows[f.row]?=some (.call x k as)) (hc:bs[k]?=some c) (hl:c.params.length=as.length) (hz:zs.length=as.length) (hi:∀(j:Nat) y z,as[j]?=some y->zs[j]?=some z->u7 f.nm y z) :
   yI bs ⟨fs++[f],said,.non⟩ ⟨fs++[f]++[gG c k zs],said,.non⟩
 |last {f:Fr} {b:bf} {p:Str} {i:Int} {said:List Int} (hb:bs[f.part]?=some b) (hr:b.rows[f.row]?=some (.give p)) (hi:u7 f.nm p i):yI bs ⟨[f],said,.non⟩ ⟨[],said,.int i⟩
 |give {fs:List Fr} {g f:Fr} {b c:bf} {p x:Str} {k:Nat} {as:List Str} {i:Int} {said:List Int} (hb:bs[f.part]?=some b) (hr:b.rows[f.row]?=some (.give p)) (hi:u7 f.nm p i) (hc:bs[g.part]?=some c) (hg:c.rows[g.row]?=some (.call x k as)) :
   yI bs ⟨fs++[g]++[f],said,.non⟩ ⟨fs++[⟨g.part,go c (g.row+1),put g.nm x i⟩],said,.non⟩
theorem iJ.run{K:Fg}(T:iJ K):tE K (aR K "Walk"):=⟨T.clW,T.nWo,T.nWs,T.nWu⟩
def fI(K:Fg):Sp:=λvs H Q _=>∃(x dx:Addr) (p r n:V),vs=[.ref x,p,r,n]/\H x=some (.ins (aR K "Frame") dx [])/\Q .non (upd H x (.ins (aR K "Frame") dx (Du p r n)))
def vz(K:Fg):Sp:=λvs H Q _=>∃(w pp:Addr) (H0:Hp) (n:Nat) (st:jb),vs=[.ref w]/\dz K H0 H w pp n st/\∀b:Bool,(b=true↔st.fs=[])->Q (.bl b) H
def yy(K:Fg):Sp:=λvs H Q _=>∃(w pp:Addr) (H0:Hp) (n:Nat) (st:jb),vs=[.ref w]/\dz K H0 H w pp n st/\∀l,H l=none->Q (.ref l) (upd H l (.lst (st.said.map V.int)))
def ux(K:Fg):Sp:=λvs H Q _=>∃(w pp:Addr) (H0:Hp) (n:Nat) (st:jb),vs=[.ref w]/\dz K H0 H w pp n st/\Q st.out H
theorem j5{K:Fg}(T:iJ K){vs:List V}{H:Hp}{Q:VK}{E:XK}(h:vz K vs H Q E):cF K vs H Q E:=by
 obtain⟨w,pp,H0,n,st,rfl,⟨dx,ol,sl,fvs,ds,X⟩,q⟩:=h
 refine⟨w,_,dx,ol,_,fvs,rfl,X.at_,T.run,rfl,X.op,λb hb=>q b (hb.trans ?_)⟩
 have l:=X.fr.len
 exact⟨λz=>cO.mp (by rw[<-l,z];rfl),λz=>cO.mp (by rw[l,z];rfl)⟩
theorem w6{K:Fg}(T:iJ K){vs:List V}{H:Hp}{Q:VK}{E:XK}(h:yy K vs H Q E):dM K vs H Q E:=by
 obtain⟨w,pp,H0,n,st,rfl,⟨dx,ol,sl,fvs,ds,X⟩,q⟩:=h
 exact⟨w,_,dx,sl,_,_,rfl,X.at_,T.run,rfl,X.sp,q⟩
theorem oF{K:Fg}(T:iJ K){vs:List V}{H:Hp}{Q:VK}{E:XK}(h:ux K vs H Q E):cS K vs H Q E:=by
 obtain⟨w,pp,H0,n,st,rfl,⟨dx,ol,sl,fvs,ds,X⟩,q⟩:=h
 exact⟨w,_,dx,_,_,rfl,X.at_,T.run,rfl,q⟩
def di(K:Fg):Sp:=λvs H Q _=>∃(w pp a dx ol sl:Addr) (to n:Nat) (H0:Hp) (fvs:List V) (ds:List Addr) (fs:List Fr) (f:Fr) (said:List Int) (out:V) (bs:List bf) (b:bf),vs=[.ref w,.ref a,.int (to:Nat)]/\eN K H0 H w pp dx ol sl (fvs++[.ref a]) ds n ⟨fs++[f],said,out⟩/\hU H0 pp bs/\bs[f.part]?=some b/\to<b.rows.length/\
 ∀H',eN K H0 H' w pp dx ol sl (fvs++[.ref a]) ds n ⟨fs++[⟨f.part,go b to,f.nm⟩],said,out⟩->Q .non H'
def dh(K:Fg):Sp:=λvs H Q _=>∃(w pp q:Addr) (k n:Nat) (H0:Hp) (st:jb) (zs:List Int) (bs:List bf) (b:bf),vs=[.ref w,.int (k:Nat),.ref q]/\dz K H0 H w pp n st/\hU H0 pp bs/\bs[k]?=some b/\b.params.length=zs.length/\(H q=some (.lst (zs.map V.int))\/H q=some (.tup (zs.map V.int)))/\n<=10000/\
 ∀H',dz K H0 H' w pp (n+1) ⟨st.fs++[gG b k zs],st.said,st.out⟩->Q .non H'
def dq(K:Fg):Sp:=λvs H Q _=>∃(w dx pp q:Addr) (k:Nat) (H0:Hp) (zs:List Int) (bs:List bf) (b:bf),vs=[.ref w,.ref pp,.int (k:Nat),.ref q]/\H w=some (.ins (aR K "Walk") dx [])/\aS H0 H/\H0 w=none/\hU H0 pp bs/\bs[k]?=some b/\b.params.length=zs.length/\(H q=some (.lst (zs.map V.int))\/H q=some (.tup (zs.map V.int)))/\
 ∀H',dz K H0 H' w pp 1 ⟨[gG b k zs],[],.non⟩->Q .non H'
def fJ(K:Fg):Sp:=λvs H Q _=>∃(w pp:Addr) (i:Int) (n:Nat) (H0:Hp) (st st':jb) (bs:List bf) (f:Fr) (b:bf) (p:Str),vs=[.ref w,.int i]/\dz K H0 H w pp n st/\hU H0 pp bs/\n<=10000/\u1 i/\
 ((st=⟨[f],st.said,.non⟩/\st'=⟨[],st.said,.int i⟩)\/∃(fs:List Fr) (g:Fr) (c:bf) (x:Str) (k:Nat) (as:List Str),st=⟨fs++[g]++[f],st.said,.non⟩/\bs[g.part]?=some c/\c.rows[g.row]?=some (.call x k as)/\st'=⟨fs++[⟨g.part,go c (g.row+1),put g.nm x i⟩],st.said,.non⟩)/\
 ∀H',dz K H0 H' w pp (n+1) st'->Q .non H'
def Fd:bP->Bool
 |.call _ _ _=>false
 |.give _=>false
 |.jump _=>false
 |_=>true
def gy(K:Fg):Sp:=λvs H Q _=>∃(w pp a dx ol sl tk:Addr) (rv:V) (r:bP) (n:Nat) (H0:Hp) (fvs:List V) (ds:List Addr) (fs:List Fr) (f:Fr) (said zs:List Int) (bs:List bf) (b:bf) (st':jb),vs=[.ref w,.ref a,rv,.ref tk]/\eN K H0 H w pp dx ol sl (fvs++[.ref a]) ds n ⟨fs++[f],said,.non⟩/\hU H0 pp bs/\n<=10000/\
 bs[f.part]?=some b/\b.rows[f.row]?=some r/\eD H0 rv r/\Fd r=true/\H tk=some (.lst (zs.map V.int))/\zs.length=(dF r).length/\(∀(j:Nat) y z,(dF r)[j]?=some y->zs[j]?=some z->u7 f.nm y z)/\yI bs ⟨fs++[f],said,.non⟩ st'/\
 ∀H',dz K H0 H' w pp (n+1) st'->Q .non H'
def dI(K:Fg):Sp:=λvs H Q _=>∃(w pp:Addr) (n:Nat) (H0:Hp) (st st':jb) (bs:List bf),vs=[.ref w]/\dz K H0 H w pp n st/\hU H0 pp bs/\n<=10000/\(yI bs st st'\/(st.fs=[]/\st'=st))/\∀H',dz K H0 H' w pp (n+1) st'->Q .non H'
inductive Ch(bs:List bf):Nat->jb->jb->Prop where
 |nil {st:jb}:Ch bs 0 st st
 |snoc {n:Nat} {st st1 st2:jb} (h:Ch bs n st st1) (ne:st1.fs≠[]) (s:yI bs st1 st2):Ch bs (n+1) st st2
def oG(st:jb):Str:=if st.fs.isEmpty then "given" else "spent"
def gA(K:Fg):Sp:=λvs H Q _=>∃(w pp:Addr) (most m:Nat) (H0:Hp) (bs:List bf) (st0 st:jb),vs=[.ref w,.int (most:Nat)]/\dz K H0 H w pp 1 st0/\hU H0 pp bs/\most<=5000/\
 Ch bs m st0 st/\m<=most/\(st.fs=[]\/m=most)/\
 ∀(p l:Addr) (H':Hp),H' p=some (.tup [.str (oG st),.ref l,st.out,.int (m:Nat)])->H' l=some (.lst (st.said.map V.int))->H0 l=none->aS H0 H'->Q (.ref p) H'
def fE(K:Fg):Sp:=λvs H Q _=>∃(pp q:Addr) (k most m:Nat) (zs:List Int) (bs:List bf) (b:bf) (st:jb),vs=[.ref pp,.int (k:Nat),.ref q,.int (most:Nat)]/\hU H pp bs/\bs[k]?=some b/\b.params.length=zs.length/\(H q=some (.lst (zs.map V.int))\/H q=some (.tup (zs.map V.int)))/\most<=5000/\
 Ch bs m ⟨[gG b k zs],[],.non⟩ st/\m<=most/\(st.fs=[]\/m=most)/\
 ∀(p l:Addr) (H':Hp),H' p=some (.tup [.str (oG st),.ref l,st.out,.int (m:Nat)])->H' l=some (.lst (st.said.map V.int))->H l=none->aS H H'->Q (.ref p) H'
abbrev xR:Nat:=0
abbrev kL:Nat:=1
abbrev xU:Nat:=2
abbrev iu:Nat:=3
abbrev xT:Nat:=2
abbrev ir:Nat:=3
abbrev zd:Nat:=3
abbrev ji:Nat:=4
abbrev xV:Nat:=3
abbrev kM:Nat:=4
abbrev zf:Nat:=3
abbrev lG:Nat:=4
abbrev ze:Nat:=4
abbrev jj:Nat:=5
abbrev zg:Nat:=5
abbrev lI:Nat:=6
abbrev HE:Nat:=6
abbrev kN:Nat:=7
def vl(nm:List (dB×V))(y:Str):Int:=match gE nm (Sum.inr y) with
 |some (.int i)=>i
 |_=>0
theorem Cs{nm:List (dB×V)}{y:Str}{i:Int}(h:u7 nm y i):vl nm y=i:=by unfold vl;rw[h.1]
def Ez(bs:List bf)(k:Nat):List bP:=((bs[k]?).map (·.rows)).getD []
def MP(bs:List bf)(k:Nat):List Str:=((bs[k]?).map (·.params)).getD []
theorem um{bs:List bf}{k:Nat}{b:bf}(h:bs[k]?=some b):Ez bs k=b.rows:=by unfold Ez;rw[h];rfl
theorem yj{bs:List bf}{k:Nat}{b:bf}(h:bs[k]?=some b):MP bs k=b.params:=by unfold MP;rw[h];rfl
def CQ(bs:List bf)(k:Nat)(zs:List Int):Fr:=⟨k,Sd (Ez bs k) 0,fO [] (((MP bs k).map Sum.inr).zip (zs.map V.int))⟩
def Jk(bs:List bf)(g:Fr)(z:Int):Fr:=match(Ez bs g.part)[g.row]? with
 |some (.call x _ _)=>⟨g.part,Sd (Ez bs g.part) (g.row+1),put g.nm x z⟩
 |_=>g
structure LR where
 fs:List Fr
 said:List Int
 ret:List Int
def pW(bs:List bf)(fs:List Fr)(f:Fr)(said:List Int):LR:=
 match(Ez bs f.part)[f.row]? with
 |some (.num x z)=>⟨fs++[⟨f.part,Sd (Ez bs f.part) (f.row+1),put f.nm x z⟩],said,[]⟩
 |some (.op x s p q)=>⟨fs++[⟨f.part,Sd (Ez bs f.part) (f.row+1),put f.nm x (uY s (vl f.nm p) (vl f.nm q))⟩],said,[]⟩
 |some (.say p)=>⟨fs++[⟨f.part,Sd (Ez bs f.part) (f.row+1),f.nm⟩],said++[vl f.nm p],[]⟩
 |some (.test p to)=>⟨fs++[⟨f.part,Sd (Ez bs f.part) (if vl f.nm p=0 then f.row+1 else to),f.nm⟩],said,[]⟩
 |some (.call _ k as)=>⟨fs++[f]++[CQ bs k (as.map (vl f.nm))],said,[]⟩
 |some (.give p)=>match fs.getLast? with
  |none=>⟨[],said,[vl f.nm p]⟩
  |some g=>⟨fs.dropLast++[Jk bs g (vl f.nm p)],said,[]⟩
 |_=>⟨fs++[f],said,[]⟩
def jo(bs:List bf)(fs:List Fr)(said:List Int):LR:=match fs.getLast? with
 |none=>⟨fs,said,[]⟩
 |some f=>pW bs fs.dropLast f said
theorem mY{bs:List bf}{fs:List Fr}{f:Fr}{said:List Int}:jo bs (fs++[f]) said=pW bs fs f said:=by
 unfold jo
 simp
def G3(nm:List (dB×V))(y:Str):Prop:=∃i,u7 nm y i
def Lo(nm:List (dB×V)):Prop:=∀kv∈nm,∃(y:Str) (i:Int),kv=(Sum.inr y,.int i)/\u1 i
structure yH(bs:List bf)(n:Nat)(f:Fr):Prop where
 part:∃b,bs[f.part]?=some b/\vS b.rows f.row/\∀kss,kss.length=b.rows.length->Cu b.params b.rows kss->∀ks,kss[f.row]?=some ks->∀y∈ks,G3 f.nm y
 kys:Lo f.nm
 nd:(f.nm.map (·.1)).Nodup
 few:f.nm.length<=n
theorem yH.up{bs:List bf}{n n':Nat}{f:Fr}(h:yH bs n f)(l:n<=n'):yH bs n' f:=⟨h.part,h.kys,h.nd,bC h.few l⟩
def LB(bs:List bf)(f:Fr):Prop:=∃x k as,(Ez bs f.part)[f.row]?=some (.call x k as)
structure EC(bs:List bf)(n:Nat)(fs:List Fr):Prop where
 frs:∀f∈fs,yH bs n f
 wait:∀f∈fs.dropLast,LB bs f
 few:fs.length<=n
theorem CK{nm:List (dB×V)}{x y:Str}{i:Int}(hi:u1 i)(h:y=x\/G3 nm y):G3 (put nm x i) y:=by
 by_cases e:y=x
 ·subst e;exact⟨i,by unfold put;rw[Ba,if_pos rfl],hi⟩
 ·obtain⟨j,hj⟩:=h.resolve_left e
  exact⟨j,by unfold put;rw[Ba,if_neg (λz=>e (Sum.inr.inj z))];exact hj.1,hj.2⟩
theorem CM{nm:List (dB×V)}{x:Str}{i:Int}(hi:u1 i)(h:Lo nm):Lo (put nm x i):=by
 intro kv hk
 unfold put iz at hk
 split at hk
 ·obtain⟨kv',m,e⟩:=dU.mp hk
  obtain⟨y,j,ek,hj⟩:=h kv' m
  by_cases c:kv'.1=Sum.inr x
  ·rw[if_pos c] at e
   exact⟨x,i,by rw[<-e,c],hi⟩
  ·rw[if_neg c] at e
   exact⟨y,j,by rw[<-e];exact ek,hj⟩
 ·rcases aP.mp hk with z|z
  ·exact h kv z
  ·exact⟨x,i,au.mp z,hi⟩
theorem FF{nm:List (dB×V)}{x:Str}{i:Int}(h:(nm.map (·.1)).Nodup):((put nm x i).map (·.1)).Nodup:=by
 unfold put
 cases e:gE nm (Sum.inr x) with
 |none=>exact HM _ h e
 |some v=>
  unfold iz
  rw[ku,e]
  simp only[Option.isSome_some,if_true]
  rw[List.map_map]
  have:((λ(kv:dB×V)=>kv.1) ∘ λkv=>if kv.1=Sum.inr x then(kv.1,V.int i) else kv)=λkv=>kv.1:=by
   funext kv
   show(if kv.1=Sum.inr x then(kv.1,V.int i) else kv).1=kv.1
   split<;>rfl
  rw[this];exact h
theorem rm{ps:List Str}{rs:List bP}{kss:List (List Str)}(g:eL rs)(hl:kss.length=rs.length)(k:Cu ps rs kss):∀(j:Nat) {m:Nat} {km kt:List Str},m<rs.length->kss[m]?=some km->kss[runJ rs j m]?=some kt->∀y∈kt,y∈km
 |0,m,km,kt,hm,h1,h2,y,hy=>by
  rw[show runJ rs 0 m=m from rfl,h1] at h2
  cases h2;exact hy
 |j+1,m,km,kt,hm,h1,h2,y,hy=>by
  have h2:kss[runJ rs j (stp rs m)]?=some kt:=h2
  have sl:=Gu g hm
  obtain⟨k1,e⟩:∃k1,kss[stp rs m]?=some k1:=⟨_,ab (show stp rs m<kss.length by rw[hl];exact sl)⟩
  have y1:=rm g hl k j sl e h2 y hy
  cases er:rs[m]? with
  |none=>
   have:stp rs m=m:=by unfold stp;rw[er]
   rw[this,h1] at e
   cases e;exact y1
  |some r=>
   by_cases c:hZ r=true
   ·cases r with
    |jump t=>
     have st:stp rs m=t:=by unfold stp;rw[er]
     have:=k.on m t (.jump t) km _ er (by unfold cy;exact ay) h1 (by rw[<-st];exact e) y y1
     exact this.resolve_right (λz=>by cases z)
    |_=>cases c
   ·have:stp rs m=m:=by
     unfold stp;rw[er]
     cases r<;>first|rfl|exact absurd rfl c
    rw[this,h1] at e
    cases e;exact y1
theorem yH.on{bs:List bf}{n:Nat}{f:Fr}{b:bf}{r:bP}{m:Nat}{nm:List (dB×V)}(g:eL b.rows)(hb:bs[f.part]?=some b)(h:yH bs n f)(hr:b.rows[f.row]?=some r)(hm:m∈cy f.row r)
  (hn:∀y,G3 f.nm y\/kD r=.str y->G3 nm y) (hk:Lo nm) (hd:(nm.map (·.1)).Nodup) {n':Nat} (hl:nm.length<=n'):yH bs n' ⟨f.part,Sd b.rows m,nm⟩:=by
 obtain⟨b',e,sd,kn⟩:=h.part
 rw[hb] at e;cases e
 refine⟨⟨b,hb,Cc g sd ⟨r,m,hr,hm,rfl⟩,λkss kl K ks hks y hy=>?_⟩,hk,hd,hl⟩
 have ml:=g.inr _ _ _ hr hm
 have e1:=ab (show m<kss.length by rw[kl];exact ml)
 have e2:=ab (show f.row<kss.length by rw[kl];exact(aj.mp hr).1)
 have y1:=rm g kl K b.rows.length ml e1 hks y hy
 exact hn y ((K.on f.row m r _ _ hr hm e2 e1 y y1).imp (kn kss kl K _ e2 y) λz=>z)
theorem FM{bs:List bf}{k:Nat}{b:bf}{zs:List Int}(g:eL b.rows)(hb:bs[k]?=some b)(nd:b.params.Nodup)(hl:b.params.length=zs.length)(hz:∀z∈zs,u1 z):yH bs (zs.length) (CQ bs k zs):=by
 have nk:(b.params.map (Sum.inr:Str->dB)).Nodup:=by
  rw[List.Nodup,List.pairwise_map]
  exact nd.imp λh z=>h (Sum.inr.inj z)
 have fst:(((b.params.map (Sum.inr:Str->dB)).zip (zs.map V.int)).map (·.1))=b.params.map Sum.inr:=by
  rw[List.map_fst_zip];rw[ai,ai,hl];exact aC _
 have em:fO [] (((b.params.map Sum.inr).zip (zs.map V.int)):List (dB×V))=(b.params.map Sum.inr).zip (zs.map V.int):=ua _ [] (by rw[List.nil_append,fst];exact nk)
 have eo:CQ bs k zs=⟨k,Sd b.rows 0,(b.params.map Sum.inr).zip (zs.map V.int)⟩:=by
  unfold CQ;rw[um hb,yj hb,em]
 rw[eo]
 have st0:vS b.rows (Sd b.rows 0):=⟨uX g _ .zero,λr hr=>g.ring 0 g.pos r hr⟩
 refine⟨⟨b,hb,st0,λkss kl K ks hks y hy=>?_⟩,λkv hkv=>?_,by rw[fst];exact nk,by rw[iS];simp;lia⟩
 ·have e0:=ab (show 0<kss.length by rw[kl];exact g.pos)
  have y1:=K.zero _ e0 y (rm g kl K b.rows.length g.pos e0 hks y hy)
  obtain⟨j,hj⟩:=ki y1
  have jl:j<zs.length:=by rw[<-hl];exact(aj.mp hj).1
  exact⟨zs[j],GQ nk (by rw[ba,hj];rfl) (by rw[ba,ab jl];rfl),hz _ (dv jl)⟩
 ·obtain⟨a,c⟩:=kv
  have:=kz hkv
  obtain⟨y,_,e1⟩:=dU.mp this.1
  obtain⟨z,hz',e2⟩:=dU.mp this.2
  exact⟨y,z,by rw[e1,e2],hz z hz'⟩
structure sx(ys:List Str)(cs:List Nat)(bs:List bf):Prop where
 ok:Bi ys cs bs
theorem sx.good{ys:List Str}{cs:List Nat}{bs:List bf}(P:sx ys cs bs){k:Nat}{b:bf}(hb:bs[k]?=some b):eL b.rows:=(P.ok.part b (az hb)).good
theorem yH.reads{ys:List Str}{cs:List Nat}{bs:List bf}(P:sx ys cs bs){n:Nat}{f:Fr}(h:yH bs n f):∃b r,bs[f.part]?=some b/\b.rows[f.row]?=some r/\hZ r=false/\vS b.rows f.row/\Ez bs f.part=b.rows/\Cw ys cs b.rows.length r/\∀y∈dF r,G3 f.nm y:=by
 obtain⟨b,hb,sd,kn⟩:=h.part
 have lt:=Gs (P.good hb) sd
 have hr:=ab lt
 obtain⟨kss,kl,K,rd⟩:=(P.ok.part b (az hb)).known
 have hk:=ab (show f.row<kss.length by rw[kl];exact lt)
 exact⟨b,_,hb,hr,sd.2 _ hr,sd,um hb,(P.ok.part b (az hb)).rows _ (dv lt),λy hy=>kn kss kl K _ hk y (rd _ _ _ hr hk y hy)⟩
theorem sx.call{ys:List Str}{cs:List Nat}{bs:List bf}(P:sx ys cs bs){k m:Nat}(h:cs[k]?=some m):∃c,bs[k]?=some c/\c.params.length=m/\c.params.Nodup/\m<=4:=by
 rw[<-P.ok.cnt,ba] at h
 cases e:bs[k]? with
 |none=>rw[e] at h;cases h
 |some c=>
  rw[e] at h
  have h:c.params.length=m:=Option.some.inj h
  refine⟨c,rfl,h,(P.ok.part c (az e)).pnd,?_⟩
  have:c.params.length∈cs:=by rw[<-P.ok.cnt];exact List.mem_map_of_mem (az e)
  have:=P.ok.c4 _ this
  lia
theorem yF{nm:List (dB×V)}{y:Str}(h:G3 nm y):u1 (vl nm y):=by
 obtain⟨i,g⟩:=h
 rw[Cs g];exact g.2
theorem CT{nm:List (dB×V)}{x:Str}{i:Int}{n:Nat}(h:nm.length<=n):(put nm x i).length<=n+1:=by
 have:=ia nm (Sum.inr x:dB) (.int i)
 unfold put;lia
theorem sP{bs:List bf}{n n':Nat}{fs:List Fr}{f f':Fr}(h:EC bs n (fs++[f]))(hn:n<=n')(o:yH bs n' f'):EC bs n' (fs++[f']):=by
 refine⟨λg hg=>?_,λg hg=>h.wait g (by rw[bI] at hg ⊢;exact hg),by have:=h.few;rw[aD] at this ⊢;simp at this ⊢;lia⟩
 rcases aP.mp hg with z|z
 ·exact(h.frs g (aW _ z)).up hn
 ·rw[au.mp z];exact o
theorem EC.step{ys:List Str}{cs:List Nat}{bs:List bf}(P:sx ys cs bs){n:Nat}{fs:List Fr}{said:List Int}(h:EC bs n fs)(h4:4<=n):EC bs (n+1) (jo bs fs said).fs:=by
 rcases cx fs with rfl|⟨fs0,f,e⟩
 ·exact⟨λf hf=>(by cases hf),λf hf=>(by cases hf),cA _⟩
 rw[cw] at e
 subst e
 rw[mY]
 have fo:=h.frs f (aJ _ ay)
 obtain⟨b,r,hb,hr,hj,sd,er,ro,rd⟩:=fo.reads P
 have g:=P.good hb
 unfold pW
 rw[er]
 have stay:∀{m:Nat},m∈cy f.row r->(∀y,kD r≠.str y)->yH bs (n+1) ⟨f.part,Sd b.rows m,f.nm⟩:=λhm hs=>fo.on g hb hr hm (λy z=>z.resolve_right (hs y)) fo.kys fo.nd (dj fo.few)
 have sets:∀{x:Str} {i:Int} {m:Nat},m∈cy f.row r->kD r=.str x->u1 i->yH bs (n+1) ⟨f.part,Sd b.rows m,put f.nm x i⟩:=λ{x i m} hm hs hi=>fo.on g hb hr hm (λy z=>CK hi (by
  rcases z with z|z
  ·exact .inr z
  ·rw[hs] at z;injection z with z;exact .inl z.symm)) (CM hi fo.kys) (FF fo.nd) (CT fo.few)
 cases r with
 |jump t=>cases hj
 |num x z=>simp only[hr];exact sP h (eC _) (sets (by unfold cy;exact ay) rfl ⟨ro.2.1,ro.2.2⟩)
 |op x s p q=>simp only[hr];exact sP h (eC _) (sets (by unfold cy;exact ay) rfl (Lm _ _ _))
 |say p=>simp only[hr];exact sP h (eC _) (stay (by unfold cy;exact ay) λy z=>by cases z)
 |test p to=>
  simp only[hr]
  refine sP h (eC _) (stay ?_ λy z=>by cases z)
  show _∈[f.row+1,to]
  split
  ·exact ay
  ·exact bU _ ay
 |call x k as=>
  simp only[hr]
  obtain⟨c,hc,cl,cn,c4⟩:=P.call ro.2.1
  have oo:yH bs (n+1) (CQ bs k (as.map (vl f.nm))):=by
   refine(FM (P.good hc) hc cn (by rw[ai];exact cl) λz hz=>?_).up (by rw[ai];lia)
   obtain⟨y,hy,e⟩:=dU.mp hz
   rw[<-e];exact yF (rd y hy)
  refine⟨λg' hg=>?_,λg' hg=>?_,by have:=h.few;rw[aD];show(fs0++[f]).length+1<=n+1;lia⟩
  ·rcases aP.mp hg with z|z
   ·exact(h.frs g' z).up (eC _)
   ·rw[au.mp z];exact oo
  ·rw[bI] at hg
   rcases aP.mp hg with z|z
   ·exact h.wait g' (by rw[bI];exact z)
   ·rw[au.mp z];exact⟨x,k,as,by rw[er];exact hr⟩
 |give p=>
  simp only[hr]
  have hw:u1 (vl f.nm p):=yF (rd p ay)
  rcases cx fs0 with rfl|⟨fs1,g1,e⟩
  ·simp only[List.getLast?_nil]
   exact⟨λf hf=>(by cases hf),λf hf=>(by cases hf),cA _⟩
  rw[cw] at e
  subst e
  simp only[kj,bI]
  have go1:=h.frs g1 (aW _ (aJ _ ay))
  obtain⟨x,k,as,ec⟩:=h.wait g1 (by rw[bI];exact aJ _ ay)
  obtain⟨b1,r1,hb1,hr1,_,sd1,er1,ro1,rd1⟩:=go1.reads P
  rw[er1] at ec
  have es:Jk bs g1 (vl f.nm p)=⟨g1.part,Sd b1.rows (g1.row+1),put g1.nm x (vl f.nm p)⟩:=by unfold Jk;rw[er1,ec]
  rw[es]
  have o1:yH bs (n+1) ⟨g1.part,Sd b1.rows (g1.row+1),put g1.nm x (vl f.nm p)⟩:=go1.on (P.good hb1) hb1 ec (by unfold cy;exact ay) (λy z=>CK hw (by
   rcases z with z|z
   ·exact .inr z
   ·have z:V.str x=.str y:=z
    injection z with z;exact .inl z.symm)) (CM hw go1.kys) (FF go1.nd) (CT go1.few)
  refine⟨λg' hg=>?_,λg' hg=>h.wait g' ?_,by have:=h.few;rw[aD,aD] at this;rw[aD];simp at this ⊢;lia⟩
  ·rcases aP.mp hg with z|z
   ·exact(h.frs g' (aW _ (aW _ z))).up (eC _)
   ·rw[au.mp z];exact o1
  ·rw[bI] at hg ⊢
   exact aW _ hg
def SeqAt(H:Hp)(a:Addr)(xs:List V):Prop:=H a=some (.lst xs)\/H a=some (.tup xs)
def Bb(H:Hp)(v:V)(f:Fr):Prop:=∃p d,v=.ref p/\H p=some (.tup [.int (f.part:Nat),.int (f.row:Nat),.ref d])/\H d=some (.dK f.nm)
structure Td(H H':Hp):Prop where
 tp:Tp H H'
 dp:∀p kvs,H p=some (.dK kvs)->H' p=some (.dK kvs)
theorem Td.of_same{H H':Hp}(s:aS H H'):Td H H':=⟨.of_same s,λp _ h=>s p _ h⟩
theorem Td.trans{H H1 H2:Hp}(a:Td H H1)(b:Td H1 H2):Td H H2:=⟨a.tp.trans b.tp,λp k h=>b.dp p k (a.dp p k h)⟩
theorem Td.lst{H:Hp}{l:Addr}{xs ys:List V}(h:H l=some (.lst xs)):Td H (upd H l (.lst ys)):=⟨(Tp.refl H).lst h,λp k e=>by
 have n:p≠l:=λz=>by rw[z,h] at e;cases e
 rw[aw n];exact e⟩
theorem Td.of_but{H H':Hp}{l:Addr}{xs:List V}(b:fX l H H')(h:H l=some (.lst xs)):Td H H':=⟨.of_but b h,λp k e=>b p _ (λz=>by rw[z,h] at e;cases e) e⟩
theorem Bb.mono{H H':Hp}{v:V}{f:Fr}(h:Bb H v f)(t:Td H H'):Bb H' v f:=by
 obtain⟨p,d,e,h1,h2⟩:=h
 exact⟨p,d,e,t.tp _ _ h1,t.dp _ _ h2⟩
structure Ey(H:Hp)(pp:Addr)(ys:List Str)(cs:List Nat)(bs:List bf):Prop where
 ex:∃pvs,H pp=some (.tup pvs)/\bR (nV H) pvs bs
 ok:sx ys cs bs
theorem Ey.mono{H H':Hp}{pp:Addr}{ys:List Str}{cs:List Nat}{bs:List bf}(h:Ey H pp ys cs bs)(t:Tp H H'):Ey H' pp ys cs bs:=by
 obtain⟨pvs,e,A⟩:=h.ex
 exact⟨⟨pvs,t _ _ e,A.imp λ_ _ z=>z.mono t⟩,h.ok⟩
theorem Ey.rows{H:Hp}{pp:Addr}{ys:List Str}{cs:List Nat}{bs:List bf}(P:Ey H pp ys cs bs){k:Nat}{b:bf}(hb:bs[k]?=some b):∃pvs pt pa rt rvs,H pp=some (.tup pvs)/\pvs[((k:Nat):Int).toNat]?=some (.ref pt)/\H pt=some (.tup [.str b.name,.ref pa,.ref rt])/\H pa=some (.tup (b.params.map V.str))/\H rt=some (.tup rvs)/\bR (eD H) rvs b.rows:=by
 obtain⟨pvs,e,A⟩:=P.ex
 have kl:k<bs.length:=(aj.mp hb).1
 obtain⟨v,b',e1,e2,pt,pa,rt,rvs,rfl,h1,h2,h3,h4⟩:=A.get kl
 rw[hb] at e2;cases e2
 exact⟨pvs,pt,pa,rt,rvs,e,by simpa using e1,h1,h2,h3,h4⟩
def G0(L W:Addr)(H H':Hp):Prop:=∀b o,b≠L->b≠W->H b=some o->H' b=some o
def LI(H H':Hp)(v:V):Prop:=∃(p d:Addr) (i n:Int),v=.ref p/\H' p=some (.tup [.int i,.int n,.ref d])/\H d=none
def lS(K:Fg):Sp:=λvs H Q _=>∃(st pp:Addr) (k m:Nat) (ys:List Str) (cs:List Nat) (bs:List bf) (b:bf),vs=[.ref st,.ref pp,.int (m:Nat)]/\kO K H st k/\k<=800000/\Ey H pp ys cs bs/\bs[m]?=some b/\b.params.length<=10/\
 ∀(l:Addr) (zs:List Int) (k':Nat) (H':Hp),H l=none->H' l=some (.lst (zs.map V.int))->zs.length=b.params.length->(∀z∈zs,u1 z)->kO K H' st k'->k'<=k+40->fX st H H'->Q (.ref l) H'
def ie(_:Fg):Sp:=λvs H Q _=>∃(s:Str) (a b:Int),vs=[.str s,.int a,.int b]/\s∈wB/\u1 a/\u1 b/\∀H',aS H H'->Q (.int (uY s a b)) H'
def fS(_:Fg):Sp:=λvs H Q _=>∃(pp q:Addr) (k:Nat) (zs:List Int) (ys:List Str) (cs:List Nat) (bs:List bf) (b:bf),vs=[.ref pp,.int (k:Nat),.ref q]/\Ey H pp ys cs bs/\bs[k]?=some b/\b.params.length=zs.length/\zs.length<=10/\SeqAt H q (zs.map V.int)/\
 ∀(v:V) (H':Hp),Bb H' v (CQ bs k zs)->LI H H' v->aS H H'->Q v H'
def ni(_:Fg):Sp:=λvs H Q _=>∃(pp L:Addr) (z:Int) (n:Nat) (fvs:List V) (fs:List Fr) (f:Fr) (ys:List Str) (cs:List Nat) (bs:List bf),vs=[.ref pp,.ref L,.int z]/\Ey H pp ys cs bs/\H L=some (.lst fvs)/\bR (Bb H) fvs (fs++[f])/\EC bs n (fs++[f])/\n<=10000/\
 ∀(e:Addr) (fvs':List V) (H':Hp),H' L=some (.lst fvs')->bR (Bb H') fvs' (match fs.getLast? with|none=>[]|some g=>fs.dropLast++[Jk bs g z])->(∀v∈fvs',v∈fvs\/LI H H' v)->H' e=some (.lst (match fs.getLast? with|none=>[.int z]|some _=>[]))->H e=none->fX L H H'->Q (.ref e) H'
def nj(_:Fg):Sp:=λvs H Q _=>∃(pp L W:Addr) (n:Nat) (fvs:List V) (fs:List Fr) (said:List Int) (ys:List Str) (cs:List Nat) (bs:List bf),vs=[.ref pp,.ref L,.ref W]/\Ey H pp ys cs bs/\H L=some (.lst fvs)/\bR (Bb H) fvs fs/\H W=some (.lst (said.map V.int))/\L≠W/\EC bs n fs/\fs≠[]/\n<=10000/\said.length<=n/\
 ∀(e:Addr) (fvs':List V) (H':Hp),H' L=some (.lst fvs')->bR (Bb H') fvs' (jo bs fs said).fs->(∀v∈fvs',v∈fvs\/LI H H' v)->H' W=some (.lst ((jo bs fs said).said.map V.int))->H' e=some (.lst ((jo bs fs said).ret.map V.int))->H e=none->G0 L W H H'->Q (.ref e) H'
abbrev J6:Nat:=2
abbrev xb:Nat:=3
abbrev BA:Nat:=0
abbrev mK:Nat:=1
abbrev Fj:Nat:=1
abbrev mq:Nat:=2
abbrev J9:Nat:=1
abbrev xf:Nat:=2
abbrev Ka:Nat:=2
abbrev xg:Nat:=3
def nH:List Int->V
 |z::_=>.int z
 |[]=>.non
theorem oQ{nm:List (dB×V)}{y:Str}(h:G3 nm y):u7 nm y (vl nm y):=by
 obtain⟨i,hi⟩:=h
 rw[Cs hi];exact hi
theorem wa{ys:List Str}{cs:List Nat}{bs:List bf}(P:sx ys cs bs){n:Nat}{fs:List Fr}{said:List Int}(h:EC bs n fs)(ne:fs≠[]) :
  yI bs ⟨fs,said,.non⟩ ⟨(jo bs fs said).fs,(jo bs fs said).said,nH (jo bs fs said).ret⟩:=by
 rcases cx fs with rfl|⟨gs,f,rfl⟩
 ·exact absurd rfl ne
 rw[cw] at h ⊢
 rw[mY]
 have fo:=h.frs f (aJ _ ay)
 obtain⟨b,r,hb,hr,hj,st,er,ro,hs⟩:=fo.reads P
 unfold pW
 rw[er,hr]
 cases r with
 |num x z=>exact .num hb hr
 |op x s p q=>exact .op hb hr (oQ (hs p (by simp[dF]))) (oQ (hs q (by simp[dF])))
 |say p=>exact .say hb hr (oQ (hs p (by simp[dF])))
 |jump to=>cases hj
 |test p to=>
  have hg:=oQ (hs p (by simp[dF]))
  show yI bs _ ⟨gs++[⟨f.part,Sd b.rows (if vl f.nm p=0 then f.row+1 else to),f.nm⟩],said,.non⟩
  by_cases c:vl f.nm p=0
  ·rw[if_pos c];rw[c] at hg;exact .no hb hr hg
  ·rw[if_neg c];exact .yes hb hr hg c
 |call x k as=>
  obtain⟨c,hc,cl,_,_⟩:=P.call ro.2.1
  show yI bs _ ⟨gs++[f]++[CQ bs k (as.map (vl f.nm))],said,.non⟩
  have eo:CQ bs k (as.map (vl f.nm))=gG c k (as.map (vl f.nm)):=by unfold CQ gG;rw[um hc,yj hc];rfl
  rw[eo]
  refine .call hb hr hc cl (by rw[ai]) λj y z hy hz=>?_
  rw[ba,hy] at hz
  cases hz
  exact oQ (hs y (az hy))
 |give p=>
  have hg:=oQ (hs p (by simp[dF]))
  rcases cx gs with rfl|⟨g2,g,rfl⟩
  ·exact .last hb hr hg
  ·rw[cw] at h ⊢
   have ig:LB bs g:=h.wait g (by rw[bI];exact aJ _ ay)
   obtain⟨x,k,as,hx⟩:=ig
   have go_:=h.frs g (aW _ (aJ _ ay))
   obtain⟨c,r2,hc,hr2,_,_,er2,_,_⟩:=go_.reads P
   rw[er2] at hx
   have el:(g2++[g]).getLast?=some g:=by simp
   rw[el]
   show yI bs _ ⟨(g2++[g]).dropLast++[Jk bs g (vl f.nm p)],said,.non⟩
   rw[bI]
   unfold Jk
   rw[er2,hx]
   exact .give hb hr hg hc hx
def BN(H:Hp)(w ol sl:Addr)(fvs:List V)(ds:List Addr):Hp:=open Classical in λa=>if a=w\/a=ol\/a=sl\/V.ref a∈fvs\/a∈ds then none else H a
theorem oR{H:Hp}{w ol sl:Addr}{fvs:List V}{ds:List Addr}{a:Addr}(h:a=w\/a=ol\/a=sl\/V.ref a∈fvs\/a∈ds):BN H w ol sl fvs ds a=none:=by unfold BN;rw[if_pos h]
theorem iU{H:Hp}{w ol sl:Addr}{fvs:List V}{ds:List Addr}{a:Addr}(h:¬(a=w\/a=ol\/a=sl\/V.ref a∈fvs\/a∈ds)):BN H w ol sl fvs ds a=H a:=by unfold BN;rw[if_neg h]
theorem eN.else_{K:Fg}{H0 H H0' H':Hp}{w pp dx ol sl:Addr}{fvs:List V}{ds:List Addr}{n:Nat}{st:jb}(X:eN K H0 H w pp dx ol sl fvs ds n st)(own:∀a u,(a=w\/a=ol\/a=sl\/V.ref a∈fvs\/a∈ds)->H a=some u->H' a=some u)(sm:aS H0' H')(no:∀a,(a=w\/a=ol\/a=sl\/V.ref a∈fvs\/a∈ds)->H0' a=none):eN K H0' H' w pp dx ol sl fvs ds n st where
 at_:=own _ _ (.inl rfl) X.at_
 op:=own _ _ (.inr (.inl rfl)) X.op
 sp:=own _ _ (.inr (.inr (.inl rfl))) X.sp
 ne:=X.ne
 fr:=X.fr.keep (λa m o e=>own _ _ (.inr (.inr (.inr (.inl m)))) e) (λd m o e=>own _ _ (.inr (.inr (.inr (.inr m)))) e)
 sm:=sm
 nw:=no _ (.inl rfl)
 no:=no _ (.inr (.inl rfl))
 ns:=no _ (.inr (.inr (.inl rfl)))
 nf:=λa ha=>no _ (.inr (.inr (.inr (.inl ha))))
 nd:=λd hd=>no _ (.inr (.inr (.inr (.inr hd))))
 few:=X.few
 saw:=X.saw
 nms:=X.nms
end Bg
end
section
namespace BgEqW
open PySem PySem.SeqAt PySem.MeetsSeq PySem.MeetsSeq2 PySem.MeetsSeq3
open AutoSeq1 (wpAny_loadPart')
def yG(prog:Program)(w:World)(A:Around)(s:Shared)(y x:Value):Prop:=∀(E:Value->Shared->Prop) (Q:Bool->Shared->Prop),Q true s->wpAny (model prog w) A (eqBool y x) Q E s
def xh(prog:Program)(w:World)(t:Sem Fin)(S:Spec):Prop:=
 ∀(A:Around) (R:Result->Shared->Prop) (s:Shared),S A R s->wpAny (model prog w) A.in1 t (λfin s'=>match fin with|.done f=>R (.ok f) s'|.again c'=>c'.quiet=true/\codeAny (model prog w) A c' R s') (λe s'=>R (.error e) s') s
section
variable{prog:Program}{w:World}{A:Around}{E:Value->Shared->Prop}{s:Shared}
theorem yG.of{y x:Value}(h:EqAt A s y x true):yG prog w A s y x:=λE Q q=>h prog w E Q q
theorem yG.refs{l b:Addr}(hne:l≠b)(h:∀(E:Value->Shared->Prop) (Q:Value->Shared->Prop),Q (.bool true) s->wpAny (model prog w) A (richCompare .Eq (.ref l) (.ref b)) Q E s):yG prog w A s (.ref l) (.ref b):=λE Q hq=>by
 unfold eqBool;refine wpAny_holding ?_
 refine wpAny_ite_split (λhab=>absurd (by have:=eq_of_beq hab;injection this) hne) (λ_=>wpAny_bind (h E _ (wpAny_truthy_bool hq)))
theorem LX(l b:Addr)(items items2:Array Value)(n n2:Nat)(dd dd2:Option Addr)(sl sl2:Array (Option Value))(hsz:items.size=items2.size)(k:Nat) :
  ∀i:Nat,items.size-i=k->xh prog w (Builtin.«list.__eq__.loop» ⟨[.ref l,.ref b,rawInt i,rawInt 3],[]⟩)
   (λA R s=>s.heap.get? l=some {cls:=.type "list",dict:=dd,data:=.seq items n,slots:=sl}/\s.heap.get? b=some {cls:=.type "list",dict:=dd2,data:=.seq items2 n2,slots:=sl2}/\
    (∀j (h1:j<items.size) (h2:j<items2.size),yG prog w A.in1 s items[j] items2[j])/\R (.ok (.ret (.bool false))) s):=by
 induction k with
 |zero=>
  intro i hk A R s h
  obtain⟨hp,g,d,tk,os⟩:=s;obtain⟨hl,hb,he,h⟩:=h
  wp_walk using wpAny_loadPart' hl,wpAny_loadPart' hb
  have hi1:items[((i:Nat):Int).toNat]?=none:=by simp;lia
  have hi2:items2[((i:Nat):Int).toNat]?=none:=by simp;lia
  rw[hi1,hi2]
  wp_walk using wpAny_loadPart' hl,wpAny_loadPart' hb
  show R (.ok (.ret (.bool (items.size != items2.size)))) _
  rw[hsz];simpa using h
 |succ k ih=>
  intro i hk A R s h
  obtain⟨hp,g,d,tk,os⟩:=s;obtain⟨hl,hb,he,h⟩:=h
  wp_walk using wpAny_loadPart' hl,wpAny_loadPart' hb
  have hlt:i<items.size:=by lia
  have hlt2:i<items2.size:=by lia
  have hi1:items[((i:Nat):Int).toNat]?=some items[i]:=by simp[hlt]
  have hi2:items2[((i:Nat):Int).toNat]?=some items2[i]:=by simp[hlt2]
  have hc:((i:Int)+1)=((i+1:Nat):Int):=by push_cast;rfl
  rw[hi1,hi2]
  refine wpAny_bind (he i hlt hlt2 _ _ ?_)
  wp_walk
  rw[hc]
  exact⟨plainId_quiet plain_eq_loop _,codeAny_builtin entry_eq_loop (by rw[Around.under_plainId plain_eq_loop _];exact ih (i+1) (by lia) A R _ ⟨hl,hb,he,h⟩)⟩
theorem FD(l b:Addr)(items items2:Array Value)(n n2:Nat)(dd dd2:Option Addr)(sl sl2:Array (Option Value))(hsz:items.size=items2.size) :
  xh prog w (Builtin.«list.__ne__» ⟨[.ref l,.ref b],[]⟩)
   (λA R s=>s.heap.get? l=some {cls:=.type "list",dict:=dd,data:=.seq items n,slots:=sl}/\s.heap.get? b=some {cls:=.type "list",dict:=dd2,data:=.seq items2 n2,slots:=sl2}/\
    (∀j (h1:j<items.size) (h2:j<items2.size),yG prog w A.in1 s items[j] items2[j])/\R (.ok (.ret (.bool false))) s):=by
 intro A R s h
 obtain⟨hp,g,d,tk,os⟩:=s;obtain⟨hl,hb,he,h⟩:=h
 have f3:=AutoSeq1.sub_list_list
 have hne:¬(items.size != items2.size)=true:=by simp[hsz]
 wp_walk using wpAny_loadPart' hl,wpAny_loadPart' hb
 exact⟨plainId_quiet plain_eq_loop _,codeAny_builtin entry_eq_loop (by rw[Around.under_plainId plain_eq_loop _];exact LX l b items items2 n n2 dd dd2 sl sl2 hsz _ 0 rfl A R _ ⟨hl,hb,he,h⟩)⟩
theorem Es(l b:Addr)(items items2:Array Value)(n n2:Nat)(dd dd2:Option Addr)(sl sl2:Array (Option Value))(hsz:items.size=items2.size) :
  xh prog w (Builtin.«tuple.__eq__» ⟨[.ref l,.ref b],[]⟩)
   (λA R s=>s.heap.get? l=some {cls:=.type "tuple",dict:=dd,data:=.seq items n,slots:=sl}/\s.heap.get? b=some {cls:=.type "tuple",dict:=dd2,data:=.seq items2 n2,slots:=sl2}/\
    (∀j (h1:j<items.size) (h2:j<items2.size),yG prog w A.in1 s items[j] items2[j])/\R (.ok (.ret (.bool true))) s):=by
 intro A R s h
 refine wpAny_mono (Q:=λfin s'=>∃v,fin=.done (.ret v)/\R (.ok (.ret v)) s') ?_ (λfin s' h'=>by obtain⟨v,rfl,hv⟩:=h';exact hv) λ_ _ x=>x
 obtain⟨hp,g,d,tk,os⟩:=s;obtain⟨hl,hb,he,h⟩:=h
 have f2:=AutoSeq1.sub_tuple_tuple
 wp_walk using wpAny_loadPart' hl,wpAny_loadPart' hb,wpAny_forIn_list _ (λrest b s'=>b.1=none/\s'=⟨hp,g,d,tk,os⟩/\∃i,rest=(items.toList.zip items2.toList).drop i) _
 case turn=>
  rintro⟨y,x⟩ rest b s' ⟨hb',rfl,i,hz⟩
  have hlt:i<(items.toList.zip items2.toList).length:=by
   rcases Nat.lt_or_ge i (items.toList.zip items2.toList).length with h'|h'
   ·exact h'
   ·rw[ju h'] at hz;cases hz
  have hm:i<items.size:=by have:=hlt;simp at this;lia
  have hm2:i<items2.size:=by lia
  rw[iE hlt] at hz
  injection hz with hyx hrest
  have hy:y=items[i]:=by have:=congrArg Prod.fst hyx;simpa using this
  have hx:x=items2[i]:=by have:=congrArg Prod.snd hyx;simpa using this
  subst hy hx
  refine wpAny_bind (he i hm hm2 _ _ ?_)
  wp_walk
  exact⟨rfl,rfl,i+1,hrest⟩
 case fin=>
  rintro⟨b1,b2⟩ s' ⟨hb',rfl,i,hz⟩
  simp only at hb'
  subst hb'
  wp_walk
  refine⟨_,rfl,?_⟩
  show R (.ok (.ret (.bool (items.size==items2.size)))) _
  rw[hsz];simpa using h
 case h=>
  exact⟨rfl,rfl,0,rfl⟩
theorem EI{T:String}{name:Str}{id:String}{B:Builtin}{self:Value}{rest:List Value}{S:Spec}{Q:Value->Shared->Prop}(slot:Slot T name id)(hT:s.TypeIs self T)
  (entry:entryFor table id=some B) (args:argsOk id ⟨self::rest,[]⟩) (g:xh prog w (B ⟨self::rest,[]⟩) S) (h:S A (wants Q E) s):wpAny (model prog w) A (call (.builtin id) (self::rest)) Q E s:=
 wpAny_call (codeAny_call_builtin slot.plain entry (slot.check _ _ _ _ _ _ _ _ hT args (g A (wants Q E) s h)))
theorem FG{l b:Addr}{items items2:Array Value}{Q:Value->Shared->Prop}(hl:s.heap.IsList l items)(hb:s.heap.IsList b items2)(hsz:items.size=items2.size)(hu:A.units<cLine)
  (he:∀j (h1:j<items.size) (h2:j<items2.size),yG prog w A.in1 s items[j] items2[j]) (h:Q (.bool false) s):wpAny (model prog w) A (compareOp .NotEq (.ref l) (.ref b)) Q E s:=by
 obtain⟨⟨cls,dd,data,sl⟩,ho,hc,n,hd⟩:=id hl
 obtain⟨⟨cls2,dd2,data2,sl2⟩,ho2,hc2,n2,hd2⟩:=id hb
 simp only at hc hd hc2 hd2
 subst hc hd hc2 hd2
 exact wpAny_richCompare_same_room (op:=.NotEq) ⟨_,ho,rfl⟩ ⟨_,ho2,rfl⟩ PySem.F.slot_list_ne (EI PySem.F.slot_list_ne ⟨_,ho,rfl⟩ PySem.F.entry_list_ne (PySem.F.args_list_ne_2 _ _) (FD l b items items2 n n2 dd dd2 sl sl2 hsz)
  ⟨ho,ho2,he,show Value.bool false≠Value.notImplemented/\Q (.bool false) s from⟨(λx=>nomatch x),h⟩⟩) hu
theorem Dt{l b:Addr}{items items2:Array Value}(hl:s.heap.IsTuple l items)(hb:s.heap.IsTuple b items2)(hsz:items.size=items2.size)(hu:A.units<cLine)
  (he:∀j (h1:j<items.size) (h2:j<items2.size),yG prog w A.in1 s items[j] items2[j]):yG prog w A s (.ref l) (.ref b):=by
 by_cases hne:l=b
 ·subst hne;exact yG.of (EqAt.same _)
 refine yG.refs hne λE Q h=>?_
 obtain⟨⟨cls,dd,data,sl⟩,ho,hc,n,hd⟩:=id hl
 obtain⟨⟨cls2,dd2,data2,sl2⟩,ho2,hc2,n2,hd2⟩:=id hb
 simp only at hc hd hc2 hd2
 subst hc hd hc2 hd2
 exact wpAny_richCompare_same_room (op:=.Eq) ⟨_,ho,rfl⟩ ⟨_,ho2,rfl⟩ PySem.F.slot_tuple_eq (EI PySem.F.slot_tuple_eq ⟨_,ho,rfl⟩ PySem.F.entry_tuple_eq (PySem.F.args_tuple_eq_2 _ _) (Es l b items items2 n n2 dd dd2 sl sl2 hsz)
  ⟨ho,ho2,he,show Value.bool true≠Value.notImplemented/\Q (.bool true) s from⟨(λx=>nomatch x),h⟩⟩) hu
end
end BgEqW
namespace L2
open PySem PySem.Spec PyProof.Rows BgEqW
def Lz(H:Hp)(a b:Addr):Prop:=a=b\/∃(ka kb:List (dB×V)),H a=some (.dK ka)/\H b=some (.dK kb)/\ka.length=kb.length/\∀(j:Nat) k v,ka[j]?=some (k,v)->gE kb k=some v/\jk v=true/\tP v v=true
def LA(K:Fg)(H:Hp)(x y:V):Prop:=∃(p q a b:Addr) (i n:Int),x=.ref p/\y=.ref q/\eU K H p [.int i,.int n,.ref a]/\eU K H q [.int i,.int n,.ref b]/\Lz H a b
def JJ(K:Fg):R2:=λx y H Q=>∃(p q:Addr) (xs ys:List V),x=.ref p/\y=.ref q/\bZ K H p xs/\bZ K H q ys/\xs.length=ys.length/\(∀(j:Nat) a b,xs[j]?=some a->ys[j]?=some b->LA K H a b)/\Q (.bl false) H
section
variable{X:Cx}
theorem LO{pins:List (Addr×Obj)}{σ:St}{H:Hp}{s:Shared}(I:bQ X pins σ H s){A:Around}{a b:Addr}(hu:A.units+5<cLine)(h:Lz H a b):yG X.prog X.w A s (.ref a) (.ref b):=by
 rcases h with rfl|⟨ka,kb,ha,hb,hl,hv⟩
 ·exact yG.of (SeqAt.EqAt.same _)
 by_cases hne:a=b
 ·subst hne;exact yG.of (SeqAt.EqAt.same _)
 refine yG.refs hne λE Q q=>?_
 obtain⟨_,la,va,ra,da⟩:=oa I.hok ha
 obtain⟨_,lb,vb,rb,db⟩:=oa I.hok hb
 refine PySem.W.keq_eq (r:=true) la lb da db (by lia) (λ_=>xO rb ra (λj=>((ka[j]?).map (·.2)).getD .non) (λj k v e=>?_) λj k v u w e ru rw'=>?_) ?_
 ·rw[e];exact(hv j k v e).1
 ·have e2:((ka[j]?).map (·.2)).getD V.non=v:=by rw[e];rfl
  rw[e2] at rw'
  have:=rf (A:=A.in1) (s:=s) ru rw' (hv j k v e).2.1 (hv j k v e).2.1
  rw[(hv j k v e).2.2] at this
  exact this
 ·have:(va.length==vb.length&&true)=true:=by rw[<-ra.length,<-rb.length,hl];simp
  rw[this];exact q
theorem Ib(hu:X.A.units+9<cLine):lh X (compareOp .NotEq) (JJ X.K):=by
 intro pins s σ H x y v u Q I rx ry h
 obtain⟨p,q,xs,ys,rfl,rfl,h1,h2,hl,he,qq⟩:=h
 cases rx
 cases ry
 obtain⟨us,r1,t1,_⟩:=I.list h1
 obtain⟨vs,r2,t2,_⟩:=I.list h2
 have l1:=r1.length
 have l2:=r2.length
 refine FG t1.isList t2.isList (by rw[aq,aq];lia) (by lia) (λj j1 j2=>?_) ⟨.bl false,H,I,rfl,qq⟩
 have j1':j<us.length:=by simpa using j1
 have j2':j<vs.length:=by simpa using j2
 obtain⟨a,ea⟩:∃a,xs[j]?=some a:=⟨_,ab (by lia)⟩
 obtain⟨b,eb⟩:∃b,ys[j]?=some b:=⟨_,ab (by lia)⟩
 obtain⟨u',eu,ru⟩:=r1.get ea
 obtain⟨v',ev,rv⟩:=r2.get eb
 have eu':us.toArray[j]=u':=by have:=(aj.mp eu).2;simpa using this
 have ev':vs.toArray[j]=v':=by have:=(aj.mp ev).2;simpa using this
 rw[eu',ev']
 obtain⟨tp,tq,da,db,i,n,rfl,rfl,ha,hb,hd⟩:=he j a b ea eb
 cases ru
 cases rv
 obtain⟨as,ra,ta,_⟩:=I.tuple ha
 obtain⟨bs,rb,tb,_⟩:=I.tuple hb
 cases ra with
 |cons a1 ra=>cases ra with
  |cons a2 ra=>cases ra with
   |cons a3 ra=>
    cases ra
    cases rb with
    |cons b1 rb=>cases rb with
     |cons b2 rb=>cases rb with
      |cons b3 rb=>
       cases rb
       refine Dt (show s.heap.IsTuple tp _ from ta) (show s.heap.IsTuple tq _ from tb) rfl (by show X.A.units+1<cLine;lia) λm m1 m2=>?_
       match m,m1,m2 with
       |0,_,_=>exact yG.of (by have:=rf (A:=X.A.in1.in1) (s:=s) a1 b1 rfl rfl;simpa[tP] using this)
       |1,_,_=>exact yG.of (by have:=rf (A:=X.A.in1.in1) (s:=s) a2 b2 rfl rfl;simpa[tP] using this)
       |2,_,_=>
        cases a3
        cases b3
        exact LO I (by show X.A.units+1+1+5<cLine;lia) hd
       |m+3,m1,_=>exact absurd m1 (by simp)
end
end L2
end
section
namespace L2
open PySem PySem.Spec PyProof.Rows
def rF(te:TE):TE:=λσ H Q=>te σ H λx H1=>∃(d:Addr) (kvs:List (dB×V)),x=.ref d/\H1 d=some (.dK kvs)/\∀l,H1 l=none->Q (.ref l) (upd H1 l (.lst (kvs.map (·.2))))
section
variable{X:Cx}
theorem zJ{l:Expr}{tl:TE}{p1 pos apos cpos:Pos}(hg:Gl X "list")(hm:X.mg "list"=none)(hc:X.calm=true)(hl:PE X l tl)(m:M0 X l "values" apos cpos)
  (hs:starEach [.Call (.Attribute l "values" apos) [] [] cpos] X.env=[(false,eval (.Call (.Attribute l "values" apos) [] [] cpos) X.env)]:=by rfl) :
  PE X (.Call (.Name "list" p1) [.Call (.Attribute l "values" apos) [] [] cpos] [] pos) (rF tl):=by
 intro pins s σ H Q I h
 refine wpAny_Call_Name_kw (mX I hg hm boot_list ?_)
 refine cu ?_ hs rfl
 rw[hs]
 show wpAny _ _ (spliced ((false,eval (.Call (.Attribute l "values" apos) [] [] cpos) X.env)::backTo pos [])) _ _ s
 refine Calls.spliced_cons ?_
 refine wpAny_Call_method (T:="dict") (id:="dict.values") m.base rfl m.line PySem.F.plainAttrs_dict PySem.F.slot_dict_values PySem.F.type_dict_values (fK (hl pins s σ H _ I h) λv s1 ⟨x,H1,I1,r1,q1⟩=>?_)
 obtain⟨d,kvs,rfl,e,q⟩:=q1
 cases r1
 obtain⟨t1,t2,_⟩:=Fc I1 (.inl ⟨kvs,.inl e⟩)
 refine⟨t1,t2,?_⟩
 obtain⟨z,lo,vs,rel,dd⟩:=oa I1.hok e
 show wpAny _ _ (callWith cpos (.builtin "dict.values") [.ref d] [] []) _ _ s1
 refine method_meetsIn PySem.F.slot_dict_values PySem.F.entry_dict_values rfl (kI ⟨rfl,dd.typeIs,PySem.F.args_dict_values_1 _,_,meets_dict_values (d8 X.prog X.w) d lo,⟨_,dd⟩,?_⟩)
 have I2:bQ X pins σ H1 {s1 with heap:=s1.heap.push {cls:=.type "dict_values",data:=.fields #[.ref d]}}:=I1.kept (t':=s1.toks) λb o e=>ak _ e
 obtain⟨_,_,MA,rel2,dd2⟩:=oa I2.hok e
 obtain⟨ep,hat⟩:=dd2.dictAt
 have kl:=rel2.length
 refine Calls.spliced_nil ?_
 refine PySem.W.kdl_call (PySem.W.kdl_values (knd:=d8 X.prog X.w) (kvs:=MA) (ep:=ep)) (I2.ok.hd hc) ⟨⟨_,aN _ rfl,rfl,rfl⟩,hat⟩ (by rw[<-kl];exact z) λh' tk acc c hk hD hacc=>?_
 have hv:ck (kvs.map (·.2)) acc.toList:=w4 (by rw[ai,dQ,hacc.1];exact kl.symm) λj x v e1 e2=>by
  rw[ba] at e1
  cases ek:kvs[j]? with
  |none=>rw[ek] at e1;cases e1
  |some p=>
   rw[ek] at e1
   have e1':p.2=x:=Option.some.inj e1
   obtain⟨k,e3⟩:=hacc.2 j v (by rw[<-Array.getElem?_toList];exact e2)
   rw[<-e1']
   exact(Kf rel2 ek e3).2
 have hn:=I2.hok.fresh (aC _)
 refine⟨.ref (s1.heap.push {cls:=.type "dict_values",data:=.fields #[.ref d]}).objs.size,_,I2.laid (t':=tk) (o:=.lst (kvs.map (·.2))) hk (aC _) ⟨by rw[ai];exact z,acc.toList,c,hv,?_⟩,rfl,q _ hn⟩
 rw[Array.toArray_toList];exact hD
theorem zL{l:Expr}{tl:TE}{p1 pos apos cpos:Pos}(hg:Gl X "list")(hm:X.mg "list"=none)(hc:X.calm=true)(hl:QE X l tl)(m:M0 X l "values" apos cpos)
  (hs:starEach [.Call (.Attribute l "values" apos) [] [] cpos] X.env=[(false,eval (.Call (.Attribute l "values" apos) [] [] cpos) X.env)]:=by rfl) :
  QE X (.Call (.Name "list" p1) [.Call (.Attribute l "values" apos) [] [] cpos] [] pos) (rF tl):=⟨zJ hg hm hc hl.up m hs⟩
theorem JY{A:Around}{k:Nat}(hr:cD k A):A.units+9<cLine:=iX (kG (by decide:9<=64) _) hr.units
end
section
variable{X:Cx}
def JG:List V->Hp->VK->Prop:=λxs H Q=>∃x:V,xs=[x,.ty "bool"]/\(x=.non\/∃z,x=.int z)/\Q (.bl false) H
theorem Dm:kK X (.builtin "isinstance") JG:=by
 intro pins s σ H xs us Q I r h
 obtain⟨x,rfl,hx,q⟩:=h
 obtain⟨u,w',rfl,r1,r2⟩:=wZ r
 cases r2
 rcases hx with rfl|⟨z,rfl⟩
 ·cases r1;exact IsiPair.NoneType_bool ⟨.bl false,H,I.tok _,rfl,q⟩
 ·obtain⟨t,rfl⟩:=r1;exact IsiPair.int_bool ⟨.bl false,H,I.tok _,rfl,q⟩
end
end L2
end
section
namespace Bg
open PySem L2
structure EE(H H':Hp)(vs:List V)(fs:List Fr):Prop where
 all:bR (Bb H') vs fs
 new:∀v∈vs,∃p d,v=.ref p/\H p=none/\H d=none/\(∃i n,H' p=some (.tup [.int i,.int n,.ref d]))
def eP(K:Fg):Sp:=λvs H Q _=>∃(w pp:Addr) (H0:Hp) (n:Nat) (st:jb),vs=[.ref w]/\dz K H0 H w pp n st/\n<=10000/\
 ∀(l:Addr) (fvs:List V) (H':Hp),H' l=some (.lst fvs)->EE H H' fvs st.fs->H l=none->aS H H'->Q (.ref l) H'
def jq(_:Fg):Sp:=λvs H Q _=>∃(p:Addr) (zs:List Int),vs=[.ref p]/\(H p=some (.lst (zs.map V.int))\/H p=some (.tup (zs.map V.int)))/\zs.length<=90000/\∀H',aS H H'->Q (.bl true) H'
def Ln(v:V):Prop:=v=.non\/∃z,v=.int z
def jJ(K:Fg):Sp:=λvs H Q _=>∃(w pp L W:Addr) (H0:Hp) (n m:Nat) (st:jb) (lvs:List V) (bs:List bf),vs=[.ref w,.ref L,.ref W,st.out]/\dz K H0 H w pp n st/\n<=10000/\H L=some (.lst lvs)/\bR (Bb H) lvs st.fs/\EC bs m st.fs/\H W=some (.lst (st.said.map V.int))/\Ln st.out/\
 ∀H',aS H H'->Q (.bl true) H'
abbrev vc:Nat:=0
abbrev j7:Nat:=1
abbrev Fm:Nat:=0
abbrev qi:Nat:=1
abbrev HB:Nat:=1
abbrev sH:Nat:=2
def MX(H:Hp)(v:V)(st:jb):Prop:=∃p l,v=.ref p/\H p=some (.tup [.ref l,st.out])/\H l=some (.lst (st.said.map V.int))
def gC(K:Fg):Sp:=λvs H Q _=>∃(pp q T:Addr) (k bd:Nat) (zs:List Int) (bs:List bf) (b:bf) (tvs:List V) (sts:List jb),vs=[.ref pp,.int (k:Nat),.ref q,.int (bd:Nat),.ref T]/\hU H pp bs/\bs[k]?=some b/\b.params.length=zs.length/\H q=some (.lst (zs.map V.int))/\bd<=60/\
 H T=some (.lst tvs)/\bR (MX H) tvs sts/\sts.length<=61/\(∀(j:Nat) st,sts[j]?=some st->Ch bs j ⟨[gG b k zs],[],.non⟩ st/\(st.fs=[]↔st.out≠.non)/\Ln st.out/\st.said.length<=1000)/\(sts.length=61\/∃st,sts.getLast?=some st/\st.fs=[])/\1<=sts.length/\
 ∀H',aS H H'->Q (.bl true) H'
abbrev zi:Nat:=8
abbrev lK:Nat:=9
abbrev LV:Nat:=12
abbrev Ct:Nat:=13
end Bg
end
section
namespace Bg
open PySem PySem.Spec PyProof.Rows L2
abbrev iZ:List Str:=["row"]
abbrev qZ:List Str:=["row","word"]
def AF(K:Fg):TS:=(cU (gR aK))
def AG(K:Fg):TS:=(bo (df (bX (bq ((IZ K false)) (ah 1) (gR (af (tC (.str "say")) (af (tC (.str "test")) (af (tC (.str "give")) aK)))))) (cU (gR (af (bq (cQ K) (ah 0) (tC (.int 1))) aK))) cG) (AF K))
def AH(K:Fg):TS:=(bo (df (bX (bq (fh K) (ah 1) (tC (.str "call")))) (cU (iV (mD K) (af (bq (cQ K) (ah 0) (tC (.int 3))) aK))) cG) (AG K))
def AI(K:Fg):TS:=(bo (df (bX (bq (fh K) (ah 1) (tC (.str "op")))) (cU (gR (af (bq (cQ K) (ah 0) (tC (.int 3))) (af (bq (cQ K) (ah 0) (tC (.int 4))) aK)))) cG) (AH K))
def wU(K:Fg):TS:=(bo (bO (bq (cQ K) (ah 0) (tC (.int 0))) (aT 1)) (AI K))
abbrev jT:List Str:=["row"]
abbrev sZ:List Str:=["row"]
def Cp(K:Fg):TS:=(cU (tC .non))
def AJ(K:Fg):TS:=(bo (df (bX (bq ((IZ K false)) (bq (cQ K) (ah 0) (tC (.int 0))) (gR (af (tC (.str "num")) (af (tC (.str "op")) (af (tC (.str "call")) aK)))))) (cU (bq (cQ K) (ah 0) (tC (.int 1)))) cG) (Cp K))
abbrev ix:List Str:=["row"]
abbrev sY:List Str:=["row"]
def Cn(K:Fg):TS:=(cU (tC .non))
def Co(K:Fg):TS:=(bo (df (bX (bq (fh K) (bq (cQ K) (ah 0) (tC (.int 0))) (tC (.str "test")))) (cU (bq (cQ K) (ah 0) (tC (.int 2)))) cG) (Cn K))
def AE(K:Fg):TS:=(bo (df (bX (bq (fh K) (bq (cQ K) (ah 0) (tC (.int 0))) (tC (.str "jump")))) (cU (bq (cQ K) (ah 0) (tC (.int 1)))) cG) (Co K))
abbrev ff:List Str:=["rows","n"]
abbrev pQ:List Str:=["rows","n","at"]
def yC(K:Fg):TS:=(cU (ah 2))
def yD(K:Fg):TS:=(bO (bL (gL K) [] E0 (af (bq (cQ K) (ah 0) (ah 2)) aK)) (aT 2))
def qV(K:Fg):TS:=(bo (rG (bX (bq (fh K) (bq (cQ K) (bq (cQ K) (ah 0) (ah 2)) (tC (.int 0))) (tC (.str "jump")))) (yD K)) (yC K))
def uQ(K:Fg):TS:=(bo (bO (ah 1) (aT 2)) (qV K))
abbrev i6:List Str:=["s","one","other"]
abbrev q4:List Str:=["s","one","other"]
def AK(K:Fg):TS:=(cU (bq (kq) (bL (eQ K) [] E0 (af (ah 0) (af (ah 1) (af (ah 2) aK)))) (bq (wg) (tC (.int 2)) (tC (.int 64)))))
def AL(K:Fg):TS:=(bo (df (bX (bq (fh K) (ah 0) (tC (.str "=")))) (cU (Mr (bX (bq (fh K) (ah 1) (ah 2))) (tC (.int 1)) (tC (.int 0)))) cG) (AK K))
def wV(K:Fg):TS:=(bo (df (bX (bq (fh K) (ah 0) (tC (.str "<")))) (cU (Mr (bX (bq (sD) (ah 1) (ah 2))) (tC (.int 1)) (tC (.int 0)))) cG) (AL K))
abbrev eK:List Str:=["s","one","other"]
abbrev lV:List Str:=["s","one","other"]
def sF(K:Fg):TS:=(cU (bq (je K) (ah 1) (ah 2)))
def sG(K:Fg):TS:=(bo (df (bX (bq (fh K) (ah 0) (tC (.str "-")))) (cU (bq (rN) (ah 1) (ah 2))) cG) (sF K))
def pF(K:Fg):TS:=(bo (df (bX (bq (fh K) (ah 0) (tC (.str "+")))) (cU (bq (dN K) (ah 1) (ah 2))) cG) (sG K))
abbrev gY:List Str:=["self"]
abbrev pO:List Str:=["self"]
def yB(K:Fg):TS:=(uq K (ah 0) (tC .non) "outcome")
def qQ(K:Fg):TS:=(bo (uq K (ah 0) (iQ aK) "spoken") (yB K))
def uB(K:Fg):TS:=(bo (uq K (ah 0) (iQ aK) "opened") (qQ K))
abbrev fc:List Str:=["self"]
abbrev pP:List Str:=["self"]
def uC(K:Fg):TS:=(cU (iV (oW K) (af (jr K (ah 0) "spoken") aK)))
abbrev dC:List Str:=["self"]
abbrev mN:List Str:=["self"]
def qP(K:Fg):TS:=(cU (jr K (ah 0) "outcome"))
abbrev dk:List Str:=["self"]
abbrev nO:List Str:=["self"]
def rT(K:Fg):TS:=(cU (bq (fh K) (iV (ly K) (af (jr K (ah 0) "opened") aK)) (tC (.int 0))))
abbrev gf:List Str:=["walk","most"]
abbrev nR:List Str:=["walk","most","steps","word"]
def pD(K:Fg):TS:=(cU (gR (af (ah 3) (af (iF (aR K "Walk") "said" (dM K) [] E0 (ah 0) aK) (af (iF (aR K "Walk") "answer" (cS K) [] E0 (ah 0) aK) (af (ah 2) aK))))))
def pE(K:Fg):TS:=(bo (bO (Mr (tB (iF (aR K "Walk") "ended" (cF K) [] E0 (ah 0) aK)) (tC (.str "given")) (tC (.str "spent"))) (aT 3)) (pD K))
def vD(K:Fg):TS:=(Lj 2 (tC (.int 1)) (MZ λi j=>i+j))
def vE(K:Fg):TS:=(bo (fV (iF (aR K "Walk") "step" (dI K) [] E0 (ah 0) aK)) (vD K))
def vF(K:Fg):TS:=(bo (rG (yz (bX (bq (sD) (ah 2) (ah 1))) (sE (tB (iF (aR K "Walk") "ended" (cF K) [] E0 (ah 0) aK)))) (vE K)) (pE K))
def rY(K:Fg):TS:=(bo (bO (tC (.int 0)) (aT 2)) (vF K))
abbrev fG:List Str:=["self","part","row","names"]
abbrev mM:List Str:=["self","part","row","names"]
def uz(K:Fg):TS:=(uq K (ah 0) (ah 3) "names")
def uA(K:Fg):TS:=(bo (uq K (ah 0) (ah 2) "row") (uz K))
def qO(K:Fg):TS:=(bo (uq K (ah 0) (ah 1) "part") (uA K))
abbrev dW:List Str:=["self","program","part","args"]
abbrev nP:List Str:=["self","program","part","args"]
def vA(K:Fg):TS:=(fV (iF (aR K "Walk") "enter" (dh K) [] E0 (ah 0) (af (ah 2) (af (ah 3) aK))))
def vB(K:Fg):TS:=(bo (uq K (ah 0) (ah 1) "program") (vA K))
def rV(K:Fg):TS:=(bo (fV (bL (ic K) [] E0 (af (ah 0) aK))) (vB K))
abbrev dX:List Str:=["self"]
abbrev lN:List Str:=["self","frame","row","taken"]
def px(K:Fg):TS:=(df (bX (bq (fh K) (bq (cQ K) (ah 2) (tC (.int 0))) (tC (.str "call")))) (fV (iF (aR K "Walk") "enter" (dh K) [] E0 (ah 0) (af (bq (cQ K) (ah 2) (tC (.int 2))) (af (ah 3) aK)))) (df (bX (bq (fh K) (bq (cQ K) (ah 2) (tC (.int 0))) (tC (.str "give")))) (fV (iF (aR K "Walk") "leave" (fJ K) [] E0 (ah 0) (af (bq (cQ K) (ah 3) (tC (.int 0))) aK))) (fV (iF (aR K "Walk") "work" (gy K) [] E0 (ah 0) (af (ah 1) (af (ah 2) (af (ah 3) aK)))))))
def pA(K:Fg):TS:=(bo (bO (lC [] 1 (oh K (bL (jf K) [] E0 (af (ah 2) aK))) (aT 4) p0 (ox (jr K (ah 1) "names") (ah 4))) (aT 3)) (px K))
def pB(K:Fg):TS:=(bo (bO (bq (cQ K) (bq (cQ K) (bq (cQ K) (jr K (ah 0) "program") (jr K (ah 1) "part")) (tC (.int 2))) (jr K (ah 1) "row")) (aT 2)) (pA K))
def vC(K:Fg):TS:=(bo (bO (bq (cQ K) (jr K (ah 0) "opened") (Lk Ga (tC (.int 1)))) (aT 1)) (pB K))
def rW(K:Fg):TS:=(bo (df (tB (iF (aR K "Walk") "ended" (cF K) [] E0 (ah 0) aK)) Gv cG) (vC K))
abbrev dD:List Str:=["self","part","args"]
abbrev mO:List Str:=["self","part","args","params","row"]
def oy(K:Fg):TS:=(fV (C1 K "list" iA (jr K (ah 0) "opened") (af (wD (aR K "Frame") (fI K) [] E0 (af (ah 1) (af (ah 4) (af (qM K (af (ah 3) (af (ah 2) aK))) aK)))) aK)))
def uD(K:Fg):TS:=(bo (bO (bL (eF K) [] E0 (af (bq (cQ K) (bq (cQ K) (jr K (ah 0) "program") (ah 1)) (tC (.int 2))) (af (tC (.int 0)) aK))) (aT 4)) (oy K))
def qR(K:Fg):TS:=(bo (bO (bq (cQ K) (bq (cQ K) (jr K (ah 0) "program") (ah 1)) (tC (.int 1))) (aT 3)) (uD K))
abbrev fH:List Str:=["self","given"]
abbrev mQ:List Str:=["self","given","frame"]
def oz(K:Fg):TS:=(fV (iF (aR K "Walk") "go_on" (di K) [] E0 (ah 0) (af (ah 2) (af (bq (dN K) (jr K (ah 2) "row") (tC (.int 1))) aK))))
def oA(K:Fg):TS:=(bo (bO (ah 1) (nG (jr K (ah 2) "names") (bL (j4 K) [] E0 (af (bq (cQ K) (bq (cQ K) (bq (cQ K) (jr K (ah 0) "program") (jr K (ah 2) "part")) (tC (.int 2))) (jr K (ah 2) "row")) aK)) uk)) (oz K))
def uE(K:Fg):TS:=(df (tB (iF (aR K "Walk") "ended" (cF K) [] E0 (ah 0) aK)) (uq K (ah 0) (ah 1) "outcome") (bo (bO (bq (cQ K) (jr K (ah 0) "opened") (Lk Ga (tC (.int 1)))) (aT 2)) (oA K)))
def qT(K:Fg):TS:=(bo (fV (Cd K "list" I0 (jr K (ah 0) "opened"))) (uE K))
abbrev gc:List Str:=["self","frame","row","taken"]
abbrev nQ:List Str:=["self","frame","row","taken","to"]
def ma(K:Fg):TS:=(fV (iF (aR K "Walk") "go_on" (di K) [] E0 (ah 0) (af (ah 1) (af (ah 4) aK))))
def pC(K:Fg):TS:=(bo (df (bX (bq (fh K) (bq (cQ K) (ah 2) (tC (.int 0))) (tC (.str "num")))) (bO (bq (cQ K) (ah 2) (tC (.int 2))) (nG (jr K (ah 1) "names") (bq (cQ K) (ah 2) (tC (.int 1))) uk)) (df (bX (bq (fh K) (bq (cQ K) (ah 2) (tC (.int 0))) (tC (.str "op")))) (bO (bL (jg K) [] E0 (af (bq (cQ K) (ah 2) (tC (.int 2))) (af (bq (cQ K) (ah 3) (tC (.int 0))) (af (bq (cQ K) (ah 3) (tC (.int 1))) aK)))) (nG (jr K (ah 1) "names") (bq (cQ K) (ah 2) (tC (.int 1))) uk)) (df (bX (bq (fh K) (bq (cQ K) (ah 2) (tC (.int 0))) (tC (.str "say")))) (fV (C1 K "list" iA (jr K (ah 0) "spoken") (af (bq (cQ K) (ah 3) (tC (.int 0))) aK))) (df (yz (bX (bq (fh K) (bq (cQ K) (ah 2) (tC (.int 0))) (tC (.str "test")))) (bX (bq (FZ K) (bq (cQ K) (ah 3) (tC (.int 0))) (tC (.int 0))))) (bO (bL (gL K) [] E0 (af (ah 2) aK)) (aT 4)) cG)))) (ma K))
def rX(K:Fg):TS:=(bo (bO (bq (dN K) (jr K (ah 1) "row") (tC (.int 1))) (aT 4)) (pC K))
abbrev dE:List Str:=["self","frame","to"]
abbrev mP:List Str:=["self","frame","to"]
def qS(K:Fg):TS:=(uq K (ah 1) (bL (eF K) [] E0 (af (bq (cQ K) (bq (cQ K) (jr K (ah 0) "program") (jr K (ah 1) "part")) (tC (.int 2))) (af (ah 2) aK))) "row")
abbrev fN:List Str:=["program","part","args","most"]
abbrev xm:List Str:=["program","part","args","most"]
def De(K:Fg):TS:=(cU (bL (gA K) [] E0 (af (wD (aR K "Walk") (dq K) [] E0 (af (ah 0) (af (ah 1) (af (ah 2) aK)))) (af (ah 3) aK))))
abbrev g8:List Str:=["_law_rows","_law_n"]
abbrev xq:List Str:=["_law_rows","_law_n"]
def El(K:Fg):TS:=(cU (ah 1))
def Em(K:Fg):TS:=(bO (bq (cQ K) (bq (cQ K) (ah 0) (ah 1)) (tC (.int 1))) (aT 1))
def Df(K:Fg):TS:=(bo (rG (bX (bq (fh K) (bq (cQ K) (bq (cQ K) (ah 0) (ah 1)) (tC (.int 0))) (tC (.str "jump")))) (Em K)) (El K))
end Bg
end
section
namespace L2
open PySem PySem.Spec PyProof.Rows
section
variable{X:Cx}{elts:List Expr}{k:Nat}{tpos:Pos}
end
end L2
end
section
namespace PySem.SeqAt
open AutoSeq1 (wpAny_loadPart')
open MeetsSeq MeetsSeq2 MeetsSeq3 SeqRoads2
end PySem.SeqAt
namespace L2
open PySem PySem.Spec PyProof.Rows
section
variable{X:Cx}{o e:Expr}{es:List Expr}{to ta tb:TE}{t:TA}{apos cpos:Pos}
end
structure sU(P:Program)(w:World)(K:Fg)(mg:Str->Option Value)(base:Heap)(x:Str)(C:Addr)(m:Str)(ps:List Str)(k:Nat)(sp:Sp):Prop where
 ex:∃(f:Addr) (fd:FuncData),mg x=some (.ref C)/\PySem.W.specialIn K (.ref C) "__getattribute__"=some (some (.builtin "type.__getattribute__"))/\PySem.W.readsIn K C (.type "type")=true/\PySem.W.findCls K (.ref C) (.type "type") m=some (.val (.ref f))/\
  aA K (.ref f)=true/\kJ K fd ps []/\dt P w K mg base eT k f fd ps sp
section
variable{X:Cx}{C:Addr}{m x:Str}{ps:List Str}{k:Nat}{sp:Sp}{e:Expr}{es:List Expr}{t:TA}{p pos apos:Pos}
theorem Ih{pl:Sem Bool}(M:sU X.prog X.w X.K X.mg X.base x C m ps k sp)(hr:cD k X.A)(hg:Gl X x)(ha:PA X (e::es) t)(hdb:(x==("__debug__":Str))=false:=by decide)
  (hst:starEach (e::es) X.env=(false,eval e X.env)::starEach es X.env:=by rfl) (hpl:(backTo pos (starEach es X.env)).any (·.1)=false:=by rfl)
  (ht:eval (.Call (.Attribute (.Name x p) m apos) (e::es) [] pos) X.env=(do
   let ov <-eval (.Name x p) X.env
   standAt apos.atName
   let(f,first) <-holding [ov] (getMethod ov m pl)
   callWith pos f first (backTo pos (starEach (e::es) X.env)) (backToKw pos (keywordEach [] X.env))):=by rfl) :
  PE X (.Call (.Attribute (.Name x p) m apos) (e::es) [] pos) (bL sp [] E0 t):=by
 obtain⟨f,fd,hm,hga,hrd,hf,hk,hb,F⟩:=M.ex
 intro pins s σ H Q I h
 refine jN (pl:=pl) (xW I hg hm ?_ hdb) ht
 refine PySem.W.method_cls I.kIn hga (PySem.W.cls_value I.kIn hrd hf rfl ?_)
 have I1:=I.tok (s.toks+1)
 refine iY (first:=[]) (h₀:=X.base) I.ok.mod.kin hk (fK (ha pos pins _ σ H _ I1 h) λus s2 ⟨vs,H2,I2,r,q2⟩=>⟨I2.kIn,?_⟩) hst hpl
 exact yw F hr hb .nil wb I2 r q2
theorem IK{pl:Sem Bool}(M:sU X.prog X.w X.K X.mg X.base x C m ps k sp)(hr:cD k X.A)(hg:Gl X x)(ha:QA X (e::es) t)(hdb:(x==("__debug__":Str))=false:=by decide)
  (hst:starEach (e::es) X.env=(false,eval e X.env)::starEach es X.env:=by rfl) (hpl:(backTo pos (starEach es X.env)).any (·.1)=false:=by rfl)
  (ht:eval (.Call (.Attribute (.Name x p) m apos) (e::es) [] pos) X.env=(do
   let ov <-eval (.Name x p) X.env
   standAt apos.atName
   let(f,first) <-holding [ov] (getMethod ov m pl)
   callWith pos f first (backTo pos (starEach (e::es) X.env)) (backToKw pos (keywordEach [] X.env))):=by rfl) :
  QE X (.Call (.Attribute (.Name x p) m apos) (e::es) [] pos) (bL sp [] E0 t):=⟨Ih (pl:=pl) M hr hg ha.up hdb hst hpl ht⟩
end
end L2
end
section
namespace Bg
open PySem PySem.Spec PyProof.Rows L2
abbrev mR:List Str:=["_law_state","_law_program_here","_law_k"]
abbrev xj:List Str:=["_law_state","_law_program_here","_law_k"]
def Gw(K:Fg):TS:=(cU (lC [] 1 (oh K (bq (cQ K) (bq (cQ K) (ah 1) (ah 2)) (tC (.int 1)))) (aT 3) p0 (bL (iP K) [] E0 (af (ah 0) aK))))
abbrev gZ:List Str:=["_law_s","_law_one","_law_other"]
abbrev pR:List Str:=["_law_s","_law_one","_law_other"]
def nq(K:Fg):TS:=(cU (bq (kq) (ox (C2 [((tC (.str "+")),(bq (dN K) (ah 1) (ah 2))),((tC (.str "-")),(bq (rN) (ah 1) (ah 2))),((tC (.str "*")),(bq (je K) (ah 1) (ah 2)))]) (ah 0)) (bq (wg) (tC (.int 2)) (tC (.int 64)))))
def yE(K:Fg):TS:=(bo (df (bX (bq (fh K) (ah 0) (tC (.str "=")))) (cU (iV (we) (af (bq (fh K) (ah 1) (ah 2)) aK))) cG) (nq K))
def uR(K:Fg):TS:=(bo (df (bX (bq (fh K) (ah 0) (tC (.str "<")))) (cU (iV (we) (af (bq (sD) (ah 1) (ah 2)) aK))) cG) (yE K))
abbrev iw:List Str:=["_law_program_here","_law_part_here","_law_args_here"]
abbrev sX:List Str:=["_law_program_here","_law_part_here","_law_args_here","_law_name","_law_params","_law_rows"]
def qb(K:Fg):TS:=(cU (gR (af (ah 1) (af (bL (fU K) [] E0 (af (ah 5) (af (tC (.int 0)) aK))) (af (qM K (af (ah 4) (af (ah 2) aK))) aK)))))
def AD(K:Fg):TS:=(bo (bO (bq (cQ K) (ah 0) (ah 1)) (xM K 3 (iM (aT 3) (iM (aT 4) (iM (aT 5) u6))))) (qb K))
abbrev mT:List Str:=["_law_program_here","_law_frames","_law_number"]
abbrev Bf:List Str:=["_law_program_here","_law_frames","_law_number","_law_part_here","_law_n","_law_names_here","_law_rows"]
def AS(K:Fg):TS:=(cU (iQ aK))
def AU(K:Fg):TS:=(bo (fV (C1 K "list" iA (ah 1) (af (gR (af (ah 3) (af (bL (fU K) [] E0 (af (ah 6) (af (bq (dN K) (ah 4) (tC (.int 1))) aK))) (af (ah 5) aK)))) aK))) (AS K))
def AV(K:Fg):TS:=(bo (bO (ah 2) (nG (ah 5) (bq (cQ K) (bq (cQ K) (ah 6) (ah 4)) (tC (.int 1))) uk)) (AU K))
def AW(K:Fg):TS:=(bo (bO (iV (yk) (af (ah 5) aK)) (aT 5)) (AV K))
def AX(K:Fg):TS:=(bo (bO (bq (cQ K) (bq (cQ K) (ah 0) (ah 3)) (tC (.int 2))) (aT 6)) (AW K))
def AY(K:Fg):TS:=(bo (bO (Cd K "list" I0 (ah 1)) (xM K 3 (iM (aT 3) (iM (aT 4) (iM (aT 5) u6))))) (AX K))
def AZ(K:Fg):TS:=(bo (df (bX (bq (D3 K) (ah 1) (iQ aK))) (cU (iQ (af (ah 2) aK))) cG) (AY K))
def GF(K:Fg):TS:=(bo (fV (Cd K "list" I0 (ah 1))) (AZ K))
abbrev mU:List Str:=["_law_program_here","_law_frames","_law_words"]
abbrev xr:List Str:=["_law_program_here","_law_frames","_law_words","_law_part_here","_law_n","_law_names_here","_law_rows","_law_row","_law_to"]
def A5(K:Fg):TS:=(cU (iQ aK))
def uS(K:Fg):TS:=(bo (bO (gR (af (ah 3) (af (bL (fU K) [] E0 (af (ah 6) (af (ah 8) aK))) (af (ah 5) aK)))) (nG (ah 1) (Lk Ga (tC (.int 1))) nE)) (A5 K))
def GH(K:Fg):TS:=(bo (df (yz (bX (bq (fh K) (bq (cQ K) (ah 7) (tC (.int 0))) (tC (.str "test")))) (bX (bq (FZ K) (ox (ah 5) (bq (cQ K) (ah 7) (tC (.int 1)))) (tC (.int 0))))) (bO (bq (cQ K) (ah 7) (tC (.int 2))) (aT 8)) cG) (uS K))
def GI(K:Fg):TS:=(bo (df (bX (bq (fh K) (bq (cQ K) (ah 7) (tC (.int 0))) (tC (.str "say")))) (fV (C1 K "list" iA (ah 2) (af (ox (ah 5) (bq (cQ K) (ah 7) (tC (.int 1)))) aK))) cG) (GH K))
def GJ(K:Fg):TS:=(bo (df (bX (bq (fh K) (bq (cQ K) (ah 7) (tC (.int 0))) (tC (.str "op")))) (bO (bL (ie K) [] E0 (af (bq (cQ K) (ah 7) (tC (.int 2))) (af (ox (ah 5) (bq (cQ K) (ah 7) (tC (.int 3)))) (af (ox (ah 5) (bq (cQ K) (ah 7) (tC (.int 4)))) aK)))) (nG (ah 5) (bq (cQ K) (ah 7) (tC (.int 1))) uk)) cG) (GI K))
def GK(K:Fg):TS:=(bo (df (bX (bq (fh K) (bq (cQ K) (ah 7) (tC (.int 0))) (tC (.str "num")))) (bO (bq (cQ K) (ah 7) (tC (.int 2))) (nG (ah 5) (bq (cQ K) (ah 7) (tC (.int 1))) uk)) cG) (GJ K))
def GL(K:Fg):TS:=(bo (bO (iV (yk) (af (ah 5) aK)) (aT 5)) (GK K))
def A6(K:Fg):TS:=(cU (iQ aK))
def GM(K:Fg):TS:=(bo (df (bX (bq (fh K) (bq (cQ K) (ah 7) (tC (.int 0))) (tC (.str "call")))) (bo (fV (C1 K "list" iA (ah 1) (af (bL (fS K) [] E0 (af (ah 0) (af (bq (cQ K) (ah 7) (tC (.int 2))) (af (lC [] 1 (oh K (bq (cQ K) (ah 7) (tC (.int 3)))) (aT 9) p0 (ox (ah 5) (ah 9))) aK)))) aK))) (A6 K)) cG) (GL K))
def wX(K:Fg):TS:=(bo (df (bX (bq (fh K) (bq (cQ K) (ah 7) (tC (.int 0))) (tC (.str "give")))) (cU (bL (ni K) [] E0 (af (ah 0) (af (ah 1) (af (ox (ah 5) (bq (cQ K) (ah 7) (tC (.int 1)))) aK))))) cG) (GM K))
def En(K:Fg):TS:=(bo (bO (bq (dN K) (ah 4) (tC (.int 1))) (aT 8)) (wX K))
def Eo(K:Fg):TS:=(bo (bO (bq (cQ K) (ah 6) (ah 4)) (aT 7)) (En K))
def Ep(K:Fg):TS:=(bo (bO (bq (cQ K) (bq (cQ K) (ah 0) (ah 3)) (tC (.int 2))) (aT 6)) (Eo K))
def GG(K:Fg):TS:=(bo (bO (bq (cQ K) (ah 1) (Lk Ga (tC (.int 1)))) (xM K 3 (iM (aT 3) (iM (aT 4) (iM (aT 5) u6))))) (Ep K))
def mH(i:Nat):Stmt:=PySem.Challenge.pw_beltgarth_k32_whole_walks_and_runs.main.body.getD i (.Pass ⟨0,0,0,0⟩)
abbrev iB:Stmt:=mH 1
theorem ur:bM qZ iZ (ag iB):=⟨rfl,rfl,rfl,by decide +kernel,rfl,by decide +kernel,by decide +kernel⟩
abbrev jH:Stmt:=mH 2
theorem wz:bM sZ jT (ag jH):=⟨rfl,rfl,rfl,by decide +kernel,rfl,by decide +kernel,by decide +kernel⟩
abbrev jG:Stmt:=mH 3
theorem wx:bM sY ix (ag jG):=⟨rfl,rfl,rfl,by decide +kernel,rfl,by decide +kernel,by decide +kernel⟩
abbrev gv:Stmt:=mH 4
theorem rR:bM pQ ff (ag gv):=⟨rfl,rfl,rfl,by decide +kernel,rfl,by decide +kernel,by decide +kernel⟩
abbrev gq:Stmt:=nB (mH 6) 0
theorem rP:bM pO gY (ag gq):=⟨rfl,rfl,rfl,by decide +kernel,rfl,by decide +kernel,by decide +kernel⟩
abbrev gr:Stmt:=nB (mH 6) 1
theorem rQ:bM pP fc (ag gr):=⟨rfl,rfl,rfl,by decide +kernel,rfl,by decide +kernel,by decide +kernel⟩
abbrev eh:Stmt:=nB (mH 6) 2
theorem ph:bM mN dC (ag eh):=⟨rfl,rfl,rfl,by decide +kernel,rfl,by decide +kernel,by decide +kernel⟩
abbrev fi:Stmt:=nB (mH 6) 3
theorem qD:bM nO dk (ag fi):=⟨rfl,rfl,rfl,by decide +kernel,rfl,by decide +kernel,by decide +kernel⟩
abbrev fu:Stmt:=mH 7
theorem qH:bM nR gf (ag fu):=⟨rfl,rfl,rfl,by decide +kernel,rfl,by decide +kernel,by decide +kernel⟩
abbrev iC:Stmt:=mH 9
theorem uu:bM q4 i6 (ag iC):=⟨rfl,rfl,rfl,by decide +kernel,rfl,by decide +kernel,by decide +kernel⟩
abbrev dG:Stmt:=mH 10
theorem ou:bM lV eK (ag dG):=⟨rfl,rfl,rfl,by decide +kernel,rfl,by decide +kernel,by decide +kernel⟩
abbrev ef:Stmt:=nB (mH 12) 0
theorem pf:bM mM fG (ag ef):=⟨rfl,rfl,rfl,by decide +kernel,rfl,by decide +kernel,by decide +kernel⟩
abbrev fj:Stmt:=nB (mH 13) 0
theorem qE:bM nP dW (ag fj):=⟨rfl,rfl,rfl,by decide +kernel,rfl,by decide +kernel,by decide +kernel⟩
abbrev eE:Stmt:=nB (mH 13) 1
theorem qF:bM lN dX (ag eE):=⟨rfl,rfl,rfl,by decide +kernel,rfl,by decide +kernel,by decide +kernel⟩
abbrev dg:Stmt:=nB (mH 13) 2
abbrev eJ:List Str:=["self"]
abbrev j9:List Str:=["self"]
def pw(K:Fg):TS:=(cU (lC [] 1 (oh K (jr K (ah 0) "opened")) (aT 1) p0 (gR (af (jr K (ah 1) "part") (af (jr K (ah 1) "row") (af (iV (yk) (af (jr K (ah 1) "names") aK)) aK))))))
theorem ot:bM j9 eJ (ag dg):=⟨rfl,rfl,rfl,by decide +kernel,rfl,by decide +kernel,by decide +kernel⟩
abbrev en:Stmt:=nB (mH 13) 3
theorem pj:bM mO dD (ag en):=⟨rfl,rfl,rfl,by decide +kernel,rfl,by decide +kernel,by decide +kernel⟩
abbrev eB:Stmt:=nB (mH 13) 4
theorem pq:bM mQ fH (ag eB):=⟨rfl,rfl,rfl,by decide +kernel,rfl,by decide +kernel,by decide +kernel⟩
abbrev fq:Stmt:=nB (mH 13) 5
theorem qG:bM nQ gc (ag fq):=⟨rfl,rfl,rfl,by decide +kernel,rfl,by decide +kernel,by decide +kernel⟩
abbrev eA:Stmt:=nB (mH 13) 6
theorem pk:bM mP dE (ag eA):=⟨rfl,rfl,rfl,by decide +kernel,rfl,by decide +kernel,by decide +kernel⟩
abbrev gu:Stmt:=mH 14
theorem Aa:bM xm fN (ag gu):=⟨rfl,rfl,rfl,by decide +kernel,rfl,by decide +kernel,by decide +kernel⟩
abbrev m9:Stmt:=mH 16
theorem CW:bM Be dY (ag m9):=⟨rfl,rfl,rfl,by decide +kernel,rfl,by decide +kernel,by decide +kernel⟩
abbrev kh:Stmt:=mH 17
theorem z9:bM sL lq (ag kh):=⟨rfl,rfl,rfl,by decide +kernel,rfl,by decide +kernel,by decide +kernel⟩
abbrev kT:Stmt:=mH 18
theorem Ac:bM xt jy (ag kT):=⟨rfl,rfl,rfl,by decide +kernel,rfl,by decide +kernel,by decide +kernel⟩
abbrev fA:Stmt:=mH 19
theorem qI:bM nS gg (ag fA):=⟨rfl,rfl,rfl,by decide +kernel,rfl,by decide +kernel,by decide +kernel⟩
abbrev kR:Stmt:=mH 20
theorem zZ:bM xk lp (ag kR):=⟨rfl,rfl,rfl,by decide +kernel,rfl,by decide +kernel,by decide +kernel⟩
abbrev jE:Stmt:=mH 21
theorem wt:bM sW jS (ag jE):=⟨rfl,rfl,rfl,by decide +kernel,rfl,by decide +kernel,by decide +kernel⟩
abbrev dJ:Stmt:=mH 22
theorem qK:bM ko gp (ag dJ):=⟨rfl,rfl,rfl,by decide +kernel,rfl,by decide +kernel,by decide +kernel⟩
abbrev iN:Stmt:=mH 23
theorem wq:bM qj jR (ag iN):=⟨rfl,rfl,rfl,by decide +kernel,rfl,by decide +kernel,by decide +kernel⟩
abbrev lY:Stmt:=mH 24
theorem CY:bM xp mS (ag lY):=⟨rfl,rfl,rfl,by decide +kernel,rfl,by decide +kernel,by decide +kernel⟩
abbrev gK:Stmt:=mH 25
theorem uv:bM oN i8 (ag gK):=⟨rfl,rfl,rfl,by decide +kernel,rfl,by decide +kernel,by decide +kernel⟩
abbrev lX:Stmt:=mH 26
theorem CV:bM xj mR (ag lX):=⟨rfl,rfl,rfl,by decide +kernel,rfl,by decide +kernel,by decide +kernel⟩
abbrev kS:Stmt:=mH 27
theorem Ab:bM xq g8 (ag kS):=⟨rfl,rfl,rfl,by decide +kernel,rfl,by decide +kernel,by decide +kernel⟩
abbrev gw:Stmt:=mH 28
theorem rS:bM pR gZ (ag gw):=⟨rfl,rfl,rfl,by decide +kernel,rfl,by decide +kernel,by decide +kernel⟩
abbrev jF:Stmt:=mH 29
theorem wu:bM sX iw (ag jF):=⟨rfl,rfl,rfl,by decide +kernel,rfl,by decide +kernel,by decide +kernel⟩
abbrev ng:Stmt:=mH 30
theorem CZ:bM Bf mT (ag ng):=⟨rfl,rfl,rfl,by decide +kernel,rfl,by decide +kernel,by decide +kernel⟩
abbrev lZ:Stmt:=mH 31
theorem C0:bM xr mU (ag lZ):=⟨rfl,rfl,rfl,by decide +kernel,rfl,by decide +kernel,by decide +kernel⟩
abbrev iO:Stmt:=mH 32
abbrev jU:List Str:=["_law_some"]
abbrev qk:List Str:=["_law_some"]
def A8(K:Fg):TS:=(cU (iV (K9 K) (af (lC [] 1 (oh K (ah 0)) (aT 1) p0 (Ai (iV (zN K) (af (ah 1) (af (tC (.ty "int")) aK))) (Aj (iV (zN K) (af (ah 1) (af (tC (.ty "bool")) aK)))))) aK)))
theorem wA:bM qk jU (ag iO):=⟨rfl,rfl,rfl,by decide +kernel,rfl,by decide +kernel,by decide +kernel⟩
abbrev kQ:Stmt:=mH 33
abbrev lj:List Str:=["_law_walk","_law_frames","_law_words","_law_end"]
abbrev xi:List Str:=["_law_walk","_law_frames","_law_words","_law_end","_law_found","_law_heard","_law_frame"]
def wF(K:Fg):TS:=(cU (Ai (bq (D3 K) (iF (aR K "Walk") "answer" (cS K) [] E0 (ah 0) aK) (ah 3)) (Aj (iV JG (af (iF (aR K "Walk") "answer" (cS K) [] E0 (ah 0) aK) (af (tC (.ty "bool")) aK))))))
def wG(K:Fg):TS:=(bo (fV (C1 K "list" iA (ah 5) (af (tC (.int 7)) aK))) (wF K))
def wH(K:Fg):TS:=(bo (fV (Cd K "list" BW (ah 4))) (wG K))
def wI(K:Fg):TS:=(fV (yA (bq (cQ K) (ah 6) (tC (.int 2)))))
def wJ(K:Fg):TS:=(bo (df (JM (sE (tB (iV (zN K) (af (ah 6) (af (tC (.ty "tuple")) aK))))) (JM (sE (tB (bL (jq K) [] E0 (af (Ec (D4 K) (ah 6) iD (mG (tC (.int 2)))) aK)))) (sE (tB (bL (jq K) [] E0 (af (rF (bq (cQ K) (ah 6) (tC (.int 2)))) aK)))))) (cU (tC (.bl false))) cG) (wI K))
def wK(K:Fg):TS:=(bo (qN (oh K (ah 4)) (aT 6) (wJ K)) (wH K))
def wL(K:Fg):TS:=(bo (df (JM (sE (tB (iV (zN K) (af (ah 4) (af (tC (.ty "list")) aK))))) (JM (bX (bq (JJ K) (ah 4) (ah 1))) (JM (sE (tB (iV (zN K) (af (ah 5) (af (tC (.ty "list")) aK))))) (bX (bq (La K) (ah 5) (ah 2)))))) (cU (tC (.bl false))) cG) (wK K))
def wM(K:Fg):TS:=(bo (bO (iF (aR K "Walk") "said" (dM K) [] E0 (ah 0) aK) (aT 5)) (wL K))
def C3(K:Fg):TS:=(bo (bO (iF (aR K "Walk") "frames" (eP K) [] E0 (ah 0) aK) (aT 4)) (wM K))
theorem zY:bM xi lj (ag kQ):=⟨rfl,rfl,rfl,by decide +kernel,rfl,by decide +kernel,by decide +kernel⟩
abbrev fB:Stmt:=mH 34
abbrev gh:List Str:=["_law_program_here","_law_k","_law_args_here","_law_budget","_law_told_by"]
abbrev nU:List Str:=["_law_program_here","_law_k","_law_args_here","_law_budget","_law_told_by","_law_steps","_law_words","_law_end","_law_due"]
def md(K:Fg):TS:=(cU (bq (D3 K) (bL (fE K) [] E0 (af (ah 0) (af (ah 1) (af (iV (oW K) (af (ah 2) aK)) (af (ah 3) aK))))) (ah 8)))
def pG(K:Fg):TS:=(bo (bO (gR (af (bq (cQ K) (iQ (af (tC (.str "spent")) (af (tC (.str "given")) aK))) (iV (we) (af (bq (Mj) (ah 7) (tC .non)) aK))) (af (ah 6) (af (ah 7) (af (ah 5) aK))))) (aT 8)) (md K))
def pI(K:Fg):TS:=(bo (bO (bq (cQ K) (ah 4) (ah 5)) (xM K 2 (iM (aT 6) (iM (aT 7) u6)))) (pG K))
def so(K:Fg):TS:=(bo (bO (iV (JI) (af (ah 3) (af (bq (rN) (iV (ly K) (af (ah 4) aK)) (tC (.int 1))) aK))) (aT 5)) (pI K))
theorem qJ:bM nU gh (ag fB):=⟨rfl,rfl,rfl,by decide +kernel,rfl,by decide +kernel,by decide +kernel⟩
abbrev nF:Stmt:=mH 35
abbrev tm:List Str:=["_law_script"]
abbrev ED:List Str:=["_law_script","_law_state","_law_program_here","_law_k","_law_args_here","_law_handed","_law_walk","_law_other","_law_others","_law_beside","_law_frames","_law_words","_law_end","_law_told_by","_law_turn","_law_number","_law_budget"]
def Jp(K:Fg):TS:=(cU (bq (D3 K) (bL (fE K) [.int 400] E0 (af (ah 2) (af (ah 3) (af (ah 4) aK)))) (bL (fE K) [] E0 (af (ah 2) (af (ah 3) (af (ah 4) (af (tC (.int 400)) aK)))))))
def C4(K:Fg):TS:=(df (sE (tB (bL (gC K) [] E0 (af (ah 2) (af (ah 3) (af (ah 4) (af (ah 16) (af (ah 13) aK)))))))) (cU (tC (.bl false))) cG)
def C5(K:Fg):TS:=(bo (qN (oh K (gR (af (bL (bK K) [] E0 (af (ah 1) (af (tC (.int 61)) aK))) (af (tC (.int 0)) (af (tC (.int 60)) aK))))) (aT 16) (C4 K)) (Jp K))
def C6(K:Fg):TS:=(bo (df (sE (tB (bL (jJ K) [] E0 (af (ah 9) (af (iQ (af (bL (fS K) [] E0 (af (ah 2) (af (ah 7) (af (ah 8) aK)))) aK)) (af (iQ aK) (af (tC .non) aK))))))) (cU (tC (.bl false))) cG) (C5 K))
def C7(K:Fg):TS:=(bo (df (sE (tB (bL (jJ K) [] E0 (af (ah 6) (af (ah 10) (af (ah 11) (af (ah 12) aK))))))) (cU (tC (.bl false))) cG) (C6 K))
def C8(K:Fg):TS:=(fV (C1 K "list" iA (ah 13) (af (gR (af (iV (oW K) (af (ah 11) aK)) (af (ah 12) aK))) aK)))
def Jq(K:Fg):TS:=(bO (ah 15) (aT 12))
def Jr(K:Fg):TS:=(df (bX (bq (MQ) (ah 12) (tC .non))) (bo (qN (oh K (bL (nj K) [] E0 (af (ah 2) (af (ah 10) (af (ah 11) aK))))) (aT 15) (Jq K)) (C8 K)) cG)
def C9(K:Fg):TS:=(bo (fV (iF (aR K "Walk") "step" (dI K) [] E0 (ah 6) aK)) (Jr K))
def uJ(K:Fg):TS:=(bo (df (sE (tB (bL (jJ K) [] E0 (af (ah 6) (af (ah 10) (af (ah 11) (af (ah 12) aK))))))) (cU (tC (.bl false))) cG) (C9 K))
def Ao(K:Fg):TS:=(bo (qN (rK (af (tC (.int 60)) aK)) (aT 14) (uJ K)) (C7 K))
def Ap(K:Fg):TS:=(bo (bO (iQ (af (gR (af (iQ aK) (af (tC .non) aK))) aK)) (aT 13)) (Ao K))
def GD(K:Fg):TS:=(bo (bO (tC .non) (aT 12)) (Ap K))
def Aq(K:Fg):TS:=(bo (bO (iQ aK) (aT 11)) (GD K))
def Ar(K:Fg):TS:=(bo (bO (iQ (af (bL (fS K) [] E0 (af (ah 2) (af (ah 3) (af (ah 4) aK)))) aK)) (aT 10)) (Aq K))
def As(K:Fg):TS:=(bo (bO (wD (aR K "Walk") (dq K) [] E0 (af (ah 2) (af (ah 7) (af (ah 8) aK)))) (aT 9)) (Ar K))
def Au(K:Fg):TS:=(bo (bO (bL (lS K) [] E0 (af (ah 1) (af (ah 2) (af (ah 7) aK)))) (aT 8)) (As K))
def Av(K:Fg):TS:=(bo (bO (bL (bK K) [] E0 (af (ah 1) (af (iV (ly K) (af (ah 2) aK)) aK))) (aT 7)) (Au K))
def Aw(K:Fg):TS:=(bo (fV (Cd K "list" BW (ah 5))) (Av K))
def Ax(K:Fg):TS:=(bo (bO (wD (aR K "Walk") (dq K) [] E0 (af (ah 2) (af (ah 3) (af (ah 5) aK)))) (aT 6)) (Aw K))
def Ay(K:Fg):TS:=(bo (bO (iV (oW K) (af (ah 4) aK)) (aT 5)) (Ax K))
def Az(K:Fg):TS:=(bo (bO (bL (lS K) [] E0 (af (ah 1) (af (ah 2) (af (ah 3) aK)))) (aT 4)) (Ay K))
def AA(K:Fg):TS:=(bo (bO (bL (bK K) [] E0 (af (ah 1) (af (iV (ly K) (af (ah 2) aK)) aK))) (aT 3)) (Az K))
def AB(K:Fg):TS:=(bo (bO (bL (jh K) [] E0 (af (ah 1) (af (bq (cQ K) (iQ (af (tC (.int 12)) (af (tC (.int 24)) aK))) (bq (kq) (bq (ym) (iV (Mo K) (af (Ec (D4 K) (ah 0) iD (mG (tC (.int 1)))) aK)) (tC (.int 2))) (tC (.int 2)))) aK))) (aT 2)) (AA K))
def JN(K:Fg):TS:=(bo (bO (iQ (af (ah 0) (af (tC (.int 0)) (af (tC (.int 0)) aK)))) (aT 1)) (AB K))
theorem Gq:bM ED tm (ag nF):=⟨rfl,rfl,rfl,by decide +kernel,rfl,by decide +kernel,by decide +kernel⟩
section
variable{P:Program}{w:World}{K:Fg}{mg:Str->Option Value}{base:Heap}{f:Addr}{cdv:Value}{A:Around}{outer:List Env}{s:Shared}{H:Hp}{E:XK}
theorem xF(B:fW mg)
  (hr:cD xR (A.deeper (envOfC "Frame.__init__" (ag ef) s.heap.objs.size f cdv))):jV (eO eT P w K mg base mM "Frame.__init__" (ag ef) f cdv A outer s H E).nox (aL ef) (qO K):=by
 have nd:=pf.nd
 have hu:=hr.units0
 have hu1:=de hr
 refine kU.up ?_
 exact(ao (m8 (qv 0) (qv 1) rfl) (ao (m8 (qv 0) (qv 2) rfl) (aB (m8 (qv 0) (qv 3) rfl))))
theorem ER(B:fW mg)
  (hr:cD Fk (A.deeper (envOfC "goal" (ag jG) s.heap.objs.size f cdv))):jV (eO eT P w K mg base sY "goal" (ag jG) f cdv A outer s H E).nox (aL jG) (AE K):=by
 have nd:=wx.nd
 have hu:=hr.units0
 have hu1:=de hr
 refine kU.up ?_
 exact(ao (cv (bh (cq hu) (aQ aG (qv 0) ax (λ_ _=>rfl)) bg rfl) (aB (bA (aQ aG (qv 0) ax (λ_ _=>rfl)))) bD) (ao (cv (bh (cq hu) (aQ aG (qv 0) ax (λ_ _=>rfl)) bg rfl) (aB (bA (aQ aG (qv 0) ax (λ_ _=>rfl)))) bD) (aB (bA oq))))
theorem Bp(B:fW mg)(c_p_goal:aM P w K mg base "goal" ix mr (gL K))
  (hr:cD Bz (A.deeper (envOfC "stands" (ag gv) s.heap.objs.size f cdv))):jV (eO eT P w K mg base pQ "stands" (ag gv) f cdv A outer s H E).nox (aL gv) (uQ K):=by
 have nd:=rR.nd
 have hu:=hr.units0
 have hu1:=de hr
 refine kU.up ?_
 exact(ao (bu (i:=2) nd rfl (Or.inl rfl) (qv 1)) (ao (qB PassesOwn.never (bh (cq hu) (aQ aG (aQ aG (qv 0) (qv 2) (λ_ _=>rfl)) ax (λ_ _=>rfl)) bg rfl) (aB (bu (i:=2) nd rfl (Or.inl rfl) (bV c_p_goal (hr.mono (by decide)) rfl (aa (aQ aG (qv 0) (qv 2) (λ_ _=>rfl)) av))))) (aB (bA (qv 2)))))
theorem xH(B:fW mg)(mk_Frame:mL P w K mg base "Frame" (aR K "Frame") fG kL (fI K))(c_p_stands:aM P w K mg base "stands" ff jQ (eF K))
  (hr:cD xT (A.deeper (envOfC "Walk.enter" (ag en) s.heap.objs.size f cdv))):jV (eO eT P w K mg base mO "Walk.enter" (ag en) f cdv A outer s H E).nox (aL en) (qR K):=by
 have nd:=pj.nd
 have hu:=hr.units0
 have hu1:=de hr
 refine kU.up ?_
 exact(ao (bu (i:=3) nd rfl (Or.inl rfl) (aQ aG (aQ aG (du (qv 0) rfl) (qv 1) (λ_ _=>rfl)) ax (λ_ _=>rfl))) (ao (bu (i:=4) nd rfl (Or.inl rfl) (bV c_p_stands (hr.mono (by decide)) rfl (aa (aQ aG (aQ aG (du (qv 0) rfl) (qv 1) (λ_ _=>rfl)) ax (λ_ _=>rfl)) (aa ax av)))) (aB (cZ (nC aY bE bF eY (du (qv 0) rfl) (aa (sR mk_Frame (hr.mono (by decide)) rfl (aa (qv 1) (aa (qv 4) (aa (uh rfl rfl B.dict_ B.zip_ rfl (aa (qv 3) (aa (qv 2) av))) av)))) av))))))
theorem yP(B:fW mg)
  (hr:cD zc (A.deeper (envOfC "Run.ended" (ag fi) s.heap.objs.size f cdv))):jV (eO eT P w K mg base nO "Run.ended" (ag fi) f cdv A outer s H E).nox (aL fi) (rT K):=by
 have nd:=qD.nd
 have hu:=hr.units0
 have hu1:=de hr
 refine kU.up ?_
 exact(aB (bA (jB (cq hu) (bN cW rfl B.len_ boot_len (aa (du (qv 0) rfl) av)) ax rfl)))
theorem xI(B:fW mg)(c_p_stands:aM P w K mg base "stands" ff jQ (eF K))
  (hr:cD xU (A.deeper (envOfC "Walk.go_on" (ag eA) s.heap.objs.size f cdv))):jV (eO eT P w K mg base mP "Walk.go_on" (ag eA) f cdv A outer s H E).nox (aL eA) (qS K):=by
 have nd:=pk.nd
 have hu:=hr.units0
 have hu1:=de hr
 refine kU.up ?_
 exact(aB (m8 (qv 1) (bV c_p_stands (hr.mono (by decide)) rfl (aa (aQ aG (aQ aG (du (qv 0) rfl) (du (qv 1) rfl) (λ_ _=>rfl)) ax (λ_ _=>rfl)) (aa (qv 2) av))) rfl))
theorem ES(B:fW mg)
  (hr:cD Fl (A.deeper (envOfC "sets" (ag jH) s.heap.objs.size f cdv))):jV (eO eT P w K mg base sZ "sets" (ag jH) f cdv A outer s H E).nox (aL jH) (AJ K):=by
 have nd:=wz.nd
 have hu:=hr.units0
 have hu1:=de hr
 refine kU.up ?_
 exact(ao (cv (bh mC (aQ aG (qv 0) ax (λ_ _=>rfl)) (cY (aa bg (aa bg (aa bg av)))) rfl) (aB (bA (aQ aG (qv 0) ax (λ_ _=>rfl)))) bD) (aB (bA oq)))
theorem xJ(B:fW mg)(cl_Walk:qc K (aR K "Walk"))(m_Walk_ended:cg P w K mg base (aR K "Walk") "ended" dk fY (cF K))(m_Walk_go_on:cg P w K mg base (aR K "Walk") "go_on" dE iu (di K))(c_p_sets:aM P w K mg base "sets" jT qh (j4 K))
  (hr:cD xV (A.deeper (envOfC "Walk.leave" (ag eB) s.heap.objs.size f cdv))):jV (eO eT P w K mg base mQ "Walk.leave" (ag eB) f cdv A outer s H E).nox (aL eB) (qT K):=by
 have nd:=pq.nd
 have hu:=hr.units0
 have hu1:=de hr
 refine kU.up ?_
 exact(ao (cZ (ug aY jL jM BM (du (qv 0) rfl))) (aB (cv (iL (gH cl_Walk m_Walk_ended (hr.mono (by decide)) (qv 0))) (aB (m8 (qv 0) (qv 1) rfl)) (ao (bu (i:=2) nd rfl (Or.inl rfl) (aQ aG (du (qv 0) rfl) (zM uW ax) (λ_ _=>rfl))) (ao (fR (qv 1) (jc (du (qv 2) rfl) (bV c_p_sets (hr.mono (by decide)) rfl (aa (aQ aG (aQ aG (aQ aG (du (qv 0) rfl) (du (qv 2) rfl) (λ_ _=>rfl)) ax (λ_ _=>rfl)) (du (qv 2) rfl) (λ_ _=>rfl)) av)) (mF hu1))) (aB (cZ (oS cl_Walk m_Walk_go_on (hr.mono (by decide)) (qv 0) (aa (qv 2) (aa (bH cz (du (qv 2) rfl) ax) av))))))))))
theorem u5(B:fW mg)
  (hr:cD vd (A.deeper (envOfC "unbounded" (ag dG) s.heap.objs.size f cdv))):jV (eO eT P w K mg base lV "unbounded" (ag dG) f cdv A outer s H E).nox (aL dG) (pF K):=by
 have nd:=ou.nd
 have hu:=hr.units0
 have hu1:=de hr
 refine kU.up ?_
 exact(ao (cv (bh (cq hu) (qv 0) bg rfl) (aB (bA (bH cz (qv 1) (qv 2)))) bD) (ao (cv (bh (cq hu) (qv 0) bg rfl) (aB (bA (bH pX (qv 1) (qv 2)))) bD) (aB (bA (bH fQ (qv 1) (qv 2))))))
theorem Dq(B:fW mg)(c_p_unbounded:aM P w K mg base "unbounded" eK j8 (eQ K))
  (hr:cD DE (A.deeper (envOfC "worth" (ag iC) s.heap.objs.size f cdv))):jV (eO eT P w K mg base q4 "worth" (ag iC) f cdv A outer s H E).nox (aL iC) (wV K):=by
 have nd:=uu.nd
 have hu:=hr.units0
 have hu1:=de hr
 refine kU.up ?_
 exact(ao (cv (bh (cq hu) (qv 0) bg rfl) (aB (bA (ui (bh om (qv 1) (qv 2) rfl) ax ax))) bD) (ao (cv (bh (cq hu) (qv 0) bg rfl) (aB (bA (ui (bh (cq hu) (qv 1) (qv 2) rfl) ax ax))) bD) (aB (bA (bH iK (bV c_p_unbounded (hr.mono (by decide)) rfl (aa (qv 0) (aa (qv 1) (aa (qv 2) av)))) (bH rA ax ax))))))
theorem yS(B:fW mg)(cl_Walk:qc K (aR K "Walk"))(m_Walk_go_on:cg P w K mg base (aR K "Walk") "go_on" dE iu (di K))(c_p_worth:aM P w K mg base "worth" i6 oJ (jg K))(c_p_goal:aM P w K mg base "goal" ix mr (gL K))
  (hr:cD zf (A.deeper (envOfC "Walk.work" (ag fq) s.heap.objs.size f cdv))):jV (eO eT P w K mg base nQ "Walk.work" (ag fq) f cdv A outer s H E).nox (aL fq) (rX K):=by
 have nd:=qG.nd
 have hu:=hr.units0
 have hu1:=de hr
 refine kU.up ?_
 exact(ao (bu (i:=4) nd rfl (Or.inl rfl) (bH cz (du (qv 1) rfl) ax)) (ao (cv (bh (cq hu) (aQ aG (qv 2) ax (λ_ _=>rfl)) bg rfl) (aB (fR (aQ aG (qv 2) ax (λ_ _=>rfl)) (jc (du (qv 1) rfl) (aQ aG (qv 2) ax (λ_ _=>rfl)) (mF hu1)))) (aB (cv (bh (cq hu) (aQ aG (qv 2) ax (λ_ _=>rfl)) bg rfl) (aB (fR (bV c_p_worth (hr.mono (by decide)) rfl (aa (aQ aG (qv 2) ax (λ_ _=>rfl)) (aa (aQ aG (qv 3) ax (λ_ _=>rfl)) (aa (aQ aG (qv 3) ax (λ_ _=>rfl)) av)))) (jc (du (qv 1) rfl) (aQ aG (qv 2) ax (λ_ _=>rfl)) (mF hu1)))) (aB (cv (bh (cq hu) (aQ aG (qv 2) ax (λ_ _=>rfl)) bg rfl) (aB (cZ (nC aY bE bF eY (du (qv 0) rfl) (aa (aQ aG (qv 3) ax (λ_ _=>rfl)) av)))) (aB (cv (QW.pt (pZ (bh (cq hu) (aQ aG (qv 2) ax (λ_ _=>rfl)) bg rfl) (oV (bh (yh hu) (aQ aG (qv 3) ax (λ_ _=>rfl)) ax rfl)))) (aB (bu (i:=4) nd rfl (Or.inl rfl) (bV c_p_goal (hr.mono (by decide)) rfl (aa (qv 2) av)))) bD))))))) (aB (cZ (oS cl_Walk m_Walk_go_on (hr.mono (by decide)) (qv 0) (aa (qv 1) (aa (qv 4) av)))))))
theorem Dp(B:fW mg)
  (hr:cD DD (A.deeper (envOfC "reads" (ag iB) s.heap.objs.size f cdv))):jV (eO eT P w K mg base qZ "reads" (ag iB) f cdv A outer s H E).nox (aL iB) (wU K):=by
 have nd:=ur.nd
 have hu:=hr.units0
 have hu1:=de hr
 refine kU.up ?_
 exact(ao (bu (i:=1) nd rfl (Or.inl rfl) (aQ aG (qv 0) ax (λ_ _=>rfl))) (ao (cv (bh (cq hu) (qv 1) bg rfl) (aB (bA (cY (aa (aQ aG (qv 0) ax (λ_ _=>rfl)) (aa (aQ aG (qv 0) ax (λ_ _=>rfl)) av))))) bD) (ao (cv (bh (cq hu) (qv 1) bg rfl) (aB (bA (cK gJ rfl B.tuple_ boot_tuple (aa (aQ aG (qv 0) ax (λ_ _=>rfl)) av)))) bD) (ao (cv (bh mC (qv 1) (cY (aa bg (aa bg (aa bg av)))) rfl) (aB (bA (cY (aa (aQ aG (qv 0) ax (λ_ _=>rfl)) av)))) bD) (aB (bA (cY av)))))))
theorem yR(B:fW mg)(cl_Walk:qc K (aR K "Walk"))(m_Walk_enter:cg P w K mg base (aR K "Walk") "enter" dD ir (dh K))(m_Walk_leave:cg P w K mg base (aR K "Walk") "leave" fH kM (fJ K))(m_Walk_work:cg P w K mg base (aR K "Walk") "work" gc lG (gy K))(m_Walk_ended:cg P w K mg base (aR K "Walk") "ended" dk fY (cF K))(c_p_reads:aM P w K mg base "reads" iZ oI (jf K))
  (hr:cD ze (A.deeper (envOfC "Walk.step" (ag eE) s.heap.objs.size f cdv))):jV (eO eT P w K mg base lN "Walk.step" (ag eE) f cdv A outer s H E).nox (aL eE) (rW K):=by
 have nd:=qF.nd
 have hu:=hr.units0
 have hu1:=de hr
 refine kU.up ?_
 exact(ao (cv (iL (gH cl_Walk m_Walk_ended (hr.mono (by decide)) (qv 0))) (aB IS) bD) (ao (bu (i:=1) nd rfl (Or.inr rfl) (aQ aG (du (qv 0) rfl) (zM uW ax) (λ_ _=>rfl))) (ao (bu (i:=2) nd rfl (Or.inl rfl) (aQ aG (aQ aG (aQ aG (du (qv 0) rfl) (du (qv 1) rfl) (λ_ _=>rfl)) ax (λ_ _=>rfl)) (du (qv 1) rfl) (λ_ _=>rfl))) (ao (oU (i:=3) (sc:=ag eE) (N:=lN) (NY:=["self","frame","row","taken","name"]) (js:=[]) (k:=1) ⟨rfl,by decide +kernel,by decide +kernel,by decide +kernel,rfl,by decide +kernel⟩ rfl rfl rfl rfl (jd (bV c_p_reads (hr.mono (by decide)) rfl (aa (qv 2) av))) (λ_ _ _ _ _=>(bS (i:=4) (show List.Nodup (["self","frame","row","taken","name"]:List Str) by decide +kernel) rfl (Or.inl rfl))) (λ_ _ _ _ _=>kg) (λ_ _ _ _ _=>(lQ hu1 (du (qv 1) rfl) (qv 4) (λ_ _=>rfl))) nd rfl (Or.inl rfl) rfl) (aB (cv (bh (cq hu) (aQ aG (qv 2) ax (λ_ _=>rfl)) bg rfl) (aB (cZ (oS cl_Walk m_Walk_enter (hr.mono (by decide)) (qv 0) (aa (aQ aG (qv 2) ax (λ_ _=>rfl)) (aa (qv 3) av))))) (aB (cv (bh (cq hu) (aQ aG (qv 2) ax (λ_ _=>rfl)) bg rfl) (aB (cZ (oS cl_Walk m_Walk_leave (hr.mono (by decide)) (qv 0) (aa (aQ aG (qv 3) ax (λ_ _=>rfl)) av)))) (aB (cZ (oS cl_Walk m_Walk_work (hr.mono (by decide)) (qv 0) (aa (qv 1) (aa (qv 2) (aa (qv 3) av))))))))))))))
theorem Bn(B:fW mg)
  (hr:cD Bx (A.deeper (envOfC "Run.__init__" (ag gq) s.heap.objs.size f cdv))):jV (eO eT P w K mg base pO "Run.__init__" (ag gq) f cdv A outer s H E).nox (aL gq) (uB K):=by
 have nd:=rP.nd
 have hu:=hr.units0
 have hu1:=de hr
 refine kU.up ?_
 exact(ao (m8 (qv 0) (dc av) rfl) (ao (m8 (qv 0) (dc av) rfl) (aB (m8 (qv 0) oq rfl))))
theorem yQ(B:fW mg)(cl_Walk:qc K (aR K "Walk"))(m_Walk_enter:cg P w K mg base (aR K "Walk") "enter" dD ir (dh K))(b_Run_init:sU P w K mg base "Run" (aR K "Run") "__init__" gY mJ (ic K))
  (hr:cD zd (A.deeper (envOfC "Walk.__init__" (ag fj) s.heap.objs.size f cdv))):jV (eO eT P w K mg base nP "Walk.__init__" (ag fj) f cdv A outer s H E).nox (aL fj) (rV K):=by
 have nd:=qE.nd
 have hu:=hr.units0
 have hu1:=de hr
 refine kU.up ?_
 exact(ao (cZ (IK b_Run_init (hr.mono (by decide)) rfl (aa (qv 0) av))) (ao (m8 (qv 0) (qv 1) rfl) (aB (cZ (oS cl_Walk m_Walk_enter (hr.mono (by decide)) (qv 0) (aa (qv 2) (aa (qv 3) av)))))))
theorem Bo(B:fW mg)
  (hr:cD By (A.deeper (envOfC "Run.said" (ag gr) s.heap.objs.size f cdv))):jV (eO eT P w K mg base pP "Run.said" (ag gr) f cdv A outer s H E).nox (aL gr) (uC K):=by
 have nd:=rQ.nd
 have hu:=hr.units0
 have hu1:=de hr
 refine kU.up ?_
 exact(aB (bA (cK iy rfl B.list_ boot_list (aa (du (qv 0) rfl) av))))
theorem xG(B:fW mg)
  (hr:cD xS (A.deeper (envOfC "Run.answer" (ag eh) s.heap.objs.size f cdv))):jV (eO eT P w K mg base mN "Run.answer" (ag eh) f cdv A outer s H E).nox (aL eh) (qP K):=by
 have nd:=ph.nd
 have hu:=hr.units0
 have hu1:=de hr
 refine kU.up ?_
 exact(aB (bA (du (qv 0) rfl)))
theorem yT(B:fW mg)(cl_Walk:qc K (aR K "Walk"))(m_Walk_said:cg P w K mg base (aR K "Walk") "said" fc jP (dM K))(m_Walk_answer:cg P w K mg base (aR K "Walk") "answer" dC iq (cS K))(m_Walk_ended:cg P w K mg base (aR K "Walk") "ended" dk fY (cF K))(m_Walk_step:cg P w K mg base (aR K "Walk") "step" dX jj (dI K))
  (hr:cD zg (A.deeper (envOfC "stepped" (ag fu) s.heap.objs.size f cdv))):jV (eO eT P w K mg base nR "stepped" (ag fu) f cdv A outer s H E).nox (aL fu) (rY K):=by
 have nd:=qH.nd
 have hu:=hr.units0
 have hu1:=de hr
 refine kU.up ?_
 exact(ao (bu (i:=2) nd rfl (Or.inl rfl) ax) (ao (qB PassesOwn.never (QW.pt (pZ (bh om (qv 2) (qv 1) rfl) (oV (lW (iL (gH cl_Walk m_Walk_ended (hr.mono (by decide)) (qv 0))))))) (ao (cZ (gH cl_Walk m_Walk_step (hr.mono (by decide)) (qv 0))) (aB (K8 (i:=2) nd rfl (Or.inl rfl) ax J1)))) (ao (bu (i:=3) nd rfl (Or.inl rfl) (ui (iL (gH cl_Walk m_Walk_ended (hr.mono (by decide)) (qv 0))) bg bg)) (aB (bA (cY (aa (qv 3) (aa (gH cl_Walk m_Walk_said (hr.mono (by decide)) (qv 0)) (aa (gH cl_Walk m_Walk_answer (hr.mono (by decide)) (qv 0)) (aa (qv 2) av))))))))))
theorem Hk(B:fW mg)(mk_Walk:mL P w K mg base "Walk" (aR K "Walk") dW ji (dq K))(c_p_stepped:aM P w K mg base "stepped" gf lI (gA K))
  (hr:cD HE (A.deeper (envOfC "run" (ag gu) s.heap.objs.size f cdv))):jV (eO eT P w K mg base xm "run" (ag gu) f cdv A outer s H E).nox (aL gu) (De K):=by
 have nd:=Aa.nd
 have hu:=hr.units0
 have hu1:=de hr
 refine kU.up ?_
 exact(aB (bA (bV c_p_stepped (hr.mono (by decide)) rfl (aa (sR mk_Walk (hr.mono (by decide)) rfl (aa (qv 0) (aa (qv 1) (aa (qv 2) av)))) (aa (qv 3) av)))))
theorem JT(B:fW mg)
  (hr:cD J7 (A.deeper (envOfC "_law_draw" (ag m9) s.heap.objs.size f cdv))):jV (eO eT P w K mg base Be "_law_draw" (ag m9) f cdv A outer s H E).nox (aL m9) (Gx K):=by
 have nd:=CW.nd
 have hu:=hr.units0
 have hu1:=de hr
 refine kU.up ?_
 exact(ao (fR (ib lA (qv 0) jC (jD ax)) (IM rfl (dm (bS (i:=2) nd rfl (Or.inl rfl)) (dm (bS (i:=3) nd rfl (Or.inl rfl)) lR)))) (ao (fR (bH cz (qv 3) ax) (jc (qv 0) ax jI)) (ao (cv (QW.pt (pZ (bh om (bH cz (bH sQ (qv 3) ax) ax) (bN cW rfl B.len_ boot_len (aa (qv 2) av)) rfl) (oV (bh (cq hu) (bH iK (aQ aG (qv 2) ax (λ_ _=>rfl)) ax) ax rfl)))) (ao (cv (bh (cq hu) (bH iK (qv 3) ax) ax rfl) (aB (fR (aQ aG (qv 2) (bH cz (bH sQ (qv 3) ax) ax) (λ_ _=>rfl)) (jc (qv 0) ax jI))) bD) (aB (cv (bh qx (aQ aG (qv 0) ax (λ_ _=>rfl)) (cY (aa ax (aa (zM uW ax) av))) rfl) (ao (fR (bN xB rfl B.divmod_ boot_divmod (aa (aQ aG (qv 0) ax (λ_ _=>rfl)) (aa (qv 1) av))) (pY rfl (dm (jc (qv 0) ax jI) (dm (bS (i:=4) nd rfl (Or.inl rfl)) lR)))) (aB (bA (qv 4)))) bD))) (aB (cv (bh om (qv 3) (bN cW rfl B.len_ boot_len (aa (qv 2) av)) rfl) (aB (bA (bH iK (aQ aG (qv 2) (qv 3) (λ_ _=>rfl)) (qv 1)))) bD))) (ao (bu (i:=5) nd rfl (Or.inl rfl) (bH cz (bH fQ (qv 3) ax) ax)) (ao (cv (bh JC (bN cW rfl B.len_ boot_len (aa (qv 2) av)) ax rfl) (aB (bu (i:=5) nd rfl (Or.inl rfl) (bH cz (qv 5) (bH fQ (aQ aG (qv 2) (bH iK (bH fQ (qv 3) ax) (bN cW rfl B.len_ boot_len (aa (qv 2) av))) (λ_ _=>rfl)) (bH cz ax (qv 3)))))) bD) (ao (bu (i:=5) nd rfl (Or.inl rfl) (bH iK (bH fQ (bH iK (qv 5) ax) (bH cz (qv 3) ax)) ax)) (ao (bu (i:=5) nd rfl (Or.inl rfl) (bH iK (bH fQ (qv 5) (qv 5)) ax)) (aB (bA (bH iK (bH iK (bH fQ (qv 5) (qv 5)) ax) (qv 1)))))))))))
theorem yV(B:fW mg)(c_p_run:aM P w K mg base "run" fN kN (fE K))
  (hr:cD zi (A.deeper (envOfC "_law_run_alike" (ag fB) s.heap.objs.size f cdv))):jV (eO eT P w K mg base nU "_law_run_alike" (ag fB) f cdv A outer s H E).nox (aL fB) (so K):=by
 have nd:=qJ.nd
 have hu:=hr.units0
 have hu1:=de hr
 have hu5:=xP hr
 refine kU.up ?_
 exact(ao (bu (i:=5) nd rfl (Or.inl rfl) (bN (vX rfl) rfl B.min_ boot_min (aa (qv 3) (aa (bH pX (bN cW rfl B.len_ boot_len (aa (qv 4) av)) ax) av)))) (ao (fR (aQ aG (qv 4) (qv 5) (λ_ _=>rfl)) (pY rfl (dm (bS (i:=6) nd rfl (Or.inl rfl)) (dm (bS (i:=7) nd rfl (Or.inl rfl)) lR)))) (ao (bu (i:=8) nd rfl (Or.inl rfl) (cY (aa (aQ aG (dc (aa bg (aa bg av))) (cK kW rfl B.int_ boot_int (aa (jB Ic (qv 7) oq rfl) av)) (λ_ _=>rfl)) (aa (qv 6) (aa (qv 7) (aa (qv 5) av)))))) (aB (bA (jB (yg hu5) (bV c_p_run (hr.mono (by decide)) rfl (aa (qv 0) (aa (qv 1) (aa (cK iy rfl B.list_ boot_list (aa (qv 2) av)) (aa (qv 3) av))))) (qv 8) rfl))))))
theorem Hm(B:fW mg)
  (hr:cD HG (A.deeper (envOfC "_law_stand" (ag kS) s.heap.objs.size f cdv))):jV (eO eT P w K mg base xq "_law_stand" (ag kS) f cdv A outer s H E).nox (aL kS) (Df K):=by
 have nd:=Ab.nd
 have hu:=hr.units0
 have hu1:=de hr
 refine kU.up ?_
 exact(ao (qB PassesOwn.never (bh (cq hu) (aQ aG (aQ aG (qv 0) (qv 1) (λ_ _=>rfl)) ax (λ_ _=>rfl)) bg rfl) (aB (bu (i:=1) nd rfl (Or.inl rfl) (aQ aG (aQ aG (qv 0) (qv 1) (λ_ _=>rfl)) ax (λ_ _=>rfl))))) (aB (bA (qv 1))))
theorem EO(B:fW mg)(c_stand:aM P w K mg base "_law_stand" g8 lM (fU K))
  (hr:cD Fj (A.deeper (envOfC "_law_opened" (ag jF) s.heap.objs.size f cdv))):jV (eO eT P w K mg base sX "_law_opened" (ag jF) f cdv A outer s H E).nox (aL jF) (AD K):=by
 have nd:=wu.nd
 have hu:=hr.units0
 have hu1:=de hr
 refine kU.up ?_
 exact(ao (fR (aQ aG (qv 0) (qv 1) (λ_ _=>rfl)) (pY rfl (dm (bS (i:=3) nd rfl (Or.inl rfl)) (dm (bS (i:=4) nd rfl (Or.inl rfl)) (dm (bS (i:=5) nd rfl (Or.inl rfl)) lR))))) (aB (bA (cY (aa (qv 1) (aa (bV c_stand (hr.mono (by decide)) rfl (aa (qv 5) (aa ax av))) (aa (uh rfl rfl B.dict_ B.zip_ rfl (aa (qv 4) (aa (qv 2) av))) av)))))))
theorem u4(B:fW mg)
  (hr:cD vc (A.deeper (envOfC "Walk.frames" (ag dg) s.heap.objs.size f cdv))):jV (eO eT P w K mg base j9 "Walk.frames" (ag dg) f cdv A outer s H E).nox (aL dg) (pw K):=by
 have nd:=ot.nd
 have hu:=hr.units0
 have hu1:=de hr
 refine kU.up ?_
 exact(aB (bA (qA (sc:=ag dg) (N:=j9) (NY:=["self","frame"]) (js:=[]) (k:=1) ⟨rfl,by decide +kernel,by decide +kernel,by decide +kernel,rfl,by decide +kernel⟩ rfl rfl rfl rfl (jd (du (qv 0) rfl)) (λ_ _ _ _ _=>(bS (i:=1) (show List.Nodup (["self","frame"]:List Str) by decide +kernel) rfl (Or.inl rfl))) (λ_ _ _ _ _=>kg) (λ_ _ _ _ _=>(cY (aa (du (qv 1) rfl) (aa (du (qv 1) rfl) (aa (cK pU rfl B.dict_ boot_dict (aa (du (qv 1) rfl) av)) av))))))))
theorem ET(B:fW mg)
  (hr:cD Fm (A.deeper (envOfC "_law_worths" (ag iO) s.heap.objs.size f cdv))):jV (eO eT P w K mg base qk "_law_worths" (ag iO) f cdv A outer s H E).nox (aL iO) (A8 K):=by
 have nd:=wA.nd
 have hu:=hr.units0
 have hu1:=de hr
 refine kU.up ?_
 exact(aB (bA (bN (yL rfl) rfl B.all_ boot_all (aa (qA (sc:=ag iO) (N:=qk) (NY:=["_law_some","_law_one"]) (js:=[]) (k:=1) ⟨rfl,by decide +kernel,by decide +kernel,by decide +kernel,rfl,by decide +kernel⟩ rfl rfl rfl rfl (jd (qv 0)) (λ_ _ _ _ _=>(bS (i:=1) (show List.Nodup (["_law_some","_law_one"]:List Str) by decide +kernel) rfl (Or.inl rfl))) (λ_ _ _ _ _=>kg) (λ_ _ _ _ _=>(FW (bN mv rfl B.isinstance_ boot_isinstance (aa (qv 1) (aa (m7 rfl B.int_ boot_int (v:=.ty "int") rfl) av))) (FY (FX (bN mv rfl B.isinstance_ boot_isinstance (aa (qv 1) (aa (m7 rfl B.bool_ boot_bool (v:=.ty "bool") rfl) av)))))))) av))))
theorem Hg(B:fW mg)(cl_Walk:qc K (aR K "Walk"))(m_Walk_answer:cg P w K mg base (aR K "Walk") "answer" dC iq (cS K))(m_Walk_said:cg P w K mg base (aR K "Walk") "said" fc jP (dM K))(m_Walk_frames:cg P w K mg base (aR K "Walk") "frames" eJ j7 (eP K))(c_worths:aM P w K mg base "_law_worths" jU qi (jq K))
  (hr:cD HB (A.deeper (envOfC "_law_alike" (ag kQ) s.heap.objs.size f cdv))):jV (eO eT P w K mg base xi "_law_alike" (ag kQ) f cdv A outer s H E).nox (aL kQ) (C3 K):=by
 have nd:=zY.nd
 have hu:=hr.units0
 have hu1:=de hr
 have hu9:=JY hr
 have hu5:=xP hr
 refine kU.up ?_
 exact(ao (bu (i:=4) nd rfl (Or.inl rfl) (gH cl_Walk m_Walk_frames (hr.mono (by decide)) (qv 0))) (ao (bu (i:=5) nd rfl (Or.inl rfl) (gH cl_Walk m_Walk_said (hr.mono (by decide)) (qv 0))) (ao (cv (QW.pt (wc (lW (iL (bN mv rfl B.isinstance_ boot_isinstance (aa (qv 4) (aa (m7 rfl B.list_ boot_list (v:=.ty "list") rfl) av))))) (wc (bh (Ib hu9) (qv 4) (qv 1) rfl) (wc (lW (iL (bN mv rfl B.isinstance_ boot_isinstance (aa (qv 5) (aa (m7 rfl B.list_ boot_list (v:=.ty "list") rfl) av))))) (BV (bh (Ks hu5) (qv 5) (qv 2) rfl)))))) (aB (bA qz)) bD) (ao (kC PassesOwn.never rfl (jd (qv 4)) (bS (i:=6) nd rfl (Or.inl rfl)) (ao (cv (QW.pt (wc (lW (iL (bN mv rfl B.isinstance_ boot_isinstance (aa (qv 6) (aa (m7 rfl B.tuple_ boot_tuple (v:=.ty "tuple") rfl) av))))) (wc (lW (iL (bV c_worths (hr.mono (by decide)) rfl (aa (ib lA (qv 6) jC (jD ax)) av)))) (BV (lW (iL (bV c_worths (hr.mono (by decide)) rfl (aa (zL rfl B.list_ rfl (aQ aG (qv 6) ax (λ_ _=>rfl)) ⟨rfl,rfl⟩) av)))))))) (aB (bA qz)) bD) (aB (cZ (D2 (aQ aG (qv 6) ax (λ_ _=>rfl)) ⟨rfl,rfl⟩))))) (ao (cZ (ug aY PySem.F.slot_list_clear PySem.F.type_list_clear zu (qv 4))) (ao (cZ (nC aY bE bF eY (qv 5) (aa ax av))) (aB (bA (FW (jB (yg hu5) (gH cl_Walk m_Walk_answer (hr.mono (by decide)) (qv 0)) (qv 3) rfl) (FY (FX (bN Dm rfl B.isinstance_ boot_isinstance (aa (gH cl_Walk m_Walk_answer (hr.mono (by decide)) (qv 0)) (aa (m7 rfl B.bool_ boot_bool (v:=.ty "bool") rfl) av))))))))))))))
theorem Bq(B:fW mg)
  (hr:cD BA (A.deeper (envOfC "_law_reckoned" (ag gw) s.heap.objs.size f cdv))):jV (eO eT P w K mg base pR "_law_reckoned" (ag gw) f cdv A outer s H E).nox (aL gw) (uR K):=by
 have nd:=rS.nd
 have hu:=hr.units0
 have hu1:=de hr
 refine kU.up ?_
 exact(ao (cv (bh (cq hu) (qv 0) bg rfl) (aB (bA (cK kW rfl B.int_ boot_int (aa (jB om (qv 1) (qv 2) rfl) av)))) bD) (ao (cv (bh (cq hu) (qv 0) bg rfl) (aB (bA (cK kW rfl B.int_ boot_int (aa (jB (cq hu) (qv 1) (qv 2) rfl) av)))) bD) (aB (bA (bH iK (lQ hu1 (IL (uj bg (bH cz (qv 1) (qv 2)) (uj bg (bH pX (qv 1) (qv 2)) (uj bg (bH fQ (qv 1) (qv 2)) IR))) rfl rfl (by simp) (by decide)) (qv 0) (λ_ _=>rfl)) (bH rA ax ax))))))
theorem JV(B:fW mg)(c_stand:aM P w K mg base "_law_stand" g8 lM (fU K))
  (hr:cD J9 (A.deeper (envOfC "_law_shut" (ag ng) s.heap.objs.size f cdv))):jV (eO eT P w K mg base Bf "_law_shut" (ag ng) f cdv A outer s H E).nox (aL ng) (GF K):=by
 have nd:=CZ.nd
 have hu:=hr.units0
 have hu1:=de hr
 have hu5:=xP hr
 refine kU.up ?_
 exact(ao (cZ (ug aY jL jM BM (qv 1))) (ao (cv (bh (yg hu5) (qv 1) (dc av) rfl) (aB (bA (dc (aa (qv 2) av)))) bD) (ao (fR (ug aY jL jM BM (qv 1)) (pY rfl (dm (bS (i:=3) nd rfl (Or.inl rfl)) (dm (bS (i:=4) nd rfl (Or.inl rfl)) (dm (bS (i:=5) nd rfl (Or.inl rfl)) lR))))) (ao (bu (i:=6) nd rfl (Or.inl rfl) (aQ aG (aQ aG (qv 0) (qv 3) (λ_ _=>rfl)) ax (λ_ _=>rfl))) (ao (bu (i:=5) nd rfl (Or.inl rfl) (cK pU rfl B.dict_ boot_dict (aa (qv 5) av))) (ao (fR (qv 2) (jc (qv 5) (aQ aG (aQ aG (qv 6) (qv 4) (λ_ _=>rfl)) ax (λ_ _=>rfl)) (mF hu1))) (ao (cZ (nC aY bE bF eY (qv 1) (aa (cY (aa (qv 3) (aa (bV c_stand (hr.mono (by decide)) rfl (aa (qv 6) (aa (bH cz (qv 4) ax) av))) (aa (qv 5) av)))) av))) (aB (bA (dc av))))))))))
theorem JW(B:fW mg)(c_stand:aM P w K mg base "_law_stand" g8 lM (fU K))(c_reckoned:aM P w K mg base "_law_reckoned" gZ mK (ie K))(c_opened:aM P w K mg base "_law_opened" iw mq (fS K))(c_shut:aM P w K mg base "_law_shut" mT xf (ni K))
  (hr:cD Ka (A.deeper (envOfC "_law_step" (ag lZ) s.heap.objs.size f cdv))):jV (eO eT P w K mg base xr "_law_step" (ag lZ) f cdv A outer s H E).nox (aL lZ) (GG K):=by
 have nd:=C0.nd
 have hu:=hr.units0
 have hu1:=de hr
 refine kU.up ?_
 exact(ao (fR (aQ aG (qv 1) (zM uW ax) (λ_ _=>rfl)) (pY rfl (dm (bS (i:=3) nd rfl (Or.inl rfl)) (dm (bS (i:=4) nd rfl (Or.inl rfl)) (dm (bS (i:=5) nd rfl (Or.inr rfl)) lR))))) (ao (bu (i:=6) nd rfl (Or.inl rfl) (aQ aG (aQ aG (qv 0) (qv 3) (λ_ _=>rfl)) ax (λ_ _=>rfl))) (ao (bu (i:=7) nd rfl (Or.inl rfl) (aQ aG (qv 6) (qv 4) (λ_ _=>rfl))) (ao (bu (i:=8) nd rfl (Or.inl rfl) (bH cz (qv 4) ax)) (ao (cv (bh (cq hu) (aQ aG (qv 7) ax (λ_ _=>rfl)) bg rfl) (aB (bA (bV c_shut (hr.mono (by decide)) rfl (aa (qv 0) (aa (qv 1) (aa (lQ hu1 (qv 5) (aQ aG (qv 7) ax (λ_ _=>rfl)) (λ_ _=>rfl)) av)))))) bD) (ao (cv (bh (cq hu) (aQ aG (qv 7) ax (λ_ _=>rfl)) bg rfl) (ao (cZ (nC aY bE bF eY (qv 1) (aa (bV c_opened (hr.mono (by decide)) rfl (aa (qv 0) (aa (aQ aG (qv 7) ax (λ_ _=>rfl)) (aa (qA (sc:=ag lZ) (N:=xr) (NY:=["_law_program_here","_law_frames","_law_words","_law_part_here","_law_n","_law_names_here","_law_rows","_law_row","_law_to","_law_name"]) (js:=[]) (k:=1) ⟨rfl,by decide +kernel,by decide +kernel,by decide +kernel,rfl,by decide +kernel⟩ rfl rfl rfl rfl (jd (aQ aG (qv 7) ax (λ_ _=>rfl))) (λ_ _ _ _ _=>(bS (i:=9) (show List.Nodup (["_law_program_here","_law_frames","_law_words","_law_part_here","_law_n","_law_names_here","_law_rows","_law_row","_law_to","_law_name"]:List Str) by decide +kernel) rfl (Or.inl rfl))) (λ_ _ _ _ _=>kg) (λ_ _ _ _ _=>(lQ hu1 (qv 5) (qv 9) (λ_ _=>rfl)))) av)))) av))) (aB (bA (dc av)))) bD) (ao (bu (i:=5) nd rfl (Or.inr rfl) (cK pU rfl B.dict_ boot_dict (aa (qv 5) av))) (ao (cv (bh (cq hu) (aQ aG (qv 7) ax (λ_ _=>rfl)) bg rfl) (aB (fR (aQ aG (qv 7) ax (λ_ _=>rfl)) (jc (qv 5) (aQ aG (qv 7) ax (λ_ _=>rfl)) (mF hu1)))) bD) (ao (cv (bh (cq hu) (aQ aG (qv 7) ax (λ_ _=>rfl)) bg rfl) (aB (fR (bV c_reckoned (hr.mono (by decide)) rfl (aa (aQ aG (qv 7) ax (λ_ _=>rfl)) (aa (lQ hu1 (qv 5) (aQ aG (qv 7) ax (λ_ _=>rfl)) (λ_ _=>rfl)) (aa (lQ hu1 (qv 5) (aQ aG (qv 7) ax (λ_ _=>rfl)) (λ_ _=>rfl)) av)))) (jc (qv 5) (aQ aG (qv 7) ax (λ_ _=>rfl)) (mF hu1)))) bD) (ao (cv (bh (cq hu) (aQ aG (qv 7) ax (λ_ _=>rfl)) bg rfl) (aB (cZ (nC aY bE bF eY (qv 2) (aa (lQ hu1 (qv 5) (aQ aG (qv 7) ax (λ_ _=>rfl)) (λ_ _=>rfl)) av)))) bD) (ao (cv (QW.pt (pZ (bh (cq hu) (aQ aG (qv 7) ax (λ_ _=>rfl)) bg rfl) (oV (bh (yh hu) (lQ hu1 (qv 5) (aQ aG (qv 7) ax (λ_ _=>rfl)) (λ_ _=>rfl)) ax rfl)))) (aB (bu (i:=8) nd rfl (Or.inl rfl) (aQ aG (qv 7) ax (λ_ _=>rfl)))) bD) (ao (fR (cY (aa (qv 3) (aa (bV c_stand (hr.mono (by decide)) rfl (aa (qv 6) (aa (qv 8) av))) (aa (qv 5) av)))) (jc (qv 1) (zM uW ax) jI)) (aB (bA (dc av)))))))))))))))
theorem Hn(B:fW mg)(c_draw:aM P w K mg base "_law_draw" dY iH (bK K))
  (hr:cD HH (A.deeper (envOfC "_law_worth" (ag kT) s.heap.objs.size f cdv))):jV (eO eT P w K mg base xt "_law_worth" (ag kT) f cdv A outer s H E).nox (aL kT) (Dg K):=by
 have nd:=Ac.nd
 have hu:=hr.units0
 have hu1:=de hr
 refine kU.up ?_
 exact(ao (cv (bh (cq hu) (bV c_draw (hr.mono (by decide)) rfl (aa (qv 0) (aa ax av))) ax rfl) (aB (bA (bH cz (bH fQ (bV c_draw (hr.mono (by decide)) rfl (aa (qv 0) (aa (bH rA ax ax) av))) (bH rA ax ax)) (bV c_draw (hr.mono (by decide)) rfl (aa (qv 0) (aa (bH rA ax ax) av)))))) bD) (aB (bA (aQ aG (dc (aa ax (aa ax (aa (bH pX (bH pX (bH rA ax ax) ax) (bV c_draw (hr.mono (by decide)) rfl (aa (qv 0) (aa ax av)))) (aa (bV c_draw (hr.mono (by decide)) rfl (aa (qv 0) (aa ax av))) av))))) (bV c_draw (hr.mono (by decide)) rfl (aa (qv 0) (aa ax av))) (λ_ _=>rfl)))))
theorem JS(B:fW mg)(c_worth:aM P w K mg base "_law_worth" jy oM (iP K))
  (hr:cD J6 (A.deeper (envOfC "_law_args" (ag lX) s.heap.objs.size f cdv))):jV (eO eT P w K mg base xj "_law_args" (ag lX) f cdv A outer s H E).nox (aL lX) (Gw K):=by
 have nd:=CV.nd
 have hu:=hr.units0
 have hu1:=de hr
 refine kU.up ?_
 exact(aB (bA (qA (sc:=ag lX) (N:=xj) (NY:=["_law_state","_law_program_here","_law_k","_law_name"]) (js:=[]) (k:=1) ⟨rfl,by decide +kernel,by decide +kernel,by decide +kernel,rfl,by decide +kernel⟩ rfl rfl rfl rfl (jd (aQ aG (aQ aG (qv 1) (qv 2) (λ_ _=>rfl)) ax (λ_ _=>rfl))) (λ_ _ _ _ _=>(bS (i:=3) (show List.Nodup (["_law_state","_law_program_here","_law_k","_law_name"]:List Str) by decide +kernel) rfl (Or.inl rfl))) (λ_ _ _ _ _=>kg) (λ_ _ _ _ _=>(bV c_worth (hr.mono (by decide)) rfl (aa (qv 0) av))))))
theorem EM(B:fW mg)(c_draw:aM P w K mg base "_law_draw" dY iH (bK K))
  (hr:cD Fh (A.deeper (envOfC "_law_filled" (ag iN) s.heap.objs.size f cdv))):jV (eO eT P w K mg base qj "_law_filled" (ag iN) f cdv A outer s H E).nox (aL iN) (An K):=by
 have nd:=wq.nd
 have hu:=hr.units0
 have hu1:=de hr
 refine kU.up ?_
 exact(ao (bu (i:=3) nd rfl (Or.inl rfl) (dc av)) (ao (kC PassesOwn.never rfl (IP rfl B.enumerate_ (aa (qv 1) av)) (pY rfl (dm (bS (i:=4) nd rfl (Or.inr rfl)) (dm (bS (i:=5) nd rfl (Or.inl rfl)) lR))) (ao (bu (i:=6) nd rfl (Or.inl rfl) (dc av)) (ao (kC PassesOwn.never rfl (jd (ib lA (qv 5) (jD ax) jC)) (bS (i:=7) nd rfl (Or.inl rfl)) (ao (cv (bh (cq hu) (qv 7) bg rfl) (aB (bu (i:=7) nd rfl (Or.inl rfl) (aQ aG (aQ aG (qv 2) (qv 4) (λ_ _=>rfl)) (bV c_draw (hr.mono (by decide)) rfl (aa (qv 0) (aa (bN cW rfl B.len_ boot_len (aa (aQ aG (qv 2) (qv 4) (λ_ _=>rfl)) av)) av))) (λ_ _=>rfl)))) (aB (cv (iL (bN mv rfl B.isinstance_ boot_isinstance (aa (qv 7) (aa (m7 rfl B.tuple_ boot_tuple (v:=.ty "tuple") rfl) av)))) (aB (bu (i:=7) nd rfl (Or.inl rfl) (cK gJ rfl B.tuple_ boot_tuple (aa (qA (sc:=ag iN) (N:=qj) (NY:=["_law_state","_law_rows","_law_known","_law_found","_law_n","_law_row","_law_some","_law_thing","_law_one"]) (js:=[]) (k:=1) ⟨rfl,by decide +kernel,by decide +kernel,by decide +kernel,rfl,by decide +kernel⟩ rfl rfl rfl rfl (jd (qv 7)) (λ_ _ _ _ _=>(bS (i:=8) (show List.Nodup (["_law_state","_law_rows","_law_known","_law_found","_law_n","_law_row","_law_some","_law_thing","_law_one"]:List Str) by decide +kernel) rfl (Or.inl rfl))) (λ_ _ _ _ _=>kg) (λ_ _ _ _ _=>(aQ aG (aQ aG (qv 2) (qv 4) (λ_ _=>rfl)) (bV c_draw (hr.mono (by decide)) rfl (aa (qv 0) (aa (bN cW rfl B.len_ boot_len (aa (aQ aG (qv 2) (qv 4) (λ_ _=>rfl)) av)) av))) (λ_ _=>rfl)))) av)))) bD))) (aB (cZ (nC aY bE bF eY (qv 6) (aa (qv 7) av)))))) (aB (cZ (nC aY bE bF eY (qv 3) (aa (bH cz (cY (aa (aQ aG (qv 5) ax (λ_ _=>rfl)) av)) (cK gJ rfl B.tuple_ boot_tuple (aa (qv 6) av))) av))))))) (aB (bA (cK gJ rfl B.tuple_ boot_tuple (aa (qv 3) av))))))
theorem Hi(B:fW mg)
  (hr:cD HC (A.deeper (envOfC "_law_leads" (ag kR) s.heap.objs.size f cdv))):jV (eO eT P w K mg base xk "_law_leads" (ag kR) f cdv A outer s H E).nox (aL kR) (Dc K):=by
 have nd:=zZ.nd
 have hu:=hr.units0
 have hu1:=de hr
 refine kU.up ?_
 exact(ao (cv (bh (cq hu) (aQ aG (aQ aG (qv 0) (qv 1) (λ_ _=>rfl)) ax (λ_ _=>rfl)) bg rfl) (aB (bA (dc (aa (aQ aG (aQ aG (qv 0) (qv 1) (λ_ _=>rfl)) ax (λ_ _=>rfl)) av)))) bD) (ao (cv (bh (cq hu) (aQ aG (aQ aG (qv 0) (qv 1) (λ_ _=>rfl)) ax (λ_ _=>rfl)) bg rfl) (aB (bA (dc (aa (bH cz (qv 1) ax) (aa (aQ aG (aQ aG (qv 0) (qv 1) (λ_ _=>rfl)) ax (λ_ _=>rfl)) av))))) bD) (ao (cv (bh (cq hu) (aQ aG (aQ aG (qv 0) (qv 1) (λ_ _=>rfl)) ax (λ_ _=>rfl)) bg rfl) (aB (bA (dc av))) bD) (aB (bA (dc (aa (bH cz (qv 1) ax) av)))))))
theorem yW(B:fW mg)(c_leads:aM P w K mg base "_law_leads" lp sI (lB K))
  (hr:cD zj (A.deeper (envOfC "_law_set_names" (ag dJ) s.heap.objs.size f cdv))):jV (eO eT P w K mg base ko "_law_set_names" (ag dJ) f cdv A outer s H E).nox (aL dJ) (sr K):=by
 have nd:=qK.nd
 have hu:=hr.units0
 have hu1:=de hr
 refine kU.up ?_
 exact(ao (oU (i:=3) (sc:=ag dJ) (N:=ko) (NY:=["_law_rows","_law_names_here","_law_params","_law_known","_law_more","_law_n","_law_left","_law_m","_law_kept","_law_row"]) (js:=[]) (k:=1) ⟨rfl,by decide +kernel,by decide +kernel,by decide +kernel,rfl,by decide +kernel⟩ rfl rfl rfl rfl (jd (qv 0)) (λ_ _ _ _ _=>(bS (i:=9) (show List.Nodup (["_law_rows","_law_names_here","_law_params","_law_known","_law_more","_law_n","_law_left","_law_m","_law_kept","_law_row"]:List Str) by decide +kernel) rfl (Or.inl rfl))) (λ_ _ _ _ _=>kg) (λ_ _ _ _ _=>(cK iy rfl B.list_ boot_list (aa (qv 1) av))) nd rfl (Or.inl rfl) rfl) (ao (fR (cK iy rfl B.list_ boot_list (aa (qv 2) av)) (jc (qv 3) ax jI)) (ao (bu (i:=4) nd rfl (Or.inl rfl) qz) (ao (qB PassesOwn.never (iL (qv 4)) (ao (bu (i:=4) nd rfl (Or.inl rfl) qz) (aB (kC PassesOwn.never rfl (kY rfl B.range_ (aa (bN cW rfl B.len_ boot_len (aa (qv 0) av)) av)) (bS (i:=5) nd rfl (Or.inl rfl)) (ao (bu (i:=6) nd rfl (Or.inr rfl) (aQ aG (qv 3) (qv 5) (λ_ _=>rfl))) (ao (cv (bh mC (aQ aG (aQ aG (qv 0) (qv 5) (λ_ _=>rfl)) ax (λ_ _=>rfl)) (cY (aa bg (aa bg (aa bg av)))) rfl) (aB (bu (i:=6) nd rfl (Or.inr rfl) (bH cz (qv 6) (dc (aa (aQ aG (aQ aG (qv 0) (qv 5) (λ_ _=>rfl)) ax (λ_ _=>rfl)) av))))) bD) (aB (kC PassesOwn.never rfl (jd (bV c_leads (hr.mono (by decide)) rfl (aa (qv 0) (aa (qv 5) av)))) (bS (i:=7) nd rfl (Or.inl rfl)) (ao (oU (i:=8) (sc:=ag dJ) (N:=ko) (NY:=["_law_rows","_law_names_here","_law_params","_law_known","_law_more","_law_n","_law_left","_law_m","_law_kept","_law_name"]) (js:=[]) (k:=1) ⟨rfl,by decide +kernel,by decide +kernel,by decide +kernel,rfl,by decide +kernel⟩ rfl rfl rfl rfl (jd (aQ aG (qv 3) (qv 7) (λ_ _=>rfl))) (λ_ _ _ _ _=>(bS (i:=9) (show List.Nodup (["_law_rows","_law_names_here","_law_params","_law_known","_law_more","_law_n","_law_left","_law_m","_law_kept","_law_name"]:List Str) by decide +kernel) rfl (Or.inl rfl))) (λ_ _ _ _ _=>(IQ (bh mC (qv 9) (qv 6) rfl))) (λ_ _ _ _ _=>(qv 9)) nd rfl (Or.inl rfl) rfl) (aB (cv (bh om (bN cW rfl B.len_ boot_len (aa (qv 8) av)) (bN cW rfl B.len_ boot_len (aa (aQ aG (qv 3) (qv 7) (λ_ _=>rfl)) av)) rfl) (ao (fR (qv 8) (jc (qv 3) (qv 7) jI)) (aB (bu (i:=4) nd rfl (Or.inl rfl) qz))) bD))))))))))) (aB (bA (qv 3)))))))
theorem EN(B:fW mg)
  (hr:cD Fi (A.deeper (envOfC "_law_mended" (ag jE) s.heap.objs.size f cdv))):jV (eO eT P w K mg base sW "_law_mended" (ag jE) f cdv A outer s H E).nox (aL jE) (AC K):=by
 have nd:=wt.nd
 have hu:=hr.units0
 have hu1:=de hr
 refine kU.up ?_
 exact(ao (bu (i:=3) nd rfl (Or.inl rfl) (bH pX (bN cW rfl B.len_ boot_len (aa (qv 0) av)) ax)) (ao (cv (bh qx (aQ aG (aQ aG (qv 0) (qv 3) (λ_ _=>rfl)) ax (λ_ _=>rfl)) (cY (aa bg (aa bg av))) rfl) (aB (fR (cY (aa bg (aa bg av))) (jc (qv 0) (qv 3) jI))) bD) (ao (cv (QW.pt (pZ (iL (qv 2)) (pZ (bh (yh hu) (aQ aG (aQ aG (qv 0) ax (λ_ _=>rfl)) ax (λ_ _=>rfl)) bg rfl) (oV (bh JC (qv 3) ax rfl))))) (aB (fR (cY (aa bg (aa (aQ aG (qv 1) ax (λ_ _=>rfl)) (aa ax av)))) (jc (qv 0) ax jI))) bD) (ao (kC PassesOwn.never rfl (kY rfl B.range_ (aa (bN cW rfl B.len_ boot_len (aa (qv 0) av)) av)) (bS (i:=4) nd rfl (Or.inl rfl)) (ao (bu (i:=5) nd rfl (Or.inl rfl) (qv 4)) (ao (kC PassesOwn.never rfl (jd (qv 0)) (bS (i:=6) nd rfl (Or.inl rfl)) (aB (cv (bh (cq hu) (aQ aG (aQ aG (qv 0) (qv 5) (λ_ _=>rfl)) ax (λ_ _=>rfl)) bg rfl) (aB (bu (i:=5) nd rfl (Or.inl rfl) (aQ aG (aQ aG (qv 0) (qv 5) (λ_ _=>rfl)) ax (λ_ _=>rfl)))) bD))) (aB (cv (bh (cq hu) (aQ aG (aQ aG (qv 0) (qv 5) (λ_ _=>rfl)) ax (λ_ _=>rfl)) bg rfl) (aB (fR (aQ aG (dc (aa (cY (aa bg (aa bg av))) (aa (cY (aa bg (aa bg av))) av))) (cK kW rfl B.int_ boot_int (aa (jB (cq hu) (qv 4) (qv 3) rfl) av)) (λ_ _=>rfl)) (jc (qv 0) (qv 4) jI))) bD))))) (aB (bA (qv 0)))))))
theorem yU(B:fW mg)(c_draw:aM P w K mg base "_law_draw" dY iH (bK K))(c_worth:aM P w K mg base "_law_worth" jy oM (iP K))
  (hr:cD zh (A.deeper (envOfC "_law_rough_row" (ag fA) s.heap.objs.size f cdv))):jV (eO eT P w K mg base nS "_law_rough_row" (ag fA) f cdv A outer s H E).nox (aL fA) (sk K):=by
 have nd:=qI.nd
 have hu:=hr.units0
 have hu1:=de hr
 refine kU.up ?_
 exact(ao (bu (i:=4) nd rfl (Or.inl rfl) (aQ aG (qv 1) (bV c_draw (hr.mono (by decide)) rfl (aa (qv 0) (aa (bN cW rfl B.len_ boot_len (aa (qv 1) av)) av))) (λ_ _=>rfl))) (ao (bu (i:=5) nd rfl (Or.inl rfl) (bV c_draw (hr.mono (by decide)) rfl (aa (qv 0) (aa ax av)))) (ao (cv (bh om (qv 5) ax rfl) (aB (bA (cY (aa bg (aa (qv 4) (aa (bV c_worth (hr.mono (by decide)) rfl (aa (qv 0) av)) av)))))) bD) (ao (cv (bh om (qv 5) ax rfl) (aB (bA (cY (aa bg (aa (qv 4) (aa (aQ aG bg (bV c_draw (hr.mono (by decide)) rfl (aa (qv 0) (aa ax av))) (λ_ _=>rfl)) (aa bg (aa bg av)))))))) bD) (ao (cv (bh (cq hu) (qv 5) ax rfl) (ao (bu (i:=6) nd rfl (Or.inl rfl) (bV c_draw (hr.mono (by decide)) rfl (aa (qv 0) (aa (bN cW rfl B.len_ boot_len (aa (qv 3) av)) av)))) (aB (bA (cY (aa bg (aa (qv 4) (aa (qv 6) (aa (bH fQ (cY (aa bg av)) (aQ aG (qv 3) (qv 6) (λ_ _=>rfl))) av)))))))) bD) (ao (cv (bh om (qv 5) ax rfl) (aB (bA (cY (aa bg (aa bg av))))) bD) (ao (cv (bh om (qv 5) ax rfl) (aB (bA (cY (aa bg (aa bg (aa (bV c_draw (hr.mono (by decide)) rfl (aa (qv 0) (aa (qv 2) av))) av)))))) bD) (aB (bA (aQ aG (dc (aa (cY (aa bg (aa (bV c_draw (hr.mono (by decide)) rfl (aa (qv 0) (aa (qv 2) av))) av))) (aa (cY (aa bg (aa bg av))) av))) (bH pX (qv 5) ax) (λ_ _=>rfl)))))))))))
theorem JU(B:fW mg)(c_filled:aM P w K mg base "_law_filled" jR qf (jY K))(c_set_names:aM P w K mg base "_law_set_names" gp lL (gD K))(c_mended:aM P w K mg base "_law_mended" jS qg (jZ K))(c_rough_row:aM P w K mg base "_law_rough_row" gg lJ (gB K))(c_draw:aM P w K mg base "_law_draw" dY iH (bK K))
  (hr:cD J8 (A.deeper (envOfC "_law_part" (ag lY) s.heap.objs.size f cdv))):jV (eO eT P w K mg base xp "_law_part" (ag lY) f cdv A outer s H E).nox (aL lY) (GE K):=by
 have nd:=CY.nd
 have hu:=hr.units0
 have hu1:=de hr
 refine kU.up ?_
 exact(ao (bu (i:=6) nd rfl (Or.inr rfl) (bN (Dn rfl) rfl B.max_ boot_max (aa (bH cz ax (cK kW rfl B.int_ boot_int (aa (jB (cq hu) (bN cW rfl B.len_ boot_len (aa (qv 3) av)) ax rfl) av))) (aa (bH cz ax (bV c_draw (hr.mono (by decide)) rfl (aa (qv 0) (aa (qv 5) av)))) av)))) (ao (oU (i:=7) (sc:=ag lY) (N:=xp) (NY:=["_law_state","_law_word","_law_names_here","_law_params","_law_counts","_law_most","_law_many","_law_rows","_law_known","_law_n"]) (js:=[]) (k:=1) ⟨rfl,by decide +kernel,by decide +kernel,by decide +kernel,rfl,by decide +kernel⟩ rfl rfl rfl rfl (kY rfl B.range_ (aa (qv 6) av)) (λ_ _ _ _ _=>(bS (i:=9) (show List.Nodup (["_law_state","_law_word","_law_names_here","_law_params","_law_counts","_law_most","_law_many","_law_rows","_law_known","_law_n"]:List Str) by decide +kernel) rfl (Or.inl rfl))) (λ_ _ _ _ _=>kg) (λ_ _ _ _ _=>(bV c_rough_row (hr.mono (by decide)) rfl (aa (qv 0) (aa (qv 2) (aa (qv 6) (aa (qv 4) av)))))) nd rfl (Or.inl rfl) rfl) (ao (bu (i:=7) nd rfl (Or.inl rfl) (bV c_mended (hr.mono (by decide)) rfl (aa (qv 7) (aa (qv 2) (aa (jB (cq hu) (bN cW rfl B.len_ boot_len (aa (qv 3) av)) ax rfl) av))))) (ao (bu (i:=8) nd rfl (Or.inl rfl) (bV c_set_names (hr.mono (by decide)) rfl (aa (qv 7) (aa (qv 2) (aa (qv 3) av))))) (aB (bA (cY (aa (qv 1) (aa (cK gJ rfl B.tuple_ boot_tuple (aa (qv 3) av)) (aa (bV c_filled (hr.mono (by decide)) rfl (aa (qv 0) (aa (qv 7) (aa (qv 8) av)))) av))))))))))
theorem Hj(B:fW mg)(c_draw:aM P w K mg base "_law_draw" dY iH (bK K))
  (hr:cD HD (A.deeper (envOfC "_law_names" (ag kh) s.heap.objs.size f cdv))):jV (eO eT P w K mg base sL "_law_names" (ag kh) f cdv A outer s H E).nox (aL kh) (Dd K):=by
 have nd:=z9.nd
 have hu:=hr.units0
 have hu1:=de hr
 refine kU.up ?_
 exact(ao (bu (i:=2) nd rfl (Or.inr rfl) bg) (ao (bu (i:=3) nd rfl (Or.inl rfl) (bH cz ax (bV c_draw (hr.mono (by decide)) rfl (aa (qv 0) (aa ax av))))) (ao (bu (i:=4) nd rfl (Or.inl rfl) (bV c_draw (hr.mono (by decide)) rfl (aa (qv 0) (aa (qv 3) av)))) (ao (bu (i:=5) nd rfl (Or.inr rfl) (bV c_draw (hr.mono (by decide)) rfl (aa (qv 0) (aa ax av)))) (ao (oU (i:=6) (sc:=ag kh) (N:=sL) (NY:=["_law_state","_law_many","_law_letters","_law_size","_law_at","_law_first","_law_base","_law_found","_law_k","_law_some","_law_name","_law_j"]) (js:=[]) (k:=1) ⟨rfl,by decide +kernel,by decide +kernel,by decide +kernel,rfl,by decide +kernel⟩ rfl rfl rfl rfl (kY rfl B.range_ (aa (qv 3) av)) (λ_ _ _ _ _=>(bS (i:=11) (show List.Nodup (["_law_state","_law_many","_law_letters","_law_size","_law_at","_law_first","_law_base","_law_found","_law_k","_law_some","_law_name","_law_j"]:List Str) by decide +kernel) rfl (Or.inl rfl))) (λ_ _ _ _ _=>kg) (λ_ _ _ _ _=>(aQ aG (qv 2) (bH iK (bH cz (qv 5) (bH fQ (bH fQ ax (qv 11)) (bV c_draw (hr.mono (by decide)) rfl (aa (qv 0) (aa ax av))))) ax) (λ_ _=>rfl))) nd rfl (Or.inl rfl) rfl) (ao (bu (i:=7) nd rfl (Or.inl rfl) (dc av)) (ao (kC PassesOwn.never rfl (kY rfl B.range_ (aa (qv 1) av)) (bS (i:=8) nd rfl (Or.inl rfl)) (ao (bu (i:=9) nd rfl (Or.inl rfl) (bH cz (bH cz (ib lA (qv 6) jC (jD (qv 4))) (dc (aa (aQ aG (qv 2) (bH iK (bH cz (qv 5) (bH fQ ax (qv 8))) ax) (λ_ _=>rfl)) av))) (ib lA (qv 6) (jD (bH cz (qv 4) ax)) jC))) (ao (bu (i:=10) nd rfl (Or.inl rfl) (nC PySem.F.plainAttrs_str PySem.F.slot_str_join PySem.F.type_str_join HK bg (aa (qv 9) av))) (ao (cv (QW.pt (wc (bh mC (qv 10) (cY (aa bg (aa bg (aa bg (aa bg (aa bg (aa bg av))))))) rfl) (BV (QW.pt (pZ (bh om (qv 3) ax rfl) (oV (bh (cq hu) (bH iK (bH cz (qv 3) (qv 8)) ax) ax rfl))))))) (aB (bu (i:=10) nd rfl (Or.inl rfl) (bH cz (qv 10) bg))) bD) (aB (cZ (nC aY bE bF eY (qv 7) (aa (qv 10) av)))))))) (aB (bA (qv 7))))))))))
theorem Dr(B:fW mg)(c_part:aM P w K mg base "_law_part" mS xc (nh K))(c_draw:aM P w K mg base "_law_draw" dY iH (bK K))(c_names:aM P w K mg base "_law_names" lq sJ (kr K))
  (hr:cD DF (A.deeper (envOfC "_law_program" (ag gK) s.heap.objs.size f cdv))):jV (eO eT P w K mg base oN "_law_program" (ag gK) f cdv A outer s H E).nox (aL gK) (wW K):=by
 have nd:=uv.nd
 have hu:=hr.units0
 have hu1:=de hr
 refine kU.up ?_
 exact(ao (bu (i:=2) nd rfl (Or.inl rfl) (cK kW rfl B.int_ boot_int (aa (jB (cq hu) (bH iK (bH sQ (bN (qm rfl) rfl B.sum_ boot_sum (aa (ib lA (aQ aG (qv 0) ax (λ_ _=>rfl)) jC (jD ax)) av)) ax) ax) ax rfl) av))) (ao (bu (i:=3) nd rfl (Or.inl rfl) (ib lA (bV c_names (hr.mono (by decide)) rfl (aa (qv 0) (aa ax av))) jC (jD (aQ aG (dc (aa (bH cz ax (bV c_draw (hr.mono (by decide)) rfl (aa (qv 0) (aa ax av)))) (aa ax av))) (qv 2) (λ_ _=>rfl))))) (ao (bu (i:=4) nd rfl (Or.inr rfl) (bV c_names (hr.mono (by decide)) rfl (aa (qv 0) (aa (bH cz ax (bV c_draw (hr.mono (by decide)) rfl (aa (qv 0) (aa ax av)))) av)))) (ao (oU (i:=5) (sc:=ag gK) (N:=oN) (NY:=["_law_state","_law_most","_law_five","_law_words","_law_names_here","_law_counts","_law_found","_law_word","_law_many","_law_turn","_law_params"]) (js:=[7]) (k:=0) ⟨rfl,by decide +kernel,by decide +kernel,by decide +kernel,rfl,by decide +kernel⟩ rfl rfl rfl rfl (jd (qv 3)) (λ_ _ _ _ _=>(bS (i:=7) (show List.Nodup (["_law_state","_law_most","_law_five","_law_words","_law_names_here","_law_counts","_law_found","_law_word","_law_many","_law_turn","_law_params"]:List Str) by decide +kernel) rfl (Or.inl rfl))) (λ_ _ _ _ _=>kg) (λ_ _ _ _ _=>(bV c_draw (hr.mono (by decide)) rfl (aa (qv 0) (aa (bH cz (bN (vX rfl) rfl B.min_ boot_min (aa ax (aa (bN cW rfl B.len_ boot_len (aa (qv 4) av)) av))) ax) av)))) nd rfl (Or.inl rfl) rfl) (ao (bu (i:=6) nd rfl (Or.inl rfl) (dc av)) (ao (kC PassesOwn.never rfl (K7 rfl B.zip_ (aa (qv 3) (aa (qv 5) av))) (pY rfl (dm (bS (i:=7) nd rfl (Or.inl rfl)) (dm (bS (i:=8) nd rfl (Or.inl rfl)) lR))) (ao (bu (i:=9) nd rfl (Or.inl rfl) (bV c_draw (hr.mono (by decide)) rfl (aa (qv 0) (aa (bN cW rfl B.len_ boot_len (aa (qv 4) av)) av)))) (ao (bu (i:=10) nd rfl (Or.inl rfl) (ib lA (bH cz (ib lA (qv 4) (jD (qv 9)) jC) (ib lA (qv 4) jC (jD (qv 9)))) jC (jD (qv 8)))) (aB (cZ (nC aY bE bF eY (qv 6) (aa (bV c_part (hr.mono (by decide)) rfl (aa (qv 0) (aa (qv 7) (aa (qv 4) (aa (qv 10) (aa (qv 5) (aa (qv 1) av))))))) av))))))) (aB (bA (cK gJ rfl B.tuple_ boot_tuple (aa (qv 6) av))))))))))
theorem LN(B:fW mg)(cl_Walk:qc K (aR K "Walk"))(m_Walk_step:cg P w K mg base (aR K "Walk") "step" dX jj (dI K))(mk_Walk:mL P w K mg base "Walk" (aR K "Walk") dW ji (dq K))(c_p_run_d1:qe P w K mg base "run" fN kN [.int 400] (fE K))(c_p_run:aM P w K mg base "run" fN kN (fE K))(c_draw:aM P w K mg base "_law_draw" dY iH (bK K))(c_run_alike:aM P w K mg base "_law_run_alike" gh lK (gC K))(c_opened:aM P w K mg base "_law_opened" iw mq (fS K))(c_alike:aM P w K mg base "_law_alike" lj sH (jJ K))(c_step:aM P w K mg base "_law_step" mU xg (nj K))(c_args:aM P w K mg base "_law_args" mR xb (lS K))(c_program:aM P w K mg base "_law_program" i8 oK (jh K))
  (hr:cD LV (A.deeper (envOfC "law" (ag nF) s.heap.objs.size f cdv))):jV (eO eT P w K mg base ED "law" (ag nF) f cdv A outer s H E).nox (aL nF) (JN K):=by
 have nd:=Gq.nd
 have hu:=hr.units0
 have hu1:=de hr
 have hu5:=xP hr
 refine kU.up ?_
 exact(ao (bu (i:=1) nd rfl (Or.inl rfl) (dc (aa (qv 0) (aa ax (aa ax av))))) (ao (bu (i:=2) nd rfl (Or.inl rfl) (bV c_program (hr.mono (by decide)) rfl (aa (qv 1) (aa (aQ aG (dc (aa ax (aa ax av))) (bH iK (bH sQ (bN (qm rfl) rfl B.sum_ boot_sum (aa (ib lA (qv 0) jC (jD ax)) av)) ax) ax) (λ_ _=>rfl)) av)))) (ao (bu (i:=3) nd rfl (Or.inl rfl) (bV c_draw (hr.mono (by decide)) rfl (aa (qv 1) (aa (bN cW rfl B.len_ boot_len (aa (qv 2) av)) av)))) (ao (bu (i:=4) nd rfl (Or.inl rfl) (bV c_args (hr.mono (by decide)) rfl (aa (qv 1) (aa (qv 2) (aa (qv 3) av))))) (ao (bu (i:=5) nd rfl (Or.inl rfl) (cK iy rfl B.list_ boot_list (aa (qv 4) av))) (ao (bu (i:=6) nd rfl (Or.inl rfl) (sR mk_Walk (hr.mono (by decide)) rfl (aa (qv 2) (aa (qv 3) (aa (qv 5) av))))) (ao (cZ (ug aY PySem.F.slot_list_clear PySem.F.type_list_clear zu (qv 5))) (ao (bu (i:=7) nd rfl (Or.inl rfl) (bV c_draw (hr.mono (by decide)) rfl (aa (qv 1) (aa (bN cW rfl B.len_ boot_len (aa (qv 2) av)) av)))) (ao (bu (i:=8) nd rfl (Or.inl rfl) (bV c_args (hr.mono (by decide)) rfl (aa (qv 1) (aa (qv 2) (aa (qv 7) av))))) (ao (bu (i:=9) nd rfl (Or.inl rfl) (sR mk_Walk (hr.mono (by decide)) rfl (aa (qv 2) (aa (qv 7) (aa (qv 8) av))))) (ao (bu (i:=10) nd rfl (Or.inl rfl) (dc (aa (bV c_opened (hr.mono (by decide)) rfl (aa (qv 2) (aa (qv 3) (aa (qv 4) av)))) av))) (ao (bu (i:=11) nd rfl (Or.inl rfl) (dc av)) (ao (bu (i:=12) nd rfl (Or.inl rfl) oq) (ao (bu (i:=13) nd rfl (Or.inl rfl) (dc (aa (cY (aa (dc av) (aa oq av))) av))) (ao (kC PassesOwn.never rfl (kY rfl B.range_ (aa ax av)) (bS (i:=14) nd rfl (Or.inl rfl)) (ao (cv (lW (iL (bV c_alike (hr.mono (by decide)) rfl (aa (qv 6) (aa (qv 10) (aa (qv 11) (aa (qv 12) av))))))) (aB (bA qz)) bD) (ao (cZ (gH cl_Walk m_Walk_step (hr.mono (by decide)) (qv 6))) (aB (cv (bh Kn (qv 12) oq rfl) (ao (kC PassesOwn.never rfl (jd (bV c_step (hr.mono (by decide)) rfl (aa (qv 2) (aa (qv 10) (aa (qv 11) av))))) (bS (i:=15) nd rfl (Or.inl rfl)) (aB (bu (i:=12) nd rfl (Or.inl rfl) (qv 15)))) (aB (cZ (nC aY bE bF eY (qv 13) (aa (cY (aa (cK iy rfl B.list_ boot_list (aa (qv 11) av)) (aa (qv 12) av))) av))))) bD))))) (ao (cv (lW (iL (bV c_alike (hr.mono (by decide)) rfl (aa (qv 6) (aa (qv 10) (aa (qv 11) (aa (qv 12) av))))))) (aB (bA qz)) bD) (ao (cv (lW (iL (bV c_alike (hr.mono (by decide)) rfl (aa (qv 9) (aa (dc (aa (bV c_opened (hr.mono (by decide)) rfl (aa (qv 2) (aa (qv 7) (aa (qv 8) av)))) av)) (aa (dc av) (aa oq av))))))) (aB (bA qz)) bD) (ao (kC PassesOwn.never rfl (jd (cY (aa (bV c_draw (hr.mono (by decide)) rfl (aa (qv 1) (aa ax av))) (aa ax (aa ax av))))) (bS (i:=16) nd rfl (Or.inl rfl)) (aB (cv (lW (iL (bV c_run_alike (hr.mono (by decide)) rfl (aa (qv 2) (aa (qv 3) (aa (qv 4) (aa (qv 16) (aa (qv 13) av)))))))) (aB (bA qz)) bD))) (aB (bA (jB (yg hu5) (K6 c_p_run_d1 (hr.mono (by decide)) rfl (aa (qv 2) (aa (qv 3) (aa (qv 4) av)))) (bV c_p_run (hr.mono (by decide)) rfl (aa (qv 2) (aa (qv 3) (aa (qv 4) (aa ax av))))) rfl)))))))))))))))))))))
end
end Bg
end
section
namespace Bg
open PySem L2
theorem rO{K:Fg}{st scr:Addr}{m:Int}{k:Nat}{ns:List Int}{c:Int}{H H2:Hp}{Q:VK}{o4 o5:Option V}{nx:St->Hp->Prop}(hk:k<=1000000)(m0:0<m)
  (q:∀(d:Int) (H':Hp),0<=d->d<m->kO K H' st (k+1)->fX st H H'->Q (.int d) H') (hS:H2 st=some (.lst [.ref scr,.int ((k:Int)+1),.int c])) (hscr:lu K H2 scr ns) (hns:ns.length<=63) (hB:fX st H H2) :
  qU K {nx:=nx,rt:=Q} [some (.ref st),some (.int m),some (.ref scr),some (.int (k:Nat)),o4,o5] H2:=by
 have e1:(((k+1:Nat):Nat):Int)=(k:Int)+1:=by lia
 have S2:kO K H2 st (k+1):=⟨scr,ns,c,by rw[e1];exact hS,hscr,hns⟩
 refine⟨_,rfl,.inl ⟨_,_,rfl,rfl,.inr ⟨by decide,by decide⟩,.inl ⟨_,_,rfl,rfl,?_⟩⟩⟩
 have rest:∀z:Int,Ak K {nx:=nx,rt:=Q} [some (.ref st),some (.int m),some (.ref scr),some (.int (k:Nat)),o4,some (.int z)] H2:=λz=>by
  have b1:0<=z % 2147483629:=cI _ (by decide)
  have b2:z % 2147483629<2147483629:=cC _ (by decide)
  refine⟨_,rfl,_,_,rfl,rfl,(by show(0:Int)<2147483629;decide),_,rfl,.inl ⟨_,_,rfl,rfl,.inl ⟨_,_,rfl,rfl,.inl ⟨by lia,by lia⟩,_,_,rfl,rfl,(by show(0:Int)<2147483629;decide),?_⟩⟩⟩
  generalize hy:z % 2147483629*((k:Int)+3) % 2147483629=y
  have c1:0<=y:=by rw[<-hy];exact cI _ (by decide)
  have c2:y<2147483629:=by rw[<-hy];exact cC _ (by decide)
  refine⟨_,rfl,_,rfl,.inl ⟨_,_,rfl,rfl,.inl ⟨by lia,by lia⟩,_,_,rfl,rfl,(by show(0:Int)<2147483587;decide),?_⟩⟩
  generalize hx:y*y % 2147483587=x
  have d1:0<=x:=by rw[<-hx];exact cI _ (by decide)
  have d2:x<2147483587:=by rw[<-hx];exact cC _ (by decide)
  refine⟨_,rfl,_,rfl,.inl ⟨_,_,rfl,rfl,.inl ⟨by lia,by lia⟩,_,_,rfl,rfl,(by show(0:Int)<1999999973;decide),_,rfl,_,_,rfl,rfl,m0,?_⟩⟩
  exact q _ H2 (cI _ (by lia)) (cC _ m0) S2 hB
 refine⟨_,rfl,_,_,rfl,.inl ⟨_,hscr.sq,rfl⟩,_,_,rfl,rfl,_,rfl,cT (λhl=>?_) (λ_=>rest _)⟩
 rw[ai] at hl
 have hlp:0<ns.length:=by lia
 refine⟨_,rfl,_,rfl,_,rfl,.inl ⟨_,_,rfl,rfl,.inr ⟨by decide,by decide⟩,_,rfl,_,_,rfl,.inl ⟨_,hscr.sq,rfl⟩,_,_,rfl,rfl,(by rw[ai];lia),?_⟩⟩
 have i1:0<=(k:Int)*7 % ((ns.map V.int).length:Nat):=cI _ (by rw[ai];lia)
 have i2:(k:Int)*7 % ((ns.map V.int).length:Nat)<((ns.map V.int).length:Nat):=cC _ (by rw[ai];lia)
 rw[ai] at i1 i2
 have i3:((k:Int)*7 % (ns.length:Nat)).toNat<ns.length:=by lia
 refine mf hscr.sq (by rw[ai];exact i1) (v:=.int ns[((k:Int)*7 % (ns.length:Nat)).toNat]) (by simp only[ai];rw[ba,ab i3];rfl) ?_
 exact⟨_,rfl,.inl ⟨_,_,rfl,rfl,.inl ⟨_,_,rfl,rfl,.inr ⟨by lia,by lia⟩,.inl ⟨_,_,rfl,rfl,rest _⟩⟩⟩⟩
theorem Lc{K:Fg}{vs:List V}{H:Hp}{Q:VK}{E:XK}(h:bK K vs H Q E):Gx K {nx:=λ_ H'=>Q .non H',rt:=Q} (cN Be vs) H:=by
 obtain⟨st,m,k,rfl,S,hk,m0,m1,q⟩:=h
 obtain⟨scr,ns,c,hst,hscr,hns⟩:=S
 refine⟨_,rfl,_,rfl,.inl ⟨st,_,rfl,bZ.of hst,λp hp=>?_⟩⟩
 refine⟨p,_,rfl,bZ.of ae,rfl,_,_,rfl,_,_,rfl,rfl,?_⟩
 have np:st≠p:=ar hst hp
 have B1:fX st H (upd H p (.lst (mV [V.ref scr,V.int (k:Nat),V.int c] none (some 2)))):=(fX.refl st H).new hp
 have h1:(upd H p (.lst (mV [V.ref scr,V.int (k:Nat),V.int c] none (some 2)))) st=some (.lst [.ref scr,.int (k:Nat),.int c]):=by rw[aw np];exact hst
 have s1:lu K (upd H p (.lst (mV [V.ref scr,V.int (k:Nat),V.int c] none (some 2)))) scr ns:=hscr.mono (.of_but B1 hst)
 generalize upd H p (.lst (mV [V.ref scr,V.int (k:Nat),V.int c] none (some 2)))=H1 at B1 h1 s1 ⊢
 refine⟨_,rfl,.inl ⟨_,_,rfl,rfl,_,rfl,Ad h1 (by decide) (by show 1<3;decide) ?_⟩⟩
 have B2:fX st H (upd H1 st (.lst [.ref scr,.int ((k:Int)+1),.int c])):=B1.trans .upd_at
 have h2:(upd H1 st (.lst [.ref scr,.int ((k:Int)+1),.int c])) st=some (.lst [.ref scr,.int ((k:Int)+1),.int c]):=ae
 have s2:lu K (upd H1 st (.lst [.ref scr,.int ((k:Int)+1),.int c])) scr ns:=s1.mono (.of_but .upd_at h1)
 show Am K _ [some (.ref st),some (.int m),some (.ref scr),some (.int (k:Nat)),none,none] (upd H1 st (.lst [.ref scr,.int ((k:Int)+1),.int c]))
 generalize upd H1 st (.lst [.ref scr,.int ((k:Int)+1),.int c])=H2 at B2 h2 s2 ⊢
 have tail:=@rO K st scr m k ns c H H2 Q none none (λ_ H'=>Q .non H') hk m0 q h2 s2 hns B2
 have dig:∀(c':Int) (H3:Hp),H3 st=some (.lst [.ref scr,.int ((k:Int)+1),.int c'])->lu K H3 scr ns->fX st H H3->
   Al K {nx:=qU K {nx:=λ_ H'=>Q .non H',rt:=Q},rt:=Q} [some (.ref st),some (.int m),some (.ref scr),some (.int (k:Nat)),none,none] H3:=λc' H3 h3 s3 B3=>by
  refine⟨_,rfl,mf (bZ.of h3) (by decide) rfl ?_⟩
  refine⟨_,rfl,(by show 2<=sizeLine;decide),λt ht=>⟨t,_,rfl,.inr (eU.of ae),rfl,rfl,_,rfl,?_⟩⟩
  have n3:st≠t:=ar h3 ht
  have B4:fX st H (upd H3 t (.tup [.int 0,.int (-1)])):=B3.new ht
  have h4:(upd H3 t (.tup [.int 0,.int (-1)])) st=some (.lst [.ref scr,.int ((k:Int)+1),.int c']):=by rw[aw n3];exact h3
  have s4:lu K (upd H3 t (.tup [.int 0,.int (-1)])) scr ns:=s3.mono (.of_same ((aS.refl H3).new ht))
  refine v5 (λ_=>?_) (λ_=>?_)
  ·-- _law_state[2],_law_digit=divmod(_law_state[2],_law_many)
   refine⟨_,rfl,.inl ⟨st,_,_,_,rfl,rfl,bZ.of h4,xA (by decide) rfl,_,rfl,_,_,rfl,⟨m0,m1⟩,λp2 hp2=>?_⟩⟩
   have n4:st≠p2:=ar h4 hp2
   refine⟨p2,_,rfl,eU.of ae,rfl,_,_,rfl,_,rfl,Ad (by rw[aw n4];exact h4) (by decide) (by show 2<3;decide) ?_⟩
   refine⟨_,_,rfl,rfl,_,rfl,?_⟩
   have B5:=(B4.new (o:=.tup [.int (c' / m),.int (c' % m)]) hp2)
   have s5:lu K (upd (upd H3 t (.tup [.int 0,.int (-1)])) p2 (.tup [.int (c' / m),.int (c' % m)])) scr ns:=s4.mono (.of_same ((aS.refl _).new hp2))
   have h5:(upd (upd H3 t (.tup [.int 0,.int (-1)])) p2 (.tup [.int (c' / m),.int (c' % m)])) st=some (.lst [.ref scr,.int ((k:Int)+1),.int c']):=by rw[aw n4];exact h4
   refine q _ _ (cI _ (by lia)) (cC _ m0) ⟨scr,ns,c' / m,?_,s5.mono (.of_but .upd_at h5),hns⟩ (B5.trans .upd_at)
   have e1:(((k+1:Nat):Nat):Int)=(k:Int)+1:=by lia
   rw[ae,e1]
   rfl
  ·exact rO hk m0 q h4 s4 hns B4
 have e1:(((k+1:Nat):Nat):Int)=(k:Int)+1:=by lia
 have elif:df (bX (bq sD (ah 3) (iV (ly K) (af (ah 2) aK)))) (cU (bq kq (bq (cQ K) (ah 2) (ah 3)) (ah 1))) cG
   {nx:=qU K {nx:=λ_ H'=>Q V.non H',rt:=Q},rt:=Q} [some (V.ref st),some (V.int m),some (V.ref scr),some (V.int (k:Nat)),none,none] H2:=by
  refine⟨_,rfl,_,rfl,_,_,rfl,.inl ⟨_,s2.sq,rfl⟩,_,_,rfl,rfl,_,rfl,cT (λhlt=>?_) (λ_=>tail)⟩
  rw[ai] at hlt
  have j2:((k:Nat):Int).toNat<ns.length:=by lia
  refine⟨_,rfl,_,rfl,mf s2.sq (by lia) (v:=.int ns[((k:Nat):Int).toNat]) (by rw[ba,ab j2];rfl) ?_⟩
  refine⟨_,rfl,_,_,rfl,rfl,m0,?_⟩
  exact q _ H2 (cI _ (by lia)) (cC _ m0) ⟨scr,ns,c,by rw[e1];exact h2,s2,hns⟩ B2
 refine⟨_,rfl,_,_,rfl,rfl,⟨by decide,by decide⟩,.inl ⟨_,_,rfl,rfl,_,rfl,_,_,rfl,.inl ⟨_,s2.sq,rfl⟩,_,_,rfl,rfl,_,rfl,cT (λhlt=>?_) (λ_=>?_)⟩⟩
 ·rw[ai] at hlt
  have hlp:0<ns.length:=by lia
  have i0:(ns.map V.int)[(0:Int).toNat]?=some (.int ns[0]):=by
   show(ns.map V.int)[0]?=_
   rw[ba,ab hlp];rfl
  refine⟨_,rfl,mf s2.sq (by decide) i0 ⟨_,_,rfl,rfl,(by show(0:Int)<2;decide),.inl ⟨rfl,_,rfl,cT (λ_=>?_) (λ_=>?_)⟩⟩⟩
  ·-- if _law_k % 12==0
   refine⟨_,rfl,_,_,rfl,rfl,(by show(0:Int)<12;decide),.inl ⟨rfl,_,rfl,cT (λ_=>?_) (λ_=>dig c H2 h2 s2 B2)⟩⟩
   have j2:((k:Int) / 12+1).toNat<ns.length:=by lia
   refine⟨_,rfl,_,rfl,_,_,rfl,rfl,⟨by decide,by decide⟩,.inl ⟨_,_,rfl,rfl,mf s2.sq (by lia) (v:=.int ns[((k:Int) / 12+1).toNat]) (by rw[ba,ab j2];rfl) ?_⟩⟩
   refine⟨_,rfl,Ad h2 (by decide) (by show 2<3;decide) ?_⟩
   exact dig _ _ ae (s2.mono (.of_but .upd_at h2)) (B2.trans .upd_at)
  ·exact elif
 ·exact jX elif
theorem Jf{K:Fg}{vs:List V}{H:Hp}{Q:VK}{E:XK}(h:iP K vs H Q E):Dg K {nx:=λ_ H'=>Q .non H',rt:=Q} (cN xt vs) H:=by
 obtain⟨st,k,rfl,S,hk,q⟩:=h
 have e31:(2:Int) ^ ij 31=2147483648:=by decide
 have e33:(2:Int) ^ ij 33=8589934592:=by decide
 have e64:(2:Int) ^ ij 64=18446744073709551616:=by decide
 have f64:(2:Int) ^ 64=18446744073709551616:=by decide
 refine⟨_,rfl,st,2,k,rfl,S,by lia,by decide,by decide,λd H1 d0 d1 S1 B1=>?_⟩
 refine .inl ⟨rfl,_,rfl,cT (λ_=>?_) (λ_=>?_)⟩
 ·refine⟨_,rfl,_,_,rfl,rfl,⟨by decide,by decide,by decide⟩,st,_,k+1,rfl,S1,by lia,by rw[e31];decide,by rw[e31];decide,λd2 H2 a0 a1 S2 B2=>?_⟩
  rw[e31] at a1
  refine⟨_,_,rfl,rfl,⟨by decide,by decide,by decide⟩,.inl ⟨_,_,rfl,rfl,.inl ⟨by lia,by lia⟩,?_⟩⟩
  refine⟨_,rfl,_,_,rfl,rfl,⟨by decide,by decide,by decide⟩,st,_,k+2,rfl,S2,by lia,by rw[e31];decide,by rw[e31];decide,λd3 H3 b0 b1 S3 B3=>?_⟩
  rw[e31] at b1
  refine .inl ⟨_,_,rfl,rfl,q _ _ H3 ?_ ?_ S3 (by lia) ((B1.trans B2).trans B3)⟩
  ·show 0<=d2*(2:Int) ^ ij 33+d3
   rw[e33];lia
  ·show d2*(2:Int) ^ ij 33+d3<2 ^ 64
   rw[e33,f64];lia
 ·refine⟨_,_,rfl,rfl,⟨by decide,by decide,by decide⟩,_,_,rfl,rfl,_,rfl,st,3,k+1,rfl,S1,by lia,by decide,by decide,λd2 H2 a0 a1 S2 B2=>?_⟩
  refine⟨_,_,rfl,rfl,_,rfl,st,12,k+2,rfl,S2,by lia,by decide,by decide,λd3 H3 b0 b1 S3 B3=>?_⟩
  refine⟨(by show 4<=sizeLine;decide),λl hl=>?_⟩
  refine⟨_,rfl,st,4,k+3,rfl,S3.new hl,by lia,by decide,by decide,λd4 H4 c0 c1 S4 B4=>?_⟩
  obtain⟨ys,hys⟩:=S3.lst
  have nl:l≠st:=λz=>by rw[z,hys] at hl;cases hl
  have h4:=B4 l _ nl ae
  have B5:fX st H H4:=(((B1.trans B2).trans B3).new hl).trans B4
  have fin:∀z:Int,0<=z->z<2 ^ 64->Q (.int z) H4:=λz z0 z1=>q z _ H4 z0 z1 S4 (by lia) B5
  rcases(by lia:d4=0\/d4=1\/d4=2\/d4=3) with rfl|rfl|rfl|rfl
  ·exact mf (bZ.of h4) (by decide) rfl (fin _ (by decide) (by decide))
  ·exact mf (bZ.of h4) (by decide) rfl (fin _ (by decide) (by decide))
  ·refine mf (bZ.of h4) (by decide) rfl (fin _ ?_ ?_)
   ·show 0<=(2:Int) ^ ij 64-1-d2
    rw[e64];lia
   ·show(2:Int) ^ ij 64-1-d2<2 ^ 64
    rw[e64,f64];lia
  ·exact mf (bZ.of h4) (by decide) rfl (fin _ (by lia) (by lia))
theorem mz{K:Fg}{p:Addr}{xs:List V}{i:Int}{v:V}{H:Hp}{Q:VK}(h:H p=some (.lst xs)\/H p=some (.tup xs))(h0:0<=i)(e:xs[i.toNat]?=some v)(q:Q v H):cQ K (.ref p) (.int i) H Q:=by
 rcases h with h|h
 ·exact mf (bZ.of h) h0 e q
 ·exact cH h h0 e q
theorem Jb{K:Fg}{vs:List V}{H:Hp}{Q:VK}{E:XK}(h:lB K vs H Q E):Dc K {nx:=λ_ H'=>Q .non H',rt:=Q} (cN xk vs) H:=by
 obtain⟨rt,n,rvs,v,r,rfl,hrt,hv,hr,q⟩:=h
 have hn:rvs[((n:Nat):Int).toNat]?=some v:=by simpa using hv
 have n0:(0:Int)<=((n:Nat):Int):=by lia
 have e1:(((n+1:Nat):Nat):Int)=(n:Int)+1:=by lia
 cases r with
 |num x z=>
  obtain⟨p,rfl,h⟩:=hr
  refine⟨_,rfl,_,rfl,mz hrt n0 hn (cH h (by decide) rfl (.inl ⟨rfl,_,rfl,no (by decide +kernel) ?_⟩))⟩
  refine⟨_,rfl,_,rfl,mz hrt n0 hn (cH h (by decide) rfl (.inl ⟨rfl,_,rfl,no (by decide +kernel) ?_⟩))⟩
  refine⟨_,rfl,_,rfl,mz hrt n0 hn (cH h (by decide) rfl (.inl ⟨rfl,_,rfl,no (by decide +kernel) ?_⟩))⟩
  exact⟨_,rfl,.inl ⟨_,_,rfl,rfl,⟨(by show 1<=sizeLine;decide),λt ht=>(by have z:=q t ht;unfold hV cy at z;simp only[bJ,dS,e1] at z;exact z)⟩⟩⟩
 |op x s a b=>
  obtain⟨p,rfl,h⟩:=hr
  refine⟨_,rfl,_,rfl,mz hrt n0 hn (cH h (by decide) rfl (.inl ⟨rfl,_,rfl,no (by decide +kernel) ?_⟩))⟩
  refine⟨_,rfl,_,rfl,mz hrt n0 hn (cH h (by decide) rfl (.inl ⟨rfl,_,rfl,no (by decide +kernel) ?_⟩))⟩
  refine⟨_,rfl,_,rfl,mz hrt n0 hn (cH h (by decide) rfl (.inl ⟨rfl,_,rfl,no (by decide +kernel) ?_⟩))⟩
  exact⟨_,rfl,.inl ⟨_,_,rfl,rfl,⟨(by show 1<=sizeLine;decide),λt ht=>(by have z:=q t ht;unfold hV cy at z;simp only[bJ,dS,e1] at z;exact z)⟩⟩⟩
 |call x k as=>
  obtain⟨p,q1,rfl,h,h1⟩:=hr
  refine⟨_,rfl,_,rfl,mz hrt n0 hn (cH h (by decide) rfl (.inl ⟨rfl,_,rfl,no (by decide +kernel) ?_⟩))⟩
  refine⟨_,rfl,_,rfl,mz hrt n0 hn (cH h (by decide) rfl (.inl ⟨rfl,_,rfl,no (by decide +kernel) ?_⟩))⟩
  refine⟨_,rfl,_,rfl,mz hrt n0 hn (cH h (by decide) rfl (.inl ⟨rfl,_,rfl,no (by decide +kernel) ?_⟩))⟩
  exact⟨_,rfl,.inl ⟨_,_,rfl,rfl,⟨(by show 1<=sizeLine;decide),λt ht=>(by have z:=q t ht;unfold hV cy at z;simp only[bJ,dS,e1] at z;exact z)⟩⟩⟩
 |say a=>
  obtain⟨p,rfl,h⟩:=hr
  refine⟨_,rfl,_,rfl,mz hrt n0 hn (cH h (by decide) rfl (.inl ⟨rfl,_,rfl,no (by decide +kernel) ?_⟩))⟩
  refine⟨_,rfl,_,rfl,mz hrt n0 hn (cH h (by decide) rfl (.inl ⟨rfl,_,rfl,no (by decide +kernel) ?_⟩))⟩
  refine⟨_,rfl,_,rfl,mz hrt n0 hn (cH h (by decide) rfl (.inl ⟨rfl,_,rfl,no (by decide +kernel) ?_⟩))⟩
  exact⟨_,rfl,.inl ⟨_,_,rfl,rfl,⟨(by show 1<=sizeLine;decide),λt ht=>(by have z:=q t ht;unfold hV cy at z;simp only[bJ,dS,e1] at z;exact z)⟩⟩⟩
 |jump to=>
  obtain⟨p,rfl,h⟩:=hr
  refine⟨_,rfl,_,rfl,mz hrt n0 hn (cH h (by decide) rfl (.inl ⟨rfl,_,rfl,yes ?_⟩))⟩
  exact⟨_,rfl,_,rfl,mz hrt n0 hn (cH h (by decide) rfl ⟨(by show 1<=sizeLine;decide),λt ht=>(by have z:=q t ht;unfold hV cy at z;simp only[bJ,dS,e1] at z;exact z)⟩)⟩
 |test a to=>
  obtain⟨p,rfl,h⟩:=hr
  refine⟨_,rfl,_,rfl,mz hrt n0 hn (cH h (by decide) rfl (.inl ⟨rfl,_,rfl,no (by decide +kernel) ?_⟩))⟩
  refine⟨_,rfl,_,rfl,mz hrt n0 hn (cH h (by decide) rfl (.inl ⟨rfl,_,rfl,yes ?_⟩))⟩
  exact⟨_,rfl,.inl ⟨_,_,rfl,rfl,⟨_,rfl,_,rfl,mz hrt n0 hn (cH h (by decide) rfl ⟨(by show 2<=sizeLine;decide),λt ht=>(by have z:=q t ht;unfold hV cy at z;simp only[bJ,dS,e1] at z;exact z)⟩)⟩⟩⟩
 |give a=>
  obtain⟨p,rfl,h⟩:=hr
  refine⟨_,rfl,_,rfl,mz hrt n0 hn (cH h (by decide) rfl (.inl ⟨rfl,_,rfl,no (by decide +kernel) ?_⟩))⟩
  refine⟨_,rfl,_,rfl,mz hrt n0 hn (cH h (by decide) rfl (.inl ⟨rfl,_,rfl,no (by decide +kernel) ?_⟩))⟩
  refine⟨_,rfl,_,rfl,mz hrt n0 hn (cH h (by decide) rfl (.inl ⟨rfl,_,rfl,yes ?_⟩))⟩
  exact⟨(by show 0<=sizeLine;decide),λt ht=>(by have z:=q t ht;unfold hV cy at z;simp only[bJ,dS,e1] at z;exact z)⟩
theorem D5{K:Fg}{vs:List V}{H:Hp}{Q:VK}{E:XK}(h:jf K vs H Q E):wU K {nx:=λ_ H'=>Q .non H',rt:=Q} (cN qZ vs) H:=by
 obtain⟨v,r,rfl,hr,q⟩:=h
 cases r with
 |num x z=>
  obtain⟨p,rfl,h⟩:=hr
  refine⟨_,rfl,cH h (by decide) rfl ?_⟩
  refine⟨_,rfl,.inl ⟨rfl,_,rfl,no (by decide +kernel) ?_⟩⟩
  refine⟨_,rfl,.inl ⟨rfl,_,rfl,no (by decide +kernel) ?_⟩⟩
  refine⟨_,rfl,(by show 3<=sizeLine;decide),λt ht=>⟨t,_,rfl,.inr (eU.of ae),rfl,rfl,_,rfl,u9 (by decide +kernel) ?_⟩⟩
  have nt:p≠t:=ar h ht
  exact⟨(by show 0<=sizeLine;decide),λt2 ht2=>q t2 _ ae (((aS.refl H).new ht).new ht2)⟩
 |op x s a b=>
  obtain⟨p,rfl,h⟩:=hr
  refine⟨_,rfl,cH h (by decide) rfl ?_⟩
  refine⟨_,rfl,.inl ⟨rfl,_,rfl,yes ?_⟩⟩
  exact⟨_,rfl,cH h (by decide) rfl ⟨_,rfl,cH h (by decide) rfl ⟨(by show 2<=sizeLine;decide),λt ht=>q t _ ae ((aS.refl H).new ht)⟩⟩⟩
 |call x k as=>
  obtain⟨p,q1,rfl,h,h1⟩:=hr
  refine⟨_,rfl,cH h (by decide) rfl ?_⟩
  refine⟨_,rfl,.inl ⟨rfl,_,rfl,no (by decide +kernel) ?_⟩⟩
  refine⟨_,rfl,.inl ⟨rfl,_,rfl,yes ?_⟩⟩
  exact⟨_,rfl,cH h (by decide) rfl ⟨_,_,rfl,.inr ⟨eU.of h1,q _ _ h1 (aS.refl H)⟩⟩⟩
 |say a=>
  obtain⟨p,rfl,h⟩:=hr
  refine⟨_,rfl,cH h (by decide) rfl ?_⟩
  refine⟨_,rfl,.inl ⟨rfl,_,rfl,no (by decide +kernel) ?_⟩⟩
  refine⟨_,rfl,.inl ⟨rfl,_,rfl,no (by decide +kernel) ?_⟩⟩
  refine⟨_,rfl,(by show 3<=sizeLine;decide),λt ht=>⟨t,_,rfl,.inr (eU.of ae),rfl,rfl,_,rfl,tR (by decide +kernel) ?_⟩⟩
  have nt:p≠t:=ar h ht
  exact⟨_,rfl,cH (by rw[aw nt];exact h) (by decide) rfl ⟨(by show 1<=sizeLine;decide),λt2 ht2=>q t2 _ ae (((aS.refl H).new ht).new ht2)⟩⟩
 |jump to=>
  obtain⟨p,rfl,h⟩:=hr
  refine⟨_,rfl,cH h (by decide) rfl ?_⟩
  refine⟨_,rfl,.inl ⟨rfl,_,rfl,no (by decide +kernel) ?_⟩⟩
  refine⟨_,rfl,.inl ⟨rfl,_,rfl,no (by decide +kernel) ?_⟩⟩
  refine⟨_,rfl,(by show 3<=sizeLine;decide),λt ht=>⟨t,_,rfl,.inr (eU.of ae),rfl,rfl,_,rfl,u9 (by decide +kernel) ?_⟩⟩
  have nt:p≠t:=ar h ht
  exact⟨(by show 0<=sizeLine;decide),λt2 ht2=>q t2 _ ae (((aS.refl H).new ht).new ht2)⟩
 |test a to=>
  obtain⟨p,rfl,h⟩:=hr
  refine⟨_,rfl,cH h (by decide) rfl ?_⟩
  refine⟨_,rfl,.inl ⟨rfl,_,rfl,no (by decide +kernel) ?_⟩⟩
  refine⟨_,rfl,.inl ⟨rfl,_,rfl,no (by decide +kernel) ?_⟩⟩
  refine⟨_,rfl,(by show 3<=sizeLine;decide),λt ht=>⟨t,_,rfl,.inr (eU.of ae),rfl,rfl,_,rfl,tR (by decide +kernel) ?_⟩⟩
  have nt:p≠t:=ar h ht
  exact⟨_,rfl,cH (by rw[aw nt];exact h) (by decide) rfl ⟨(by show 1<=sizeLine;decide),λt2 ht2=>q t2 _ ae (((aS.refl H).new ht).new ht2)⟩⟩
 |give a=>
  obtain⟨p,rfl,h⟩:=hr
  refine⟨_,rfl,cH h (by decide) rfl ?_⟩
  refine⟨_,rfl,.inl ⟨rfl,_,rfl,no (by decide +kernel) ?_⟩⟩
  refine⟨_,rfl,.inl ⟨rfl,_,rfl,no (by decide +kernel) ?_⟩⟩
  refine⟨_,rfl,(by show 3<=sizeLine;decide),λt ht=>⟨t,_,rfl,.inr (eU.of ae),rfl,rfl,_,rfl,tR (by decide +kernel) ?_⟩⟩
  have nt:p≠t:=ar h ht
  exact⟨_,rfl,cH (by rw[aw nt];exact h) (by decide) rfl ⟨(by show 1<=sizeLine;decide),λt2 ht2=>q t2 _ ae (((aS.refl H).new ht).new ht2)⟩⟩
theorem Gf{K:Fg}{vs:List V}{H:Hp}{Q:VK}{E:XK}(h:j4 K vs H Q E):AJ K {nx:=λ_ H'=>Q .non H',rt:=Q} (cN sZ vs) H:=by
 obtain⟨v,r,rfl,hr,q⟩:=h
 cases r with
 |num x z=>
  obtain⟨p,rfl,h⟩:=hr
  refine⟨_,rfl,cH h (by decide) rfl ?_⟩
  refine⟨(by show 3<=sizeLine;decide),λt ht=>⟨t,_,rfl,.inr (eU.of ae),rfl,rfl,_,rfl,tR (by decide +kernel) ?_⟩⟩
  have nt:p≠t:=ar h ht
  exact⟨_,rfl,cH (by rw[aw nt];exact h) (by decide) rfl (q _ ((aS.refl H).new ht))⟩
 |op x s a b=>
  obtain⟨p,rfl,h⟩:=hr
  refine⟨_,rfl,cH h (by decide) rfl ?_⟩
  refine⟨(by show 3<=sizeLine;decide),λt ht=>⟨t,_,rfl,.inr (eU.of ae),rfl,rfl,_,rfl,tR (by decide +kernel) ?_⟩⟩
  have nt:p≠t:=ar h ht
  exact⟨_,rfl,cH (by rw[aw nt];exact h) (by decide) rfl (q _ ((aS.refl H).new ht))⟩
 |call x k as=>
  obtain⟨p,q1,rfl,h,h1⟩:=hr
  refine⟨_,rfl,cH h (by decide) rfl ?_⟩
  refine⟨(by show 3<=sizeLine;decide),λt ht=>⟨t,_,rfl,.inr (eU.of ae),rfl,rfl,_,rfl,tR (by decide +kernel) ?_⟩⟩
  have nt:p≠t:=ar h ht
  exact⟨_,rfl,cH (by rw[aw nt];exact h) (by decide) rfl (q _ ((aS.refl H).new ht))⟩
 |say a=>
  obtain⟨p,rfl,h⟩:=hr
  refine⟨_,rfl,cH h (by decide) rfl ?_⟩
  refine⟨(by show 3<=sizeLine;decide),λt ht=>⟨t,_,rfl,.inr (eU.of ae),rfl,rfl,_,rfl,u9 (by decide +kernel) ?_⟩⟩
  have nt:p≠t:=ar h ht
  exact q _ ((aS.refl H).new ht)
 |jump to=>
  obtain⟨p,rfl,h⟩:=hr
  refine⟨_,rfl,cH h (by decide) rfl ?_⟩
  refine⟨(by show 3<=sizeLine;decide),λt ht=>⟨t,_,rfl,.inr (eU.of ae),rfl,rfl,_,rfl,u9 (by decide +kernel) ?_⟩⟩
  have nt:p≠t:=ar h ht
  exact q _ ((aS.refl H).new ht)
 |test a to=>
  obtain⟨p,rfl,h⟩:=hr
  refine⟨_,rfl,cH h (by decide) rfl ?_⟩
  refine⟨(by show 3<=sizeLine;decide),λt ht=>⟨t,_,rfl,.inr (eU.of ae),rfl,rfl,_,rfl,u9 (by decide +kernel) ?_⟩⟩
  have nt:p≠t:=ar h ht
  exact q _ ((aS.refl H).new ht)
 |give a=>
  obtain⟨p,rfl,h⟩:=hr
  refine⟨_,rfl,cH h (by decide) rfl ?_⟩
  refine⟨(by show 3<=sizeLine;decide),λt ht=>⟨t,_,rfl,.inr (eU.of ae),rfl,rfl,_,rfl,u9 (by decide +kernel) ?_⟩⟩
  have nt:p≠t:=ar h ht
  exact q _ ((aS.refl H).new ht)
theorem Ge{K:Fg}{vs:List V}{H:Hp}{Q:VK}{E:XK}(h:gL K vs H Q E):AE K {nx:=λ_ H'=>Q .non H',rt:=Q} (cN sY vs) H:=by
 obtain⟨v,r,rfl,hr,q⟩:=h
 cases r with
 |num x z=>
  obtain⟨p,rfl,h⟩:=hr
  refine⟨_,rfl,cH h (by decide) rfl (.inl ⟨rfl,_,rfl,no (by decide +kernel) ?_⟩)⟩
  exact⟨_,rfl,cH h (by decide) rfl (.inl ⟨rfl,_,rfl,no (by decide +kernel) q⟩)⟩
 |op x s a b=>
  obtain⟨p,rfl,h⟩:=hr
  refine⟨_,rfl,cH h (by decide) rfl (.inl ⟨rfl,_,rfl,no (by decide +kernel) ?_⟩)⟩
  exact⟨_,rfl,cH h (by decide) rfl (.inl ⟨rfl,_,rfl,no (by decide +kernel) q⟩)⟩
 |call x k as=>
  obtain⟨p,q1,rfl,h,h1⟩:=hr
  refine⟨_,rfl,cH h (by decide) rfl (.inl ⟨rfl,_,rfl,no (by decide +kernel) ?_⟩)⟩
  exact⟨_,rfl,cH h (by decide) rfl (.inl ⟨rfl,_,rfl,no (by decide +kernel) q⟩)⟩
 |say a=>
  obtain⟨p,rfl,h⟩:=hr
  refine⟨_,rfl,cH h (by decide) rfl (.inl ⟨rfl,_,rfl,no (by decide +kernel) ?_⟩)⟩
  exact⟨_,rfl,cH h (by decide) rfl (.inl ⟨rfl,_,rfl,no (by decide +kernel) q⟩)⟩
 |jump to=>
  obtain⟨p,rfl,h⟩:=hr
  exact⟨_,rfl,cH h (by decide) rfl (.inl ⟨rfl,_,rfl,yes ⟨_,rfl,cH h (by decide) rfl q⟩⟩)⟩
 |test a to=>
  obtain⟨p,rfl,h⟩:=hr
  refine⟨_,rfl,cH h (by decide) rfl (.inl ⟨rfl,_,rfl,no (by decide +kernel) ?_⟩)⟩
  exact⟨_,rfl,cH h (by decide) rfl (.inl ⟨rfl,_,rfl,yes ⟨_,rfl,cH h (by decide) rfl q⟩⟩)⟩
 |give a=>
  obtain⟨p,rfl,h⟩:=hr
  refine⟨_,rfl,cH h (by decide) rfl (.inl ⟨rfl,_,rfl,no (by decide +kernel) ?_⟩)⟩
  exact⟨_,rfl,cH h (by decide) rfl (.inl ⟨rfl,_,rfl,no (by decide +kernel) q⟩)⟩
theorem E1(c:Nat):(aO c [V.str ""]).flatten=(aO c ("":Str)).map V.str:=by
 induction c with
 |zero=>rfl
 |succ c ih=>rw[dr,gN,ih,dr,bJ];rfl
theorem Jl:∀i:Nat,i<5->∃c,("+-*<=":Str).cps.toList[i]?=some c/\(⟨#[c]⟩:Str)∈wB
 |0,_=>⟨43,by decide +kernel,by decide +kernel⟩
 |1,_=>⟨45,by decide +kernel,by decide +kernel⟩
 |2,_=>⟨42,by decide +kernel,by decide +kernel⟩
 |3,_=>⟨60,by decide +kernel,by decide +kernel⟩
 |4,_=>⟨61,by decide +kernel,by decide +kernel⟩
 |n+5,h=>by lia
theorem zT{K:Fg}{vs:List V}{H:Hp}{Q:VK}{E:XK}(h:gB K vs H Q E):sk K {nx:=λ_ H'=>Q .non H',rt:=Q} (cN nS vs) H:=by
 obtain⟨st,nm,cn,n,k,ys,cs,rfl,S,hk,hnm,ysne,ysl,n1,n2,hcn,csne,csl,cs4,nnm,ncn,q⟩:=h
 have yl:0<ys.length:=dR.mpr ysne
 have cl:0<cs.length:=dR.mpr csne
 refine⟨_,rfl,_,rfl,_,rfl,_,_,rfl,.inl ⟨_,bZ.of hnm,rfl⟩,st,_,k,rfl,S,by lia,by rw[ai];lia,by rw[ai];lia,λd H1 d0 d1 S1 B1=>?_⟩
 rw[ai] at d1
 have dl:d.toNat<ys.length:=by lia
 refine mf (bZ.of (B1 nm _ nnm hnm)) d0 (Ag (ab dl)) ?_
 have hx:ys[d.toNat]∈ys:=dv dl
 generalize ys[d.toNat]=x at hx ⊢
 refine⟨_,rfl,st,12,k+1,rfl,S1,by lia,by decide,by decide,λs H2 s0 s1 S2 B2'=>?_⟩
 have B2:fX st H H2:=B1.trans B2'
 have hcn2:=B2 cn _ ncn hcn
 refine⟨_,rfl,_,_,rfl,rfl,_,rfl,cT (λ_=>?_) (λhs2=>?_)⟩
 ·refine⟨_,rfl,_,rfl,st,k+2,rfl,S2,by lia,λz k3 H3 z0 z1 S3 l3 B3=>⟨(by show 3<=sizeLine;decide),λp hp=>?_⟩⟩
  exact q _ (.num x z) _ _ ⟨p,rfl,ae⟩ ⟨hx,z0,z1⟩ (S3.new hp) (by lia) ((B2.trans B3).new hp)
 refine⟨_,rfl,_,_,rfl,rfl,_,rfl,cT (λ_=>?_) (λhs6=>?_)⟩
 ·refine⟨_,rfl,_,rfl,st,5,k+2,rfl,S2,by lia,by decide,by decide,λe H3 e0 e1 S3 B3=>?_⟩
  obtain⟨c,c1,c2⟩:=Jl e.toNat (by lia)
  refine MN (by decide +kernel) e0 c1 ⟨(by show 5<=sizeLine;decide),λp hp=>?_⟩
  exact q _ (.op x ⟨#[c]⟩ "" "") _ _ ⟨p,rfl,ae⟩ ⟨hx,c2,rfl,rfl⟩ (S3.new hp) (by lia) ((B2.trans B3).new hp)
 refine⟨_,rfl,.inl ⟨rfl,_,rfl,cT (λ_=>?_) (λ_=>?_)⟩⟩
 ·refine⟨_,rfl,_,rfl,_,_,rfl,.inl ⟨_,bZ.of hcn2,rfl⟩,st,_,k+2,rfl,S2,by lia,by rw[kX];lia,by rw[kX];lia,λe H3 e0 e1 S3 B3=>?_⟩
  rw[kX] at e1
  obtain⟨j,rfl⟩:∃j:Nat,e=(j:Int):=⟨e.toNat,by lia⟩
  have jl:j<cs.length:=by lia
  have hcn3:=B3 cn _ ncn hcn2
  have cj:cs[j]?=some cs[j]:=ab jl
  have c4:cs[j]<=4:=cs4 _ (dv jl)
  generalize cs[j]=c at cj c4
  refine⟨_,rfl,_,rfl,(by show 1<=sizeLine;decide),λp1 hp1=>?_⟩
  have nc1:cn≠p1:=ar hcn3 hp1
  refine⟨_,rfl,_,rfl,mf (bZ.of (by rw[aw nc1];exact hcn3)) (by lia) (v:=.int (c:Nat)) (by simpa using DB cj) ?_⟩
  have S4:=S3.new (o:=.tup [V.str ""]) hp1
  have B4:=(B2.trans B3).new (o:=.tup [V.str ""]) hp1
  have c5:1*c<=sizeLine:=bC (by lia) (show 100<=sizeLine by decide)
  refine .inr ⟨p1,c,[V.str ""],rfl,rfl,eU.of ae,by simp,c5,λh1=>⟨(by show 4<=sizeLine;decide),λp hp=>?_⟩,λhne p2 hp2=>⟨(by show 4<=sizeLine;decide),λp hp=>?_⟩⟩
  ·have n1p:p1≠p:=ar ae hp
   subst h1
   refine q _ (.call x j [""]) _ _ ⟨p,p1,rfl,ae,by rw[aw n1p,ae];rfl⟩ ⟨hx,1,cj,rfl⟩ (S4.new hp) (by lia) (B4.new hp)
  ·have n2p:p2≠p:=ar ae hp
   refine q _ (.call x j (aO c "")) _ _ ⟨p,p2,rfl,ae,by rw[aw n2p,ae,E1]⟩ ⟨hx,c,cj,rfl⟩ ((S4.new hp2).new hp) (by lia) ((B4.new hp2).new hp)
 refine⟨_,rfl,_,_,rfl,rfl,_,rfl,cT (λ_=>?_) (λhs8=>?_)⟩
 ·exact⟨(by show 2<=sizeLine;decide),λp hp=>q _ (.say "") _ _ ⟨p,rfl,ae⟩ rfl (S2.new hp) (by lia) (B2.new hp)⟩
 refine⟨_,rfl,_,_,rfl,rfl,_,rfl,cT (λ_=>?_) (λhs10=>?_)⟩
 ·refine⟨_,rfl,_,rfl,st,_,k+2,rfl,S2,by lia,by lia,by lia,λe H3 e0 e1 S3 B3=>⟨(by show 3<=sizeLine;decide),λp hp=>?_⟩⟩
  obtain⟨j,rfl⟩:∃j:Nat,e=(j:Int):=⟨e.toNat,by lia⟩
  exact q _ (.test "" j) _ _ ⟨p,rfl,ae⟩ ⟨rfl,by lia⟩ (S3.new hp) (by lia) ((B2.trans B3).new hp)
 refine⟨_,rfl,_,rfl,st,_,k+2,rfl,S2,by lia,by lia,by lia,λe H3 e0 e1 S3 B3=>⟨(by show 2<=sizeLine;decide),λp hp=>?_⟩⟩
 obtain⟨j,rfl⟩:∃j:Nat,e=(j:Int):=⟨e.toNat,by lia⟩
 refine⟨(by show 2<=sizeLine;decide),λp2 hp2=>⟨(by show 2<=sizeLine;decide),λl hl=>?_⟩⟩
 have n12:p≠p2:=ar ae hp2
 have n2l:p2≠l:=ar ae hl
 have n1l:p≠l:=ar (by rw[aw n12];exact ae) hl
 have S4:=((S3.new (o:=.tup [V.str "jump",V.int (j:Nat)]) hp).new (o:=.tup [V.str "give",V.str ""]) hp2).new (o:=.lst [V.ref p,V.ref p2]) hl
 have B4:=(((B2.trans B3).new (o:=.tup [V.str "jump",V.int (j:Nat)]) hp).new (o:=.tup [V.str "give",V.str ""]) hp2).new (o:=.lst [V.ref p,V.ref p2]) hl
 refine⟨_,rfl,_,_,rfl,rfl,?_⟩
 rcases(by lia:s=10\/s=11) with rfl|rfl
 ·exact mf (bZ.of ae) (by decide) rfl (q _ (.jump j) _ _ ⟨p,rfl,by rw[aw n1l,aw n12,ae]⟩ (by show j<n;lia) S4 (by lia) B4)
 ·exact mf (bZ.of ae) (by decide) rfl (q _ (.give "") _ _ ⟨p2,rfl,by rw[aw n2l,ae]⟩ rfl S4 (by lia) B4)
theorem MS{K:Fg}{rl nm pr kl la l:Addr}{H H':Hp}{ys ps ls:List Str}{w:Str}{rs:List bP}{kss0:List (List Str)}{B i mm j0:Nat}{ms:List Nat}{refs:List V}{kss:List (List Str)}{more:Bool}{o8:Option V}{rt:VK}{bk:St->Hp->Prop}
  (hkl:H kl=none) (nla:la≠kl) (nl:l≠kl) (hw:w∈ls) (hm:mm<rs.length) (hmj:ms[j0]?=some mm) (hz:xw ps kss) (hc:more=false->kss=kss0/\tu rs i kss0/\∀j',j'<j0->∀m km,ms[j']?=some m->kss0[m]?=some km->∀y∈km,y∈ls) (k:KJ kl H ys ps w rs.length H' refs kss) (hB:2*rE kss+more.toNat<=B) (hla:H' la=some (.lst (ls.map V.str))) (hl:H' l=some (.lst (hV ms))) :
  pK K {nx:=MK rl nm pr kl H ys ps w rs B i la l ls ms kss0 (j0+1),rt:=rt,ct:=MK rl nm pr kl H ys ps w rs B i la l ls ms kss0 (j0+1),bk:=bk} [some (.ref rl),some (.ref nm),some (.ref pr),some (.ref kl),some (.bl more),some (.int (i:Nat)),some (.ref la),some (.int (mm:Nat)),o8] H':=by
 obtain⟨am,km,e1,e2,nam,ham⟩:=k.get hm
 obtain⟨k1,k2,k3⟩:=k.wit mm km e2
 have e1':refs[((mm:Nat):Int).toNat]?=some (.ref am):=by simpa using e1
 refine .inl ⟨_,rfl,_,rfl,mf (bZ.of k.at_) (by lia) e1' ⟨am,rfl,⟨_,bZ.of ham⟩,λD hD=>?_⟩⟩
 have nD:kl≠D:=ar k.at_ hD
 have naD:am≠D:=ar ham hD
 have nlaD:la≠D:=ar hla hD
 have nlD:l≠D:=ar hl hD
 refine mw (xs:=km.map V.str) (λj σ' H2=>∃o,σ'=[some (.ref rl),some (.ref nm),some (.ref pr),some (.ref kl),some (.bl more),some (.int (i:Nat)),some (.ref la),some (.int (mm:Nat)),o8,o]/\H2=upd H' D (.lst (((km.take j).filter λy=>decide (y∈ls)).map V.str))) ?_ ?_ ?_ ?_
 ·exact⟨none,rfl,rfl⟩
 ·rintro j σ' H2 _ ⟨o,_,rfl⟩
  exact bZ.of (by rw[aw naD];exact ham)
 ·rintro j x σ' H2 hx ⟨o,rfl,rfl⟩
  rw[ba] at hx
  obtain⟨y,hy,rfl⟩:∃y,km[j]?=some y/\V.str y=x:=by
   cases e:km[j]? with
   |none=>rw[e] at hx;cases hx
   |some y=>rw[e] at hx;exact⟨y,rfl,Option.some.inj hx⟩
  have jl:j<km.length:=(aj.mp hy).1
  have fl:((km.take j).filter λy=>decide (y∈ls)).length<=100:=bC (jK _ _) (by rw[bG];lia)
  have ft:=y0 (λy=>decide (y∈ls)) km j y hy
  refine⟨_,rfl,_,rfl,la,_,rfl,.inl (bZ.of (by rw[aw nlaD];exact hla)),rfl,Dy _,_,rfl,?_⟩
  show if v7 (.str y) (ls.map V.str)=true then _ else _
  rw[y4]
  refine cT (λhin=>?_) (λhin=>?_)
  ·refine⟨_,rfl,_,ae,cR (by rw[ai];lia),_,rfl,?_⟩
   rw[nv,ft,if_pos (by simpa using hin),bw]
   rfl
  ·refine⟨_,rfl,?_⟩
   rw[ft,if_neg (by simpa using hin),kx]
 ·rintro σ' H2 ⟨o,_,rfl⟩
  have et:km.take (km.map V.str).length=km:=fZ (by rw[ai];exact aC _)
  rw[et]
  have fl:(km.filter λy=>decide (y∈ls)).length<=km.length:=jK _ _
  have fm:∀y∈km.filter (λy=>decide (y∈ls)),y∈ys:=λy hy=>k2 y (iT.mp hy).1
  have fw:w∈km.filter (λy=>decide (y∈ls))\/(mm=0/\ps=[]):=k3.imp (λz=>iT.mpr ⟨z,by simpa using hw⟩) id
  have fs:∀y∈km.filter (λy=>decide (y∈ls)),y∈km:=λy hy=>(iT.mp hy).1
  have fe:¬(km.filter (λy=>decide (y∈ls))).length<km.length->∀y∈km,y∈ls:=λhn y hy=>by
   have:=List.length_filter_eq_length_iff.mp (Nat.le_antisymm (jK (λy=>decide (y∈ls)) km) (Nat.not_lt.mp hn)) y hy
   simpa using this
  generalize km.filter (λy=>decide (y∈ls))=kp at fl fm fw fs fe
  have k':=k.grown ((aS.refl H').new (o:=.lst (kp.map V.str)) hD)
  have hla':(upd H' D (.lst (kp.map V.str))) la=some (.lst (ls.map V.str)):=by rw[aw nlaD];exact hla
  have hl':(upd H' D (.lst (kp.map V.str))) l=some (.lst (hV ms)):=by rw[aw nlD];exact hl
  have ham':(upd H' D (.lst (kp.map V.str))) am=some (.lst (km.map V.str)):=by rw[aw naD];exact ham
  have hD':(upd H' D (.lst (kp.map V.str))) D=some (.lst (kp.map V.str)):=ae
  generalize upd H' D (.lst (kp.map V.str))=H3 at k' hla' hl' ham' hD'
  show pJ K _ [some (.ref rl),some (.ref nm),some (.ref pr),some (.ref kl),some (.bl more),some (.int (i:Nat)),some (.ref la),some (.int (mm:Nat)),some (.ref D)] H3
  refine⟨_,rfl,_,_,rfl,.inl ⟨_,bZ.of hD',rfl⟩,_,rfl,_,rfl,mf (bZ.of k'.at_) (by lia) e1' ⟨_,_,rfl,.inl ⟨_,bZ.of ham',rfl⟩,_,_,rfl,rfl,_,rfl,cT (λhlt=>?_) (λhlt=>?_)⟩⟩
  ·rw[ai,ai] at hlt
   refine⟨_,rfl,_,rfl,_,rfl,Ad k'.at_ (by lia) (by rw[k'.vlen];simpa using hm) ?_⟩
   have ei:((mm:Nat):Int).toNat=mm:=by simp
   rw[ei]
   have ss:=Ah (kp:=kp) e2
   refine⟨_,kss.set mm kp,true,_,_,rfl,k'.set hkl (Ne.symm nD) hD' ⟨by lia,fm,fw⟩,?_,by rw[aw nla];exact hla',by rw[aw nl];exact hl',hz.set e2 fs,λz=>by cases z⟩
   have:(true:Bool).toNat=1:=rfl
   lia
  ·rw[ai,ai] at hlt
   refine⟨refs,kss,more,_,_,rfl,k',hB,hla',hl',hz,λhmo=>?_⟩
   obtain⟨c1,c2,c3⟩:=hc hmo
   refine⟨c1,c2,λj' hj' m km' hm' hk'=>?_⟩
   by_cases cj:j'<j0
   ·exact c3 j' cj m km' hm' hk'
   ·have:j'=j0:=by lia
    subst this
    rw[hmj] at hm';cases hm'
    rw[<-c1,e2] at hk';cases hk'
    exact fe (by lia)
theorem y7{ms:List Nat}{j:Nat}{x:V}(h:(hV ms)[j]?=some x):∃m,ms[j]?=some m/\x=.int (m:Nat):=by
 unfold hV at h
 rw[ba] at h
 cases e:ms[j]? with
 |none=>rw[e] at h;cases h
 |some m=>rw[e] at h;exact⟨m,rfl,(Option.some.inj h).symm⟩
theorem MR{K:Fg}{rl nm pr kl:Addr}{H H':Hp}{ys ps:List Str}{cs:List Nat}{w:Str}{B i:Nat}{rvs:List V}{rs:List bP}{refs:List V}{kss:List (List Str)}{more:Bool}{o6 o7 o8:Option V}{rt:VK}{bk:St->Hp->Prop}
  (hkl:H kl=none) (hrl:H rl=some (.lst rvs)) (hA:bR (eD H) rvs rs) (hOk:tD ys cs rs) (hE:rs.getLast?.map lO=some true) (hw0:ps=[]->∃z,rs[0]?=some (.num w z)) (hi:i<rs.length) (k:KJ kl H ys ps w rs.length H' refs kss) (hB:2*rE kss+more.toNat<=B) (hz:xw ps kss) (hP:more=false->tu rs i kss) :
  me K {nx:=Lr rl nm pr kl H ys ps w rs B (i+1),rt:=rt,ct:=Lr rl nm pr kl H ys ps w rs B (i+1),bk:=bk} [some (.ref rl),some (.ref nm),some (.ref pr),some (.ref kl),some (.bl more),some (.int (i:Nat)),o6,o7,o8] H':=by
 obtain⟨a,ks,e1,e2,na,ha⟩:=k.get hi
 obtain⟨k1,k2,k3⟩:=k.wit i ks e2
 obtain⟨v,r,f1,f2,hra⟩:=hA.get (i:=i) hi
 obtain⟨p,xs,rfl,hp⟩:=hra.ref
 have e1':refs[((i:Nat):Int).toNat]?=some (.ref a):=by simpa using e1
 have f1':rvs[((i:Nat):Int).toNat]?=some (.ref p):=by simpa using f1
 have nkl:rl≠kl:=ar hrl hkl
 have ways:∀(la:Addr) (ls:List Str) (H2:Hp),la≠kl->w∈ls->(∀y∈ls,y∈ks\/kD r=.str y)->KJ kl H ys ps w rs.length H2 refs kss->H2 la=some (.lst (ls.map V.str))->
   pL K {nx:=Lr rl nm pr kl H ys ps w rs B (i+1),rt:=rt,ct:=Lr rl nm pr kl H ys ps w rs B (i+1),bk:=bk} [some (.ref rl),some (.ref nm),some (.ref pr),some (.ref kl),some (.bl more),some (.int (i:Nat)),some (.ref la),o7,o8] H2:=λla ls H2 nla hwl hls k2 hla=>by
  refine .inl ⟨_,rfl,_,rfl,rl,i,rvs,.ref p,r,rfl,.inl (k2.same _ _ hrl),f1,hra.mono (.of_same k2.same),λl hl=>?_⟩
  have nl:l≠kl:=λz=>by rw[z,k2.at_] at hl;cases hl
  have nlal:la≠l:=ar hla hl
  refine⟨l,rfl,⟨_,bZ.of ae⟩,og (xs:=hV (cy i r)) (λj=>MK rl nm pr kl H ys ps w rs B i la l ls (cy i r) kss j) ?_ ?_ ?_ ?_⟩
  ·exact⟨refs,kss,more,_,_,rfl,k2.grown ((aS.refl H2).new hl),hB,by rw[aw nlal];exact hla,ae,hz,λhmo=>⟨rfl,hP hmo,λj' hj'=>absurd hj' (gF _)⟩⟩
  ·rintro j σ' H3 _ ⟨_,_,_,_,_,_,_,_,_,h3,_,_⟩
   exact bZ.of h3
  ·rintro j x σ' H3 hx ⟨refs3,kss3,more3,o73,o83,rfl,k3',hB3,hla3,hl3,hz3,hc3⟩
   obtain⟨mm,hmm,rfl⟩:=y7 hx
   exact MS hkl nla nl hwl (Fw f2 (hOk.rough r (az f2)) hE hmm) hmm hz3 hc3 k3' hB3 hla3 hl3
  ·rintro σ' H3 ⟨refs3,kss3,more3,o73,o83,rfl,k3',hB3,hla3,hl3,hz3,hc3⟩
   refine⟨refs3,kss3,more3,_,_,_,_,rfl,k3',hB3,hz3,λhmo=>?_⟩
   obtain⟨c1,c2,c3⟩:=hc3 hmo
   subst c1
   intro n m r' ks' km hn hr' hm' hks' hkm y hy
   by_cases cn:n<i
   ·exact c2 n m r' ks' km cn hr' hm' hks' hkm y hy
   ·have:n=i:=by lia
    subst this
    rw[f2] at hr';cases hr'
    rw[e2] at hks';cases hks'
    obtain⟨j',hj',hmj⟩:=gW.mp hm'
    have hmj':(cy n r)[j']?=some m:=by rw[ab hj',hmj]
    exact hls y (c3 j' (by rw[kX];exact hj') m km hmj' hkm y hy)
 refine⟨_,rfl,_,rfl,mf (bZ.of k.at_) (by lia) e1' ?_⟩
 show pM K _ [some (.ref rl),some (.ref nm),some (.ref pr),some (.ref kl),some (.bl more),some (.int (i:Nat)),some (.ref a),o7,o8] H'
 refine⟨_,rfl,_,rfl,mf (bZ.of (k.same _ _ hrl)) (by lia) f1' (cH (k.same _ _ hp) (by decide) rfl ⟨(by show 3<=sizeLine;decide),λt ht=>⟨t,_,rfl,.inr (eU.of ae),rfl,rfl,_,rfl,?_⟩⟩)⟩
 have sm:=(aS.refl H').new (o:=.tup [V.str "num",V.str "op",V.str "call"]) ht
 have kt:=k.grown sm
 have hat:=sm _ _ ha
 generalize upd H' t (.tup [V.str "num",V.str "op",V.str "call"])=H1 at sm kt hat ⊢
 refine v5 (λhb=>?_) (λhb=>?_)
 ·have hb':v7 (.str (qX r)) [V.str "num",V.str "op",V.str "call"]=true:=hb
  obtain⟨x,hx⟩:=Hy hb'
  obtain⟨xs',hp'⟩:=Jj hra hx
  refine⟨_,rfl,_,rfl,_,rfl,mf (bZ.of (kt.same _ _ hrl)) (by lia) f1' (cH (kt.same _ _ hp') (by decide) rfl ⟨(by show 1<=sizeLine;decide),λp1 hp1=>?_⟩)⟩
  have na1:a≠p1:=ar hat hp1
  refine .inr (.inr (.inl ⟨a,p1,_,_,rfl,rfl,by rw[aw na1];exact hat,ae,?_,λp2 hp2=>?_⟩))
  ·have:=cR (n:=101) (by decide)
   rw[ai]
   show ks.length+1<=sizeLine
   lia
  have k5:=(kt.grown ((aS.refl H1).new (o:=.lst [V.str x]) hp1)).grown ((aS.refl _).new (o:=.lst (ks.map V.str++[V.str x])) hp2)
  have np2:p2≠kl:=λz=>by
   have:=(kt.grown ((aS.refl H1).new (o:=.lst [V.str x]) hp1)).at_
   rw[z,this] at hp2;cases hp2
  refine ways p2 (ks++[x]) _ np2 ?_ (λy hy=>(aP.mp hy).imp id λz=>by rw[au.mp z];exact hx) k5 (by rw[ae,bw];rfl)
  rcases k3 with z|⟨z1,z2⟩
  ·exact aW _ z
  ·obtain⟨zz,hz⟩:=hw0 z2
   subst z1
   rw[f2] at hz;cases hz;cases hx
   exact aJ _ (au.mpr rfl)
 ·refine ways a ks _ na ?_ (λy hy=>.inl hy) kt hat
  rcases k3 with z|⟨z1,z2⟩
  ·exact z
  ·obtain⟨zz,hz⟩:=hw0 z2
   subst z1
   rw[f2] at hz;cases hz
   exact absurd (show v7 (.str "num") [V.str "num",V.str "op",V.str "call"]=false from hb) (by decide +kernel)
theorem D8{α:Type}(n:Nat)(a:α):aO (n+1) a=aO n a++[a]:=by
 exact List.replicate_succ'
theorem zV{K:Fg}{vs:List V}{H:Hp}{Q:VK}{E:XK}(h:gD K vs H Q E):sr K {nx:=λ_ H'=>Q .non H',rt:=Q} (cN ko vs) H:=by
 obtain⟨rl,nm,pr,rvs,rs,ys,ps,cs,rfl,hrl,hA,hOk,hE,hnm,ysl,hpr,psl,pin,hnum,q⟩:=h
 have n1:1<=rs.length:=dR.mpr hOk.pos
 obtain⟨w,wy,wp,w0⟩:∃w:Str,w∈ys/\(ps≠[]->w∈ps)/\(ps=[]->∃z,rs[0]?=some (.num w z)):=by
  cases ps with
  |cons p r=>exact⟨p,pin p ay,λ_=>ay,λz=>by cases z⟩
  |nil=>
   have h0:=hnum rfl
   rw[jv] at h0
   cases e:rs[0]? with
   |none=>rw[e] at h0;cases h0
   |some r=>
    rw[e,bY] at h0
    cases r with
    |num x z=>exact⟨x,(hOk.rough _ (az e)).1,λz=>absurd rfl z,λ_=>⟨z,rfl⟩⟩
    |_=>cases h0
 refine .inl ⟨_,rfl,rl,rfl,⟨_,bZ.of hrl⟩,λkl hkl=>?_⟩
 have nrl:rl≠kl:=ar hrl hkl
 have nnm:nm≠kl:=ar hnm hkl
 have npr:pr≠kl:=ar hpr hkl
 refine mw (xs:=rvs) (λj σ' H'=>∃(refs:List V) (o:Option V),σ'=[some (.ref rl),some (.ref nm),some (.ref pr),none,none,none,none,none,none,o]/\H' kl=some (.lst refs)/\bR (Jx kl H') refs (aO j ys)/\aS H H') ?_ ?_ ?_ ?_
 ·exact⟨[],none,rfl,ae,.nil,(aS.refl H).new hkl⟩
 ·rintro j σ' H' _ ⟨_,_,_,_,_,s⟩
  exact bZ.of (s _ _ hrl)
 ·rintro j x σ' H' hx ⟨refs,o,rfl,hk,ha,s⟩
  refine kc ?_
  have jl:j<rvs.length:=(aj.mp hx).1
  have rl100:rvs.length<=100:=by rw[hA.len];exact hOk.few
  have rlen:refs.length=j:=by rw[ha.len,cb]
  refine⟨_,rfl,nm,_,rfl,.inl (bZ.of (s _ _ hnm)),λa ha0=>?_⟩
  have nak:kl≠a:=ar hk ha0
  refine⟨refs,by rw[aw nak];exact hk,cR (by lia),refs++[.ref a],_,rfl,ae,?_,λb o h=>?_⟩
  ·rw[D8]
   refine bR.snoc (ha.imp λ_ _ z=>(z.same ((aS.refl H').new ha0)).upd) ⟨a,rfl,Ne.symm nak,?_⟩
   rw[aw (Ne.symm nak),ae]
  ·have h1:=s b o h
   rw[aw (ar h hkl),aw (ar h1 ha0)];exact h1
 ·rintro σ' H1 ⟨refs,o,_,hk,ha,s⟩
  rw[hA.len] at ha
  have rlen:refs.length=rs.length:=by rw[ha.len,cb]
  show oE K _ [some (.ref rl),some (.ref nm),some (.ref pr),some (.ref kl),none,none,none,none,none] H1
  refine⟨_,rfl,pr,_,rfl,.inl (bZ.of (s _ _ hpr)),λa ha0=>?_⟩
  have nak:kl≠a:=ar hk ha0
  have K0:KJ kl H ys [] w rs.length H1 refs (aO rs.length ys):=⟨hk,ha,by rw[cb],λi ks e=>by
   have hm:=az e
   rw[kZ] at hm
   rw[hm.2];exact⟨ysl,λy hy=>hy,.inl wy⟩,s⟩
  have K1:=K0.grown ((aS.refl H1).new (o:=.lst (ps.map V.str)) ha0)
  refine⟨_,rfl,Ad K1.at_ (by decide) (by rw[rlen];exact n1) ?_⟩
  have K2:KJ kl H ys ps w rs.length (upd (upd H1 a (.lst (ps.map V.str))) kl (.lst (refs.set 0 (.ref a)))) (refs.set 0 (.ref a)) ((aO rs.length ys).set 0 ps):=by
   have z:=K1.set (m:=0) (kp:=ps) (a:=a) hkl (Ne.symm nak) ae ⟨psl,pin,.inr ⟨rfl,rfl⟩⟩
   refine⟨z.at_,z.all,z.len,λi ks e=>?_,z.same⟩
   by_cases c:0=i
   ·subst c
    rw[bx (by rw[cb];exact n1)] at e;cases e
    refine⟨psl,pin,?_⟩
    by_cases e:ps=[]
    ·exact .inr ⟨rfl,e⟩
    ·exact .inl (wp e)
   ·obtain⟨z1,z2,z3⟩:=z.wit i ks e
    refine⟨z1,z2,?_⟩
    rcases z3 with z3|z3
    ·exact .inl z3
    ·exact absurd z3.1.symm c
  show oC K _ [some (.ref rl),some (.ref nm),some (.ref pr),some (.ref kl),none,none,none,none,none] (upd (upd H1 a (.lst (ps.map V.str))) kl (.lst (refs.set 0 (.ref a))))
  generalize upd (upd H1 a (.lst (ps.map V.str))) kl (.lst (refs.set 0 (.ref a)))=H2 at K2 ⊢
  generalize refs.set 0 (.ref a)=refs2 at K2
  have Z2:xw ps ((aO rs.length ys).set 0 ps):=λks e y hy=>by
   rw[bx (by rw[cb];exact n1)] at e;cases e;exact hy
  generalize (aO rs.length ys).set 0 ps=kss2 at K2 Z2
  show oB K _ [some (.ref rl),some (.ref nm),some (.ref pr),some (.ref kl),some (.bl true),none,none,none,none] H2
  refine⟨λm σ' H'=>∃(refs:List V) (kss:List (List Str)) (more:Bool) (o5 o6 o7 o8:Option V),σ'=[some (.ref rl),some (.ref nm),some (.ref pr),some (.ref kl),some (.bl more),o5,o6,o7,o8]/\KJ kl H ys ps w rs.length H' refs kss/\xw ps kss/\(more=false->tu rs rs.length kss)/\2*rE kss+more.toNat=m,⟨_,refs2,kss2,true,_,_,_,_,rfl,K2,Z2,(λz=>by cases z),rfl⟩,?_⟩
  rintro m σ' H' ⟨refs3,kss3,more,o5,o6,o7,o8,rfl,K3,Z3,P3,hm⟩
  refine⟨_,rfl,more,rfl,v5 (λhmore=>?_) (λhmore=>?_)⟩
  ·subst hmore
   refine⟨Lr rl nm pr kl H ys ps w rs (2*rE kss3) rs.length,?_,?_⟩
   ·rintro σ4 H4 ⟨refs4,kss4,more4,p5,p6,p7,p8,rfl,K4,hB,Z4,P4⟩
    refine⟨_,?_,refs4,kss4,more4,_,_,_,_,rfl,K4,Z4,P4,rfl⟩
    have:(true:Bool).toNat=1:=rfl
    lia
   ·-- more=False;for n in range(len(rows))
    show pN K _ [some (.ref rl),some (.ref nm),some (.ref pr),some (.ref kl),some (.bl false),o5,o6,o7,o8] H'
    have hlr:=K3.same _ _ hrl
    refine⟨_,rfl,_,_,rfl,.inl ⟨_,bZ.of hlr,rfl⟩,_,rfl,by lia,by rw[hA.len];have:=hOk.few;lia,my (λi=>Lr rl nm pr kl H ys ps w rs (2*rE kss3) i) ⟨refs3,kss3,false,_,_,_,_,rfl,K3,by simp,Z3,λ_ n _ _ _ _ hn=>absurd hn (gF _)⟩ ?_ ?_⟩
    ·rintro i σ5 H5 hi ⟨refs5,kss5,more5,p5,p6,p7,p8,rfl,K5,hB,Z5,P5⟩
     have hi:i<rs.length:=by rw[hA.len] at hi;simpa using hi
     have e0:(0:Int)+(i:Int)=((i:Nat):Int):=by lia
     show me K _ [some (.ref rl),some (.ref nm),some (.ref pr),some (.ref kl),some (.bl more5),some (.int ((0:Int)+(i:Int))),p6,p7,p8] H5
     rw[e0]
     exact MR hkl hrl hA hOk hE w0 hi K5 hB Z5 P5
    ·rintro σ5 H5 h5
     rw[hA.len,gM] at h5
     exact h5
  ·refine⟨_,rfl,q kl refs3 kss3 H' hkl K3.at_ (K3.all.imp λ_ _ ⟨a,e,_,h⟩=>⟨a,e,h⟩) K3.len (λi ks e=>?_) ⟨Z3,λn m r ks km hr hm hks hkm=>P3 hmore n m r ks km (aj.mp hr).1 hr hm hks hkm⟩ K3.same⟩
   obtain⟨z1,z2,z3⟩:=K3.wit i ks e
   refine⟨z1,z2,z3.imp (λz e=>?_) id⟩
   rw[e] at z;cases z
def Nb(st nm cn fd wl:Addr)(m:Nat)(f:Int)(ws ys:List Str)(cs:List Nat)(H:Hp)(K:Fg)(k i:Nat):St->Hp->Prop:=λσ' H'=>∃(pvs:List V) (bs:List bf) (k':Nat) (o7 o8 o9 o10:Option V),σ'=[some (.ref st),some (.int (m:Nat)),some (.int f),some (.ref wl),some (.ref nm),some (.ref cn),some (.ref fd),o7,o8,o9,o10]/\
 H' fd=some (.lst pvs)/\bR (nV H') pvs bs/\bs.length=i/\(∀b∈bs,q5 ys cs b/\b.rows.length<=m+1)/\bs.map (·.name)=ws.take i/\bs.map (·.params.length)=cs.take i/\kO K H' st k'/\k'<=k+1001*i/\uZ st fd H H'
theorem D7{K:Fg}{vs:List V}{H:Hp}{Q:VK}{E:XK}(h:jh K vs H Q E):wW K {nx:=λ_ H'=>Q .non H',rt:=Q} (cN oN vs) H:=by
 obtain⟨st,m,k,rfl,S,hk,m1,m50,q⟩:=h
 obtain⟨scr,ns,c,hst,hscr,hns⟩:=id S
 refine⟨_,rfl,mf (bZ.of hst) (by decide) rfl ⟨_,rfl,.inl ⟨scr,_,rfl,hscr.sq,λp hp=>?_⟩⟩⟩
 rw[show((1:Int))=((1:Nat):Int) from rfl,lx,<-gI]
 refine⟨p,ns.take 1,rfl,bZ.of ae,λz=>⟨_,_,rfl,rfl,⟨by decide,by decide⟩,_,_,rfl,rfl,(by show(0:Int)<16;decide),.inl ⟨rfl,.inr ⟨_,rfl,?_⟩⟩⟩⟩
 have S1:=S.new (o:=.lst ((ns.take 1).map V.int)) hp
 have B1:=(fX.refl st H).new (o:=.lst ((ns.take 1).map V.int)) hp
 generalize upd H p (.lst ((ns.take 1).map V.int))=H1 at S1 B1 ⊢
 obtain⟨f,hf,f01⟩:∃f:Int,(if decide (V.int (z / 4 % 16)=V.int 5)=true then(1:Int) else 0)=f/\(f=0\/f=1):=by
  cases decide (V.int (z / 4 % 16)=V.int 5) with
  |true=>exact⟨1,rfl,.inr rfl⟩
  |false=>exact⟨0,rfl,.inl rfl⟩
 rw[hf]
 show sj K _ [some (.ref st),some (.int (m:Nat)),some (.int f),none,none,none,none,none,none,none,none] H1
 refine⟨_,rfl,st,5,k,rfl,S1,by lia,by decide,λl ws k1 H2 hl wl wnd wok h2 S2 l2 B2=>?_⟩
 have nl:l≠st:=λz=>by obtain⟨_,e⟩:=S1.lst;rw[z,e] at hl;cases hl
 refine⟨_,rfl,st,3,k1,rfl,S2,by lia,by decide,by decide,λd H3 d0 d1 S3 B3=>.inl ⟨_,_,rfl,rfl,(by show 2<=sizeLine;decide),λl4 hl4=>?_⟩⟩
 have h3:=B3 l _ nl h2
 have S4:=S3.new (o:=.lst [V.int (1+d),V.int 5]) hl4
 have B4:=(((B1.trans B2).trans B3).new (o:=.lst [V.int (1+d),V.int 5]) hl4)
 have h4:(upd H3 l4 (.lst [V.int (1+d),V.int 5])) l=some (.lst (ws.map V.str)):=by rw[aw (ar h3 hl4)];exact h3
 have g4:(upd H3 l4 (.lst [V.int (1+d),V.int 5])) l4=some (.lst [V.int (1+d),V.int 5]):=ae
 have words:∀c5:Nat,1<=c5->c5<=5->D4 K (V.ref l) none (some (c5:Int)) (upd H3 l4 (.lst [V.int (1+d),V.int 5])) λx H1=>si K {nx:=λ_ H'=>Q .non H',rt:=Q} [some (.ref st),some (.int (m:Nat)),some (.int f),some x,none,none,none,none,none,none,none] H1:=λc5 c1 c2=>by
  generalize upd H3 l4 (.lst [V.int (1+d),V.int 5])=H4 at S4 B4 h4
  refine .inl ⟨l,_,rfl,bZ.of h4,λwp hwp=>?_⟩
  rw[lx,<-gI]
  have wlen:(ws.take c5).length=c5:=by rw[bG];lia
  have S5:=S4.new (o:=.lst ((ws.take c5).map V.str)) hwp
  have B5:=B4.new (o:=.lst ((ws.take c5).map V.str)) hwp
  have h5:(upd H4 wp (.lst ((ws.take c5).map V.str))) wp=some (.lst ((ws.take c5).map V.str)):=ae
  have nwp:wp≠st:=λz=>by obtain⟨_,e⟩:=S4.lst;rw[z,e] at hwp;cases hwp
  have wwnd:(ws.take c5).Nodup:=(lD c5 ws).nodup wnd
  have wwnm:∀y∈ws.take c5,Nm y:=λy hy=>wok y (gX hy)
  generalize ws.take c5=ww at wlen S5 B5 h5 wwnd wwnm ⊢
  generalize upd H4 wp (.lst (ww.map V.str))=H5 at S5 B5 h5 ⊢
  refine⟨_,rfl,_,rfl,st,5,k1+1,rfl,S5,by lia,by decide,by decide,λe H6 e0 e1 S6 B6=>.inl ⟨_,_,rfl,rfl,?_⟩⟩
  obtain⟨n,hn,n2,n6⟩:∃n:Nat,(2:Int)+e=(n:Int)/\2<=n/\n<=6:=⟨(2+e).toNat,by lia,by lia,by lia⟩
  refine⟨st,n,k1+2,by show[V.ref st,V.int (2+e)]=_;rw[hn],S6,by lia,by lia,λnm ys k7 H7 hnm yl ynd yok h7 S7 l7 B7=>?_⟩
  have nnm:nm≠st:=λz=>by obtain⟨_,e⟩:=S6.lst;rw[z,e] at hnm;cases hnm
  have nwn:wp≠nm:=ar (B6 wp _ nwp h5) hnm
  have w7:=B7 wp _ nwp (B6 wp _ nwp h5)
  have BH7:=(B5.trans B6).trans B7
  have yne:∀y∈ys,y≠"":=λy hy=>(yok y hy).ne
  have ysne:ys≠[]:=λz=>by rw[z] at yl;simp at yl;lia
  show sh K _ [some (.ref st),some (.int (m:Nat)),some (.int f),some (.ref wp),some (.ref nm),none,none,none,none,none,none] H7
  refine .inl ⟨_,rfl,wp,rfl,⟨_,bZ.of w7⟩,λcn hcn=>?_⟩
  have ncn:cn≠st:=λz=>by obtain⟨_,e⟩:=S7.lst;rw[z,e] at hcn;cases hcn
  have nwc:wp≠cn:=ar w7 hcn
  have nnc:nm≠cn:=ar h7 hcn
  refine mw (xs:=ww.map V.str) (λi σ' H'=>∃(cs:List Nat) (k':Nat) (o:Option V),σ'=[some (.ref st),some (.int (m:Nat)),some (.int f),some (.ref wp),some (.ref nm),none,none,o,none,none,none]/\H' cn=some (.lst (hV cs))/\cs.length=i/\(∀x∈cs,x<=4/\x<=ys.length)/\kO K H' st k'/\k'<=k7+i/\fX st H7 H') ?_ ?_ ?_ ?_
  ·exact⟨[],k7,none,rfl,ae,rfl,by simp,S7.new hcn,by lia,(fX.refl st H7).new hcn⟩
  ·rintro i σ' H' _ ⟨_,_,_,_,_,_,_,_,_,B⟩
   exact bZ.of (B wp _ nwp w7)
  ·rintro i x σ' H' hx ⟨cs,k',o,rfl,hc,cl,c4,S',hk',B'⟩
   have il:i<ww.length:=by have:=(aj.mp hx).1;rw[ai] at this;exact this
   refine kc ⟨_,rfl,_,rfl,_,_,rfl,.inl ⟨_,bZ.of (B' nm _ nnm h7),rfl⟩,_,_,rfl,.inl ⟨_,_,rfl,rfl,?_⟩⟩
   rw[ai]
   refine⟨st,_,k',rfl,S',by lia,?_,?_,λg H8 g0 g1 S8 B8=>?_⟩
   ·by_cases z:((ys.length:Nat):Int)<4
    ·rw[if_pos z];lia
    ·rw[if_neg z];lia
   ·by_cases z:((ys.length:Nat):Int)<4
    ·rw[if_pos z];lia
    ·rw[if_neg z];lia
   obtain⟨gn,rfl⟩:∃j:Nat,g=(j:Int):=⟨g.toNat,by lia⟩
   have g4:gn<=4/\gn<=ys.length:=by
    by_cases z:((ys.length:Nat):Int)<4
    ·rw[if_pos z] at g1;lia
    ·rw[if_neg z] at g1;lia
   have h8:=B8 cn _ ncn hc
   refine⟨_,h8,cR (by rw[kX];lia),cs++[gn],k'+1,_,rfl,?_,by simp[cl],λx hx=>?_,S8.mono .upd_at h8 (Ne.symm ncn),by lia,?_⟩
   ·rw[ae];unfold hV;rw[bw];rfl
   ·rcases aP.mp hx with z|z
    ·exact c4 x z
    ·rw[au.mp z];exact g4
   ·exact fX.past (B'.trans B8) hcn .upd_at
  ·rintro σ' H8 ⟨cs,k8,o,_,hc,cl,c4,S8,hk8,B8⟩
   rw[ai] at cl hk8
   have csne:cs≠[]:=λz=>by rw[z] at cl;simp at cl;lia
   have w8:=B8 wp _ nwp w7
   have n8:=B8 nm _ nnm h7
   have BH8:=BH7.trans B8
   show sg K _ [some (.ref st),some (.int (m:Nat)),some (.int f),some (.ref wp),some (.ref nm),some (.ref cn),none,none,none,none,none] H8
   refine⟨(by show 0<=sizeLine;decide),λfd hfd=>?_⟩
   have nfd:fd≠st:=λz=>by obtain⟨_,e⟩:=S8.lst;rw[z,e] at hfd;cases hfd
   have s9:aS H8 (upd H8 fd (.lst [])):=(aS.refl H8).new hfd
   have g9:(upd H8 fd (.lst [])) fd=some (.lst []):=ae
   have HF:H fd=none:=BH8.free nfd hfd
   have nwf:wp≠fd:=ar w8 hfd
   have nnf:nm≠fd:=ar n8 hfd
   have ncf:cn≠fd:=ar hc hfd
   show sf K _ [some (.ref st),some (.int (m:Nat)),some (.int f),some (.ref wp),some (.ref nm),some (.ref cn),some (.ref fd),none,none,none,none] (upd H8 fd (.lst []))
   generalize upd H8 fd (.lst [])=H9 at s9 g9 ⊢
   refine⟨_,rfl,_,rfl,wp,cn,rfl,⟨_,bZ.of (s9 _ _ w8)⟩,⟨_,bZ.of (s9 _ _ hc)⟩,Hu (xs:=ww.map V.str) (ys:=hV cs) (by rw[ai,kX,cl]) (Nb st nm cn fd wp m f ww ys cs H9 K k8) ?_ ?_ ?_ ?_⟩
   ·exact⟨[],[],k8,none,none,none,none,rfl,g9,.nil,rfl,by simp,rfl,rfl,S8.same s9,by lia,.refl _ _ _⟩
   ·rintro i σ' H' _ ⟨_,_,_,_,_,_,_,_,_,_,_,_,_,_,_,_,B⟩
    exact⟨bZ.of (B wp _ nwp nwf (s9 _ _ w8)),bZ.of (B cn _ ncn ncf (s9 _ _ hc))⟩
   ·rintro i x y σ' H' tp hx hy htp ⟨pvs,bs,k',o7,o8,o9,o10,rfl,hpv,hA,bl,b100,bnm,bct,S',hk',B'⟩
    have il:i<ww.length:=by have:=(aj.mp hx).1;rw[ai] at this;exact this
    obtain⟨c,hcc,rfl⟩:=y7 hy
    rw[ba,ab il] at hx
    obtain⟨w,hw,rfl⟩:∃w:Str,ww[i]?=some w/\x=.str w:=⟨ww[i],ab il,(Option.some.inj hx).symm⟩
    have s2:aS H' (upd H' tp (.tup [.str w,.int (c:Nat)])):=(aS.refl H').new htp
    have g2:(upd H' tp (.tup [.str w,.int (c:Nat)])) tp=some (.tup [.str w,.int (c:Nat)]):=ae
    generalize upd H' tp (.tup [.str w,.int (c:Nat)])=H10 at s2 g2 ⊢
    refine⟨tp,_,rfl,eU.of g2,rfl,_,_,rfl,_,_,rfl,rfl,?_⟩
    show se K _ [some (.ref st),some (.int (m:Nat)),some (.int f),some (.ref wp),some (.ref nm),some (.ref cn),some (.ref fd),some (.str w),some (.int (c:Nat)),o9,o10] H10
    have nm10:=s2 _ _ (B' nm _ nnm nnf (s9 _ _ n8))
    have cn10:=s2 _ _ (B' cn _ ncn ncf (s9 _ _ hc))
    have fd10:=s2 _ _ hpv
    refine⟨_,rfl,_,rfl,_,_,rfl,.inl ⟨_,bZ.of nm10,rfl⟩,st,_,k',rfl,S'.same s2,by lia,by rw[ai];lia,by rw[ai];lia,λt H11 t0 t1 S11 B11=>?_⟩
    obtain⟨tn,rfl⟩:∃j:Nat,t=(j:Int):=⟨t.toNat,by lia⟩
    show r8 K _ [some (.ref st),some (.int (m:Nat)),some (.int f),some (.ref wp),some (.ref nm),some (.ref cn),some (.ref fd),some (.str w),some (.int (c:Nat)),some (.int (tn:Nat)),o10] H11
    have nm11:=B11 nm _ nnm nm10
    have cn11:=B11 cn _ ncn cn10
    have fd11:=B11 fd _ nfd fd10
    refine⟨_,rfl,_,rfl,_,rfl,.inl ⟨nm,_,rfl,bZ.of nm11,λa1 ha1=>?_⟩⟩
    rw[yO,<-pb]
    have nm12:(upd H11 a1 (.lst ((ys.drop tn).map V.str))) nm=some (.lst (ys.map V.str)):=by rw[aw (ar nm11 ha1)];exact nm11
    refine⟨_,rfl,_,rfl,_,rfl,.inl ⟨nm,_,rfl,bZ.of nm12,λa2 ha2=>?_⟩⟩
    rw[lx,<-gI]
    have n12:a1≠a2:=ar ae ha2
    refine .inr (.inr (.inl ⟨a1,a2,_,_,rfl,rfl,by rw[aw n12,ae],ae,?_,λa3 ha3=>?_⟩))
    ·have:=cR (n:=100) (by decide)
     rw[ai,ai,dw,bG];lia
    rw[<-bw]
    refine⟨_,rfl,_,rfl,.inl ⟨a3,_,rfl,bZ.of ae,λpr hpr=>?_⟩⟩
    rw[lx,<-gI]
    have pin:∀y∈(ys.drop tn++ys.take tn).take c,y∈ys:=λy hy=>by
     rcases aP.mp (gX hy) with z|z
     ·exact List.mem_of_mem_drop z
     ·exact gX z
    have pnd:((ys.drop tn++ys.take tn).take c).Nodup:=by
     refine(lD c _).nodup ?_
     have z:(ys.take tn++ys.drop tn).Nodup:=by rw[List.take_append_drop];exact ynd
     exact(List.perm_append_comm.nodup_iff).mp z
    have plc:((ys.drop tn++ys.take tn).take c).length=c:=by
     have:=(c4 c (az hcc)).2
     rw[bG,aD,dw,bG];lia
    have pl:((ys.drop tn++ys.take tn).take c).length<=100:=by
     rw[bG,aD,dw,bG];lia
    have s13:aS H11 (upd (upd (upd (upd H11 a1 (.lst ((ys.drop tn).map V.str))) a2 (.lst ((ys.take tn).map V.str))) a3 (.lst ((ys.drop tn++ys.take tn).map V.str))) pr (.lst (((ys.drop tn++ys.take tn).take c).map V.str))):=((((aS.refl H11).new ha1).new ha2).new ha3).new hpr
    have g13:(upd (upd (upd (upd H11 a1 (.lst ((ys.drop tn).map V.str))) a2 (.lst ((ys.take tn).map V.str))) a3 (.lst ((ys.drop tn++ys.take tn).map V.str))) pr (.lst (((ys.drop tn++ys.take tn).take c).map V.str))) pr=some (.lst (((ys.drop tn++ys.take tn).take c).map V.str)):=ae
    show rZ K _ [some (.ref st),some (.int (m:Nat)),some (.int f),some (.ref wp),some (.ref nm),some (.ref cn),some (.ref fd),some (.str w),some (.int (c:Nat)),some (.int (tn:Nat)),some (.ref pr)] (upd (upd (upd (upd H11 a1 (.lst ((ys.drop tn).map V.str))) a2 (.lst ((ys.take tn).map V.str))) a3 (.lst ((ys.drop tn++ys.take tn).map V.str))) pr (.lst (((ys.drop tn++ys.take tn).take c).map V.str)))
    generalize upd (upd (upd (upd H11 a1 (.lst ((ys.drop tn).map V.str))) a2 (.lst ((ys.take tn).map V.str))) a3 (.lst ((ys.drop tn++ys.take tn).map V.str))) pr (.lst (((ys.drop tn++ys.take tn).take c).map V.str))=H13 at s13 g13 ⊢
    generalize (ys.drop tn++ys.take tn).take c=ps at pin pl pnd plc g13
    have S13:=S11.same s13
    have npr:pr≠st:=λz=>by
     have:=Di S13 (v:=.ref pr) ⟨pr,rfl,g13⟩
     exact this (by rw[z])
    have fd13:=s13 _ _ fd11
    refine⟨_,rfl,.inl ⟨rfl,_,bZ.of fd13⟩,_,rfl,_,rfl,_,rfl,_,rfl,_,rfl,_,rfl,st,nm,pr,cn,w,m,k'+1,ys,ps,cs,rfl,S13,by lia,s13 _ _ nm11,ysne,by lia,yne,g13,pl,pnd,pin,s13 _ _ cn11,csne,by lia,λx hx=>(c4 x hx).1,m1,m50,nnm,npr,ncn,λv b k14 H14 hv hbn hbp bok br S14 l14 B14=>?_⟩
    have fd14:=B14 fd _ nfd fd13
    obtain⟨_,e11⟩:=(S'.same s2).lst
    obtain⟨_,e13⟩:=S13.lst
    have t14:Tp H' H14:=(((Tp.of_same s2).trans (.of_but B11 e11)).trans (.of_same s13)).trans (.of_but B14 e13)
    have t15:Tp H14 (upd H14 fd (.lst (pvs++[v]))):=(Tp.refl H14).lst fd14
    refine⟨fd,_,_,rfl,rfl,fd14,cR (by rw[hA.len];lia),?_⟩
    refine⟨pvs++[v],bs++[b],k14,_,_,_,_,rfl,ae,(hA.imp λ_ _ z=>(z.mono t14).mono t15).snoc (hv.mono t15),by simp[bl],λb' hb'=>(aP.mp hb').elim (b100 b') (λz=>by rw[au.mp z];exact⟨bok,br⟩),by rw[bw,bnm,jw,hw,List.map_singleton,hbn];rfl,by rw[bw,bct,jw,hcc,List.map_singleton,hbp,plc];rfl,S14.mono .upd_at fd14 (Ne.symm nfd),by lia,?_⟩
    exact λe u n1 n2 h=>by rw[aw n2];exact B14 e u n1 (s13 _ _ (B11 e u n1 (s2 _ _ (B' e u n1 n2 h))))
   ·rintro σ' H' ⟨pvs,bs,k',o7,o8,o9,o10,rfl,hpv,hA,bl,b100,bnm,bct,S',hk',B'⟩
    rw[ai] at bl hk'
    refine⟨_,rfl,fd,_,rfl,.inl ⟨bZ.of hpv,λl hl=>?_⟩⟩
    rw[ai,<-cl] at bct
    rw[ai] at bnm
    rw[ip] at bnm bct
    have ok:Bi ys cs bs:=⟨ynd,yok,by lia,by lia,by lia,by lia,by rw[bnm];exact wwnd,λb hb=>wwnm _ (by rw[<-bnm];exact List.mem_map_of_mem hb),bct,λx hx=>(c4 x hx).1,λb hb=>(b100 b hb).1⟩
    refine q l pvs bs ys cs k' _ ae (hA.imp λ_ _ z=>z.mono ((Tp.refl H').new hl)) ok (λb hb=>(b100 b hb).2) (S'.new hl) (by lia) (fX.new ?_ hl)
    exact λe u n1 h=>B' e u n1 (ar h HF) (s9 _ _ (BH8 e u n1 h))
 rcases f01 with rfl|rfl
 ·refine⟨_,rfl,mf (bZ.of g4) (by decide) rfl ⟨_,rfl,?_⟩⟩
  obtain⟨c5,h5,c1,c2⟩:∃c5:Nat,(1:Int)+d=(c5:Int)/\1<=c5/\c5<=5:=⟨(1+d).toNat,by lia,by lia,by lia⟩
  have z:=words c5 c1 c2
  rw[<-h5] at z
  exact z
 ·refine⟨_,rfl,mf (bZ.of g4) (by decide) rfl ⟨_,rfl,?_⟩⟩
  exact words 5 (by decide) (by decide)
theorem BZ{K:Fg}{vs:List V}{H:Hp}{Q:VK}{E:XK}(h:eF K vs H Q E):uQ K {nx:=λ_ H'=>Q .non H',rt:=Q} (cN pQ vs) H:=by
 obtain⟨rt,n,rvs,rs,rfl,hrt,hA,g,hn,q⟩:=h
 refine⟨_,rfl,?_⟩
 show qV K _ [some (.ref rt),some (.int (n:Nat)),some (.int (n:Nat))] H
 refine⟨λm σ' H'=>∃k,k<=rs.length/\m=rs.length-k/\σ'=[some (.ref rt),some (.int (n:Nat)),some (.int (runJ rs k n:Nat))]/\H'=H,⟨_,0,cA _,rfl,rfl,rfl⟩,?_⟩
 rintro m σ' H' ⟨k,hk,rfl,rfl,rfl⟩
 have lt:=yv g k hn
 obtain⟨v,r,e1,e2,hra⟩:=hA.get lt
 obtain⟨p,xs,rfl,hp⟩:=hra.ref
 have e1':rvs[((runJ rs k n:Nat):Int).toNat]?=some (.ref p):=by simpa using e1
 refine⟨_,rfl,_,rfl,cH hrt (by lia) e1' (cH hp (by decide) rfl (.inl ⟨rfl,_,rfl,cT (λhw=>?_) (λhw=>?_)⟩))⟩
 ·obtain⟨t',rfl⟩:=oY (qL hw)
  have kl:k<rs.length:=by
   by_cases c:k<rs.length
   ·exact c
   ·have:k=rs.length:=by lia
    subst this
    have:=g.ring n hn _ e2
    cases this
  refine⟨λσ' H''=>σ'=[some (.ref rt),some (.int (n:Nat)),some (.int (runJ rs (k+1) n:Nat))]/\H''=H',?_,?_⟩
  ·rintro σ4 H4 ⟨rfl,rfl⟩
   exact⟨rs.length-(k+1),by lia,k+1,kl,rfl,rfl,rfl⟩
  ·refine⟨_,rfl,_,rfl,cH hrt (by lia) e1' ⟨.ref p,.jump t',rfl,hra,?_⟩⟩
   have e:runJ rs (k+1) n=t':=by rw[mE];unfold stp;rw[e2]
   rw[e]
   exact⟨rfl,rfl⟩
 ·have e:=zX (rs:=rs) (k:=k) (n:=n) hk λr' hr'=>by
   rw[e2] at hr';cases hr'
   exact qw λz=>hw (by rw[z])
  rw[e] at q
  exact⟨_,rfl,q⟩
theorem Je{K:Fg}{vs:List V}{H:Hp}{Q:VK}{E:XK}(h:fU K vs H Q E):Df K {nx:=λ_ H'=>Q .non H',rt:=Q} (cN xq vs) H:=by
 obtain⟨rt,n,rvs,rs,rfl,hrt,hA,g,hn,q⟩:=h
 refine⟨λm σ' H'=>∃k,k<=rs.length/\m=rs.length-k/\σ'=[some (.ref rt),some (.int (runJ rs k n:Nat))]/\H'=H,⟨_,0,cA _,rfl,rfl,rfl⟩,?_⟩
 rintro m σ' H' ⟨k,hk,rfl,rfl,rfl⟩
 have lt:=yv g k hn
 obtain⟨v,r,e1,e2,hra⟩:=hA.get lt
 obtain⟨p,xs,rfl,hp⟩:=hra.ref
 have e1':rvs[((runJ rs k n:Nat):Int).toNat]?=some (.ref p):=by simpa using e1
 refine⟨_,rfl,_,rfl,cH hrt (by lia) e1' (cH hp (by decide) rfl (.inl ⟨rfl,_,rfl,cT (λhw=>?_) (λhw=>?_)⟩))⟩
 ·obtain⟨t',rfl⟩:=oY (qL hw)
  have kl:k<rs.length:=by
   by_cases c:k<rs.length
   ·exact c
   ·have:k=rs.length:=by lia
    subst this
    have:=g.ring n hn _ e2
    cases this
  refine⟨λσ' H''=>σ'=[some (.ref rt),some (.int (runJ rs (k+1) n:Nat))]/\H''=H',?_,?_⟩
  ·rintro σ4 H4 ⟨rfl,rfl⟩
   exact⟨rs.length-(k+1),by lia,k+1,kl,rfl,rfl,rfl⟩
  ·obtain⟨p',ep,hp'⟩:=hra
   cases ep
   refine⟨_,rfl,_,rfl,cH hrt (by lia) e1' (cH hp' (by decide) rfl ?_)⟩
   have e:runJ rs (k+1) n=t':=by rw[mE];unfold stp;rw[e2]
   rw[e]
   exact⟨rfl,rfl⟩
 ·have e:=zX (rs:=rs) (k:=k) (n:=n) hk λr' hr'=>by
   rw[e2] at hr';cases hr'
   exact qw λz=>hw (by rw[z])
  unfold Sd at q
  rw[e] at q
  exact⟨_,rfl,q⟩
theorem vx{K:Fg}{vs:List V}{H:Hp}{Q:VK}{E:XK}(h:eQ K vs H Q E):pF K {nx:=λ_ H'=>Q .non H',rt:=Q} (cN lV vs) H:=by
 obtain⟨s,a,b,rfl,ha,hb,q⟩:=h
 refine⟨_,rfl,.inl ⟨rfl,_,rfl,cT (λh=>?_) (λh=>?_)⟩⟩
 ·have e:s="+":=V.str.inj h
  refine⟨_,rfl,_,rfl,.inl ⟨_,_,rfl,rfl,?_⟩⟩
  have q':=q
  unfold Lu at q'
  rw[if_pos e] at q'
  exact q'
 have h1:¬s="+":=λe=>h (by rw[e])
 refine⟨_,rfl,.inl ⟨rfl,_,rfl,cT (λh=>?_) (λh=>?_)⟩⟩
 ·have e:s="-":=V.str.inj h
  refine⟨_,rfl,_,rfl,_,_,rfl,rfl,?_⟩
  have q':=q
  unfold Lu at q'
  rw[if_neg h1,if_pos e] at q'
  exact q'
 have h2:¬s="-":=λe=>h (by rw[e])
 refine⟨_,rfl,_,rfl,.inl ⟨_,_,rfl,rfl,.inl ⟨by have:=ha.1;omega,ha.2⟩,?_⟩⟩
 have q':=q
 unfold Lu at q'
 rw[if_neg h1,if_neg h2] at q'
 exact q'
theorem D6{K:Fg}{vs:List V}{H:Hp}{Q:VK}{E:XK}(h:jg K vs H Q E):wV K {nx:=λ_ H'=>Q .non H',rt:=Q} (cN q4 vs) H:=by
 obtain⟨s,a,b,rfl,ha,hb,q⟩:=h
 have e64:(2:Int) ^ ij 64=18446744073709551616:=by decide
 refine⟨_,rfl,.inl ⟨rfl,_,rfl,cT (λh=>?_) (λh=>?_)⟩⟩
 ·have e:s="<":=V.str.inj h
  have q':=q
  unfold uY at q'
  rw[if_pos e] at q'
  refine⟨_,rfl,_,rfl,_,_,rfl,rfl,_,rfl,cT (λh=>?_) (λh=>?_)⟩
  ·rw[if_pos h] at q';exact q'
  ·rw[if_neg h] at q';exact q'
 have h1:¬s="<":=λe=>h (by rw[e])
 refine⟨_,rfl,.inl ⟨rfl,_,rfl,cT (λh=>?_) (λh=>?_)⟩⟩
 ·have e:s="=":=V.str.inj h
  have q':=q
  unfold uY at q'
  rw[if_neg h1,if_pos e] at q'
  refine⟨_,rfl,_,rfl,.inl ⟨rfl,_,rfl,cT (λh=>?_) (λh=>?_)⟩⟩
  ·rw[if_pos (V.int.inj h)] at q';exact q'
  ·rw[if_neg (λz=>h (by rw[z]))] at q';exact q'
 have h2:¬s="=":=λe=>h (by rw[e])
 have q':=q
 unfold uY at q'
 rw[if_neg h1,if_neg h2] at q'
 refine⟨_,rfl,_,rfl,_,rfl,s,a,b,rfl,ha,hb,_,_,rfl,rfl,⟨by decide,by decide,by decide⟩,_,_,rfl,rfl,(by show(0:Int)<(2:Int) ^ ij 64;decide),?_⟩
 show Q (.int (Lu s a b % (2:Int) ^ ij 64)) H
 rw[e64];exact q'
theorem BX{K:Fg}{vs:List V}{H:Hp}{Q:VK}{E:XK}(h:ic K vs H Q E):uB K {nx:=λ_ H'=>Q .non H',rt:=Q} (cN pO vs) H:=by
 obtain⟨x,dx,C,rfl,hx,R,q⟩:=h
 refine⟨(by show 0<=sizeLine;decide),λol no=>?_⟩
 have hx1:upd H ol (.lst []) x=some (.ins C dx []):=by rw[aw (ar hx no)];exact hx
 refine⟨_,rfl,x,C,dx,_,rfl,hx1,R.cl,R.no,(by show 0<1000;decide),?_⟩
 show qQ K _ [some (.ref x)] (upd (upd H ol (.lst [])) x (.ins C dx [("opened",.ref ol)]))
 have xo:x≠ol:=ar hx no
 refine⟨(by show 0<=sizeLine;decide),λsl ns=>?_⟩
 have g1:upd (upd H ol (.lst [])) x (.ins C dx [("opened",.ref ol)]) x=some (.ins C dx [("opened",.ref ol)]):=ae
 have xs:x≠sl:=ar g1 ns
 have os:ol≠sl:=λz=>by subst z;rw[aw (Ne.symm xo),ae] at ns;cases ns
 have Hs:H sl=none:=by rw[aw (Ne.symm xs),aw (Ne.symm os)] at ns;exact ns
 refine⟨_,rfl,x,C,dx,_,rfl,(by rw[aw xs];exact g1),R.cl,R.ns,(by show 1<1000;decide),?_⟩
 refine⟨_,rfl,x,C,dx,_,rfl,ae,R.cl,R.nu,(by show 2<1000;decide),?_⟩
 refine q ol sl _ no Hs os ae ?_ ?_ λb o nb hb=>?_
 ·rw[aw (Ne.symm xo),aw (Ne.symm xo),aw os,aw (Ne.symm xo),ae]
 ·rw[aw (Ne.symm xs),aw (Ne.symm xs),ae]
 ·rw[aw nb,aw nb,aw (ar hb Hs),aw nb,aw (ar hb no)]
  exact hb
theorem zO{K:Fg}{vs:List V}{H:Hp}{Q:VK}{E:XK}(h:cF K vs H Q E):rT K {nx:=λ_ H'=>Q .non H',rt:=Q} (cN nO vs) H:=by
 obtain⟨w,C,dx,ol,fs,fvs,rfl,hw,R,lk,ho,q⟩:=h
 refine⟨_,rfl,w,C,dx,fs,_,rfl,hw,R.cl,R.no,lk,_,_,rfl,.inl ⟨_,bZ.of ho,rfl⟩,.inl ⟨rfl,q _ ?_⟩⟩
 rw[decide_eq_true_eq]
 constructor
 ·intro z
  have z':=V.int.inj z
  exact cO.mp (by omega)
 ·intro z
  rw[z];rfl
theorem BY{K:Fg}{vs:List V}{H:Hp}{Q:VK}{E:XK}(h:dM K vs H Q E):uC K {nx:=λ_ H'=>Q .non H',rt:=Q} (cN pP vs) H:=by
 obtain⟨w,C,dx,sl,fs,xs,rfl,hw,R,lk,hs,q⟩:=h
 exact⟨_,rfl,w,C,dx,fs,_,rfl,hw,R.cl,R.ns,lk,sl,_,rfl,.inl (bZ.of hs),q⟩
theorem yo{K:Fg}{vs:List V}{H:Hp}{Q:VK}{E:XK}(h:cS K vs H Q E):qP K {nx:=λ_ H'=>Q .non H',rt:=Q} (cN mN vs) H:=by
 obtain⟨w,C,dx,fs,v,rfl,hw,R,lk,q⟩:=h
 exact⟨_,rfl,w,C,dx,fs,_,rfl,hw,R.cl,R.nu,lk,q⟩
theorem yn{K:Fg}(T:iJ K){vs:List V}{H:Hp}{Q:VK}{E:XK}(h:fI K vs H Q E):qO K {nx:=λ_ H'=>Q .non H',rt:=Q} (cN mM vs) H:=by
 obtain⟨x,dx,p,r,n,rfl,hx,q⟩:=h
 refine⟨_,rfl,_,rfl,x,_,dx,_,rfl,hx,T.clF,T.nFp,(by show 0<1000;decide),?_⟩
 refine⟨_,rfl,_,rfl,x,_,dx,_,rfl,ae,T.clF,T.nFr,(by show 1<1000;decide),?_⟩
 refine⟨_,rfl,_,rfl,x,_,dx,_,rfl,ae,T.clF,T.nFn,(by show 2<1000;decide),?_⟩
 show Q .non _
 rw[nv,nv]
 exact q
theorem Jz{C C':Addr}{dx dx' pp ol sl:Addr}{o p r d:V}:HO.ins C dx (Du p r d)≠HO.ins C' dx' (MB pp ol sl o):=λz=>by
 injection z with _ _ z
 have:=congrArg nJ z
 exact absurd this (by show ¬3=4;decide)
theorem eN.up{K:Fg}{H0 H:Hp}{w pp dx ol sl:Addr}{fvs:List V}{ds:List Addr}{n n':Nat}{st:jb}(X:eN K H0 H w pp dx ol sl fvs ds n st)(h:n<=n'):eN K H0 H w pp dx ol sl fvs ds n' st:=
 ⟨X.at_,X.op,X.sp,X.ne,X.fr,X.sm,X.nw,X.no,X.ns,X.nf,X.nd,bC X.few h,bC X.saw h,λf hf=>bC (X.nms f hf) (by omega)⟩
theorem lz{H0 H:Hp}{a:Addr}{o:HO}(s:aS H0 H)(n:H0 a=none):aS H0 (upd H a o):=λb u h=>by rw[aw (ar h n)];exact s b u h
theorem eN.same{K:Fg}{H0 H H':Hp}{w pp dx ol sl:Addr}{fvs:List V}{ds:List Addr}{n:Nat}{st:jb}(X:eN K H0 H w pp dx ol sl fvs ds n st)(s:aS H H'):eN K H0 H' w pp dx ol sl fvs ds n st:=
 ⟨s _ _ X.at_,s _ _ X.op,s _ _ X.sp,X.ne,X.fr.keep (λa _ o e=>s a o e) λd _ o e=>s d o e,X.sm.trans s,X.nw,X.no,X.ns,X.nf,X.nd,X.few,X.saw,X.nms⟩
theorem eN.last{K:Fg}{H0 H:Hp}{w pp dx ol sl a:Addr}{fvs:List V}{ds:List Addr}{n:Nat}{fs:List Fr}{f:Fr}{said:List Int}{out:V}(X:eN K H0 H w pp dx ol sl (fvs++[.ref a]) ds n ⟨fs++[f],said,out⟩) :
  ∃dxa d,H a=some (.ins (aR K "Frame") dxa (Du (.int (f.part:Nat)) (.int (f.row:Nat)) (.ref d)))/\H d=some (.dK f.nm)/\f.nm.length<=n+100/\
   (∀row':Nat,eN K H0 (upd H a (.ins (aR K "Frame") dxa (Du (.int (f.part:Nat)) (.int (row':Nat)) (.ref d)))) w pp dx ol sl (fvs++[.ref a]) ds n ⟨fs++[⟨f.part,row',f.nm⟩],said,out⟩)/\
   ∀nm':List (dB×V),nm'.length<=f.nm.length+1->eN K H0 (upd H d (.dK nm')) w pp dx ol sl (fvs++[.ref a]) ds (n+1) ⟨fs++[⟨f.part,f.row,nm'⟩],said,out⟩:=by
 obtain⟨fvs',ds',a',dxa,d,e1,e2,hf,na,nd,ha,hd⟩:=X.fr.last
 obtain⟨rfl,e3⟩:=ow e1
 injection e3 with e3
 subst e3
 have fm:=X.nms f (aJ _ ay)
 have mem:V.ref a∈fvs++[.ref a]:=aJ _ ay
 have memd:d∈ds:=by rw[e2];exact aJ _ ay
 have law:w≠a:=λz=>by have:=X.at_;rw[z,ha] at this;injection this with this;exact Jz this
 refine⟨dxa,d,ha,hd,fm,λrow'=>?_,λnm' hl=>?_⟩
 ·have n1:ol≠a:=fP X.op ha (by intro z;cases z)
  have n2:sl≠a:=fP X.sp ha (by intro z;cases z)
  refine⟨by rw[aw law];exact X.at_,by rw[aw n1];exact X.op,by rw[aw n2];exact X.sp,X.ne,?_,lz X.sm (X.nf a mem),X.nw,X.no,X.ns,X.nf,X.nd,X.few,X.saw,λg hg=>?_⟩
  ·rw[e2]
   refine .snoc (hf.keep (λb hb o e=>?_) λb hb o e=>?_) na nd ae (by rw[aw (fP hd ha (by intro z;cases z))];exact hd)
   ·rw[aw (λz=>na (by rw[<-z];exact hb))];exact e
   ·obtain⟨l,hl⟩:=hf.dct hb
    rw[aw (fP hl ha (by intro z;cases z))];exact e
  ·rcases aP.mp hg with z|z
   ·exact X.nms g (aW _ z)
   ·rw[au.mp z];exact fm
 ·have n0:w≠d:=fP X.at_ hd (by intro z;cases z)
  have n1:ol≠d:=fP X.op hd (by intro z;cases z)
  have n2:sl≠d:=fP X.sp hd (by intro z;cases z)
  refine⟨by rw[aw n0];exact X.at_,by rw[aw n1];exact X.op,by rw[aw n2];exact X.sp,X.ne,?_,lz X.sm (X.nd d memd),X.nw,X.no,X.ns,X.nf,X.nd,dj X.few,dj X.saw,λg hg=>?_⟩
  ·rw[e2]
   refine .snoc (f:=⟨f.part,f.row,nm'⟩) (hf.keep (λb hb o e=>?_) λb hb o e=>?_) na nd (by rw[aw (fP ha hd (by intro z;cases z))];exact ha) ae
   ·obtain⟨dxb,l,hb',_⟩:=hf.ins hb
    rw[aw (fP hb' hd (by intro z;cases z))];exact e
   ·rw[aw (λz=>nd (by rw[<-z];exact hb))];exact e
  ·rcases aP.mp hg with z|z
   ·exact dj (X.nms g (aW _ z)) |> λh=>by omega
   ·rw[au.mp z]
    show nm'.length<=n+1+100
    omega
theorem eN.say{K:Fg}{H0 H:Hp}{w pp dx ol sl:Addr}{fvs:List V}{ds:List Addr}{n:Nat}{fs:List Fr}{said:List Int}{out:V}(X:eN K H0 H w pp dx ol sl fvs ds n ⟨fs,said,out⟩)(i:Int) :
  eN K H0 (upd H sl (.lst (said.map V.int++[.int i]))) w pp dx ol sl fvs ds (n+1) ⟨fs,said++[i],out⟩:=by
 have n0:w≠sl:=fP X.at_ X.sp (by intro z;cases z)
 refine⟨by rw[aw n0];exact X.at_,by rw[aw X.ne];exact X.op,by rw[ae,bw];rfl,X.ne,X.fr.keep (λb hb o e=>?_) (λb hb o e=>?_),lz X.sm X.ns,X.nw,X.no,X.ns,X.nf,X.nd,dj X.few,?_,λg hg=>?_⟩
 ·obtain⟨dxb,l,hb',_⟩:=X.fr.ins hb
  rw[aw (fP hb' X.sp (by intro z;cases z))];exact e
 ·obtain⟨l,hl⟩:=X.fr.dct hb
  rw[aw (fP hl X.sp (by intro z;cases z))];exact e
 ·have:=X.saw
  show(said++[i]).length<=n+1
  rw[aD]
  exact Nat.succ_le_succ this
 ·have:=X.nms g hg
  omega
theorem rC{H:Hp}{pp:Addr}{bs:List bf}{k:Nat}{b:bf}(P:hU H pp bs)(hb:bs[k]?=some b):∃pvs pt pa rt rvs,H pp=some (.tup pvs)/\pvs[((k:Nat):Int).toNat]?=some (.ref pt)/\H pt=some (.tup [.str b.name,.ref pa,.ref rt])/\H pa=some (.tup (b.params.map V.str))/\H rt=some (.tup rvs)/\bR (eD H) rvs b.rows:=by
 obtain⟨pvs,e,A⟩:=P.ex
 have kl:k<bs.length:=(aj.mp hb).1
 obtain⟨v,b',e1,e2,pt,pa,rt,rvs,rfl,h1,h2,h3,h4⟩:=A.get kl
 rw[hb] at e2;cases e2
 exact⟨pvs,pt,pa,rt,rvs,e,by simpa using e1,h1,h2,h3,h4⟩
theorem yq{K:Fg}(T:iJ K){vs:List V}{H:Hp}{Q:VK}{E:XK}(h:di K vs H Q E):qS K {nx:=λ_ H'=>Q .non H',rt:=Q} (cN mP vs) H:=by
 obtain⟨w,pp,a,dx,ol,sl,to,n,H0,fvs,ds,fs,f,said,out,bs,b,rfl,X,P,hb,tl,q⟩:=h
 obtain⟨dxa,d,ha,hd,_,row,_⟩:=X.last
 obtain⟨pvs,pt,pa,rt,rvs,h1,e1,h2,_,h3,hR⟩:=rC (P.same X.sm) hb
 have good:=P.good b (az hb)
 refine⟨_,rfl,w,_,dx,_,_,rfl,X.at_,T.clW,T.nWp,rfl,_,rfl,a,_,dxa,_,_,rfl,ha,T.clF,T.nFp,rfl,cH h1 (by omega) e1 (cH h2 (by decide) rfl ⟨_,rfl,rt,to,rvs,b.rows,rfl,h3,hR,good,tl,_,rfl,a,_,dxa,_,rfl,ha,T.clF,T.nFr,(by show 3<1000;decide),?_⟩)⟩
 exact q _ (row (go b to))
theorem yp{K:Fg}(T:iJ K){vs:List V}{H:Hp}{Q:VK}{E:XK}(h:dh K vs H Q E):qR K {nx:=λ_ H'=>Q .non H',rt:=Q} (cN mO vs) H:=by
 obtain⟨w,pp,q0,k,n,H0,st,zs,bs,b,rfl,⟨dx,ol,sl,fvs,ds,X⟩,P,hb,hl,hq,hn,q⟩:=h
 obtain⟨pvs,pt,pa,rt,rvs,h1,e1,h2,h3,h4,hR⟩:=rC (P.same X.sm) hb
 have good:=P.good b (az hb)
 have few:=P.few b (az hb)
 refine⟨_,rfl,w,_,dx,_,_,rfl,X.at_,T.clW,T.nWp,rfl,_,rfl,cH h1 (by omega) e1 (cH h2 (by decide) rfl ?_)⟩
 refine⟨_,rfl,w,_,dx,_,_,rfl,X.at_,T.clW,T.nWp,rfl,_,rfl,cH h1 (by omega) e1 (cH h2 (by decide) rfl ⟨rt,0,rvs,b.rows,rfl,h4,hR,good,good.pos,?_⟩)⟩
 show oy K _ [some (.ref w),some (.int (k:Nat)),some (.ref q0),some (.ref pa),some (.int (go b 0:Nat))] H
 refine⟨_,rfl,w,_,dx,_,_,rfl,X.at_,T.clW,T.nWo,rfl,.inl ⟨rfl,_,bZ.of X.op⟩,?_⟩
 refine⟨_,rfl,_,rfl,_,rfl,_,rfl,pa,q0,b.params,zs.map V.int,rfl,eU.of h3,hq.imp bZ.of eU.of,by rw[ai];exact hl,by omega,λd nd=>?_⟩
 intro x dxx nx ndx nexx
 have nxd:x≠d:=λz=>by rw[z,ae] at nx;cases nx
 have ndxd:dxx≠d:=λz=>by rw[z,ae] at ndx;cases ndx
 have Hx:H x=none:=by rw[aw nxd] at nx;exact nx
 have Hdx:H dxx=none:=by rw[aw ndxd] at ndx;exact ndx
 refine⟨x,dxx,_,_,_,rfl,ae,rfl,?_⟩
 rw[nv]
 have S:aS H (upd (upd (upd H d (.dK (fO [] ((b.params.map Sum.inr).zip (zs.map V.int))))) dxx (.own x)) x (.ins (aR K "Frame") dxx (Du (.int (k:Nat)) (.int (go b 0:Nat)) (.ref d)))):=by
  intro c o e
  rw[aw (ar e Hx),aw (ar e Hdx),aw (ar e nd)];exact e
 have gx:upd (upd (upd H d (.dK (fO [] ((b.params.map Sum.inr).zip (zs.map V.int))))) dxx (.own x)) x (.ins (aR K "Frame") dxx (Du (.int (k:Nat)) (.int (go b 0:Nat)) (.ref d))) x=some (.ins (aR K "Frame") dxx (Du (.int (k:Nat)) (.int (go b 0:Nat)) (.ref d))):=ae
 have gd:upd (upd (upd H d (.dK (fO [] ((b.params.map Sum.inr).zip (zs.map V.int))))) dxx (.own x)) x (.ins (aR K "Frame") dxx (Du (.int (k:Nat)) (.int (go b 0:Nat)) (.ref d))) d=some (.dK (fO [] ((b.params.map Sum.inr).zip (zs.map V.int)))):=by rw[aw (Ne.symm nxd),aw (Ne.symm ndxd)];exact ae
 generalize upd (upd (upd H d (.dK (fO [] ((b.params.map Sum.inr).zip (zs.map V.int))))) dxx (.own x)) x (.ins (aR K "Frame") dxx (Du (.int (k:Nat)) (.int (go b 0:Nat)) (.ref d)))=H1 at S gx gd ⊢
 have X1:=X.same S
 have fz:fvs.length<sizeLine:=cR (by have:=X.few;omega)
 refine⟨ol,_,_,rfl,rfl,X1.op,fz,?_⟩
 have H0x:H0 x=none:=by
  cases e:H0 x with
  |none=>rfl
  |some o=>rw[X.sm _ _ e] at Hx;cases Hx
 have H0d:H0 d=none:=by
  cases e:H0 d with
  |none=>rfl
  |some o=>rw[X.sm _ _ e] at nd;cases nd
 have n0:w≠ol:=fP X1.at_ X1.op (by intro z;cases z)
 have nfx:V.ref x∉fvs:=λm=>by
  obtain⟨dxb,l,hb',_⟩:=X.fr.ins m
  rw[hb'] at Hx;cases Hx
 have ndd:d∉ds:=λm=>by
  obtain⟨l,hl⟩:=X.fr.dct m
  rw[hl] at nd;cases nd
 refine q _ ⟨dx,ol,sl,fvs++[.ref x],ds++[d],by rw[aw n0];exact X1.at_,ae,by rw[aw X.ne.symm];exact X1.sp,X.ne,?_,lz X1.sm X.no,X.nw,X.no,X.ns,λa m=>?_,λc m=>?_,?_,dj X.saw,λf m=>?_⟩
 ·refine .snoc (f:=gG b k zs) (X1.fr.keep (λa m o e=>?_) λc m o e=>?_) nfx ndd (by rw[aw (fP gx X1.op (by intro z;cases z))];exact gx) (by rw[aw (fP gd X1.op (by intro z;cases z))];exact gd)
  ·obtain⟨dxb,l,hb',_⟩:=X1.fr.ins m
   rw[aw (fP hb' X1.op (by intro z;cases z))];exact e
  ·obtain⟨l,hl⟩:=X1.fr.dct m
   rw[aw (fP hl X1.op (by intro z;cases z))];exact e
 ·rcases aP.mp m with z|z
  ·exact X.nf a z
  ·have:=au.mp z
   injection this with this
   rw[this];exact H0x
 ·rcases aP.mp m with z|z
  ·exact X.nd c z
  ·rw[au.mp z];exact H0d
 ·rw[aD];exact Nat.succ_le_succ X.few
 ·rcases aP.mp m with z|z
  ·have:=X.nms f z;omega
  ·rw[au.mp z]
   show(fO [] ((b.params.map Sum.inr).zip (zs.map V.int))).length<=n+1+100
   have:=ke ((b.params.map Sum.inr).zip (zs.map V.int)) []
   simp only[iR,iS,ai] at this
   omega
theorem zP{K:Fg}(T:iJ K){vs:List V}{H:Hp}{Q:VK}{E:XK}(h:dq K vs H Q E):rV K {nx:=λ_ H'=>Q .non H',rt:=Q} (cN nP vs) H:=by
 obtain⟨w,dx,pp,q0,k,H0,zs,bs,b,rfl,hw,sm,nw,P,hb,hl,hq,q⟩:=h
 refine⟨_,rfl,w,dx,_,rfl,hw,T.run,λol sl H1 no ns os w1 o1 p1 B1=>?_⟩
 have hwq:q0≠w:=λz=>by rw[z,hw] at hq;rcases hq with z|z<;>cases z
 have q1:H1 q0=some (.lst (zs.map V.int))\/H1 q0=some (.tup (zs.map V.int)):=hq.imp (B1 _ _ hwq) (B1 _ _ hwq)
 have f0:∀{c:Addr},H c=none->H0 c=none:=λ{c} e=>by
  cases e0:H0 c with
  |none=>rfl
  |some o=>rw[sm _ _ e0] at e;cases e
 have s1:aS H0 H1:=λc o e=>B1 c o (ar e nw) (sm c o e)
 refine⟨_,rfl,_,rfl,w,_,dx,_,rfl,w1,T.clW,T.nWp,(by show 3<1000;decide),?_⟩
 have wo:ol≠w:=fP o1 w1 (by intro z;cases z)
 have ws:sl≠w:=fP p1 w1 (by intro z;cases z)
 have s3:aS H0 (upd H1 w (.ins (aR K "Walk") dx (L2.putF "program" (.ref pp) (JF ol sl)))):=lz s1 nw
 have w3:upd H1 w (.ins (aR K "Walk") dx (L2.putF "program" (.ref pp) (JF ol sl))) w=some (.ins (aR K "Walk") dx (MB pp ol sl .non)):=ae
 have o3:upd H1 w (.ins (aR K "Walk") dx (L2.putF "program" (.ref pp) (JF ol sl))) ol=some (.lst []):=by rw[aw wo];exact o1
 have p3:upd H1 w (.ins (aR K "Walk") dx (L2.putF "program" (.ref pp) (JF ol sl))) sl=some (.lst []):=by rw[aw ws];exact p1
 have q3:upd H1 w (.ins (aR K "Walk") dx (L2.putF "program" (.ref pp) (JF ol sl))) q0=some (.lst (zs.map V.int))\/upd H1 w (.ins (aR K "Walk") dx (L2.putF "program" (.ref pp) (JF ol sl))) q0=some (.tup (zs.map V.int)):=by rw[aw hwq];exact q1
 generalize upd H1 w (.ins (aR K "Walk") dx (L2.putF "program" (.ref pp) (JF ol sl)))=H3 at s3 w3 o3 p3 q3 ⊢
 refine⟨_,rfl,w,dx,_,rfl,w3,rfl,_,rfl,_,rfl,w,pp,q0,k,0,H0,⟨[],[],.non⟩,zs,bs,b,rfl,⟨dx,ol,sl,[],[],w3,o3,p3,os,.nil,s3,nw,f0 no,f0 ns,λa m=>by(cases m),λd m=>by(cases m),aC _,aC _,λf m=>by(cases m)⟩,P,hb,hl,q3,by decide,λH' X'=>q H' X'⟩
def MI(bs:List bf)(fs:List Fr)(f:Fr)(b:bf)(said:List Int)(st':jb):bP->Prop
 |.num x z=>st'=⟨fs++[⟨f.part,go b (f.row+1),put f.nm x z⟩],said,.non⟩
 |.op x s p q=>∃i j,u7 f.nm p i/\u7 f.nm q j/\st'=⟨fs++[⟨f.part,go b (f.row+1),put f.nm x (uY s i j)⟩],said,.non⟩
 |.say p=>∃i,u7 f.nm p i/\st'=⟨fs++[⟨f.part,go b (f.row+1),f.nm⟩],said++[i],.non⟩
 |.test p to=>∃i,u7 f.nm p i/\st'=⟨fs++[⟨f.part,if i=0 then go b (f.row+1) else go b to,f.nm⟩],said,.non⟩
 |.call _ k as=>∃(c:bf) (zs:List Int),bs[k]?=some c/\c.params.length=as.length/\zs.length=as.length/\(∀(j:Nat) y z,as[j]?=some y->zs[j]?=some z->u7 f.nm y z)/\st'=⟨fs++[f]++[gG c k zs],said,.non⟩
 |.give p=>∃i,u7 f.nm p i/\((fs=[]/\st'=⟨[],said,.int i⟩)\/∃(gs:List Fr) (g:Fr) (c:bf) (x:Str) (k:Nat) (as:List Str),fs=gs++[g]/\bs[g.part]?=some c/\c.rows[g.row]?=some (.call x k as)/\st'=⟨gs++[⟨g.part,go c (g.row+1),put g.nm x i⟩],said,.non⟩)
 |.jump _=>False
theorem yI.inv{bs:List bf}{st st':jb}(h:yI bs st st'):∃fs f b r,st=⟨fs++[f],st.said,.non⟩/\bs[f.part]?=some b/\b.rows[f.row]?=some r/\MI bs fs f b st.said st' r:=by
 cases h with
 |num hb hr=>exact⟨_,_,_,_,rfl,hb,hr,rfl⟩
 |op hb hr hi hj=>exact⟨_,_,_,_,rfl,hb,hr,_,_,hi,hj,rfl⟩
 |say hb hr hi=>exact⟨_,_,_,_,rfl,hb,hr,_,hi,rfl⟩
 |yes hb hr hi h0=>exact⟨_,_,_,_,rfl,hb,hr,_,hi,by rw[if_neg h0]⟩
 |no hb hr hi=>exact⟨_,_,_,_,rfl,hb,hr,_,hi,by rw[if_pos rfl]⟩
 |call hb hr hc hl hz hi=>exact⟨_,_,_,_,rfl,hb,hr,_,_,hc,hl,hz,hi,rfl⟩
 |last hb hr hi=>exact⟨[],_,_,_,rfl,hb,hr,_,hi,.inl ⟨rfl,rfl⟩⟩
 |give hb hr hi hc hg=>exact⟨_,_,_,_,rfl,hb,hr,_,hi,.inr ⟨_,_,_,_,_,_,rfl,hc,hg,rfl⟩⟩
theorem rh{nm:List (dB×V)}{y:Str}{i j:Int}(h:u7 nm y i)(h':u7 nm y j):i=j:=by
 have:=h.1.symm.trans h'.1
 injection this with this
 injection this
theorem eN.pop{K:Fg}{H0 H:Hp}{w pp dx ol sl a:Addr}{fvs:List V}{ds:List Addr}{n:Nat}{fs:List Fr}{f:Fr}{said:List Int}{out:V}(X:eN K H0 H w pp dx ol sl (fvs++[.ref a]) ds n ⟨fs++[f],said,out⟩) :
  ∃ds',eN K H0 (upd H ol (.lst fvs)) w pp dx ol sl fvs ds' n ⟨fs,said,out⟩:=by
 obtain⟨fvs',ds',a',dxa,d,e1,e2,hf,na,nd,ha,hd⟩:=X.fr.last
 obtain⟨rfl,_⟩:=ow e1
 have n0:w≠ol:=fP X.at_ X.op (by intro z;cases z)
 refine⟨ds',by rw[aw n0];exact X.at_,ae,by rw[aw X.ne.symm];exact X.sp,X.ne,hf.keep (λb hb o e=>?_) (λb hb o e=>?_),lz X.sm X.no,X.nw,X.no,X.ns,λb m=>X.nf b (aW _ m),λb m=>X.nd b (by rw[e2];exact aW _ m),?_,X.saw,λg hg=>X.nms g (aW _ hg)⟩
 ·obtain⟨dxb,l,hb',_⟩:=hf.ins hb
  rw[aw (fP hb' X.op (by intro z;cases z))];exact e
 ·obtain⟨l,hl⟩:=hf.dct hb
  rw[aw (fP hl X.op (by intro z;cases z))];exact e
 ·have:=X.few
  rw[aD] at this
  exact Nat.le_of_succ_le this
theorem eN.gives{K:Fg}{H0 H:Hp}{w pp dx ol sl:Addr}{fvs:List V}{ds:List Addr}{n:Nat}{fs:List Fr}{said:List Int}{out:V}(X:eN K H0 H w pp dx ol sl fvs ds n ⟨fs,said,out⟩)(v:V) :
  eN K H0 (upd H w (.ins (aR K "Walk") dx (MB pp ol sl v))) w pp dx ol sl fvs ds n ⟨fs,said,v⟩:=by
 refine⟨ae,by rw[aw (fP X.op X.at_ (by intro z;cases z))];exact X.op,by rw[aw (fP X.sp X.at_ (by intro z;cases z))];exact X.sp,X.ne,X.fr.keep (λb hb o e=>?_) (λb hb o e=>?_),lz X.sm X.nw,X.nw,X.no,X.ns,X.nf,X.nd,X.few,X.saw,X.nms⟩
 ·obtain⟨dxb,l,hb',p,r,d,rfl⟩:=X.fr.ins hb
  rw[aw (λz=>by rw[z,X.at_] at hb';injection hb' with hb';exact Jz hb'.symm)];exact e
 ·obtain⟨l,hl⟩:=X.fr.dct hb
  rw[aw (fP hl X.at_ (by intro z;cases z))];exact e
theorem Hc{α:Type}{xs:List α}{x:α}:EH (xs++[x]) (-1)=some x:=by
 unfold EH Ff
 rw[if_neg (by decide),aD,cc,if_pos (by omega)]
 show(xs++[x])[_]?=_
 have:((-1:Int)+((xs.length+1:Nat):Int)).toNat=xs.length:=by omega
 rw[this,bj (aC _),eZ];rfl
theorem Fe{K:Fg}{p:Addr}{xs:List V}{v:V}{H:Hp}{Q:VK}(h:H p=some (.lst (xs++[v])))(q:Q v H):cQ K (.ref p) (.int (-1)) H Q:=.inl ⟨p,_,_,v,rfl,rfl,bZ.of h,Hc,q⟩
theorem mn.last'{K:Fg}{H:Hp}{fvs:List V}{ds:List Addr}{fs:List Fr}{f:Fr}(h:mn K H fvs ds (fs++[f])):∃fvs' a,fvs=fvs'++[.ref a]:=by
 obtain⟨fvs',ds',a,dx,d,e,_⟩:=h.last
 exact⟨fvs',a,e⟩
theorem Ca{H:Hp}{pp:Addr}{bs:List bf}{k n:Nat}{b:bf}{r:bP}(P:hU H pp bs)(hb:bs[k]?=some b)(hr:b.rows[n]?=some r):∃pvs pt pa rt rvs v,H pp=some (.tup pvs)/\pvs[((k:Nat):Int).toNat]?=some (.ref pt)/\H pt=some (.tup [.str b.name,.ref pa,.ref rt])/\H rt=some (.tup rvs)/\rvs[((n:Nat):Int).toNat]?=some v/\eD H v r:=by
 obtain⟨pvs,pt,pa,rt,rvs,h1,e1,h2,_,h3,hR⟩:=rC P hb
 obtain⟨v,r',e2,e3,ra⟩:=hR.get (aj.mp hr).1
 rw[hr] at e3;cases e3
 exact⟨pvs,pt,pa,rt,rvs,v,h1,e1,h2,h3,by simpa using e2,ra⟩
theorem yt{K:Fg}(T:iJ K){vs:List V}{H:Hp}{Q:VK}{E:XK}(h:fJ K vs H Q E):qT K {nx:=λ_ H'=>Q .non H',rt:=Q} (cN mQ vs) H:=by
 obtain⟨w,pp,i,n,H0,st,st',bs,f,b,p,rfl,⟨dx,ol,sl,fvs,ds,X⟩,P,hn,hi,hst,q⟩:=h
 have fsl:∃fs,st=⟨fs++[f],st.said,.non⟩:=by
  rcases hst with⟨e,_⟩|⟨fs,g,c,x,k,as,e,_⟩
  ·exact⟨[],e⟩
  ·exact⟨_,e⟩
 obtain⟨fs,est⟩:=fsl
 obtain⟨sfs,said,out⟩:=st
 simp only[jb.mk.injEq,true_and] at est hst
 obtain⟨rfl,rfl⟩:=est
 obtain⟨fvs',a,rfl⟩:=X.fr.last'
 obtain⟨ds',X1⟩:=X.pop
 refine⟨_,rfl,w,_,dx,_,_,rfl,X.at_,T.clW,T.nWo,rfl,.inl ⟨rfl,_,bZ.of X.op⟩,ol,_,.ref a,rfl,rfl,X.op,?_,?_⟩
 ·rw[aD,cc,Nat.add_sub_cancel,bj (aC _),eZ];rfl
 rw[bI]
 refine⟨_,rfl,w,dx,_,rfl,X1.at_,rfl,cJ (j5 T ⟨w,pp,H0,n,_,rfl,⟨dx,ol,sl,_,_,X1⟩,λbb hbb=>⟨bb,rfl,?_⟩⟩)⟩
 rcases hst with⟨⟨e,_⟩,rfl⟩|⟨gs,g,c,x,k,as,⟨e,_⟩,hc,hg,rfl⟩
 ·have:fs=[]:=List.append_left_eq_self.mp e
  subst this
  refine tR (hbb.mpr rfl) ⟨_,rfl,_,rfl,w,_,dx,_,rfl,X1.at_,T.clW,T.nWu,(by show 4<1000;decide),?_⟩
  exact q _ ⟨dx,ol,sl,_,_,(X1.gives (.int i)).up (eC n)⟩
 ·obtain⟨rfl,_⟩:=ow e
  refine u9 (Bool.eq_false_iff.mpr λz=>absurd (hbb.mp z) (by simp)) ?_
  obtain⟨fv2,a2,rfl⟩:=X1.fr.last'
  generalize upd H ol (.lst (fv2++[.ref a2]))=H1 at X1 ⊢
  refine⟨_,rfl,w,_,dx,_,_,rfl,X1.at_,T.clW,T.nWo,rfl,_,rfl,Fe X1.op ?_⟩
  show oA K _ [some (.ref w),some (.int i),some (.ref a2)] H1
  obtain⟨dxa,d,ha,hd,ln,_,_⟩:=X1.last
  obtain⟨pvs,pt,pa,rt,rvs,v,h1,e1,h2,h3,e2,ra⟩:=Ca (P.same X1.sm) hc hg
  refine⟨_,rfl,_,rfl,a2,_,dxa,_,_,rfl,ha,T.clF,T.nFn,rfl,?_⟩
  refine⟨_,rfl,w,_,dx,_,_,rfl,X1.at_,T.clW,T.nWp,rfl,_,rfl,a2,_,dxa,_,_,rfl,ha,T.clF,T.nFp,rfl,cH h1 (by omega) e1 (cH h2 (by decide) rfl ⟨_,rfl,a2,_,dxa,_,_,rfl,ha,T.clF,T.nFr,rfl,cH h3 (by omega) e2 ⟨v,_,rfl,ra,λH2 s2=>?_⟩⟩)⟩
  have X2:=X1.same s2
  obtain⟨dxb,d2,ha',hd',_,_,nms⟩:=X2.last
  have ed:d2=d:=by
   have:=(s2 _ _ ha).symm.trans ha'
   injection this with this
   injection this with _ _ this
   injection this with _ this
   injection this with _ this
   injection this with this _
   injection this with _ this
   injection this with this
   exact this.symm
  subst ed
  refine⟨d2,_,rfl,u2.k (k:=Sum.inr x) hd' (cR (by omega)),?_⟩
  have X3:=nms (put g.nm x i) (ia _ _ _)
  show oz K _ [some (.ref w),some (.int i),some (.ref a2)] (upd H2 d2 (.dK (put g.nm x i)))
  generalize upd H2 d2 (.dK (put g.nm x i))=H3 at X3 ⊢
  obtain⟨dxc,d3,ha3,_⟩:=X3.last
  have gl:=(P.good c (az hc)).inr g.row (g.row+1) _ hg (by unfold cy;exact ay)
  refine⟨_,rfl,w,dx,_,rfl,X3.at_,rfl,_,rfl,_,rfl,a2,_,dxc,_,_,rfl,ha3,T.clF,T.nFr,rfl,.inl ⟨_,_,rfl,rfl,?_⟩⟩
  refine⟨w,pp,a2,dx,ol,sl,g.row+1,n+1,H0,fv2,_,gs,_,said,_,bs,c,?_,X3,P,hc,gl,λH' X'=>q H' ⟨dx,ol,sl,_,_,X'⟩⟩
  rfl
theorem oH{K:Fg}(T:iJ K){w pp a dx ol sl:Addr}{rv tk:V}{to n:Nat}{H0 H:Hp}{fvs:List V}{ds:List Addr}{fs:List Fr}{f:Fr}{said:List Int}{bs:List bf}{b:bf}{nx:St->Hp->Prop}{Q:VK}(X:eN K H0 H w pp dx ol sl (fvs++[.ref a]) ds n ⟨fs++[f],said,.non⟩)(P:hU H0 pp bs)(hb:bs[f.part]?=some b)(tl:to<b.rows.length)
  (q:∀H',dz K H0 H' w pp n ⟨fs++[⟨f.part,go b to,f.nm⟩],said,.non⟩->nx [some (.ref w),some (.ref a),some rv,some tk,some (.int (to:Nat))] H') :
  ma K {nx:=nx,rt:=Q} [some (.ref w),some (.ref a),some rv,some tk,some (.int (to:Nat))] H:=
 ⟨_,rfl,w,dx,_,rfl,X.at_,rfl,_,rfl,_,rfl,w,pp,a,dx,ol,sl,to,n,H0,fvs,_,fs,_,said,_,bs,b,rfl,X,P,hb,tl,λH' X'=>q H' ⟨dx,ol,sl,_,_,X'⟩⟩
theorem zR{K:Fg}(T:iJ K){vs:List V}{H:Hp}{Q:VK}{E:XK}(h:gy K vs H Q E):rX K {nx:=λ_ H'=>Q .non H',rt:=Q} (cN nQ vs) H:=by
 obtain⟨w,pp,a,dx,ol,sl,tk,rv,r,n,H0,fvs,ds,fs,f,said,zs,bs,b,st',rfl,X,P,hn,hb,hr,ra,wk,htk,hzl,hz,hs,q⟩:=h
 obtain⟨dxa,d,ha,hd,ln,_,nms⟩:=X.last
 obtain⟨fs',f',b',r',est,hb',hr',R⟩:=hs.inv
 obtain⟨e1,e2⟩:=ow (jb.mk.inj est).1
 subst e1 e2
 rw[hb] at hb';cases hb'
 rw[hr] at hr';cases hr'
 have good:=P.good b (az hb)
 refine⟨_,rfl,a,_,dxa,_,_,rfl,ha,T.clF,T.nFr,rfl,.inl ⟨_,_,rfl,rfl,?_⟩⟩
 show pC K _ [some (.ref w),some (.ref a),some rv,some (.ref tk),some (.int ((f.row+1:Nat):Int))] H
 have ra':=ra.mono (.of_same X.sm)
 cases r with
 |call x k as=>cases wk
 |give p=>cases wk
 |jump to=>cases wk
 |num x z=>
  obtain⟨p,rfl,hp⟩:=ra'
  have gl:=good.inr f.row (f.row+1) _ hr (by unfold cy;exact ay)
  refine⟨_,rfl,cH hp (by decide) rfl (.inl ⟨rfl,_,rfl,yes ?_⟩)⟩
  refine⟨_,rfl,cH hp (by decide) rfl ⟨_,rfl,a,_,dxa,_,_,rfl,ha,T.clF,T.nFn,rfl,_,rfl,cH hp (by decide) rfl ⟨d,_,rfl,u2.k (k:=Sum.inr x) hd (cR (by omega)),?_⟩⟩⟩
  have R':st'=_:=R
  subst R'
  exact oH T (nms (put f.nm x z) (ia _ _ _)) P hb gl λH' X'=>q H' X'
 |op x s p1 p2=>
  obtain⟨p,rfl,hp⟩:=ra'
  have gl:=good.inr f.row (f.row+1) _ hr (by unfold cy;exact ay)
  obtain⟨i,j,gi,gj,R'⟩:=R
  subst R'
  have ez:zs=[i,j]:=by
   match zs,hzl,hz with
   |[u,v],_,hz=>
    rw[rh (hz 0 p1 u rfl rfl) gi,rh (hz 1 p2 v rfl rfl) gj]
  subst ez
  refine⟨_,rfl,cH hp (by decide) rfl (.inl ⟨rfl,_,rfl,no (by intro z;cases z) ?_⟩)⟩
  refine⟨_,rfl,cH hp (by decide) rfl (.inl ⟨rfl,_,rfl,yes ?_⟩)⟩
  refine⟨_,rfl,cH hp (by decide) rfl ⟨_,rfl,mf (bZ.of htk) (by decide) rfl ⟨_,rfl,mf (bZ.of htk) (by decide) rfl ⟨s,i,j,rfl,gi.2,gj.2,?_⟩⟩⟩⟩
  refine⟨_,rfl,a,_,dxa,_,_,rfl,ha,T.clF,T.nFn,rfl,_,rfl,cH hp (by decide) rfl ⟨d,_,rfl,u2.k (k:=Sum.inr x) hd (cR (by omega)),?_⟩⟩
  exact oH T (nms (put f.nm x (uY s i j)) (ia _ _ _)) P hb gl λH' X'=>q H' X'
 |say p1=>
  obtain⟨p,rfl,hp⟩:=ra'
  have gl:=good.inr f.row (f.row+1) _ hr (by unfold cy;exact ay)
  obtain⟨i,gi,R'⟩:=R
  subst R'
  have ez:zs=[i]:=by
   match zs,hzl,hz with
   |[u],_,hz=>rw[rh (hz 0 p1 u rfl rfl) gi]
  subst ez
  refine⟨_,rfl,cH hp (by decide) rfl (.inl ⟨rfl,_,rfl,no (by intro z;cases z) ?_⟩)⟩
  refine⟨_,rfl,cH hp (by decide) rfl (.inl ⟨rfl,_,rfl,no (by intro z;cases z) ?_⟩)⟩
  refine⟨_,rfl,cH hp (by decide) rfl (.inl ⟨rfl,_,rfl,yes ?_⟩)⟩
  refine⟨_,rfl,w,_,dx,_,_,rfl,X.at_,T.clW,T.nWs,rfl,.inl ⟨rfl,_,bZ.of X.sp⟩,_,rfl,mf (bZ.of htk) (by decide) rfl ⟨sl,_,_,rfl,rfl,X.sp,cR (by rw[ai];have:=X.saw;have:said.length<=n:=this;omega),?_⟩⟩
  exact oH T (X.say i) P hb gl λH' X'=>q H' X'
 |test p1 to=>
  obtain⟨p,rfl,hp⟩:=ra'
  have gl:=good.inr f.row (f.row+1) _ hr (by unfold cy;exact ay)
  have gt:=good.inr f.row to _ hr (by unfold cy;exact bU _ ay)
  obtain⟨i,gi,R'⟩:=R
  have ez:zs=[i]:=by
   match zs,hzl,hz with
   |[u],_,hz=>rw[rh (hz 0 p1 u rfl rfl) gi]
  subst ez
  refine⟨_,rfl,cH hp (by decide) rfl (.inl ⟨rfl,_,rfl,no (by intro z;cases z) ?_⟩)⟩
  refine⟨_,rfl,cH hp (by decide) rfl (.inl ⟨rfl,_,rfl,no (by intro z;cases z) ?_⟩)⟩
  refine⟨_,rfl,cH hp (by decide) rfl (.inl ⟨rfl,_,rfl,no (by intro z;cases z) ?_⟩)⟩
  refine⟨_,rfl,cH hp (by decide) rfl (.inl ⟨rfl,_,rfl,yes ?_⟩)⟩
  refine⟨_,rfl,mf (bZ.of htk) (by decide) rfl (.inl ⟨rfl,_,rfl,Bw (λh0=>?_) λh0=>?_⟩)⟩
  ·rw[if_neg (λz=>h0 (by rw[z]))] at R'
   subst R'
   refine⟨_,rfl,.ref p,.test p1 to,rfl,⟨p,rfl,hp⟩,?_⟩
   show ma K _ [some (.ref w),some (.ref a),some (.ref p),some (.ref tk),some (.int (to:Nat))] H
   exact oH T (X.up (eC n)) P hb gt λH' X'=>q H' X'
  ·rw[if_pos (V.int.inj h0)] at R'
   subst R'
   exact oH T (X.up (eC n)) P hb gl λH' X'=>q H' X'
theorem MI.taken{bs:List bf}{fs:List Fr}{f:Fr}{b:bf}{said:List Int}{st':jb}{r:bP}(h:MI bs fs f b said st' r):∃zs:List Int,zs.length=(dF r).length/\∀(j:Nat) y z,(dF r)[j]?=some y->zs[j]?=some z->u7 f.nm y z:=by
 cases r with
 |num x z=>exact⟨[],rfl,λj y z h=>by simp[dF] at h⟩
 |op x s p q=>
  obtain⟨i,j,gi,gj,_⟩:=h
  refine⟨[i,j],rfl,λn y z hy hz=>?_⟩
  match n with
  |0=>cases hy;cases hz;exact gi
  |1=>cases hy;cases hz;exact gj
  |n+2=>simp[dF] at hy
 |say p=>
  obtain⟨i,gi,_⟩:=h
  refine⟨[i],rfl,λn y z hy hz=>?_⟩
  match n with
  |0=>cases hy;cases hz;exact gi
  |n+1=>simp[dF] at hy
 |test p to=>
  obtain⟨i,gi,_⟩:=h
  refine⟨[i],rfl,λn y z hy hz=>?_⟩
  match n with
  |0=>cases hy;cases hz;exact gi
  |n+1=>simp[dF] at hy
 |call x k as=>
  obtain⟨c,zs,_,_,hl,hz,_⟩:=h
  exact⟨zs,hl,hz⟩
 |give p=>
  obtain⟨i,gi,_⟩:=h
  refine⟨[i],rfl,λn y z hy hz=>?_⟩
  match n with
  |0=>cases hy;cases hz;exact gi
  |n+1=>simp[dF] at hy
 |jump to=>exact h.elim
theorem zQ{K:Fg}(T:iJ K){vs:List V}{H:Hp}{Q:VK}{E:XK}(h:dI K vs H Q E):rW K {nx:=λ_ H'=>Q .non H',rt:=Q} (cN lN vs) H:=by
 obtain⟨w,pp,n,H0,st,st',bs,rfl,⟨dx,ol,sl,fvs,ds,X⟩,P,hn,hs,q⟩:=h
 refine Or.elim (Or.symm hs) (λhe=>?_) λhs=>?_
 ·obtain⟨e0,rfl⟩:=he
  refine⟨_,rfl,w,dx,_,rfl,X.at_,rfl,cJ (j5 T ⟨w,pp,H0,n,_,rfl,⟨dx,ol,sl,_,_,X⟩,λbb hbb=>⟨bb,rfl,tR (hbb.mpr e0) ?_⟩⟩)⟩
  exact q H ⟨dx,ol,sl,fvs,ds,⟨X.at_,X.op,X.sp,X.ne,X.fr,X.sm,X.nw,X.no,X.ns,X.nf,X.nd,dj X.few,dj X.saw,λf hf=>by have:=X.nms f hf;lia⟩⟩
 have hs':=hs
 obtain⟨fs,f,b,r,est,hb,hr,R⟩:=hs.inv
 obtain⟨sfs,said,out⟩:=st
 simp only[jb.mk.injEq,true_and] at est
 obtain⟨rfl,rfl⟩:=est
 obtain⟨fvs',a,rfl⟩:=X.fr.last'
 refine⟨_,rfl,w,dx,_,rfl,X.at_,rfl,cJ (j5 T ⟨w,pp,H0,n,_,rfl,⟨dx,ol,sl,_,_,X⟩,λbb hbb=>⟨bb,rfl,u9 (Bool.eq_false_iff.mpr λz=>absurd (hbb.mp z) (by simp)) ?_⟩⟩)⟩
 refine⟨_,rfl,w,_,dx,_,_,rfl,X.at_,T.clW,T.nWo,rfl,_,rfl,Fe X.op ?_⟩
 show pB K _ [some (.ref w),some (.ref a),none,none] H
 obtain⟨dxa,d,ha,hd,ln,_,_⟩:=X.last
 obtain⟨pvs,pt,pa,rt,rvs,v,h1,e1,h2,h3,e2,ra⟩:=Ca (P.same X.sm) hb hr
 obtain⟨pvs0,pt0,pa0,rt0,rvs0,v0,k1,f1,k2,k3,f2,ra0⟩:=Ca P hb hr
 have ev:v0=v:=by
  have z1:=(X.sm _ _ k1).symm.trans h1;cases z1
  have z2:=f1.symm.trans e1;cases z2
  have z3:=(X.sm _ _ k2).symm.trans h2;cases z3
  have z4:=(X.sm _ _ k3).symm.trans h3;cases z4
  have z5:=f2.symm.trans e2;cases z5
  rfl
 subst ev
 refine⟨_,rfl,w,_,dx,_,_,rfl,X.at_,T.clW,T.nWp,rfl,_,rfl,a,_,dxa,_,_,rfl,ha,T.clF,T.nFp,rfl,cH h1 (by omega) e1 (cH h2 (by decide) rfl ⟨_,rfl,a,_,dxa,_,_,rfl,ha,T.clF,T.nFr,rfl,cH h3 (by omega) e2 ?_⟩)⟩
 show pA K _ [some (.ref w),some (.ref a),some v0,none] H
 obtain⟨zs,hzl,hz⟩:=R.taken
 refine .inr ⟨_,rfl,v0,r,rfl,ra,λt H1 ht s1=>⟨t,rfl,⟨_,eU.of ht⟩,λL hL=>?_⟩⟩
 refine nZ (xs:=(dF r).map V.str) (λj σ' H'=>∃(o:Option V),σ'=[some (.ref w),some (.ref a),some v0,none,o]/\H' L=some (.lst ((zs.take j).map V.int))/\aS H1 H') ?_ ?_ ?_ ?_
 ·exact⟨none,rfl,ae,(aS.refl H1).new hL⟩
 ·rintro j σ' H' _ ⟨o,_,_,s'⟩
  exact eU.of (s' _ _ ht)
 ·rintro j x σ' H' hx ⟨o,rfl,hl,s'⟩
  rw[ba] at hx
  cases hy:(dF r)[j]? with
  |none=>rw[hy] at hx;cases hx
  |some y=>
  rw[hy] at hx
  have hx':V.str y=x:=Option.some.inj hx
  subst hx'
  have jl:j<zs.length:=by rw[hzl];exact(aj.mp hy).1
  have hzj:zs[j]?=some zs[j]:=ab jl
  have gj:=hz j y _ hy hzj
  have S:=s1.trans s'
  have few:zs.length<=100:=by
   rw[hzl]
   cases r with
   |call x k as=>
    obtain⟨c,zs2,hc,hl2,_⟩:=R
    have:=P.few c (az hc)
    show as.length<=100
    omega
   |_=>simp[dF]
  refine kc ⟨_,rfl,a,_,dxa,_,_,rfl,S _ _ ha,T.clF,T.nFn,rfl,_,rfl,d,.int zs[j],rfl,?_,_,hl,cR (by rw[ai,bG];omega),_,rfl,?_,?_⟩
  ·have:=sv.k (k:=Sum.inr y) (S _ _ hd)
   rw[gj.1] at this
   exact this
  ·rw[ae,<-List.take_append_getElem jl,bw];rfl
  ·intro b u hb2
   have nb:b≠L:=ar hb2 hL
   rw[aw nb];exact s' b u hb2
 ·rintro σ' H2 ⟨o,_,hl,s2⟩
  rw[ai,<-hzl,ip] at hl
  have S2:=s1.trans s2
  have X2:=X.same S2
  show px K _ [some (.ref w),some (.ref a),some v0,some (.ref L)] H2
  have ra2:=ra.mono (.of_same S2)
  have X2':eN K H0 H2 w pp dx ol sl (fvs'++[.ref a]) ds n ⟨fs++[f],said,.non⟩:=X2
  clear X2
  by_cases wk:Fd r=true
  ·obtain⟨p,xs,rfl,hp⟩:=ra2.ref
   have n1:¬V.str (qX r)=V.str "call":=by cases r<;>first|(cases wk;done)|(intro z;cases z)
   have n2:¬V.str (qX r)=V.str "give":=by cases r<;>first|(cases wk;done)|(intro z;cases z)
   refine⟨_,rfl,cH hp (by decide) rfl (.inl ⟨rfl,_,rfl,no n1 ?_⟩)⟩
   refine⟨_,rfl,cH hp (by decide) rfl (.inl ⟨rfl,_,rfl,no n2 ?_⟩)⟩
   exact⟨_,rfl,w,dx,_,rfl,X2'.at_,rfl,_,rfl,_,rfl,_,rfl,w,pp,a,dx,ol,sl,L,.ref p,r,n,H0,fvs',ds,fs,f,said,zs,bs,b,st',rfl,X2',P,hn,hb,hr,ra0,wk,hl,hzl,hz,hs,q⟩
  cases r with
  |num x z=>exact absurd rfl wk
  |op x s p1 p2=>exact absurd rfl wk
  |say p1=>exact absurd rfl wk
  |test p1 to=>exact absurd rfl wk
  |jump to=>exact R.elim
  |call x k as=>
   obtain⟨p,q1,rfl,hp,hq1⟩:=ra2
   obtain⟨c,zs2,hc,hl2,hz2,gz2,rfl⟩:=R
   have ez:zs=zs2:=by
    apply List.ext_getElem (by rw[hz2];exact hzl)
    intro j j1 j2
    have ja:j<as.length:=by rw[<-hz2];exact j2
    have g1:=hz j as[j] zs[j] (ab ja) (ab j1)
    have g2:=gz2 j as[j] zs2[j] (ab ja) (ab j2)
    exact rh g1 g2
   subst ez
   refine⟨_,rfl,cH hp (by decide) rfl (.inl ⟨rfl,_,rfl,yes ?_⟩)⟩
   exact⟨_,rfl,w,dx,_,rfl,X2'.at_,rfl,_,rfl,cH hp (by decide) rfl ⟨_,rfl,w,pp,L,k,n,H0,⟨fs++[f],said,.non⟩,zs,bs,c,rfl,⟨dx,ol,sl,_,_,X2'⟩,P,hc,by rw[hl2,hz2],.inl hl,hn,q⟩⟩
  |give p1=>
   obtain⟨p,rfl,hp⟩:=ra2
   obtain⟨i,gi,hR⟩:=R
   have ez:zs=[i]:=by
    match zs,hzl,hz with
    |[u],_,hz=>rw[rh (hz 0 p1 u rfl rfl) gi]
   subst ez
   refine⟨_,rfl,cH hp (by decide) rfl (.inl ⟨rfl,_,rfl,no (by intro z;cases z) ?_⟩)⟩
   refine⟨_,rfl,cH hp (by decide) rfl (.inl ⟨rfl,_,rfl,yes ?_⟩)⟩
   refine⟨_,rfl,w,dx,_,rfl,X2'.at_,rfl,_,rfl,mf (bZ.of hl) (by decide) rfl ⟨w,pp,i,n,H0,⟨fs++[f],said,.non⟩,st',bs,f,b,p1,rfl,⟨dx,ol,sl,_,_,X2'⟩,P,hn,gi.2,?_,q⟩⟩
   rcases hR with⟨rfl,rfl⟩|⟨gs,g,c,x,k,as,rfl,hc,hg,rfl⟩
   ·exact .inl ⟨rfl,rfl⟩
   ·exact .inr ⟨gs,g,c,x,k,as,rfl,hc,hg,rfl⟩
theorem Ea{te:TE}{D:nN}{σ:St}{H:Hp}(h:te σ H D.rt):cU te D σ H:=h
theorem Ch.seq{bs:List bf}{m:Nat}{st st':jb}(h:Ch bs m st st'):∃s:Nat->jb,s 0=st/\s m=st'/\∀j,j<m->(s j).fs≠[]/\yI bs (s j) (s (j+1)):=by
 induction h with
 |nil=>exact⟨λ_=>_,rfl,rfl,λj h=>absurd h (gF j)⟩
 |@snoc n st st1 st2 h ne s ih=>
  obtain⟨f,f0,f1,f2⟩:=ih
  refine⟨λj=>if j<=n then f j else st2,by simp[f0],if_neg (by omega),λj hj=>?_⟩
  by_cases c:j=n
  ·subst c
   dsimp only
   rw[if_pos (aC _),if_neg (by omega),f1]
   exact⟨ne,s⟩
  ·have jn:j<n:=by omega
   dsimp only
   rw[if_pos (by omega),if_pos (by omega)]
   exact f2 j jn
theorem zS{K:Fg}(T:iJ K){vs:List V}{H:Hp}{Q:VK}{E:XK}(h:gA K vs H Q E):rY K {nx:=λ_ H'=>Q .non H',rt:=Q} (cN nR vs) H:=by
 obtain⟨w,pp,most,m,H0,bs,st0,st,rfl,X1,P,hm,ch,mm,hst,q⟩:=h
 obtain⟨s,s0,s1,ss⟩:=ch.seq
 refine⟨λu σ' H'=>∃j,j<=m/\u=m-j/\σ'=[some (.ref w),some (.int (most:Nat)),some (.int (j:Nat)),none]/\dz K H0 H' w pp (j+1) (s j),⟨m,0,cA _,rfl,rfl,by rw[s0];exact X1⟩,?_⟩
 rintro u σ' H' ⟨j,hj,rfl,rfl,X⟩
 obtain⟨dx,ol,sl,fvs,ds,X'⟩:=X
 by_cases jm:j<m
 ·obtain⟨ne1,sp1⟩:=ss j jm
  refine⟨_,rfl,_,rfl,_,_,rfl,rfl,_,rfl,tR (decide_eq_true (by omega)) ?_⟩
  refine⟨_,rfl,w,dx,_,rfl,X'.at_,rfl,cJ (j5 T ⟨w,pp,H0,_,_,rfl,⟨dx,ol,sl,_,_,X'⟩,λbb hbb=>⟨bb,rfl,?_⟩⟩)⟩
  have:bb=false:=Bool.eq_false_iff.mpr λz=>ne1 (hbb.mp z)
  subst this
  refine za ⟨λσ2 H2=>σ2=[some (.ref w),some (.int (most:Nat)),some (.int ((j+1:Nat):Int)),none]/\dz K H0 H2 w pp (j+2) (s (j+1)),?_,?_⟩
  ·rintro σ2 H2 ⟨rfl,X2⟩
   exact⟨m-(j+1),by omega,j+1,jm,rfl,rfl,X2⟩
  ·refine⟨_,rfl,w,dx,_,rfl,X'.at_,rfl,w,pp,j+1,H0,s j,s (j+1),bs,rfl,⟨dx,ol,sl,_,_,X'⟩,P,by omega,.inl sp1,λH2 X2=>?_⟩
   exact⟨_,rfl,_,_,rfl,rfl,rfl,X2⟩
 ·have ej:j=m:=by omega
  subst ej
  rw[s1] at X'
  refine⟨_,rfl,_,rfl,_,_,rfl,rfl,_,rfl,?_⟩
  have fin:pE K {nx:=λ_ H'=>Q .non H',rt:=Q} [some (.ref w),some (.int (most:Nat)),some (.int (j:Nat)),none] H':=by
   refine⟨_,rfl,w,dx,_,rfl,X'.at_,rfl,cJ (j5 T ⟨w,pp,H0,_,_,rfl,⟨dx,ol,sl,_,_,X'⟩,λbb hbb=>⟨bb,rfl,?_⟩⟩)⟩
   have key:∀(v:Str),v=oG st->pD K {nx:=λ_ H'=>Q .non H',rt:=Q} [some (.ref w),some (.int (most:Nat)),some (.int (j:Nat)),some (.str v)] H':=by
    intro v ev
    refine⟨_,rfl,_,rfl,w,dx,_,rfl,X'.at_,rfl,cJ (w6 T ⟨w,pp,H0,_,_,rfl,⟨dx,ol,sl,_,_,X'⟩,λl nl=>?_⟩)⟩
    have sl1:=(aS.refl H').new (o:=.lst (st.said.map V.int)) nl
    have X2:=X'.same sl1
    refine⟨_,rfl,w,dx,_,rfl,X2.at_,rfl,cJ (oF T ⟨w,pp,H0,_,_,rfl,⟨dx,ol,sl,_,_,X2⟩,_,rfl,by show 4<=sizeLine;decide,λp np=>?_⟩)⟩
    have Hl:H0 l=none:=by
     cases e:H0 l with
     |none=>rfl
     |some o=>rw[X'.sm _ _ e] at nl;cases nl
    refine q p l _ (by rw[ae,ev]) ?_ Hl (X2.sm.trans ((aS.refl _).new np))
    rw[aw (λz=>by rw[<-z,ae] at np;cases np),ae]
   refine v5 (λe=>?_) λe=>?_
   ·exact key "given" (by unfold oG;rw[hbb.mp e];rfl)
   ·refine key "spent" ?_
    unfold oG
    have:st.fs≠[]:=λz=>by rw[hbb.mpr z] at e;cases e
    rw[if_neg (by simpa using this)]
  by_cases c:j<most
  ·refine tR (decide_eq_true (by omega)) ?_
   refine⟨_,rfl,w,dx,_,rfl,X'.at_,rfl,cJ (j5 T ⟨w,pp,H0,_,_,rfl,⟨dx,ol,sl,_,_,X'⟩,λbb hbb=>⟨bb,rfl,?_⟩⟩)⟩
   have:bb=true:=hbb.mpr (hst.resolve_right (by omega))
   subst this
   exact jX fin
  ·exact u9 (decide_eq_false (by omega)) (jX fin)
theorem Jd{K:Fg}(T:iJ K){vs:List V}{H:Hp}{Q:VK}{E:XK}(h:fE K vs H Q E):De K {nx:=λ_ H'=>Q .non H',rt:=Q} (cN xm vs) H:=by
 obtain⟨pp,q0,k,most,m,zs,bs,b,st,rfl,P,hb,hl,hq,hm,ch,mm,hst,q⟩:=h
 refine Ea ⟨_,rfl,_,rfl,_,rfl,λw dxw nw ndx ne=>?_⟩
 have S0:aS H (upd (upd H dxw (.own w)) w (.ins (aR K "Walk") dxw [])):=(aS.new (aS.refl H) ndx).trans ((aS.refl _).new (by rw[aw (Ne.symm ne)];exact nw))
 refine⟨w,dxw,pp,q0,k,H,zs,bs,b,rfl,ae,S0,nw,P,hb,hl,hq.imp (S0 _ _) (S0 _ _),λH1 X1=>⟨rfl,?_⟩⟩
 exact⟨_,rfl,w,pp,most,m,H,bs,_,st,rfl,X1,P,hm,ch,mm,hst,q⟩
theorem uT{t:TA}{σ:St}{H:Hp}{Q:VK}(h:t σ H λxs H1=>xs.length<=sizeLine/\∀p,H1 p=none->Q (.ref p) (upd H1 p (.tup xs))):gR t σ H Q:=h
theorem EG{te:TE}{g:TG}{u:TS}{D:nN}{σ:St}{H:Hp}(h:te σ H λx H1=>g x σ H1 (u D)):bo (bO te g) u D σ H:=h
theorem qC{te:TE}{D:nN}{σ:St}{H:Hp}(h:te σ H D.rt):cU te D σ H:=h
theorem jW{ta:TE}{tr:TA}{σ:St}{H:Hp}{Q:List V->Hp->Prop}(h:ta σ H λx H1=>tr σ H1 λxs H2=>Q (x::xs) H2):af ta tr σ H Q:=h
theorem tK{i:Nat}{v:V}{tr:TA}{σ:St}{H:Hp}{Q:List V->Hp->Prop}(e:σ[i]?=some (some v))(h:tr σ H λxs H2=>Q (v::xs) H2):af (ah i) tr σ H Q:=⟨v,e,h⟩
theorem Lb{K:Fg}{vs:List V}{H:Hp}{Q:VK}{E:XK}(h:lS K vs H Q E):Gw K {nx:=λ_ H'=>Q .non H',rt:=Q} (cN xj vs) H:=by
 obtain⟨st,pp,k,m,ys,cs,bs,b,rfl,S,hk,P,hb,hl,q⟩:=h
 obtain⟨pvs,pt,pa,rt,rvs,h1,e1,h2,h3,h4,hR⟩:=P.rows hb
 refine .inr ⟨_,rfl,_,rfl,cH h1 (by lia) e1 (cH h2 (by decide) rfl ⟨pa,rfl,⟨_,eU.of h3⟩,λD hD=>?_⟩)⟩
 have nD:D≠st:=λz=>by rw[z,S.lst.choose_spec] at hD;cases hD
 refine nZ (xs:=b.params.map V.str) (λi σ' H'=>∃(zs:List Int) (k':Nat) (o:Option V),σ'=[some (.ref st),some (.ref pp),some (.int (m:Nat)),o]/\H' D=some (.lst (zs.map V.int))/\zs.length=i/\(∀z∈zs,u1 z)/\kO K H' st k'/\k'<=k+4*i/\fX st H H'/\H' pa=some (.tup (b.params.map V.str))) ?_ ?_ ?_ ?_
 ·exact⟨[],k,none,rfl,ae,rfl,by simp,S.new hD,by lia,λc o _ e=>((aS.refl H).new hD) c o e,((aS.refl H).new hD) _ _ h3⟩
 ·rintro i σ' H' _ ⟨_,_,_,_,_,_,_,_,_,_,hp⟩
  exact eU.of hp
 ·rintro i x σ' H1 hx ⟨zs,k',o,rfl,hw,zl,zw,S1,hk',b1,hp⟩
  have il:i<b.params.length:=by have:=(aj.mp hx).1;rw[ai] at this;exact this
  refine kc ⟨_,rfl,st,k',rfl,S1,by lia,λz k2 H2 z0 z1 S2 l2 B2=>?_⟩
  have h2':=B2 D _ nD hw
  refine⟨_,h2',cR (by rw[ai];lia),zs++[z],k2,_,rfl,by rw[ae,bw];rfl,by simp[zl],λy hy=>?_,S2.mono .upd_at h2' (Ne.symm nD),by lia,λc o nc e=>?_,?_⟩
  ·rcases aP.mp hy with y'|y'
   ·exact zw y y'
   ·rw[au.mp y'];exact⟨z0,z1⟩
  ·rw[aw (ar e hD)];exact B2 c o nc (b1 c o nc e)
  ·have npD:pa≠D:=ar h3 hD
   have nps:pa≠st:=λz=>by rw[z,S1.lst.choose_spec] at hp;cases hp
   rw[aw npD];exact B2 _ _ nps hp
 ·rintro σ' H1 ⟨zs,k',o,_,hw,zl,zw,S1,hk',b1,hp⟩
  rw[ai] at zl
  exact q D zs k' H1 hD hw zl zw S1 (by rw[ai] at hk';lia) b1
theorem Gd{K:Fg}{vs:List V}{H:Hp}{Q:VK}{E:XK}(h:fS K vs H Q E):AD K {nx:=λ_ H'=>Q .non H',rt:=Q} (cN sX vs) H:=by
 obtain⟨pp,q0,k,zs,ys,cs,bs,b,rfl,P,hb,hl,h10,hq,q⟩:=h
 obtain⟨pvs,pt,pa,rt,rvs,h1,e1,h2,h3,h4,hR⟩:=P.rows hb
 have g:=P.ok.good hb
 refine⟨_,rfl,_,rfl,cH h1 (by lia) e1 ⟨pt,_,rfl,eU.of h2,rfl,_,_,rfl,_,_,rfl,_,_,rfl,rfl,?_⟩⟩
 show qb K _ [some (.ref pp),some (.int (k:Nat)),some (.ref q0),some (.str b.name),some (.ref pa),some (.ref rt)] H
 unfold qb
 refine qC (uT (tK rfl (jW ?_)))
 refine⟨_,rfl,rt,0,rvs,b.rows,rfl,h4,hR,g,g.pos,?_⟩
 refine jW ⟨_,rfl,_,rfl,pa,q0,b.params,zs.map V.int,rfl,eU.of h3,hq.imp bZ.of eU.of,by rw[ai];exact hl,by lia,λd nd=>?_⟩
 refine cJ ⟨(by show 3<=sizeLine;decide),λp np=>?_⟩
 have ndp:d≠p:=λz=>by rw[z,ae] at np;cases np
 refine q _ _ ⟨p,d,rfl,?_,?_⟩ ⟨p,d,_,_,rfl,ae,nd⟩ (((aS.refl H).new nd).new np)
 ·rw[ae];unfold CQ;rw[um hb]
 ·rw[aw ndp,ae];unfold CQ;rw[yj hb]
theorem yi{r:R2}{ta tb:TE}{σ:St}{H:Hp}{Q:VK}(h:ta σ H λx H1=>tb σ H1 λy H2=>r x y H2 Q):bq r ta tb σ H Q:=h
theorem q9{td ty:TE}{σ:St}{H:Hp}{Q:VK}(h:td σ H λx H1=>ty σ H1 λy H2=>∃a v,x=.ref a/\sv H2 a y (some v)/\Q v H2):ox td ty σ H Q:=h
theorem Ll{a b c:V}:gE [((Sum.inr ("+":Str):dB),a),(Sum.inr ("-":Str),b),(Sum.inr ("*":Str),c)] (Sum.inr ("+":Str))=some a/\gE [((Sum.inr ("+":Str):dB),a),(Sum.inr ("-":Str),b),(Sum.inr ("*":Str),c)] (Sum.inr ("-":Str))=some b/\gE [((Sum.inr ("+":Str):dB),a),(Sum.inr ("-":Str),b),(Sum.inr ("*":Str),c)] (Sum.inr ("*":Str))=some c:=by
 have n1:¬((Sum.inr ("+":Str):dB)=Sum.inr ("-":Str)):=by decide
 have n2:¬((Sum.inr ("+":Str):dB)=Sum.inr ("*":Str)):=by decide
 have n3:¬((Sum.inr ("-":Str):dB)=Sum.inr ("*":Str)):=by decide
 refine⟨eS rfl,?_,?_⟩
 ·rw[eR n1,eS rfl]
 ·rw[eR n2,eR n3,eS rfl]
theorem B0{K:Fg}{vs:List V}{H:Hp}{Q:VK}{E:XK}(h:ie K vs H Q E):uR K {nx:=λ_ H'=>Q .non H',rt:=Q} (cN pR vs) H:=by
 obtain⟨s,x,y,rfl,hs,wi,wj,q⟩:=h
 have q':∀(z:Int) (H':Hp),z=uY s x y->aS H H'->Q (.int z) H':=λz H' e s'=>by subst e;exact q H' s'
 have e64:(2:Int) ^ 64=18446744073709551616:=by decide
 have disp:∀{R:VK},(∀(dp:Addr) (H2:Hp),aS H H2->H2 dp=some (.dK [(Sum.inr ("+":Str),.int (x+y)),(Sum.inr ("-":Str),.int (x-y)),(Sum.inr ("*":Str),.int (x*y))])->R (.ref dp) H2)->
   C2 [((tC (.str "+")),(bq (dN K) (ah 1) (ah 2))),((tC (.str "-")),(bq (rN) (ah 1) (ah 2))),((tC (.str "*")),(bq (je K) (ah 1) (ah 2)))] [some (.str s),some (.int x),some (.int y)] H R:=λ{R} r=>by
  intro dp ndp
  refine⟨_,rfl,_,rfl,.inl ⟨_,_,rfl,rfl,_,rfl,_,rfl,_,_,rfl,rfl,_,rfl,_,rfl,.inl ⟨_,_,rfl,rfl,.inl ⟨by have:=wi.1;omega,wi.2⟩,ae,[(Sum.inr "+",.int (x+y)),(Sum.inr "-",.int (x-y)),(Sum.inr "*",.int (x*y))],rfl,(by show 3<=15;decide),?_⟩⟩⟩
  rw[nv]
  exact r dp _ ((aS.refl H).new ndp) ae
 refine⟨_,rfl,.inl ⟨rfl,_,rfl,cT (λh=>?_) (λh=>?_)⟩⟩
 ·have e:s="<":=V.str.inj h
  refine⟨_,rfl,_,rfl,_,_,rfl,rfl,.inr ⟨_,rfl,?_⟩⟩
  have ew:uY s x y=if x<y then 1 else 0:=by unfold uY;rw[if_pos e]
  refine q' _ H ?_ (aS.refl H)
  rw[ew]
  by_cases c:x<y<;>simp[c]
 refine⟨_,rfl,.inl ⟨rfl,_,rfl,cT (λh'=>?_) (λh'=>?_)⟩⟩
 ·have e:s="=":=V.str.inj h'
  refine⟨_,rfl,_,rfl,.inl ⟨rfl,.inr ⟨_,rfl,?_⟩⟩⟩
  have ew:uY s x y=if x=y then 1 else 0:=by unfold uY;rw[if_neg (λz=>h (by rw[z])),if_pos e]
  refine q' _ H ?_ (aS.refl H)
  rw[ew]
  by_cases c:x=y
  ·subst c;simp
  ·have:¬(V.int x=V.int y):=λz=>c (V.int.inj z)
   simp[c,this]
 show nq K _ [some (.str s),some (.int x),some (.int y)] H
 unfold nq
 have n1:¬s="<":=λz=>h (by rw[z])
 have n2:¬s="=":=λz=>h' (by rw[z])
 rcases(by simpa[wB] using hs:s="+"\/s="-"\/s="*"\/s="<"\/s="=") with rfl|rfl|rfl|rfl|rfl
 ·refine qC (yi (q9 (disp λdp H2 s2 hd=>?_)))
  refine⟨_,rfl,dp,.int (x+y),rfl,?_,?_⟩
  ·have:=sv.k (k:=Sum.inr ("+":Str)) hd
   rw[Ll.1] at this
   exact this
  ·refine⟨_,_,rfl,rfl,⟨by decide,by decide,by decide⟩,_,_,rfl,rfl,(by show(0:Int)<2 ^ 64;decide),q' _ _ ?_ s2⟩
   show(x+y) % 2 ^ 64=uY "+" x y
   rw[e64];rfl
 ·refine qC (yi (q9 (disp λdp H2 s2 hd=>?_)))
  refine⟨_,rfl,dp,.int (x-y),rfl,?_,?_⟩
  ·have:=sv.k (k:=Sum.inr ("-":Str)) hd
   rw[Ll.2.1] at this
   exact this
  ·refine⟨_,_,rfl,rfl,⟨by decide,by decide,by decide⟩,_,_,rfl,rfl,(by show(0:Int)<2 ^ 64;decide),q' _ _ ?_ s2⟩
   show(x-y) % 2 ^ 64=uY "-" x y
   rw[e64];rfl
 ·refine qC (yi (q9 (disp λdp H2 s2 hd=>?_)))
  refine⟨_,rfl,dp,.int (x*y),rfl,?_,?_⟩
  ·have:=sv.k (k:=Sum.inr ("*":Str)) hd
   rw[Ll.2.2] at this
   exact this
  ·refine⟨_,_,rfl,rfl,⟨by decide,by decide,by decide⟩,_,_,rfl,rfl,(by show(0:Int)<2 ^ 64;decide),q' _ _ ?_ s2⟩
   show(x*y) % 2 ^ 64=uY "*" x y
   rw[e64];rfl
 ·exact absurd rfl n1
 ·exact absurd rfl n2
theorem bR.last{α:Type}{R:V->α->Prop}{vs:List V}{rs:List α}{r:α}(h:bR R vs (rs++[r])):∃vs' v,vs=vs'++[v]/\bR R vs' rs/\R v r:=by
 have hl:=h.len
 rcases cx vs with e|⟨vs',v,e⟩
 ·rw[e] at hl;simp at hl
 ·rw[cw] at e
  subst e
  have hl':vs'.length=rs.length:=by simp at hl;exact hl
  refine⟨vs',v,rfl,⟨hl',λi x y hx hy=>h.at_ i x y ?_ ?_⟩,h.at_ vs'.length v r ?_ ?_⟩
  ·rw[bz (aj.mp hx).1];exact hx
  ·rw[bz (aj.mp hy).1];exact hy
  ·simp
  ·rw[hl'];simp
theorem HP{rs:List bP}(g:eL rs){n:Nat}{x:Str}{k:Nat}{as:List Str}(h:rs[n]?=some (.call x k as)):n+1<rs.length:=g.inr n (n+1) _ h (by unfold cy;exact ay)
theorem CN{xs:List V}{v:V}:(xs++[v])[(xs++[v]).length-1]?=some v:=by simp
theorem Le{K:Fg}{vs:List V}{H:Hp}{Q:VK}{E:XK}(h:ni K vs H Q E):GF K {nx:=λ_ H'=>Q .non H',rt:=Q} (cN Bf vs) H:=by
 obtain⟨pp,L,z,n,fvs,fs,f,ys,cs,bs,rfl,P,hL,A,lo,hn,q⟩:=h
 obtain⟨fvs0,v,rfl,A0,_⟩:=A.last
 have ll:=lo.few
 have l0:=A0.len
 rw[aD] at ll
 refine⟨_,rfl,.inl ⟨rfl,_,bZ.of hL⟩,L,_,v,rfl,rfl,hL,CN,?_⟩
 rw[bI]
 have t1:Td H (upd H L (.lst fvs0)):=.lst hL
 have hL1:upd H L (.lst fvs0) L=some (.lst fvs0):=ae
 have b1:fX L H (upd H L (.lst fvs0)):=.upd_at
 show AZ K _ [some (.ref pp),some (.ref L),some (.int z),none,none,none,none] (upd H L (.lst fvs0))
 generalize upd H L (.lst fvs0)=H1 at t1 hL1 b1 ⊢
 have A1:=A0.imp λ_ _ y=>y.mono t1
 refine⟨_,rfl,(by show 0<=sizeLine;decide),λM nM=>?_⟩
 have s2:aS H1 (upd H1 M (.lst [])):=(aS.refl H1).new nM
 have hM:upd H1 M (.lst []) M=some (.lst []):=ae
 generalize upd H1 M (.lst [])=H2 at s2 hM ⊢
 have hL2:=s2 _ _ hL1
 have A2:=A1.imp λ_ _ y=>y.mono (.of_same s2)
 have b2:fX L H H2:=λc o nc e=>s2 c o (b1 c o nc e)
 rcases cx fs with e|⟨fs1,g,e⟩
 ·subst e
  have e0:fvs0=[]:=cO.mp l0
  subst e0
  refine .inl ⟨L,M,[],[],rfl,rfl,.inl ⟨bZ.of hL2,bZ.of hM⟩,.inr ⟨[],rfl,rfl,λj a b e ha=>by simp at ha,_,rfl,tR rfl ?_⟩⟩
  refine⟨_,rfl,(by show 1<=sizeLine;decide),λe' ne=>?_⟩
  have s3:aS H2 (upd H2 e' (.lst [.int z])):=(aS.refl H2).new ne
  have He:H e'=none:=by
   have nL:e'≠L:=λy=>by rw[y,hL2] at ne;cases ne
   cases e:H e' with
   |none=>rfl
   |some o=>rw[b2 e' o nL e] at ne;cases ne
  exact q e' [] _ (s3 _ _ hL2) .nil (λv hv=>by cases hv) ae He λc o nc e=>s3 c o (b2 c o nc e)
 ·rw[cw] at e
  subst e
  obtain⟨fvs1,v1,rfl,A3,g1⟩:=A2.last
  have gk:yH bs n g:=lo.frs g (aW _ (aJ _ ay))
  obtain⟨x,k,as,ec⟩:=lo.wait g (by rw[bI];exact aJ _ ay)
  obtain⟨b,r,hb,hr,_,sd,er,ro,rd⟩:=gk.reads P.ok
  rw[er] at ec
  have g0:=P.ok.good hb
  have nl:=HP g0 ec
  refine .inl ⟨L,M,_,[],rfl,rfl,.inl ⟨bZ.of hL2,bZ.of hM⟩,.inl ⟨by simp,_,rfl,u9 rfl ?_⟩⟩
  show AY K _ [some (.ref pp),some (.ref L),some (.int z),none,none,none,none] H2
  obtain⟨p,d,rfl,hp,hd⟩:=g1
  refine⟨_,rfl,.inl ⟨rfl,_,bZ.of hL2⟩,L,_,.ref p,rfl,rfl,hL2,CN,?_⟩
  rw[bI]
  have t3:Td H2 (upd H2 L (.lst fvs1)):=.lst hL2
  have hL3:upd H2 L (.lst fvs1) L=some (.lst fvs1):=ae
  have b3:fX L H (upd H2 L (.lst fvs1)):=λc o nc e=>by rw[aw nc];exact b2 c o nc e
  generalize upd H2 L (.lst fvs1)=H3 at t3 hL3 b3 ⊢
  have A4:=A3.imp λ_ _ y=>y.mono t3
  have hp3:=t3.tp _ _ hp
  have hd3:=t3.dp _ _ hd
  have P3:=P.mono ((t1.trans (.of_same s2)).trans t3).tp
  obtain⟨pvs,pt,pa,rt,rvs,h1,e1,h2,h3,h4,hR⟩:=P3.rows hb
  refine⟨p,_,rfl,eU.of hp3,rfl,_,_,rfl,_,_,rfl,_,_,rfl,rfl,?_⟩
  show AX K _ [some (.ref pp),some (.ref L),some (.int z),some (.int (g.part:Nat)),some (.int (g.row:Nat)),some (.ref d),none] H3
  refine⟨_,rfl,_,rfl,cH h1 (by lia) e1 (cH h2 (by decide) rfl ?_)⟩
  show AW K _ [some (.ref pp),some (.ref L),some (.int z),some (.int (g.part:Nat)),some (.int (g.row:Nat)),some (.ref d),some (.ref rt)] H3
  refine⟨_,rfl,d,_,rfl,hd3,λd' nd'=>?_⟩
  have s4:aS H3 (upd H3 d' (.dK g.nm)):=(aS.refl H3).new nd'
  have hd4:upd H3 d' (.dK g.nm) d'=some (.dK g.nm):=ae
  show AV K _ [some (.ref pp),some (.ref L),some (.int z),some (.int (g.part:Nat)),some (.int (g.row:Nat)),some (.ref d'),some (.ref rt)] _
  obtain⟨v2,r2,e3,e4,hra⟩:=hR.get (aj.mp ec).1
  rw[ec] at e4;cases e4
  obtain⟨pr,qr,rfl,hpr,_⟩:=hra
  refine⟨_,rfl,_,rfl,_,rfl,_,rfl,cH (s4 _ _ h4) (by lia) (by simpa using e3) (cH (s4 _ _ hpr) (by decide) rfl ⟨d',_,rfl,u2.k (k:=Sum.inr x) hd4 (cR (by have:=gk.few;lia)),?_⟩)⟩
  rw[nv]
  have s5:aS H3 (upd H3 d' (.dK (iz g.nm (Sum.inr x) (.int z)))):=(aS.refl H3).new nd'
  have hd5:upd H3 d' (.dK (iz g.nm (Sum.inr x) (.int z))) d'=some (.dK (iz g.nm (Sum.inr x) (.int z))):=ae
  show AU K _ [some (.ref pp),some (.ref L),some (.int z),some (.int (g.part:Nat)),some (.int (g.row:Nat)),some (.ref d'),some (.ref rt)] (upd H3 d' (.dK (iz g.nm (Sum.inr x) (.int z))))
  generalize upd H3 d' (.dK (iz g.nm (Sum.inr x) (.int z)))=H5 at s5 hd5 ⊢
  have hL5:=s5 _ _ hL3
  have rt5:=s5 _ _ h4
  have R5:=hR.imp λ_ _ y=>y.mono (.of_same s5)
  refine⟨_,rfl,.inl ⟨rfl,_,bZ.of hL5⟩,?_⟩
  refine jW (uT (tK rfl (jW ⟨_,rfl,_,rfl,.inl ⟨_,_,rfl,rfl,cJ ⟨rt,g.row+1,rvs,b.rows,rfl,rt5,R5,g0,nl,tK rfl (cJ ⟨(by show 3<=sizeLine;decide),λp6 n6=>cJ ?_⟩)⟩⟩⟩)))
  have s6:aS H5 (upd H5 p6 (.tup [.int (g.part:Nat),.int (Sd b.rows (g.row+1):Nat),.ref d'])):=(aS.refl H5).new n6
  have h6:upd H5 p6 (.tup [.int (g.part:Nat),.int (Sd b.rows (g.row+1):Nat),.ref d']) p6=some (.tup [.int (g.part:Nat),.int (Sd b.rows (g.row+1):Nat),.ref d']):=ae
  generalize upd H5 p6 (.tup [.int (g.part:Nat),.int (Sd b.rows (g.row+1):Nat),.ref d'])=H6 at s6 h6 ⊢
  have hL6:=s6 _ _ hL5
  refine⟨L,_,_,rfl,rfl,hL6,cR (by have:=A4.len;simp at ll;lia),?_⟩
  have t7:Td H6 (upd H6 L (.lst (fvs1++[.ref p6]))):=.lst hL6
  have hL7:upd H6 L (.lst (fvs1++[.ref p6])) L=some (.lst (fvs1++[.ref p6])):=ae
  have b7:fX L H (upd H6 L (.lst (fvs1++[.ref p6]))):=λc o nc e=>by rw[aw nc];exact s6 c o (s5 c o (b3 c o nc e))
  show AS K _ [some (.ref pp),some (.ref L),some (.int z),some (.int (g.part:Nat)),some (.int (g.row:Nat)),some (.ref d'),some (.ref rt)] (upd H6 L (.lst (fvs1++[.ref p6])))
  generalize upd H6 L (.lst (fvs1++[.ref p6]))=H7 at t7 hL7 b7 ⊢
  refine⟨(by show 0<=sizeLine;decide),λe' ne=>?_⟩
  have s8:aS H7 (upd H7 e' (.lst [])):=(aS.refl H7).new ne
  have He:H e'=none:=by
   have nL:e'≠L:=λy=>by rw[y,hL7] at ne;cases ne
   cases e:H e' with
   |none=>rfl
   |some o=>rw[b7 e' o nL e] at ne;cases ne
  have es:Jk bs g z=⟨g.part,Sd b.rows (g.row+1),put g.nm x z⟩:=by unfold Jk;rw[er,ec]
  have fd':H d'=none:=b3.free (λy=>by rw[y,hL3] at nd';cases nd') nd'
  refine q e' (fvs1++[.ref p6]) _ (s8 _ _ hL7) ?_ (λv hv=>(aP.mp hv).elim (λh=>.inl (aW _ (aW _ h))) λh=>.inr ⟨p6,d',_,_,au.mp h,s8 _ _ (t7.tp _ _ h6),fd'⟩) (by rw[ae,kj]) He λc o nc e=>s8 c o (b7 c o nc e)
  rw[kj,bI]
  show bR _ _ (fs1++[Jk bs g z])
  rw[es]
  have t57:Td H5 H7:=(Td.of_same s6).trans t7
  exact(A4.imp λ_ _ y=>((y.mono (.of_same s5)).mono t57).mono (.of_same s8)).snoc ⟨p6,d',rfl,s8 _ _ (t7.tp _ _ h6),s8 _ _ (t57.dp _ _ hd5)⟩
theorem JQ{xs:List V}{v:V}:EH (xs++[v]) (-1)=some v:=by
 unfold EH Ff
 rw[if_neg (by decide),aD,cc,if_pos (by omega)]
 show(xs++[v])[_]?=_
 have:((-1:Int)+((xs.length+1:Nat):Int)).toNat=xs.length:=by omega
 rw[this,bj (aC _),eZ];rfl
theorem LU{K:Fg}{p:Addr}{xs:List V}{v:V}{H:Hp}{Q:VK}(h:H p=some (.lst (xs++[v])))(q:Q v H):cQ K (.ref p) (.int (-1)) H Q:=.inl ⟨p,_,_,v,rfl,rfl,bZ.of h,JQ,q⟩
theorem Jh{xs:List V}{v w:V}:(xs++[v]).set xs.length w=xs++[w]:=by simp
theorem J3{xs:List V}{v:V}:Ff (xs++[v]).length (-1)=some xs.length:=by
 unfold Ff
 rw[if_neg (by decide),aD,cc,if_pos (by omega)]
 congr 1
 omega
theorem mx{H:Hp}{d:Addr}{nm:List (dB×V)}{y:Str}(hd:H d=some (.dK nm))(h:G3 nm y):sv H d (.str y) (some (.int (vl nm y))):=by
 obtain⟨i,g⟩:=h
 have:=sv.k (k:=Sum.inr y) hd
 rw[g.1] at this
 rw[Cs g]
 exact this
theorem Lf{K:Fg}{vs:List V}{H:Hp}{Q:VK}{E:XK}(h:nj K vs H Q E):GG K {nx:=λ_ H'=>Q .non H',rt:=Q} (cN xr vs) H:=by
 obtain⟨pp,L,W,n,fvs,fs,said,ys,cs,bs,rfl,P,hL,A,hW,nLW,lo,ne,hn,hs,q⟩:=h
 rcases cx fs with e|⟨fs0,f,e⟩
 ·exact absurd e ne
 rw[cw] at e
 subst e
 obtain⟨fvs0,v,rfl,A0,fv⟩:=A.last
 obtain⟨p,d,rfl,hp,hd⟩:=fv
 have fo:yH bs n f:=lo.frs f (aJ _ ay)
 obtain⟨b,r,hb,hr,hj,sd,er,ro,rd⟩:=fo.reads P.ok
 have g0:=P.ok.good hb
 obtain⟨pvs,pt,pa,rt,rvs,h1,e1,h2,h3,h4,hR⟩:=P.rows hb
 obtain⟨rv,r',e3,e4,hra⟩:=hR.get (aj.mp hr).1
 rw[hr] at e4;cases e4
 have nm:=fo.few
 have l0:=A0.len
 have ll:=lo.few
 rw[aD] at ll
 have ll:fs0.length+1<=n:=ll
 refine⟨_,rfl,1,rfl,LU hL ⟨p,_,rfl,eU.of hp,rfl,_,_,rfl,_,_,rfl,_,_,rfl,rfl,?_⟩⟩
 refine⟨_,rfl,_,rfl,cH h1 (by omega) e1 (cH h2 (by decide) rfl ?_)⟩
 refine⟨_,rfl,_,rfl,cH h4 (by omega) (by simpa using e3) ?_⟩
 refine⟨_,rfl,.inl ⟨_,_,rfl,rfl,?_⟩⟩
 show wX K _ [some (.ref pp),some (.ref L),some (.ref W),some (.int (f.part:Nat)),some (.int (f.row:Nat)),some (.ref d),some (.ref rt),some rv,some (.int ((f.row:Nat)+1))] H
 have ls:jo bs (fs0++[f]) said=pW bs fs0 f said:=mY
 rw[ls] at q
 unfold pW at q
 rw[er] at q
 have fin:∀(d':Addr) (to:Nat) (said':List Int) (nm':List (dB×V)) (tv:Int) (H3:Hp),tv=(to:Int)->to<b.rows.length->H d'=none->H3 d'=some (.dK nm')->H3 L=some (.lst (fvs0++[.ref p]))->H3 W=some (.lst (said'.map V.int))->fX W H H3->
   (∀(e:Addr) (fvs':List V) (H':Hp),H' L=some (.lst fvs')->bR (Bb H') fvs' (fs0++[⟨f.part,Sd b.rows to,nm'⟩])->(∀v∈fvs',v∈fvs0++[.ref p]\/LI H H' v)->H' W=some (.lst (said'.map V.int))->H' e=some (.lst [])->H e=none->G0 L W H H'->Q (.ref e) H')->
   uS K {nx:=λ_ H'=>Q .non H',rt:=Q} [some (.ref pp),some (.ref L),some (.ref W),some (.int (f.part:Nat)),some (.int (f.row:Nat)),some (.ref d'),some (.ref rt),some rv,some (.int tv)] H3:=by
  intro d' to said' nm' tv H3 et tl nd' hd' hL3 hW3 b3 q'
  subst et
  have t3:Td H H3:=.of_but b3 hW
  unfold uS
  refine EG (uT (tK rfl (jW ⟨_,rfl,_,rfl,cJ ⟨rt,to,rvs,b.rows,rfl,t3.tp _ _ h4,hR.imp λ_ _ y=>y.mono t3.tp,g0,tl,tK rfl (cJ ⟨(by show 3<=sizeLine;decide),λp6 n6=>?_⟩)⟩⟩)))
  have s6:aS H3 (upd H3 p6 (.tup [.int (f.part:Nat),.int (Sd b.rows to:Nat),.ref d'])):=(aS.refl H3).new n6
  have h6:upd H3 p6 (.tup [.int (f.part:Nat),.int (Sd b.rows to:Nat),.ref d']) p6=some (.tup [.int (f.part:Nat),.int (Sd b.rows to:Nat),.ref d']):=ae
  generalize upd H3 p6 (.tup [.int (f.part:Nat),.int (Sd b.rows to:Nat),.ref d'])=H6 at s6 h6 ⊢
  have hL6:=s6 _ _ hL3
  refine⟨_,rfl,1,rfl,L,_,_,_,rfl,rfl,hL6,J3,?_⟩
  rw[Jh]
  have t7:Td H6 (upd H6 L (.lst (fvs0++[.ref p6]))):=.lst hL6
  have hL7:upd H6 L (.lst (fvs0++[.ref p6])) L=some (.lst (fvs0++[.ref p6])):=ae
  have hW7:upd H6 L (.lst (fvs0++[.ref p6])) W=some (.lst (said'.map V.int)):=by rw[aw (Ne.symm nLW)];exact s6 _ _ hW3
  have b7:G0 L W H (upd H6 L (.lst (fvs0++[.ref p6]))):=λc o nc nw e=>by rw[aw nc];exact s6 c o (b3 c o nw e)
  show A5 K _ [some (.ref pp),some (.ref L),some (.ref W),some (.int (f.part:Nat)),some (.int (f.row:Nat)),some (.ref d'),some (.ref rt),some rv,some (.int (to:Nat))] (upd H6 L (.lst (fvs0++[.ref p6])))
  generalize upd H6 L (.lst (fvs0++[.ref p6]))=H7 at t7 hL7 hW7 b7 ⊢
  refine⟨(by show 0<=sizeLine;decide),λe' ne=>?_⟩
  have s8:aS H7 (upd H7 e' (.lst [])):=(aS.refl H7).new ne
  have He:H e'=none:=by
   have nL:e'≠L:=λy=>by rw[y,hL7] at ne;cases ne
   have nW:e'≠W:=λy=>by rw[y,hW7] at ne;cases ne
   cases e:H e' with
   |none=>rfl
   |some o=>rw[b7 e' o nL nW e] at ne;cases ne
  have t37:Td H3 H7:=(Td.of_same s6).trans t7
  refine q' e' (fvs0++[.ref p6]) _ (s8 _ _ hL7) ?_ (λv hv=>(aP.mp hv).elim (λh=>.inl (aW _ h)) λh=>.inr ⟨p6,d',_,_,au.mp h,s8 _ _ (t7.tp _ _ h6),nd'⟩) (s8 _ _ hW7) ae He λc o nc nw e=>s8 c o (b7 c o nc nw e)
  exact(A0.imp λ_ _ y=>((y.mono t3).mono t37).mono (.of_same s8)).snoc ⟨p6,d',rfl,s8 _ _ (t7.tp _ _ h6),s8 _ _ (t37.dp _ _ hd')⟩
 have lt1:f.row+1∈cy f.row r->f.row+1<b.rows.length:=λhm=>g0.inr _ _ _ hr hm
 have copy:∀(d':Addr) (nm':List (dB×V)),H d'=none->aS H (upd H d' (.dK nm')):=λd' nm' nd'=>(aS.refl H).new nd'
 have bW:∀{H3:Hp},aS H H3->fX W H H3:=λs c o _ e=>s c o e
 cases r with
 |jump t=>cases hj
 |num x z=>
  obtain⟨pr,rfl,hpr⟩:=hra
  refine⟨_,rfl,cH hpr (by decide) rfl (.inl ⟨rfl,_,rfl,no (by decide +kernel) ?_⟩)⟩
  refine⟨_,rfl,cH hpr (by decide) rfl (.inl ⟨rfl,_,rfl,no (by decide +kernel) ?_⟩)⟩
  refine⟨_,rfl,d,_,rfl,hd,λd' nd'=>?_⟩
  have s1:=copy d' f.nm nd'
  refine⟨_,rfl,cH (s1 _ _ hpr) (by decide) rfl (.inl ⟨rfl,_,rfl,yes ?_⟩)⟩
  refine⟨_,rfl,cH (s1 _ _ hpr) (by decide) rfl ⟨_,rfl,_,rfl,cH (s1 _ _ hpr) (by decide) rfl ⟨d',_,rfl,u2.k (k:=Sum.inr x) ae (cR (by omega)),?_⟩⟩⟩
  rw[nv]
  have s2:=copy d' (iz f.nm (Sum.inr x) (.int z)) nd'
  refine⟨_,rfl,cH (s2 _ _ hpr) (by decide) rfl (.inl ⟨rfl,_,rfl,no (by decide +kernel) ?_⟩)⟩
  refine⟨_,rfl,cH (s2 _ _ hpr) (by decide) rfl (.inl ⟨rfl,_,rfl,no (by decide +kernel) ?_⟩)⟩
  refine⟨_,rfl,cH (s2 _ _ hpr) (by decide) rfl (.inl ⟨rfl,_,rfl,no (by decide +kernel) (jX ?_)⟩)⟩
  refine fin d' (f.row+1) said _ _ _ (by omega) (lt1 (by unfold cy;exact ay)) nd' ae (s2 _ _ hL) (s2 _ _ hW) (bW s2) λe fvs' H' a1 a2 an a3 a4 a5 a6=>?_
  simp only[hr] at q
  exact q e fvs' H' a1 a2 an a3 a4 a5 a6
 |op x s y1 y2=>
  obtain⟨pr,rfl,hpr⟩:=hra
  have hy1:=rd y1 ay
  have hy2:=rd y2 (bU _ ay)
  refine⟨_,rfl,cH hpr (by decide) rfl (.inl ⟨rfl,_,rfl,no (by decide +kernel) ?_⟩)⟩
  refine⟨_,rfl,cH hpr (by decide) rfl (.inl ⟨rfl,_,rfl,no (by decide +kernel) ?_⟩)⟩
  refine⟨_,rfl,d,_,rfl,hd,λd' nd'=>?_⟩
  have s1:=copy d' f.nm nd'
  have hd1:upd H d' (.dK f.nm) d'=some (.dK f.nm):=ae
  refine⟨_,rfl,cH (s1 _ _ hpr) (by decide) rfl (.inl ⟨rfl,_,rfl,no (by decide +kernel) ?_⟩)⟩
  refine⟨_,rfl,cH (s1 _ _ hpr) (by decide) rfl (.inl ⟨rfl,_,rfl,yes ?_⟩)⟩
  refine⟨_,rfl,cH (s1 _ _ hpr) (by decide) rfl ⟨_,rfl,_,rfl,cH (s1 _ _ hpr) (by decide) rfl ⟨d',_,rfl,mx hd1 hy1,_,rfl,_,rfl,cH (s1 _ _ hpr) (by decide) rfl ⟨d',_,rfl,mx hd1 hy2,?_⟩⟩⟩⟩
  refine cJ ⟨s,vl f.nm y1,vl f.nm y2,rfl,ro.2.1,yF hy1,yF hy2,λH2 s2=>?_⟩
  have hd2:=s2 _ _ hd1
  have hpr2:=s2 _ _ (s1 _ _ hpr)
  refine⟨_,rfl,_,rfl,cH hpr2 (by decide) rfl ⟨d',_,rfl,u2.k (k:=Sum.inr x) hd2 (cR (by omega)),?_⟩⟩
  have s3:aS H (upd H2 d' (.dK (iz f.nm (Sum.inr x) (.int (uY s (vl f.nm y1) (vl f.nm y2)))))):=λc o e=>by
   rw[aw (ar e nd')];exact s2 _ _ (s1 _ _ e)
  have hd3:upd H2 d' (.dK (iz f.nm (Sum.inr x) (.int (uY s (vl f.nm y1) (vl f.nm y2))))) d'=some (.dK (iz f.nm (Sum.inr x) (.int (uY s (vl f.nm y1) (vl f.nm y2))))):=ae
  generalize upd H2 d' (.dK (iz f.nm (Sum.inr x) (.int (uY s (vl f.nm y1) (vl f.nm y2)))))=H3 at s3 hd3 ⊢
  refine⟨_,rfl,cH (s3 _ _ hpr) (by decide) rfl (.inl ⟨rfl,_,rfl,no (by decide +kernel) ?_⟩)⟩
  refine⟨_,rfl,cH (s3 _ _ hpr) (by decide) rfl (.inl ⟨rfl,_,rfl,no (by decide +kernel) (jX ?_)⟩)⟩
  refine fin d' (f.row+1) said _ _ _ (by omega) (lt1 (by unfold cy;exact ay)) nd' hd3 (s3 _ _ hL) (s3 _ _ hW) (bW s3) λe fvs' H' a1 a2 an a3 a4 a5 a6=>?_
  simp only[hr] at q
  exact q e fvs' H' a1 a2 an a3 a4 a5 a6
 |say y1=>
  obtain⟨pr,rfl,hpr⟩:=hra
  have hy1:=rd y1 ay
  refine⟨_,rfl,cH hpr (by decide) rfl (.inl ⟨rfl,_,rfl,no (by decide +kernel) ?_⟩)⟩
  refine⟨_,rfl,cH hpr (by decide) rfl (.inl ⟨rfl,_,rfl,no (by decide +kernel) ?_⟩)⟩
  refine⟨_,rfl,d,_,rfl,hd,λd' nd'=>?_⟩
  have s1:=copy d' f.nm nd'
  have hd1:upd H d' (.dK f.nm) d'=some (.dK f.nm):=ae
  have hW1:=s1 _ _ hW
  refine⟨_,rfl,cH (s1 _ _ hpr) (by decide) rfl (.inl ⟨rfl,_,rfl,no (by decide +kernel) ?_⟩)⟩
  refine⟨_,rfl,cH (s1 _ _ hpr) (by decide) rfl (.inl ⟨rfl,_,rfl,no (by decide +kernel) ?_⟩)⟩
  refine⟨_,rfl,cH (s1 _ _ hpr) (by decide) rfl (.inl ⟨rfl,_,rfl,yes ?_⟩)⟩
  refine⟨_,rfl,.inl ⟨rfl,_,bZ.of hW1⟩,_,rfl,_,rfl,cH (s1 _ _ hpr) (by decide) rfl ⟨d',_,rfl,mx hd1 hy1,cJ ⟨W,_,_,rfl,rfl,hW1,cR (by rw[ai];omega),?_⟩⟩⟩
  have b2:fX W H (upd (upd H d' (.dK f.nm)) W (.lst (said.map V.int++[.int (vl f.nm y1)]))):=λc o nc e=>by rw[aw nc];exact s1 _ _ e
  have hd2:upd (upd H d' (.dK f.nm)) W (.lst (said.map V.int++[.int (vl f.nm y1)])) d'=some (.dK f.nm):=by rw[aw (λz=>by rw[z,hW] at nd';cases nd')];exact hd1
  have hW2:upd (upd H d' (.dK f.nm)) W (.lst (said.map V.int++[.int (vl f.nm y1)])) W=some (.lst ((said++[vl f.nm y1]).map V.int)):=by rw[ae,bw];rfl
  generalize upd (upd H d' (.dK f.nm)) W (.lst (said.map V.int++[.int (vl f.nm y1)]))=H2 at b2 hd2 hW2 ⊢
  have hpr2:=(Td.of_but b2 hW).tp _ _ hpr
  refine⟨_,rfl,cH hpr2 (by decide) rfl (.inl ⟨rfl,_,rfl,no (by decide +kernel) (jX ?_)⟩)⟩
  refine fin d' (f.row+1) _ _ _ _ (by omega) (lt1 (by unfold cy;exact ay)) nd' hd2 (b2 _ _ nLW hL) hW2 b2 λe fvs' H' a1 a2 an a3 a4 a5 a6=>?_
  simp only[hr] at q
  exact q e fvs' H' a1 a2 an a3 a4 a5 a6
 |test y1 to=>
  obtain⟨pr,rfl,hpr⟩:=hra
  have hy1:=rd y1 ay
  refine⟨_,rfl,cH hpr (by decide) rfl (.inl ⟨rfl,_,rfl,no (by decide +kernel) ?_⟩)⟩
  refine⟨_,rfl,cH hpr (by decide) rfl (.inl ⟨rfl,_,rfl,no (by decide +kernel) ?_⟩)⟩
  refine⟨_,rfl,d,_,rfl,hd,λd' nd'=>?_⟩
  have s1:=copy d' f.nm nd'
  have hd1:upd H d' (.dK f.nm) d'=some (.dK f.nm):=ae
  refine⟨_,rfl,cH (s1 _ _ hpr) (by decide) rfl (.inl ⟨rfl,_,rfl,no (by decide +kernel) ?_⟩)⟩
  refine⟨_,rfl,cH (s1 _ _ hpr) (by decide) rfl (.inl ⟨rfl,_,rfl,no (by decide +kernel) ?_⟩)⟩
  refine⟨_,rfl,cH (s1 _ _ hpr) (by decide) rfl (.inl ⟨rfl,_,rfl,no (by decide +kernel) ?_⟩)⟩
  refine⟨_,rfl,cH (s1 _ _ hpr) (by decide) rfl (.inl ⟨rfl,_,rfl,yes ?_⟩)⟩
  simp only[hr] at q
  refine⟨_,rfl,_,rfl,cH (s1 _ _ hpr) (by decide) rfl ⟨d',_,rfl,mx hd1 hy1,.inl ⟨rfl,_,rfl,Bw (λc=>?_) (λc=>?_)⟩⟩⟩
  ·refine⟨_,rfl,cH (s1 _ _ hpr) (by decide) rfl ?_⟩
   have c':¬vl f.nm y1=0:=λz=>c (by rw[z])
   refine fin d' to said _ _ _ rfl ro.2 nd' hd1 (s1 _ _ hL) (s1 _ _ hW) (bW s1) λe fvs' H' a1 a2 an a3 a4 a5 a6=>?_
   rw[if_neg c'] at q
   exact q e fvs' H' a1 a2 an a3 a4 a5 a6
  ·have c':vl f.nm y1=0:=V.int.inj c
   refine fin d' (f.row+1) said _ _ _ (by omega) (lt1 (by unfold cy;exact ay)) nd' hd1 (s1 _ _ hL) (s1 _ _ hW) (bW s1) λe fvs' H' a1 a2 an a3 a4 a5 a6=>?_
   rw[if_pos c'] at q
   exact q e fvs' H' a1 a2 an a3 a4 a5 a6
 |call x k as=>
  obtain⟨pr,qr,rfl,hpr,hqr⟩:=hra
  obtain⟨c,hc,cl,cn,c4⟩:=P.ok.call ro.2.1
  refine⟨_,rfl,cH hpr (by decide) rfl (.inl ⟨rfl,_,rfl,no (by decide +kernel) ?_⟩)⟩
  refine⟨_,rfl,cH hpr (by decide) rfl (.inl ⟨rfl,_,rfl,yes ?_⟩)⟩
  refine⟨_,rfl,.inl ⟨rfl,_,bZ.of hL⟩,?_⟩
  refine jW ⟨_,rfl,_,rfl,cH hpr (by decide) rfl (jW (.inr ⟨_,rfl,cH hpr (by decide) rfl ⟨qr,rfl,⟨_,eU.of hqr⟩,λD hD=>?_⟩⟩))⟩
  refine nZ (xs:=as.map V.str) (λi σ' H'=>∃o,σ'=[some (.ref pp),some (.ref L),some (.ref W),some (.int (f.part:Nat)),some (.int (f.row:Nat)),some (.ref d),some (.ref rt),some (.ref pr),some (.int ((f.row:Nat)+1)),o]/\H' D=some (.lst (((as.take i).map (vl f.nm)).map V.int))/\aS H H') ?_ ?_ ?_ ?_
  ·exact⟨none,rfl,ae,(aS.refl H).new hD⟩
  ·rintro i σ' H' _ ⟨_,_,_,s'⟩
   exact eU.of (s' _ _ hqr)
  ·rintro i y σ' H1 hx ⟨o,rfl,hw,s1⟩
   rw[ba] at hx
   cases ea:as[i]? with
   |none=>rw[ea] at hx;cases hx
   |some y1=>
    rw[ea] at hx
    cases hx
    have il:=(aj.mp ea).1
    refine kc ⟨_,rfl,_,rfl,d,_,rfl,mx (s1 _ _ hd) (rd y1 (az ea)),_,hw,cR (by rw[ai,ai,bG];omega),_,rfl,?_,λb' o' e'=>?_⟩
    ·rw[ae,List.take_succ,ea];simp
    ·rw[aw (ar e' hD)];exact s1 _ _ e'
  ·rintro σ' H1 ⟨o,_,hw,s1⟩
   rw[ai,ip] at hw
   refine cJ ⟨pp,D,k,as.map (vl f.nm),ys,cs,bs,c,rfl,P.mono (.of_same s1),hc,by rw[ai];exact cl,by rw[ai];omega,.inl hw,λv2 H2 fa fn s2=>cJ ?_⟩
   have hL2:=s2 _ _ (s1 _ _ hL)
   refine⟨L,_,_,rfl,rfl,hL2,cR (by rw[aD,l0];show fs0.length+1<=100000;omega),?_⟩
   have t3:Td H2 (upd H2 L (.lst (fvs0++[.ref p]++[v2]))):=.lst hL2
   have hL3:upd H2 L (.lst (fvs0++[.ref p]++[v2])) L=some (.lst (fvs0++[.ref p]++[v2])):=ae
   have hW3:upd H2 L (.lst (fvs0++[.ref p]++[v2])) W=some (.lst (said.map V.int)):=by rw[aw (Ne.symm nLW)];exact s2 _ _ (s1 _ _ hW)
   have b3:G0 L W H (upd H2 L (.lst (fvs0++[.ref p]++[v2]))):=λc o nc nw e=>by rw[aw nc];exact s2 _ _ (s1 _ _ e)
   show A6 K _ [some (.ref pp),some (.ref L),some (.ref W),some (.int (f.part:Nat)),some (.int (f.row:Nat)),some (.ref d),some (.ref rt),some (.ref pr),some (.int ((f.row:Nat)+1))] (upd H2 L (.lst (fvs0++[.ref p]++[v2])))
   generalize upd H2 L (.lst (fvs0++[.ref p]++[v2]))=H3 at t3 hL3 hW3 b3 ⊢
   refine⟨(by show 0<=sizeLine;decide),λe' ne=>?_⟩
   have s8:aS H3 (upd H3 e' (.lst [])):=(aS.refl H3).new ne
   have He:H e'=none:=by
    have nL:e'≠L:=λy=>by rw[y,hL3] at ne;cases ne
    have nW:e'≠W:=λy=>by rw[y,hW3] at ne;cases ne
    cases e:H e' with
    |none=>rfl
    |some o=>rw[b3 e' o nL nW e] at ne;cases ne
   simp only[hr] at q
   have fv:LI H (upd H3 e' (.lst [])) v2:=by
    obtain⟨p9,d9,i9,n9,e9,t9,f9⟩:=fn
    refine⟨p9,d9,i9,n9,e9,s8 _ _ (t3.tp _ _ t9),?_⟩
    cases e:H d9 with
    |none=>rfl
    |some u=>rw[s1 _ _ e] at f9;cases f9
   refine q e' _ _ (s8 _ _ hL3) ?_ (λv hv=>(aP.mp hv).elim .inl λh=>.inr (by rw[au.mp h];exact fv)) (s8 _ _ hW3) ae He λc o nc nw e=>s8 c o (b3 c o nc nw e)
   have t13:Td H H3:=(Td.of_same (s1.trans s2)).trans t3
   exact((A0.imp λ_ _ y=>(y.mono t13).mono (.of_same s8)).snoc ⟨p,d,rfl,s8 _ _ (t13.tp _ _ hp),s8 _ _ (t13.dp _ _ hd)⟩).snoc ((fa.mono t3).mono (.of_same s8))
 |give y1=>
  obtain⟨pr,rfl,hpr⟩:=hra
  have hy1:=rd y1 ay
  refine⟨_,rfl,cH hpr (by decide) rfl (.inl ⟨rfl,_,rfl,yes ?_⟩)⟩
  refine⟨_,rfl,_,rfl,_,rfl,_,rfl,cH hpr (by decide) rfl ⟨d,_,rfl,mx hd hy1,cJ ⟨pp,L,vl f.nm y1,n,_,fs0,f,ys,cs,bs,rfl,P,hL,A,lo,hn,λe' fvs' H' a1 a2 an a3 a4 a5=>?_⟩⟩⟩
  have hW':=a5 _ _ (Ne.symm nLW) hW
  simp only[hr] at q
  cases eg:fs0.getLast? with
  |none=>
   rw[eg] at a2 a3
   simp only[eg] at q
   exact q e' fvs' H' a1 a2 an hW' a3 a4 λc o nc _ e=>a5 c o nc e
  |some g=>
   rw[eg] at a2 a3
   simp only[eg] at q
   exact q e' fvs' H' a1 a2 an hW' a3 a4 λc o nc _ e=>a5 c o nc e
theorem mn.get{K:Fg}{H:Hp}{fvs:List V}{ds:List Addr}{fs:List Fr}(h:mn K H fvs ds fs):∀{i:Nat} {v:V},fvs[i]?=some v->∃a dx d f,v=.ref a/\fs[i]?=some f/\H a=some (.ins (aR K "Frame") dx (Du (.int (f.part:Nat)) (.int (f.row:Nat)) (.ref d)))/\H d=some (.dK f.nm):=by
 induction h with
 |nil=>intro i v e;simp at e
 |@snoc fvs ds fs a dx d f h na nd ha hd ih=>
  intro i v e
  have l:=h.len
  by_cases c:i<fvs.length
  ·rw[bz c] at e
   obtain⟨a',dx',d',f',e1,e2,e3,e4⟩:=ih e
   exact⟨a',dx',d',f',e1,by rw[bz (by lia)];exact e2,e3,e4⟩
  ·have ei:i=fvs.length:=by
    have:=(aj.mp e).1
    rw[aD,cc] at this
    lia
   subst ei
   rw[bj (aC _),eZ] at e
   cases e
   exact⟨a,dx,d,f,rfl,by rw[bj (by lia),l,eZ];rfl,ha,hd⟩
theorem EE.td{H H1 H2:Hp}{vs:List V}{fs:List Fr}(h:EE H H1 vs fs)(t:Td H1 H2):EE H H2 vs fs:=
 ⟨h.all.imp λ_ _ z=>z.mono t,λv hv=>by
  obtain⟨p,d,e1,e2,e3,i,n,e4⟩:=h.new v hv
  exact⟨p,d,e1,e2,e3,i,n,t.tp _ _ e4⟩⟩
theorem jz{H H':Hp}(s:aS H H'){a:Addr}(h:H' a=none):H a=none:=by
 cases e:H a with
 |none=>rfl
 |some u=>rw[s _ _ e] at h;cases h
theorem vw{K:Fg}(T:iJ K){vs:List V}{H:Hp}{Q:VK}{E:XK}(h:eP K vs H Q E):pw K {nx:=λ_ H'=>Q .non H',rt:=Q} (cN j9 vs) H:=by
 obtain⟨w,pp,H0,n,st,rfl,⟨dx,ol,sl,fvs,ds,X⟩,hn,q⟩:=h
 have fl:=X.few
 refine .inl ⟨_,rfl,w,_,dx,_,_,rfl,X.at_,T.clW,T.nWo,rfl,ol,rfl,⟨_,bZ.of X.op⟩,λD nD=>?_⟩
 refine mw (xs:=fvs) (λi σ' H'=>∃o ws,σ'=[some (.ref w),o]/\H' D=some (.lst ws)/\EE H H' ws (st.fs.take i)/\ws.length<=i/\aS H H') ?_ ?_ ?_ ?_
 ·exact⟨none,[],rfl,ae,⟨bR.nil,λv hv=>by cases hv⟩,by simp,(aS.refl H).new nD⟩
 ·rintro i σ' H' _ ⟨_,_,_,_,_,_,s⟩
  exact bZ.of (s _ _ X.op)
 ·rintro i v σ' H1 hv ⟨o,ws,rfl,hD,told,wl,s1⟩
  obtain⟨a,dxa,d,f,rfl,hf,ha,hd⟩:=X.fr.get hv
  have il:=(aj.mp hv).1
  have ha1:=s1 _ _ ha
  refine kc ⟨_,rfl,a,_,dxa,_,_,rfl,ha1,T.clF,T.nFp,rfl,_,rfl,a,_,dxa,_,_,rfl,ha1,T.clF,T.nFr,rfl,_,rfl,a,_,dxa,_,_,rfl,ha1,T.clF,T.nFn,rfl,d,_,rfl,s1 _ _ hd,λd2 n2=>⟨(by show 3<=sizeLine;decide),λt nt=>?_⟩⟩
  have s3:aS H1 (upd (upd H1 d2 (.dK f.nm)) t (.tup [.int (f.part:Nat),.int (f.row:Nat),.ref d2])):=((aS.refl H1).new n2).new nt
  have h3:upd (upd H1 d2 (.dK f.nm)) t (.tup [.int (f.part:Nat),.int (f.row:Nat),.ref d2]) t=some (.tup [.int (f.part:Nat),.int (f.row:Nat),.ref d2]):=ae
  have h4:upd (upd H1 d2 (.dK f.nm)) t (.tup [.int (f.part:Nat),.int (f.row:Nat),.ref d2]) d2=some (.dK f.nm):=(aS.refl _).new nt _ _ ae
  have ft:H t=none:=jz (s1.trans ((aS.refl H1).new (o:=.dK f.nm) n2)) nt
  have fd:H d2=none:=jz s1 n2
  generalize upd (upd H1 d2 (.dK f.nm)) t (.tup [.int (f.part:Nat),.int (f.row:Nat),.ref d2])=H3 at s3 h3 h4 ⊢
  have hD3:=s3 _ _ hD
  have T3:Td H3 (upd H3 D (.lst (ws++[.ref t]))):=Td.lst hD3
  refine⟨ws,hD3,cR (by lia),_,ws++[.ref t],rfl,ae,?_,by rw[aD];simp;lia,λb u e=>by rw[aw (ar e nD)];exact s3 _ _ (s1 b u e)⟩
  have tk:st.fs.take (i+1)=st.fs.take i++[f]:=by rw[List.take_succ,hf];rfl
  rw[tk]
  have t1:=(told.td (.of_same s3)).td T3
  refine⟨t1.all.snoc ⟨t,d2,rfl,T3.tp _ _ h3,T3.dp _ _ h4⟩,λv hv=>?_⟩
  rcases aP.mp hv with z|z
  ·exact t1.new v z
  ·rw[au.mp z]
   exact⟨t,d2,rfl,ft,fd,_,_,T3.tp _ _ h3⟩
 ·rintro σ' H1 ⟨o,ws,rfl,hD,told,wl,s1⟩
  rw[X.fr.len,ip] at told
  exact q D ws H1 hD told nD s1
theorem qt{ks:List Int}{i:Nat}{x:V}(h:(ks.map V.int)[i]?=some x):∃k,ks[i]?=some k/\x=.int k:=by
 rw[ba] at h
 cases e:ks[i]? with
 |none=>rw[e] at h;cases h
 |some k=>rw[e] at h;cases h;exact⟨k,rfl,rfl⟩
theorem Gg{K:Fg}{vs:List V}{H:Hp}{Q:VK}{E:XK}(h:jq K vs H Q E):A8 K {nx:=λ_ H'=>Q .non H',rt:=Q} (cN qk vs) H:=by
 obtain⟨p,zs,rfl,hp,zl,q⟩:=h
 have step:∀(D:Addr),H D=none->∀(i:Nat) (x:V) (σ':St) (H1:Hp),(zs.map V.int)[i]?=some x->(∃o,σ'=[some (.ref p),o]/\H1 D=some (.lst ((aO i true).map V.bl))/\aS H H1)->
   aT 1 x σ' H1 λσ2 H2=>uo D p0 (Ai (iV (zN K) (af (ah 1) (af (tC (.ty "int")) aK))) (Aj (iV (zN K) (af (ah 1) (af (tC (.ty "bool")) aK))))) {nx:=λσ' H'=>∃o,σ'=[some (.ref p),o]/\H' D=some (.lst ((aO (i+1) true).map V.bl))/\aS H H',rt:=λ_ _=>False,ct:=λσ' H'=>∃o,σ'=[some (.ref p),o]/\H' D=some (.lst ((aO (i+1) true).map V.bl))/\aS H H',bk:=λ_ H'=>K9 K [.ref D] H' Q} σ2 H2:=by
  rintro D nD i x σ' H1 hx ⟨o,rfl,hD,s1⟩
  obtain⟨k,hk,rfl⟩:=qt hx
  have il:=(aj.mp hk).1
  refine kc ⟨_,rfl,_,_,_,rfl,.int_int k,_,rfl,za ⟨_,rfl,_,_,_,rfl,.int_bool k,_,rfl,_,hD,cR (by rw[ai,cb];lia),_,rfl,?_,λb u e=>by rw[aw (ar e nD)];exact s1 b u e⟩⟩
  rw[ae,List.replicate_succ',bw];rfl
 have last:∀(D:Addr) (σ':St) (H1:Hp),(∃o,σ'=[some (.ref p),o]/\H1 D=some (.lst ((aO (zs.map V.int).length true).map V.bl))/\aS H H1)->K9 K [.ref D] H1 Q:=by
  rintro D σ' H1 ⟨o,rfl,hD,s1⟩
  refine⟨D,_,rfl,bZ.of hD,?_⟩
  have:(aO (zs.map V.int).length true).all id=true:=by simp
  rw[this]
  exact q H1 s1
 rcases hp with hp|hp
 ·refine .inl ⟨_,rfl,p,rfl,⟨_,bZ.of hp⟩,λD nD=>mw (xs:=zs.map V.int) (λi σ' H'=>∃o,σ'=[some (.ref p),o]/\H' D=some (.lst ((aO i true).map V.bl))/\aS H H') ⟨none,rfl,ae,(aS.refl H).new nD⟩ ?_ (step D nD) (last D)⟩
  rintro i σ' H' _ ⟨_,_,_,s⟩
  exact bZ.of (s _ _ hp)
 ·refine .inr ⟨_,rfl,p,rfl,⟨_,eU.of hp⟩,λD nD=>nZ (xs:=zs.map V.int) (λi σ' H'=>∃o,σ'=[some (.ref p),o]/\H' D=some (.lst ((aO i true).map V.bl))/\aS H H') ⟨none,rfl,ae,(aS.refl H).new nD⟩ ?_ (step D nD) (last D)⟩
  rintro i σ' H' _ ⟨_,_,_,s⟩
  exact eU.of (s _ _ hp)
theorem Fp{nm:List (dB×V)}(h:Lo nm):∃zs:List Int,nm.map (·.2)=zs.map V.int/\zs.length=nm.length:=by
 induction nm with
 |nil=>exact⟨[],rfl,rfl⟩
 |cons kv r ih=>
  obtain⟨zs,e1,e2⟩:=ih λx hx=>h x (bU _ hx)
  obtain⟨y,i,rfl,_⟩:=h kv ay
  exact⟨i::zs,by rw[bJ,e1];rfl,by rw[cf,e2];rfl⟩
theorem Kg{nm:List (dB×V)}(nd:(nm.map (·.1)).Nodup):∀{j:Nat} {k:dB} {v:V},nm[j]?=some (k,v)->gE nm k=some v:=by
 induction nm with
 |nil=>intro j k v e;simp at e
 |cons kv r ih=>
  obtain⟨k0,v0⟩:=kv
  rw[bJ,dO] at nd
  intro j k v e
  cases j with
  |zero=>
   cases e
   unfold gE
   simp
  |succ j=>
   have e':r[j]?=some (k,v):=by simpa using e
   have kn:k≠k0:=λz=>nd.1 (by rw[<-z];exact dU.mpr ⟨_,az e',rfl⟩)
   have:=ih nd.2 e'
   unfold gE at this ⊢
   simp only[eV,decide_eq_false (Ne.symm kn)]
   exact this
theorem LQ{K:Fg}{H:Hp}{x y:V}{f:Fr}(a:Bb H x f)(b:Bb H y f)(ky:Lo f.nm)(nd:(f.nm.map (·.1)).Nodup):LA K H x y:=by
 obtain⟨p,d,rfl,hp,hd⟩:=a
 obtain⟨p',d',rfl,hp',hd'⟩:=b
 refine⟨p,p',d,d',_,_,rfl,rfl,eU.of hp,eU.of hp',.inr ⟨_,_,hd,hd',rfl,λj k v e=>⟨Kg nd e,?_⟩⟩⟩
 obtain⟨y,i,ekv,_⟩:=ky _ (az e)
 cases ekv
 exact⟨rfl,by simp[tP]⟩
theorem Hz{K:Fg}{H:Hp}{l m:Addr}{zs:List Int}{Q:VK}(hl:H l=some (.lst (zs.map V.int)))(hm:H m=some (.lst (zs.map V.int)))(k:Q (.bl false) H):La K (.ref l) (.ref m) H Q:=by
 refine .inl ⟨l,m,_,_,rfl,rfl,.inl ⟨bZ.of hl,bZ.of hm⟩,.inr ⟨aO (zs.map V.int).length true,rfl,by simp,λj x y b hx hy hb=>?_,?_⟩⟩
 ·rw[hx] at hy;cases hy
  have:b=true:=(kZ.mp (az hb)).2
  subst this
  obtain⟨n,_,rfl⟩:=qt hx
  have:=Bd.flat (K:=K) (H:=H) (d:=4) (x:=.int n) (y:=.int n) rfl rfl
  simpa[tP] using this
 ·have:(aO (zs.map V.int).length true).all id=true:=by simp
  rw[this];exact k
def MW(H H':Hp)(v:V):Prop:=∃(p d:Addr) (i n:Int) (kvs:List (dB×V)) (zs:List Int),v=.ref p/\H p=none/\H d=none/\H' p=some (.tup [.int i,.int n,.ref d])/\H' d=some (.dK kvs)/\kvs.map (·.2)=zs.map V.int/\zs.length<=90000
theorem Ja{K:Fg}(T:iJ K){vs:List V}{H:Hp}{Q:VK}{E:XK}(h:jJ K vs H Q E):C3 K {nx:=λ_ H'=>Q .non H',rt:=Q} (cN xi vs) H:=by
 obtain⟨w,pp,L,W,H0,n,m,st,lvs,bs,rfl,⟨dx,ol,sl,fvs,ds,X⟩,hn,hL,hA,lok,hW,ans,q⟩:=h
 refine⟨_,rfl,w,dx,_,rfl,X.at_,rfl,cJ ⟨w,pp,H0,n,st,rfl,⟨dx,ol,sl,fvs,ds,X⟩,hn,λl ws H1 hl told nl s1=>?_⟩⟩
 show wM K _ [some (.ref w),some (.ref L),some (.ref W),some st.out,some (.ref l),none,none] H1
 have X1:=X.same s1
 refine⟨_,rfl,w,dx,_,rfl,X1.at_,rfl,cJ (w6 T ⟨w,pp,H0,n,st,rfl,⟨dx,ol,sl,fvs,ds,X1⟩,λl2 n2=>?_⟩)⟩
 have s2:aS H1 (upd H1 l2 (.lst (st.said.map V.int))):=(aS.refl H1).new n2
 have h2:upd H1 l2 (.lst (st.said.map V.int)) l2=some (.lst (st.said.map V.int)):=ae
 have l2H:H l2=none:=jz s1 n2
 have ll2:l≠l2:=ar hl n2
 show wL K _ [some (.ref w),some (.ref L),some (.ref W),some st.out,some (.ref l),some (.ref l2),none] _
 generalize upd H1 l2 (.lst (st.said.map V.int))=H2 at s2 h2 ⊢
 have S2:=s1.trans s2
 have hl':=s2 _ _ hl
 have told2:=told.td (.of_same s2)
 have A2:bR (Bb H2) lvs st.fs:=hA.imp λ_ _ z=>z.mono (.of_same S2)
 refine⟨_,rfl,_,_,_,rfl,.lst_list (bZ.of hl'),_,rfl,jX ⟨_,rfl,_,rfl,l,L,_,_,rfl,rfl,bZ.of hl',bZ.of (S2 _ _ hL),by rw[told2.all.1,A2.1],λj a b ea eb=>?_,_,rfl,jX ⟨_,rfl,_,_,_,rfl,.lst_list (bZ.of h2),_,rfl,jX ⟨_,rfl,_,rfl,Hz h2 (S2 _ _ hW) ⟨_,rfl,jX ?_⟩⟩⟩⟩⟩
 ·obtain⟨f,hf,fa⟩:=told2.all.of_v ea
  obtain⟨f',hf',fb⟩:=A2.of_v eb
  rw[hf] at hf';cases hf'
  have fo:=lok.frs f (az hf)
  exact LQ fa fb fo.kys fo.nd
 show wK K _ [some (.ref w),some (.ref L),some (.ref W),some st.out,some (.ref l),some (.ref l2),none] H2
 have lH:H l=none:=nl
 have init:∀v∈ws,MW H H2 v:=λv hv=>by
  obtain⟨j,hj⟩:=ki hv
  obtain⟨f,hf,p,d,e1,e2,e3⟩:=told2.all.of_v hj
  obtain⟨p',d',e1',e2',e3',i,k,e4'⟩:=told2.new v hv
  rw[e1] at e1';cases e1'
  rw[e2] at e4';cases e4'
  have nmf:=X.nms f (az hf)
  obtain⟨zs,z1,z2⟩:=Fp (lok.frs f (az hf)).kys
  exact⟨p,d,_,_,_,zs,e1,e2',e3',e2,e3,z1,by lia⟩
 refine .inl ⟨_,rfl,l,rfl,⟨_,bZ.of hl'⟩,og (xs:=ws) (λj σ' H'=>∃o6,σ'=[some (.ref w),some (.ref L),some (.ref W),some st.out,some (.ref l),some (.ref l2),o6]/\H' l=some (.lst ws)/\H' l2=some (.lst (st.said.map V.int))/\aS H H'/\∀v∈ws,MW H H' v) ⟨_,rfl,hl',h2,S2,init⟩ ?_ ?_ ?_⟩
 ·rintro j σ' H' _ ⟨_,_,h,_⟩
  exact bZ.of h
 ·rintro j v σ' H3 hv ⟨o6,rfl,hl3,h23,s3,tf⟩
  obtain⟨p,d,i,k,kvs,zs,rfl,pH,dH,hp,hd,ez,zl⟩:=tf v (az hv)
  show wJ K _ [some (.ref w),some (.ref L),some (.ref W),some st.out,some (.ref l),some (.ref l2),some (.ref p)] H3
  refine⟨_,rfl,_,_,_,rfl,.tup_tuple (eU.of hp),_,rfl,jX ⟨_,rfl,_,rfl,.inr ⟨p,_,rfl,eU.of hp,λz=>?_,λt nt=>?_⟩⟩⟩
  ·have:=z.2
   rw[show(2:Int)=((2:Nat):Int) from rfl,HT.sIx_nat] at this
   simp at this
  have s4:aS H3 (upd H3 t (.tup (mV [.int i,.int k,.ref d] none (some 2)))):=(aS.refl H3).new nt
  have h4:upd H3 t (.tup (mV [.int i,.int k,.ref d] none (some 2))) t=some (.tup (([i,k]:List Int).map V.int)):=by
   rw[ae,show(2:Int)=((2:Nat):Int) from rfl,lx];rfl
  generalize upd H3 t (.tup (mV [.int i,.int k,.ref d] none (some 2)))=H4 at s4 h4 ⊢
  refine⟨t,[i,k],rfl,.inr h4,by simp,λH5 s5=>⟨_,rfl,jX ⟨_,rfl,cH (s5 _ _ (s4 _ _ hp)) (by decide) rfl ⟨d,kvs,rfl,s5 _ _ (s4 _ _ hd),λl6 n6=>?_⟩⟩⟩⟩
  have s6:aS H5 (upd H5 l6 (.lst (kvs.map (·.2)))):=(aS.refl H5).new n6
  have h6:upd H5 l6 (.lst (kvs.map (·.2))) l6=some (.lst (zs.map V.int)):=by rw[ae,ez]
  generalize upd H5 l6 (.lst (kvs.map (·.2)))=H6 at s6 h6 ⊢
  refine⟨l6,zs,rfl,.inl h6,zl,λH7 s7=>⟨_,rfl,jX ?_⟩⟩
  have S7:aS H3 H7:=((s4.trans s5).trans s6).trans s7
  show wI K _ [some (.ref w),some (.ref L),some (.ref W),some st.out,some (.ref l),some (.ref l2),some (.ref p)] H7
  refine⟨_,rfl,cH (S7 _ _ hp) (by decide) rfl ⟨d,kvs,rfl,S7 _ _ hd,?_⟩⟩
  have dl:l≠d:=λz=>by rw[z,hd] at hl3;cases hl3
  have dl2:l2≠d:=λz=>by rw[z,hd] at h23;cases h23
  refine⟨_,rfl,by rw[aw dl];exact S7 _ _ hl3,by rw[aw dl2];exact S7 _ _ h23,λb u e=>by rw[aw (ar e dH)];exact S7 _ _ (s3 b u e),λv hv=>?_⟩
  obtain⟨p',d',i',k',kvs',zs',e1,e2,e3,e4,e5,e6,e7⟩:=tf v hv
  have pd:p'≠d:=λz=>by rw[z,hd] at e4;cases e4
  by_cases dd:d'=d
  ·subst dd
   exact⟨p',d',i',k',[],[],e1,e2,e3,by rw[aw pd];exact S7 _ _ e4,ae,rfl,by simp⟩
  ·exact⟨p',d',i',k',kvs',zs',e1,e2,e3,by rw[aw pd];exact S7 _ _ e4,by rw[aw dd];exact S7 _ _ e5,e6,e7⟩
 ·rintro σ' H3 ⟨o6,rfl,hl3,h23,s3,tf⟩
  show wH K _ [some (.ref w),some (.ref L),some (.ref W),some st.out,some (.ref l),some (.ref l2),o6] H3
  refine⟨_,rfl,.inl ⟨rfl,_,bZ.of hl3⟩,l,_,rfl,rfl,hl3,?_⟩
  have s4:aS H (upd H3 l (.lst [])):=λb u e=>by rw[aw (ar e lH)];exact s3 b u e
  have h24:upd H3 l (.lst []) l2=some (.lst (st.said.map V.int)):=by rw[aw (Ne.symm ll2)];exact h23
  show wG K _ [some (.ref w),some (.ref L),some (.ref W),some st.out,some (.ref l),some (.ref l2),o6] _
  generalize upd H3 l (.lst [])=H4 at s4 h24 ⊢
  have saw:=X.saw
  refine⟨_,rfl,.inl ⟨rfl,_,bZ.of h24⟩,l2,_,_,rfl,rfl,h24,cR (by rw[ai];lia),?_⟩
  have s5:aS H (upd H4 l2 (.lst (st.said.map V.int++[.int 7]))):=λb u e=>by rw[aw (ar e l2H)];exact s4 b u e
  show wF K _ [some (.ref w),some (.ref L),some (.ref W),some st.out,some (.ref l),some (.ref l2),o6] _
  generalize upd H4 l2 (.lst (st.said.map V.int++[.int 7]))=H5 at s5 ⊢
  have X5:=X.same s5
  refine⟨_,rfl,w,dx,_,rfl,X5.at_,rfl,cJ (oF T ⟨w,pp,H0,n,st,rfl,⟨dx,ol,sl,fvs,ds,X5⟩,_,rfl,.inr (.inr (.inl ⟨?_,_,rfl,?_⟩))⟩)⟩
  ·rcases ans with e|⟨z,e⟩<;>rw[e]<;>rfl
  ·rw[decide_eq_true rfl]
   exact za ⟨_,rfl,w,dx,_,rfl,X5.at_,rfl,cJ (oF T ⟨w,pp,H0,n,st,rfl,⟨dx,ol,sl,fvs,ds,X5⟩,_,rfl,ans,_,rfl,q H5 s5⟩)⟩
theorem qp{K:Fg}{H:Hp}{d:Nat}{x:V}(hx:jk x=true)(e:tP x x=true):Bd K H d x x true:=by
 have:=Bd.flat (K:=K) (H:=H) (d:=d) (x:=x) (y:=x) hx hx
 rw[e] at this;exact this
theorem Fb{K:Fg}{H:Hp}{l m:Addr}{zs:List Int}{d:Nat}(hl:H l=some (.lst (zs.map V.int)))(hm:H m=some (.lst (zs.map V.int))):Bd K H (d+1) (.ref l) (.ref m) true:=by
 by_cases c:l=m
 ·subst c;exact .same
 ·have:=Bd.lists (K:=K) (H:=H) (d:=d) (es:=aO (zs.map V.int).length true) c (bZ.of hl) (bZ.of hm) rfl (by simp) λj x y b hx hy hb=>by
   rw[hx] at hy;cases hy
   have:b=true:=(kZ.mp (az hb)).2
   subst this
   obtain⟨y,_,rfl⟩:=qt hx
   exact qp rfl (by simp[tP])
  have e:(aO (zs.map V.int).length true).all id=true:=by simp
  rw[e] at this;exact this
theorem EF{v:V}(h:Ln v):jk v=true/\tP v v=true:=by
 rcases h with rfl|⟨z,rfl⟩
 ·exact⟨rfl,rfl⟩
 ·exact⟨rfl,by simp[tP]⟩
theorem Gn{K:Fg}{H:Hp}{p u l m:Addr}{w:Str}{zs:List Int}{o:V}{i:Int}{Q:VK}(ho:Ln o)(hp:H p=some (.tup [.str w,.ref l,o,.int i]))(hl:H l=some (.lst (zs.map V.int)))(hu:H u=some (.tup [.str w,.ref m,o,.int i]))(hm:H m=some (.lst (zs.map V.int)))(h:Q (.bl true) H):D3 K (.ref p) (.ref u) H Q:=by
 obtain⟨o1,o2⟩:=EF ho
 refine .inl ⟨p,u,_,_,rfl,rfl,.inr ⟨eU.of hp,eU.of hu,rfl⟩,.inr ⟨[true,true,true,true],rfl,rfl,λj x y b hx hy hb=>?_,h⟩⟩
 match j with
 |0=>cases hx;cases hy;cases hb;exact qp rfl (by simp[tP])
 |1=>cases hx;cases hy;cases hb;exact Fb hl hm
 |2=>cases hx;cases hy;cases hb;exact qp o1 o2
 |3=>cases hx;cases hy;cases hb;exact qp rfl (by simp[tP])
 |j+4=>cases hb
theorem zU{K:Fg}{vs:List V}{H:Hp}{Q:VK}{E:XK}(h:gC K vs H Q E):so K {nx:=λ_ H'=>Q .non H',rt:=Q} (cN nU vs) H:=by
 obtain⟨pp,q0,T,k,bd,zs,bs,b,tvs,sts,rfl,P,hb,bl,hq,b60,hT,hA,s61,all,fin,s1,q⟩:=h
 have tl:tvs.length=sts.length:=hA.1
 refine⟨_,rfl,_,rfl,_,_,rfl,.inl ⟨_,bZ.of hT,rfl⟩,_,_,rfl,rfl,_,_,rfl,?_⟩
 obtain⟨m,em,mb,ml,mm⟩:∃m:Nat,(if((tvs.length:Nat):Int)-1<(bd:Int) then((tvs.length:Nat):Int)-1 else(bd:Int))=(m:Int)/\m<=bd/\m<sts.length/\(m=bd\/(m+1=sts.length/\m<bd)):=by
  split
  ·exact⟨sts.length-1,by lia,by lia,by lia,by lia⟩
  ·exact⟨bd,rfl,aC _,by lia,.inl rfl⟩
 rw[em]
 show pI K _ [some (.ref pp),some (.int (k:Nat)),some (.ref q0),some (.int (bd:Nat)),some (.ref T),some (.int (m:Nat)),none,none,none] H
 obtain⟨tv,st,htv,hst,p,wl,rfl,hp,hwl⟩:=hA.get ml
 obtain⟨ch,io,ans,few⟩:=all m st hst
 refine⟨_,rfl,_,rfl,mf (bZ.of hT) (by lia) (by simpa using htv) ⟨p,_,rfl,eU.of hp,rfl,_,_,rfl,_,_,rfl,rfl,?_⟩⟩
 show pG K _ [some (.ref pp),some (.int (k:Nat)),some (.ref q0),some (.int (bd:Nat)),some (.ref T),some (.int (m:Nat)),some (.ref wl),some st.out,none] H
 refine⟨(by show 2<=sizeLine;decide),λl nl=>⟨_,rfl,rfl,.inr ⟨_,rfl,?_⟩⟩⟩
 have sl:aS H (upd H l (.lst [.str "spent",.str "given"])):=(aS.refl H).new nl
 have hl:upd H l (.lst [.str "spent",.str "given"]) l=some (.lst [.str "spent",.str "given"]):=ae
 generalize upd H l (.lst [.str "spent",.str "given"])=H1 at sl hl ⊢
 have last:∀w:Str,w=oG st->gR (λσ H Q=>Q [.str w,.ref wl,st.out,.int (m:Nat)] H) [some (.ref pp),some (.int (k:Nat)),some (.ref q0),some (.int (bd:Nat)),some (.ref T),some (.int (m:Nat)),some (.ref wl),some st.out,none] H1 (λx H'=>aT 8 x [some (.ref pp),some (.int (k:Nat)),some (.ref q0),some (.int (bd:Nat)),some (.ref T),some (.int (m:Nat)),some (.ref wl),some st.out,none] H' (md K {nx:=λ_ H'=>Q .non H',rt:=Q})):=λw ew=>by
  refine⟨(by show 4<=sizeLine;decide),λu nu=>?_⟩
  have s2:aS H1 (upd H1 u (.tup [.str w,.ref wl,st.out,.int (m:Nat)])):=(aS.refl H1).new nu
  have h2:upd H1 u (.tup [.str w,.ref wl,st.out,.int (m:Nat)]) u=some (.tup [.str w,.ref wl,st.out,.int (m:Nat)]):=ae
  show md K _ [some (.ref pp),some (.int (k:Nat)),some (.ref q0),some (.int (bd:Nat)),some (.ref T),some (.int (m:Nat)),some (.ref wl),some st.out,some (.ref u)] _
  generalize upd H1 u (.tup [.str w,.ref wl,st.out,.int (m:Nat)])=H2 at s2 h2 ⊢
  have S2:=sl.trans s2
  refine⟨_,rfl,_,rfl,_,rfl,q0,_,rfl,.inl (bZ.of (S2 _ _ hq)),λl3 n3=>⟨_,rfl,?_⟩⟩
  have s3:aS H2 (upd H2 l3 (.lst (zs.map V.int))):=(aS.refl H2).new n3
  have h3:upd H2 l3 (.lst (zs.map V.int)) l3=some (.lst (zs.map V.int)):=ae
  generalize upd H2 l3 (.lst (zs.map V.int))=H3 at s3 h3 ⊢
  have S3:=S2.trans s3
  refine⟨pp,l3,k,bd,m,zs,bs,b,st,rfl,P.same S3,hb,bl,.inl h3,by lia,ch,mb,?_,λp4 l4 H4 hp4 hl4 _ s4=>⟨_,rfl,Gn ans hp4 hl4 (by rw[<-ew];exact s4 _ _ (s3 _ _ h2)) ((S3.trans s4) _ _ hwl) (q H4 (S3.trans s4))⟩⟩
  rcases mm with e|⟨e,lt⟩
  ·exact .inr e
  ·left
   rcases fin with f|⟨st',g1,g2⟩
   ·lia
   ·have:sts.getLast?=sts[m]?:=by rw[cB,<-e];rfl
    rw[this,hst] at g1
    cases g1
    exact g2
 by_cases c:st.out=.non
 ·have fs:st.fs≠[]:=λz=>(io.mp z) c
  rw[c] at last ⊢
  refine mf (bZ.of hl) (by decide) rfl ?_
  refine⟨_,rfl,_,rfl,_,rfl,last "spent" ?_⟩
  unfold oG
  cases h:st.fs with
  |nil=>exact absurd h fs
  |cons a r=>rfl
 ·have fs:st.fs=[]:=io.mpr c
  have e1:(if(!decide (st.out=V.non))=true then(1:Int) else 0)=1:=by rw[decide_eq_false c];rfl
  rw[e1]
  refine mf (bZ.of hl) (by decide) rfl ?_
  refine⟨_,rfl,_,rfl,_,rfl,last "given" ?_⟩
  unfold oG
  rw[fs];rfl
structure yJ(bs:List bf)(s0:jb)(j:Nat)(st:jb):Prop where
 ch:Ch bs j s0 st
 lok:EC bs (j+5) st.fs
 few:st.said.length<=j
 ends:st.fs=[]↔st.out≠.non
 ans:Ln st.out
theorem t8{ys:List Str}{cs:List Nat}{bs:List bf}(P:sx ys cs bs){n:Nat}{fs:List Fr}{said:List Int}(h:EC bs n fs)(ne:fs≠[]):((jo bs fs said).fs=[]↔nH (jo bs fs said).ret≠.non)/\Ln (nH (jo bs fs said).ret)/\(jo bs fs said).said.length<=said.length+1/\(jo bs fs said).ret.length<=1:=by
 rcases cx fs with rfl|⟨gs,f,rfl⟩
 ·exact absurd rfl ne
 rw[cw] at h ⊢
 rw[mY]
 have fo:=h.frs f (aJ _ ay)
 obtain⟨b,r,hb,hr,hj,st,er,ro,hs⟩:=fo.reads P
 unfold pW
 rw[er,hr]
 cases r with
 |jump to=>cases hj
 |give p=>
  rcases cx gs with rfl|⟨g2,g,rfl⟩
  ·exact⟨⟨λ_=>by simp[nH],λ_=>rfl⟩,.inr ⟨_,rfl⟩,by simp,by simp⟩
  ·rw[cw]
   have el:(g2++[g]).getLast?=some g:=by simp
   rw[el]
   exact⟨⟨λz=>absurd z (by simp),λz=>absurd rfl z⟩,.inl rfl,by simp,by simp⟩
 |_=>exact⟨⟨λz=>absurd z (by simp),λz=>absurd rfl z⟩,.inl rfl,by simp,by simp⟩
theorem yJ.step{ys:List Str}{cs:List Nat}{bs:List bf}(P:sx ys cs bs){s0:jb}{j:Nat}{st:jb}(g:yJ bs s0 j st)(ne:st.fs≠[]):yJ bs s0 (j+1) ⟨(jo bs st.fs st.said).fs,(jo bs st.fs st.said).said,nH (jo bs st.fs st.said).ret⟩:=by
 have eo:st.out=.non:=Classical.byContradiction λz=>ne (g.ends.mpr z)
 obtain⟨e1,e2,e3,_⟩:=t8 P (said:=st.said) g.lok ne
 have sp:=wa P (said:=st.said) g.lok ne
 refine⟨.snoc g.ch ne ?_,?_,?_,e1,e2⟩
 ·have:st=⟨st.fs,st.said,.non⟩:=by cases st;simp at eo;rw[eo]
  rw[this];exact sp
 ·have:=g.lok.step P (said:=st.said) (by lia)
  rw[show j+1+5=j+5+1 by lia];exact this
 ·have:=g.few;show(jo bs st.fs st.said).said.length<=j+1;lia
theorem y3{ys:List Str}{cs:List Nat}{bs:List bf}(P:sx ys cs bs){s0:jb}(h0:yJ bs s0 0 s0):∀N,∃m st,m<=N/\yJ bs s0 m st/\(st.fs=[]\/m=N)
 |0=>⟨0,s0,aC _,h0,.inr rfl⟩
 |N+1=>by
  obtain⟨m,st,hm,g,e⟩:=y3 P h0 N
  by_cases c:st.fs=[]
  ·exact⟨m,st,by lia,g,.inl c⟩
  ·have em:m=N:=e.resolve_left c
   subst em
   exact⟨m+1,_,aC _,g.step P c,.inr rfl⟩
theorem dz.turn{K:Fg}{H0 H H':Hp}{w pp:Addr}{n:Nat}{st:jb}{S:Addr->Prop}(X:dz K H0 H w pp n st)(hS:∀a,S a->H0 a≠none)(Bk:∀b o,¬S b->H b=some o->H' b=some o) :
  ∃H0',dz K H0' H' w pp n st/\(∀a u,H0 a≠none->H' a=some u->H0' a=some u)/\(∀a u,H a=none->H' a=some u->H0' a=some u)/\(∀a u,(∀C dx fs,u≠.ins C dx fs)->(∀xs,u≠.lst xs)->(∀k,u≠.dK k)->H' a=some u->H0' a=some u):=by
 obtain⟨dx,ol,sl,fvs,ds,X⟩:=X
 have base0:∀a,(a=w\/a=ol\/a=sl\/V.ref a∈fvs\/a∈ds)->H0 a=none:=by
  rintro a (rfl|rfl|rfl|h|h)
  ·exact X.nw
  ·exact X.no
  ·exact X.ns
  ·exact X.nf a h
  ·exact X.nd a h
 have X':eN K (BN H' w ol sl fvs ds) H' w pp dx ol sl fvs ds n st:=X.else_ (λa u o e=>Bk a u (λz=>hS a z (base0 a o)) e) (λb u e=>by
   by_cases h:b=w\/b=ol\/b=sl\/V.ref b∈fvs\/b∈ds
   ·rw[oR h] at e;cases e
   ·rw[iU h] at e;exact e) λa o=>oR o
 have kinds:∀a,(a=w\/a=ol\/a=sl\/V.ref a∈fvs\/a∈ds)->∃u0,H a=some u0/\∃u,H' a=some u/\((∃C dx fs,u=.ins C dx fs)\/(∃xs,u=.lst xs)\/∃k,u=.dK k):=by
  rintro a (rfl|rfl|rfl|h|h)
  ·exact⟨_,X.at_,_,X'.at_,.inl ⟨_,_,_,rfl⟩⟩
  ·exact⟨_,X.op,_,X'.op,.inr (.inl ⟨_,rfl⟩)⟩
  ·exact⟨_,X.sp,_,X'.sp,.inr (.inl ⟨_,rfl⟩)⟩
  ·obtain⟨_,_,e,_⟩:=X.fr.ins h
   obtain⟨_,_,e',_⟩:=X'.fr.ins h
   exact⟨_,e,_,e',.inl ⟨_,_,_,rfl⟩⟩
  ·obtain⟨_,e⟩:=X.fr.dct h
   obtain⟨_,e'⟩:=X'.fr.dct h
   exact⟨_,e,_,e',.inr (.inr ⟨_,rfl⟩)⟩
 refine⟨_,⟨dx,ol,sl,fvs,ds,X'⟩,λa u ha e=>?_,λa u ha e=>?_,λa u k1 k2 k3 e=>?_⟩
 ·rw[iU λo=>ha (base0 a o)];exact e
 ·rw[iU λo=>?_];exact e
  obtain⟨u0,z,_⟩:=kinds a o
  rw[ha] at z;cases z
 ·rw[iU λo=>?_];exact e
  obtain⟨_,_,u',z,h⟩:=kinds a o
  rw[e] at z;cases z
  rcases h with⟨C,dx,fs,h⟩|⟨xs,h⟩|⟨k,h⟩
  ·exact k1 _ _ _ h
  ·exact k2 _ h
  ·exact k3 _ h
def MY(L W T:Addr)(H:Hp)(v:V)(st:jb):Prop:=∃p l,v=.ref p/\H p=some (.tup [.ref l,st.out])/\H l=some (.lst (st.said.map V.int))/\l≠L/\l≠W/\l≠T
structure GV(K:Fg)(ys:List Str)(cs:List Nat)(bs:List bf)(H0:Hp)(st pp al al2 w2 L W T:Addr)(zs zs2:List Int)(stt st2:jb)(sts:List jb):Prop where
 kk:∃k,kO K H0 st k/\k<=700000
 pg:Ey H0 pp ys cs bs
 a1:H0 al=some (.lst (zs.map V.int))
 a2:H0 al2=some (.lst (zs2.map V.int))
 fr:∃lvs,H0 L=some (.lst lvs)/\bR (Bb H0) lvs stt.fs
 wd:H0 W=some (.lst (stt.said.map V.int))
 td:∃tvs,H0 T=some (.lst tvs)/\bR (MY L W T H0) tvs sts
 w2:∃H00,dz K H00 H0 w2 pp 1 st2/\H00 L≠none/\H00 W≠none/\H00 T≠none
 ne:L≠W/\L≠T/\W≠T
 ns:st≠L/\st≠W/\st≠T
 na:al≠L/\al≠W/\al≠T
 nb:al2≠L/\al2≠W/\al2≠T
theorem GV.tp{K:Fg}{ys:List Str}{cs:List Nat}{bs:List bf}{H0 H0':Hp}{st pp al al2 w2 L W T:Addr}{zs zs2:List Int}{stt st2:jb}{sts:List jb}(B:GV K ys cs bs H0 st pp al al2 w2 L W T zs zs2 stt st2 sts)(keep:∀b o,b≠L->b≠W->b≠T->H0 b=some o->H0' b=some o):Td H0 H0':=by
 obtain⟨lvs,hL,_⟩:=B.fr
 obtain⟨tvs,hT,_⟩:=B.td
 exact⟨λp xs e=>keep _ _ (λz=>by rw[z,hL] at e;cases e) (λz=>by rw[z,B.wd] at e;cases e) (λz=>by rw[z,hT] at e;cases e) e,
  λp k e=>keep _ _ (λz=>by rw[z,hL] at e;cases e) (λz=>by rw[z,B.wd] at e;cases e) (λz=>by rw[z,hT] at e;cases e) e⟩
theorem GV.move{K:Fg}{ys:List Str}{cs:List Nat}{bs:List bf}{H0 H0':Hp}{st pp al al2 w2 L W T:Addr}{zs zs2:List Int}{stt stt' st2:jb}{sts sts':List jb}(B:GV K ys cs bs H0 st pp al al2 w2 L W T zs zs2 stt st2 sts)(keep:∀b o,b≠L->b≠W->b≠T->H0 b=some o->H0' b=some o)
  (fr:∃lvs,H0' L=some (.lst lvs)/\bR (Bb H0') lvs stt'.fs) (wd:H0' W=some (.lst (stt'.said.map V.int))) (td:∃tvs,H0' T=some (.lst tvs)/\bR (MY L W T H0') tvs sts'):GV K ys cs bs H0' st pp al al2 w2 L W T zs zs2 stt' st2 sts':=by
 have t:=B.tp keep
 obtain⟨H00,⟨dx,ol,sl,fvs,ds,X⟩,n1,n2,n3⟩:=B.w2
 obtain⟨k,S,kl⟩:=B.kk
 have base0:∀a,(a=w2\/a=ol\/a=sl\/V.ref a∈fvs\/a∈ds)->H00 a=none:=by
  rintro a (rfl|rfl|rfl|h|h)
  ·exact X.nw
  ·exact X.no
  ·exact X.ns
  ·exact X.nf a h
  ·exact X.nd a h
 have X':eN K (BN H0' w2 ol sl fvs ds) H0' w2 pp dx ol sl fvs ds 1 st2:=X.else_ (λa u o e=>keep a u (λz=>by rw[z] at o;exact n1 (base0 _ o)) (λz=>by rw[z] at o;exact n2 (base0 _ o)) (λz=>by rw[z] at o;exact n3 (base0 _ o)) e) (λb u e=>by
   by_cases h:b=w2\/b=ol\/b=sl\/V.ref b∈fvs\/b∈ds
   ·rw[oR h] at e;cases e
   ·rw[iU h] at e;exact e) λa o=>oR o
 obtain⟨scr,ns,c,e,sq,l⟩:=S
 obtain⟨lvs,hL,_⟩:=id fr
 obtain⟨tvs,hT,_⟩:=id td
 refine⟨⟨k,⟨scr,ns,c,keep _ _ B.ns.1 B.ns.2.1 B.ns.2.2 e,?_,l⟩,kl⟩,B.pg.mono t.tp,keep _ _ B.na.1 B.na.2.1 B.na.2.2 B.a1,keep _ _ B.nb.1 B.nb.2.1 B.nb.2.2 B.a2,fr,wd,td,⟨_,⟨dx,ol,sl,fvs,ds,X'⟩,?_,?_,?_⟩,B.ne,B.ns,B.na,B.nb⟩
 ·rcases sq with⟨o,h⟩|h
  ·obtain⟨lv0,hL0,_⟩:=B.fr
   obtain⟨tv0,hT0,_⟩:=B.td
   exact .inl ⟨o,keep _ _ (λz=>by rw[z,hL0] at h;cases h) (λz=>by rw[z,B.wd] at h;cases h) (λz=>by rw[z,hT0] at h;cases h) h⟩
  ·exact .inr h
 ·rw[iU λo=>n1 (base0 _ o),hL];simp
 ·rw[iU λo=>n2 (base0 _ o),wd];simp
 ·rw[iU λo=>n3 (base0 _ o),hT];simp
structure xa(bs:List bf)(s0:jb)(sts:List jb)(stt:jb)(i:Nat):Prop where
 all:∀(j:Nat) st,sts[j]?=some st->yJ bs s0 j st
 last:sts.getLast?=some stt
 few:sts.length<=i+1
 ends:stt.fs=[]\/sts.length=i+1
theorem xa.goes{bs:List bf}{s0:jb}{sts:List jb}{stt:jb}{i:Nat}(h:xa bs s0 sts stt i):yJ bs s0 (sts.length-1) stt:=h.all _ _ (by rw[<-cB];exact h.last)
theorem xa.pos{bs:List bf}{s0:jb}{sts:List jb}{stt:jb}{i:Nat}(h:xa bs s0 sts stt i):1<=sts.length:=by
 cases e:sts with
 |nil=>have:=h.last;rw[e] at this;cases this
 |cons a r=>rw[cf];lia
theorem qy{H:Hp}{pp:Addr}{ys:List Str}{cs:List Nat}{bs:List bf}(P:Ey H pp ys cs bs):hU H pp bs:=
 ⟨P.ex,λb hb=>(P.ok.ok.part b hb).good,λb hb=>by
  have:=P.ok.ok.c4 _ (by rw[<-P.ok.ok.cnt];exact dU.mpr ⟨b,hb,rfl⟩)
  show b.params.length<=100
  have e:b.params.length<=4:=this
  lia⟩
theorem Fq{K:Fg}(TX:iJ K){ys:List Str}{cs:List Nat}{bs:List bf}{H0 H:Hp}{scr st pp al al2 w w2 L W T hd:Addr}{k k2 i:Nat}{zs zs2:List Int}{s0 stt st2:jb}{sts:List jb}{o14 o15:Option V}{D:nN}(hi:i<60)
  (X:dz K H0 H w pp (i+1) stt) (B:GV K ys cs bs H0 st pp al al2 w2 L W T zs zs2 stt st2 sts) (hs:xa bs s0 sts stt i)
  (hnx:∀(H' H0':Hp) (stt':jb) (sts':List jb) (o15':Option V),dz K H0' H' w pp (i+2) stt'->GV K ys cs bs H0' st pp al al2 w2 L W T zs zs2 stt' st2 sts'->xa bs s0 sts' stt' (i+1)->D.nx [some (.ref scr),some (.ref st),some (.ref pp),some (.int (k:Nat)),some (.ref al),some (.ref hd),some (.ref w),some (.int (k2:Nat)),some (.ref al2),some (.ref w2),some (.ref L),some (.ref W),some stt'.out,some (.ref T),o14,o15',none] H') :
  uJ K D [some (.ref scr),some (.ref st),some (.ref pp),some (.int (k:Nat)),some (.ref al),some (.ref hd),some (.ref w),some (.int (k2:Nat)),some (.ref al2),some (.ref w2),some (.ref L),some (.ref W),some stt.out,some (.ref T),o14,o15,none] H:=by
 have g:=hs.goes
 have sl:=hs.few
 have sp:=hs.pos
 obtain⟨lvs,hL0,hA0⟩:=B.fr
 obtain⟨tvs,hT0,hTd⟩:=B.td
 obtain⟨dx,ol,sl',fvs,ds,X0⟩:=id X
 have sm:=X0.sm
 refine⟨_,rfl,_,rfl,_,rfl,_,rfl,w,pp,L,W,H0,i+1,_,stt,lvs,bs,rfl,X,by lia,sm _ _ hL0,hA0.imp λ_ _ z=>z.mono (.of_same sm),g.lok,sm _ _ B.wd,g.ans,λH1 s1=>⟨_,rfl,jX ?_⟩⟩
 show C9 K D [some (.ref scr),some (.ref st),some (.ref pp),some (.int (k:Nat)),some (.ref al),some (.ref hd),some (.ref w),some (.int (k2:Nat)),some (.ref al2),some (.ref w2),some (.ref L),some (.ref W),some stt.out,some (.ref T),o14,o15,none] H1
 have X1:=X0.same s1
 by_cases c:stt.fs=[]
 ·have cn:=g.ends.mp c
  refine⟨_,rfl,w,dx,_,rfl,X1.at_,rfl,cJ ⟨w,pp,i+1,H0,stt,stt,bs,rfl,⟨dx,ol,sl',fvs,ds,X1⟩,qy B.pg,by lia,.inr ⟨c,rfl⟩,λH2 X2=>?_⟩⟩
  refine⟨_,rfl,rfl,_,rfl,cT (λz=>absurd z cn) (λ_=>?_)⟩
  exact hnx H2 H0 stt sts _ X2 B ⟨hs.all,hs.last,by have:=hs.few;lia,.inl c⟩
 ·have eo:stt.out=.non:=Classical.byContradiction λz=>c (g.ends.mpr z)
  have sl1:sts.length=i+1:=hs.ends.resolve_left c
  have es:stt=⟨stt.fs,stt.said,.non⟩:=by cases stt;simp at eo;rw[eo]
  have stp:=wa B.pg.ok (said:=stt.said) g.lok c
  rw[<-es] at stp
  have g2:=g.step B.pg.ok c
  obtain⟨_,_,_,ret1⟩:=t8 B.pg.ok (said:=stt.said) g.lok c
  refine⟨_,rfl,w,dx,_,rfl,X1.at_,rfl,cJ ⟨w,pp,i+1,H0,stt,_,bs,rfl,⟨dx,ol,sl',fvs,ds,X1⟩,qy B.pg,by lia,.inl stp,λH2 X2=>?_⟩⟩
  obtain⟨dx2,ol2,sl2,fvs2,ds2,Y2⟩:=id X2
  have sm2:=Y2.sm
  have fw:=g.few
  refine⟨_,rfl,rfl,_,rfl,cT (λ_=>?_) (λz=>absurd eo z)⟩
  rw[eo]
  refine .inl ⟨_,rfl,_,rfl,_,rfl,pp,L,W,_,lvs,stt.fs,stt.said,ys,cs,bs,rfl,B.pg.mono (.of_same sm2),sm2 _ _ hL0,hA0.imp λ_ _ z=>z.mono (.of_same sm2),sm2 _ _ B.wd,B.ne.1,g.lok,c,by lia,by lia,λe fvs' H3 hL3 hA3 hN3 hW3 he3 ne3 B3=>⟨e,rfl,⟨_,bZ.of he3⟩,?_⟩⟩
  generalize jo bs stt.fs stt.said=lr at stp g2 ret1 X2 Y2 hA3 hW3 he3 ⊢
  refine og (xs:=lr.ret.map V.int) (λj σ' H'=>H'=H3/\∃o15',σ'=[some (.ref scr),some (.ref st),some (.ref pp),some (.int (k:Nat)),some (.ref al),some (.ref hd),some (.ref w),some (.int (k2:Nat)),some (.ref al2),some (.ref w2),some (.ref L),some (.ref W),some (if j=0 then .non else nH lr.ret),some (.ref T),o14,o15',none]) ⟨rfl,_,rfl⟩ ?_ ?_ ?_
  ·rintro j σ' H' _ ⟨rfl,_⟩
   exact bZ.of he3
  ·rintro j x σ' H' hx ⟨rfl,o,rfl⟩
   obtain⟨z,hz,rfl⟩:=qt hx
   have jl:=(aj.mp hz).1
   have j0:j=0:=by lia
   subst j0
   have er:nH lr.ret=.int z:=by
    cases e:lr.ret with
    |nil=>rw[e] at hz;cases hz
    |cons a r=>rw[e] at hz;cases hz;rfl
   refine⟨_,rfl,rfl,some (.int z),?_⟩
   rw[if_neg (show ¬(0+1=0) by decide),er];rfl
  ·rintro σ' H' ⟨rfl,o,rfl⟩
   have ee:(if(lr.ret.map V.int).length=0 then V.non else nH lr.ret)=nH lr.ret:=by
    cases lr.ret with
    |nil=>rfl
    |cons a r=>rfl
   rw[ee]
   show C8 K _ [some (.ref scr),some (.ref st),some (.ref pp),some (.int (k:Nat)),some (.ref al),some (.ref hd),some (.ref w),some (.int (k2:Nat)),some (.ref al2),some (.ref w2),some (.ref L),some (.ref W),some (nH lr.ret),some (.ref T),o14,o,none] H'
   have hT3:H' T=some (.lst tvs):=B3 _ _ (Ne.symm B.ne.2.1) (Ne.symm B.ne.2.2) (sm2 _ _ hT0)
   have tl:tvs.length=sts.length:=hTd.1
   refine⟨_,rfl,.inl ⟨rfl,_,bZ.of hT3⟩,_,rfl,W,_,rfl,.inl (bZ.of hW3),λl4 n4=>⟨_,rfl,(by show 2<=sizeLine;decide),λt5 n5=>?_⟩⟩
   have s5:aS H' (upd (upd H' l4 (.lst (lr.said.map V.int))) t5 (.tup [.ref l4,nH lr.ret])):=((aS.refl H').new n4).new n5
   have h5:upd (upd H' l4 (.lst (lr.said.map V.int))) t5 (.tup [.ref l4,nH lr.ret]) t5=some (.tup [.ref l4,nH lr.ret]):=ae
   have h4:upd (upd H' l4 (.lst (lr.said.map V.int))) t5 (.tup [.ref l4,nH lr.ret]) l4=some (.lst (lr.said.map V.int)):=(aS.refl _).new n5 _ _ ae
   generalize upd (upd H' l4 (.lst (lr.said.map V.int))) t5 (.tup [.ref l4,nH lr.ret])=H5 at s5 h5 h4 ⊢
   refine⟨T,_,_,rfl,rfl,s5 _ _ hT3,cR (by lia),?_⟩
   have nl4:∀a u,H' a=some u->l4≠a:=λa u e z=>by rw[z,e] at n4;cases n4
   have Bk:∀b o,¬(b=L\/b=W\/b=T)->H2 b=some o->upd H5 T (.lst (tvs++[.ref t5])) b=some o:=λb o nb e=>by
    rw[aw λz=>nb (.inr (.inr z))]
    exact s5 _ _ (B3 b o (λz=>nb (.inl z)) (λz=>nb (.inr (.inl z))) e)
   have hL6:upd H5 T (.lst (tvs++[.ref t5])) L=some (.lst fvs'):=by rw[aw B.ne.2.1];exact s5 _ _ hL3
   have hW6:upd H5 T (.lst (tvs++[.ref t5])) W=some (.lst (lr.said.map V.int)):=by rw[aw B.ne.2.2];exact s5 _ _ hW3
   have hT6:upd H5 T (.lst (tvs++[.ref t5])) T=some (.lst (tvs++[.ref t5])):=ae
   have keep3:∀a u,a≠T->H' a=some u->upd H5 T (.lst (tvs++[.ref t5])) a=some u:=λa u n e=>by rw[aw n];exact s5 _ _ e
   have h56:upd H5 T (.lst (tvs++[.ref t5])) t5=some (.tup [.ref l4,nH lr.ret]):=by rw[aw λz=>by rw[z,s5 _ _ hT3] at h5;cases h5];exact h5
   have l4T:l4≠T:=nl4 _ _ hT3
   have h46:upd H5 T (.lst (tvs++[.ref t5])) l4=some (.lst (lr.said.map V.int)):=by rw[aw l4T];exact h4
   generalize upd H5 T (.lst (tvs++[.ref t5]))=H6 at Bk hL6 hW6 hT6 keep3 h56 h46 ⊢
   have inS:∀a,(a=L\/a=W\/a=T)->H0 a≠none:=by
    rintro a (rfl|rfl|rfl)
    ·rw[hL0];simp
    ·rw[B.wd];simp
    ·rw[hT0];simp
   obtain⟨H0',X6,c1,c2,c3⟩:=dz.turn (S:=λa=>a=L\/a=W\/a=T) X2 inS Bk
   have keep:∀b o,b≠L->b≠W->b≠T->H0 b=some o->H0' b=some o:=λb o n1 n2 n3 e=>c1 b o (by rw[e];simp) (Bk b o (λz=>z.elim n1 λz=>z.elim n2 n3) (sm2 _ _ e))
   have td:=B.tp keep
   have t26:Td H0 H6:=⟨λp xs e=>Bk _ _ (by rintro(rfl|rfl|rfl);exact absurd e (by rw[hL0];simp);exact absurd e (by rw[B.wd];simp);exact absurd e (by rw[hT0];simp)) (sm2 _ _ e),λp kk e=>Bk _ _ (by rintro(rfl|rfl|rfl);exact absurd e (by rw[hL0];simp);exact absurd e (by rw[B.wd];simp);exact absurd e (by rw[hT0];simp)) (sm2 _ _ e)⟩
   have tup6:∀p xs,H6 p=some (.tup xs)->H0' p=some (.tup xs):=λp xs e=>c3 _ _ (λ_ _ _ z=>by cases z) (λ_ z=>by cases z) (λ_ z=>by cases z) e
   refine hnx H6 H0' ⟨lr.fs,lr.said,nH lr.ret⟩ (sts++[⟨lr.fs,lr.said,nH lr.ret⟩]) o X6 (B.move keep ⟨fvs',c1 _ _ (inS _ (.inl rfl)) hL6,hA3.1,λj v f hv hf=>?_⟩ (c1 _ _ (inS _ (.inr (.inl rfl))) hW6) ⟨_,c1 _ _ (inS _ (.inr (.inr rfl))) hT6,?_⟩) ?_
   ·obtain⟨p,d,rfl,hp,hd⟩:=hA3.at_ j v f hv hf
    have pT:p≠T:=λz=>by rw[z,hT3] at hp;cases hp
    have dT:d≠T:=λz=>by rw[z,hT3] at hd;cases hd
    refine⟨p,d,rfl,tup6 _ _ (keep3 _ _ pT hp),?_⟩
    have d6:=keep3 _ _ dT hd
    rcases hN3 _ (az hv) with old|⟨p',d',i',n',e1,e2,e3⟩
    ·obtain⟨j',hj'⟩:=ki old
     obtain⟨f',hf',p',d',e1,e2,e3⟩:=hA0.of_v hj'
     cases e1
     have:=t26.tp _ _ e2
     rw[keep3 _ _ pT hp] at this
     simp only[Option.some.injEq,HO.tup.injEq,List.cons.injEq,V.ref.injEq] at this
     obtain⟨_,_,ed,_⟩:=this
     rw[<-ed] at e3
     exact c1 _ _ (by rw[e3];simp) d6
    ·cases e1
     rw[hp] at e2;cases e2
     exact c2 _ _ e3 d6
   ·refine bR.snoc ⟨hTd.1,λj v s hv hsj=>?_⟩ ⟨t5,l4,rfl,tup6 _ _ h56,c2 _ _ ?_ h46,nl4 _ _ hL3,nl4 _ _ hW3,l4T⟩
    ·obtain⟨p,l,e1,e2,e3,n1,n2,n3⟩:=hTd.at_ j v s hv hsj
     exact⟨p,l,e1,td.tp _ _ e2,keep _ _ n1 n2 n3 e3,n1,n2,n3⟩
    ·cases e:H2 l4 with
     |none=>rfl
     |some u=>exact absurd rfl (nl4 l4 u (B3 _ _ (nl4 _ _ hL3) (nl4 _ _ hW3) e))
   ·refine⟨λj s hj=>?_,by simp,by rw[aD];simp;lia,.inr (by rw[aD];simp;lia)⟩
    by_cases cj:j<sts.length
    ·rw[bz cj] at hj
     exact hs.all j s hj
    ·have ej:j=sts.length:=by
      have:=(aj.mp hj).1
      rw[aD,cc] at this
      lia
     subst ej
     rw[bj (aC _),eZ] at hj
     cases hj
     rw[show sts.length-1+1=sts.length by lia] at g2
     exact g2
theorem rB{bs:List bf}{k:Nat}{b:bf}{zs:List Int}(hb:bs[k]?=some b):CQ bs k zs=gG b k zs:=by unfold CQ gG;rw[um hb,yj hb];rfl
theorem E7{ys:List Str}{cs:List Nat}{bs:List bf}(P:sx ys cs bs){k:Nat}{b:bf}{zs:List Int}(hb:bs[k]?=some b)(hl:b.params.length=zs.length)(h4:zs.length<=4)(hz:∀z∈zs,u1 z):yJ bs ⟨[gG b k zs],[],.non⟩ 0 ⟨[gG b k zs],[],.non⟩:=by
 have fk:yH bs 5 (CQ bs k zs):=(FM (P.good hb) hb (P.ok.part b (az hb)).pnd hl hz).up (by lia)
 rw[rB hb] at fk
 exact⟨.nil,⟨(λf hf=>by rw[au.mp hf];exact fk),(λf hf=>by cases hf),by simp⟩,by simp,⟨λz=>absurd z (by simp),λz=>absurd rfl z⟩,.inl rfl⟩
theorem Ft{K:Fg}(TX:iJ K){ys:List Str}{cs:List Nat}{bs:List bf}{H0 H:Hp}{scr st pp al al2 w w2 L W T hd:Addr}{k k2:Nat}{zs zs2:List Int}{b b2:bf}{stt:jb}{sts:List jb}{o14 o15 o16:Option V}{Q:VK}
  (hb:bs[k]?=some b) (hl:b.params.length=zs.length) (z4:zs.length<=4) (hz:∀z∈zs,u1 z) (hb2:bs[k2]?=some b2) (hl2:b2.params.length=zs2.length) (z24:zs2.length<=4) (hz2:∀z∈zs2,u1 z)
  (X:dz K H0 H w pp 61 stt) (B:GV K ys cs bs H0 st pp al al2 w2 L W T zs zs2 stt ⟨[gG b2 k2 zs2],[],.non⟩ sts) (hs:xa bs ⟨[gG b k zs],[],.non⟩ sts stt 60) (q:∀H',Q (.bl true) H') :
  C7 K {nx:=λ_ H'=>Q .non H',rt:=Q} [some (.ref scr),some (.ref st),some (.ref pp),some (.int (k:Nat)),some (.ref al),some (.ref hd),some (.ref w),some (.int (k2:Nat)),some (.ref al2),some (.ref w2),some (.ref L),some (.ref W),some stt.out,some (.ref T),o14,o15,o16] H:=by
 have g:=hs.goes
 have sl:=hs.few
 obtain⟨lvs,hL0,hA0⟩:=B.fr
 obtain⟨tvs,hT0,hTd⟩:=B.td
 obtain⟨dx,ol,sl',fvs,ds,X0⟩:=id X
 have sm:=X0.sm
 refine⟨_,rfl,_,rfl,_,rfl,_,rfl,w,pp,L,W,H0,61,_,stt,lvs,bs,rfl,X,by decide,sm _ _ hL0,hA0.imp λ_ _ z=>z.mono (.of_same sm),g.lok,sm _ _ B.wd,g.ans,λH1 s1=>⟨_,rfl,jX ?_⟩⟩
 have S1:aS H0 H1:=sm.trans s1
 show C6 K _ [some (.ref scr),some (.ref st),some (.ref pp),some (.int (k:Nat)),some (.ref al),some (.ref hd),some (.ref w),some (.int (k2:Nat)),some (.ref al2),some (.ref w2),some (.ref L),some (.ref W),some stt.out,some (.ref T),o14,o15,o16] H1
 obtain⟨H00,⟨dx2,ol2,sl2,fvs2,ds2,X2⟩,_,_,_⟩:=B.w2
 have g2:=E7 B.pg.ok hb2 hl2 z24 hz2
 refine⟨_,rfl,_,rfl,_,rfl,_,rfl,pp,al2,k2,zs2,ys,cs,bs,b2,rfl,B.pg.mono (.of_same S1),hb2,hl2,by lia,.inl (S1 _ _ B.a2),λv H2 fa nf s2=>⟨(by show 1<=sizeLine;decide),λL2 nL2=>⟨(by show 0<=sizeLine;decide),λW2 nW2=>?_⟩⟩⟩
 have s4:aS H2 (upd (upd H2 L2 (.lst [v])) W2 (.lst [])):=((aS.refl H2).new nL2).new nW2
 have hL2:upd (upd H2 L2 (.lst [v])) W2 (.lst []) L2=some (.lst [v]):=(aS.refl _).new nW2 _ _ ae
 have hW2:upd (upd H2 L2 (.lst [v])) W2 (.lst []) W2=some (.lst []):=ae
 generalize upd (upd H2 L2 (.lst [v])) W2 (.lst [])=H4 at s4 hL2 hW2 ⊢
 have S4:aS H0 H4:=(S1.trans s2).trans s4
 rw[rB hb2] at fa
 refine⟨w2,pp,L2,W2,H00,1,_,⟨[gG b2 k2 zs2],[],.non⟩,[v],bs,rfl,⟨dx2,ol2,sl2,fvs2,ds2,X2.same S4⟩,by decide,hL2,bR.nil.snoc (fa.mono (.of_same s4)),g2.lok,hW2,.inl rfl,λH5 s5=>⟨_,rfl,jX ?_⟩⟩
 have S5:aS H0 H5:=S4.trans s5
 show C5 K _ [some (.ref scr),some (.ref st),some (.ref pp),some (.int (k:Nat)),some (.ref al),some (.ref hd),some (.ref w),some (.int (k2:Nat)),some (.ref al2),some (.ref w2),some (.ref L),some (.ref W),some stt.out,some (.ref T),o14,o15,o16] H5
 obtain⟨kk,Sk,kl⟩:=B.kk
 have Sk5:=Sk.same S5
 obtain⟨ysl,hsl⟩:=Sk5.lst
 refine .inr ⟨_,rfl,st,61,kk,rfl,Sk5,by lia,by decide,by decide,λe H6 e0 e1 S6 B6=>⟨(by show 3<=sizeLine;decide),λt nt=>?_⟩⟩
 obtain⟨bd,rfl⟩:∃bd:Nat,e=(bd:Int):=⟨e.toNat,by lia⟩
 have s7:aS H6 (upd H6 t (.tup [.int (bd:Nat),.int 0,.int 60])):=(aS.refl H6).new nt
 have h7:upd H6 t (.tup [.int (bd:Nat),.int 0,.int 60]) t=some (.tup ((([bd,0,60]:List Nat).map λ(n:Nat)=>V.int (n:Int)))):=ae
 generalize upd H6 t (.tup [.int (bd:Nat),.int 0,.int 60])=H7 at s7 h7 ⊢
 have T67:Tp H5 H7:=(Tp.of_but B6 hsl).trans (.of_same s7)
 have keep:∀b u,b≠st->H0 b=some u->H7 b=some u:=λb u n e=>s7 _ _ (B6 b u n (S5 _ _ e))
 have P7:hU H7 pp bs:=qy ((B.pg.mono (.of_same S5)).mono T67)
 have ast:al≠st:=λz=>by
  obtain⟨_,_,_,e1,_⟩:=Sk
  have:=B.a1
  rw[z,e1] at this
  injection this with this
  injection this with this
  cases zs with
  |nil=>cases this
  |cons a r=>cases this
 have hal:=keep _ _ ast B.a1
 have hT7:=keep _ _ (Ne.symm B.ns.2.2) hT0
 have A7:bR (MX H7) tvs sts:=⟨hTd.1,λj v s hv hsj=>by
  obtain⟨p,l,e1,e2,e3,n1,n2,n3⟩:=hTd.at_ j v s hv hsj
  refine⟨p,l,e1,keep _ _ (λz=>by obtain⟨_,h⟩:=Sk.lst;rw[z,h] at e2;cases e2) e2,keep _ _ (λz=>?_) e3⟩
  obtain⟨_,_,_,h,_⟩:=Sk
  rw[z,h] at e3
  injection e3 with e3
  injection e3 with e3
  cases hh:s.said with
  |nil=>rw[hh] at e3;cases e3
  |cons a r=>rw[hh] at e3;cases e3⟩
 refine⟨t,rfl,⟨_,eU.of h7⟩,xK (xs:=([bd,0,60]:List Nat).map λ(n:Nat)=>V.int (n:Int)) (λj σ' H'=>∃o16',σ'=[some (.ref scr),some (.ref st),some (.ref pp),some (.int (k:Nat)),some (.ref al),some (.ref hd),some (.ref w),some (.int (k2:Nat)),some (.ref al2),some (.ref w2),some (.ref L),some (.ref W),some stt.out,some (.ref T),o14,o15,o16']/\aS H7 H') ⟨_,rfl,aS.refl H7⟩ ?_ ?_ ?_⟩
 ·rintro j σ' H' _ ⟨_,_,s⟩
  exact eU.of (s _ _ h7)
 ·rintro j x σ' H8 hx ⟨o,rfl,s8⟩
  obtain⟨n,hn,rfl⟩:∃n:Nat,n<=60/\x=.int (n:Nat):=by
   rw[ba] at hx
   match j,hx with
   |0,hx=>exact⟨bd,by lia,(Option.some.inj hx).symm⟩
   |1,hx=>exact⟨0,by decide,(Option.some.inj hx).symm⟩
   |2,hx=>exact⟨60,by decide,(Option.some.inj hx).symm⟩
   |j+3,hx=>cases hx
  show C4 K _ [some (.ref scr),some (.ref st),some (.ref pp),some (.int (k:Nat)),some (.ref al),some (.ref hd),some (.ref w),some (.int (k2:Nat)),some (.ref al2),some (.ref w2),some (.ref L),some (.ref W),some stt.out,some (.ref T),o14,o15,some (.int (n:Nat))] H8
  refine⟨_,rfl,_,rfl,_,rfl,_,rfl,_,rfl,pp,al,T,k,n,zs,bs,b,tvs,sts,rfl,P7.same s8,hb,hl,s8 _ _ hal,hn,s8 _ _ hT7,A7.imp λ_ _ z=>?_,by lia,λj s hj=>?_,?_,hs.pos,λH9 s9=>⟨_,rfl,jX ⟨_,rfl,s8.trans s9⟩⟩⟩
  ·obtain⟨p,l,e1,e2,e3⟩:=z
   exact⟨p,l,e1,s8 _ _ e2,s8 _ _ e3⟩
  ·have gj:=hs.all j s hj
   have jl:=(aj.mp hj).1
   exact⟨gj.ch,gj.ends,gj.ans,by have:=gj.few;lia⟩
  ·rcases hs.ends with e|e
   ·exact .inr ⟨stt,hs.last,e⟩
   ·exact .inl e
 ·rintro σ' H8 ⟨o,rfl,s8⟩
  obtain⟨m,s,hm,gm,em⟩:=y3 B.pg.ok (E7 B.pg.ok hb hl z4 hz) 400
  refine⟨_,rfl,_,rfl,_,rfl,pp,al,k,400,m,zs,bs,b,s,rfl,P7.same s8,hb,hl,.inl (s8 _ _ hal),by decide,gm.ch,hm,em,λp l H9 hp hpl _ s9=>⟨_,rfl,_,rfl,_,rfl,pp,al,k,400,m,zs,bs,b,s,rfl,P7.same (s8.trans s9),hb,hl,.inl ((s8.trans s9) _ _ hal),by decide,gm.ch,hm,em,λp2 l2 H10 hp2 hpl2 _ s10=>?_⟩⟩
  exact Gn gm.ans (s10 _ _ hp) (s10 _ _ hpl) hp2 hpl2 (q H10)
theorem Mp{K:Fg}(T:iJ K){vs:List V}{H:Hp}{Q:VK}{E:XK}(h:sp_law K vs H Q E):JN K {nx:=λ_ H'=>Q .non H',rt:=Q} (cN ED vs) H:=by
 have TX:=T
 clear T
 obtain⟨scr,ns,rfl,hscr,hns,q⟩:=h
 refine⟨_,rfl,(by show 3<=sizeLine;decide),λst hst=>?_⟩
 have hscr1:lu K (upd H st (.lst [.ref scr,.int 0,.int 0])) scr ns:=hscr.mono (.of_same ((aS.refl H).new hst))
 have S1:kO K (upd H st (.lst [.ref scr,.int 0,.int 0])) st 0:=⟨scr,ns,0,ae,hscr1,hns⟩
 show AB K _ [some (.ref scr),some (.ref st),none,none,none,none,none,none,none,none,none,none,none,none,none,none,none] (upd H st (.lst [.ref scr,.int 0,.int 0]))
 generalize upd H st (.lst [.ref scr,.int 0,.int 0])=H1 at S1 hscr1 ⊢
 refine⟨_,rfl,(by show 2<=sizeLine;decide),λl nl=>?_⟩
 have s2:aS H1 (upd H1 l (.lst [.int 12,.int 24])):=(aS.refl H1).new nl
 have h2:upd H1 l (.lst [.int 12,.int 24]) l=some (.lst [.int 12,.int 24]):=ae
 generalize upd H1 l (.lst [.int 12,.int 24])=H2 at s2 h2 ⊢
 have hscr2:=hscr1.mono (.of_same s2)
 refine⟨_,rfl,_,rfl,.inl ⟨scr,_,rfl,hscr2.sq,λp hp=>?_⟩⟩
 rw[show((1:Int))=((1:Nat):Int) from rfl,lx,<-gI]
 refine⟨p,ns.take 1,rfl,bZ.of ae,λz=>⟨_,_,rfl,rfl,⟨by decide,by decide⟩,_,_,rfl,rfl,(by show(0:Int)<2;decide),?_⟩⟩
 have s3:aS H2 (upd H2 p (.lst ((ns.take 1).map V.int))):=(aS.refl H2).new hp
 generalize upd H2 p (.lst ((ns.take 1).map V.int))=H3 at s3 ⊢
 have S3:=(S1.same s2).same s3
 obtain⟨m,em,m1,m2⟩:∃m:Nat,[V.int 12,V.int 24][(z / 2 % 2).toNat]?=some (.int (m:Nat))/\1<=m/\m<=50:=by
  have:z / 2 % 2=0\/z / 2 % 2=1:=by lia
  rcases this with e|e
  ·exact⟨12,by rw[e];rfl,by decide,by decide⟩
  ·exact⟨24,by rw[e];rfl,by decide,by decide⟩
 refine mf (bZ.of (s3 _ _ h2)) (by lia) em ⟨st,m,0,rfl,S3,by decide,m1,m2,λpp pvs bs ys cs k4 H4 hpp hA ok _ S4 l4 B4=>?_⟩
 have P4:Ey H4 pp ys cs bs:=⟨⟨pvs,hpp,hA⟩,⟨ok⟩⟩
 have pl:pvs.length=bs.length:=hA.1
 have b1:=ok.pos
 have b5:=ok.few
 have c4:∀b∈bs,b.params.length<=4:=λb hb=>ok.c4 _ (by rw[<-ok.cnt];exact dU.mpr ⟨b,hb,rfl⟩)
 show AA K _ [some (.ref scr),some (.ref st),some (.ref pp),none,none,none,none,none,none,none,none,none,none,none,none,none,none] H4
 refine⟨_,rfl,_,rfl,_,_,rfl,.inr ⟨_,eU.of hpp,rfl⟩,st,_,k4,rfl,S4,by lia,by lia,by lia,λe H5 e0 e1 S5 B5=>?_⟩
 obtain⟨k,rfl⟩:∃k:Nat,e=(k:Int):=⟨e.toNat,by lia⟩
 obtain⟨b,hb⟩:∃b,bs[k]?=some b:=⟨_,ab (by lia)⟩
 have bm:=c4 b (az hb)
 obtain⟨_,hs4⟩:=S4.lst
 have P5:=P4.mono (.of_but B5 hs4)
 show Az K _ [some (.ref scr),some (.ref st),some (.ref pp),some (.int (k:Nat)),none,none,none,none,none,none,none,none,none,none,none,none,none] H5
 refine⟨_,rfl,_,rfl,_,rfl,st,pp,k4+1,k,ys,cs,bs,b,rfl,S5,by lia,P5,hb,by lia,λal zs k6 H6 nal hal zl zw S6 l6 B6=>?_⟩
 obtain⟨_,hs5⟩:=S5.lst
 obtain⟨_,hs6⟩:=S6.lst
 have P6:=P5.mono (.of_but B6 hs5)
 have alst:al≠st:=λz=>by rw[z,hs5] at nal;cases nal
 show Ay K _ [some (.ref scr),some (.ref st),some (.ref pp),some (.int (k:Nat)),some (.ref al),none,none,none,none,none,none,none,none,none,none,none,none] H6
 refine⟨_,rfl,al,_,rfl,.inl (bZ.of hal),λhd nhd=>?_⟩
 have s7:aS H6 (upd H6 hd (.lst (zs.map V.int))):=(aS.refl H6).new nhd
 have h7:upd H6 hd (.lst (zs.map V.int)) hd=some (.lst (zs.map V.int)):=ae
 have hdst:hd≠st:=λz=>by rw[z,hs6] at nhd;cases nhd
 have hdal:al≠hd:=ar hal nhd
 show Ax K _ [some (.ref scr),some (.ref st),some (.ref pp),some (.int (k:Nat)),some (.ref al),some (.ref hd),none,none,none,none,none,none,none,none,none,none,none] _
 generalize upd H6 hd (.lst (zs.map V.int))=H7 at s7 h7 ⊢
 have S7:=S6.same s7
 have P7:=P6.mono (.of_same s7)
 refine⟨_,rfl,_,rfl,_,rfl,λw dx nw ndx nwd=>?_⟩
 have s8:aS H7 (upd (upd H7 dx (.own w)) w (.ins (aR K "Walk") dx [])):=((aS.refl H7).new ndx).new (by rw[aw (Ne.symm nwd)];exact nw)
 refine⟨w,dx,pp,hd,k,H7,zs,bs,b,rfl,ae,s8,nw,qy P7,hb,by lia,.inl (s8 _ _ h7),λH8 X8=>⟨rfl,?_⟩⟩
 have sm8:aS H7 H8:=let⟨_,_,_,_,_,X⟩:=X8;X.sm
 clear s8
 have hd8:=sm8 _ _ h7
 have S8:=S7.same sm8
 show Aw K _ [some (.ref scr),some (.ref st),some (.ref pp),some (.int (k:Nat)),some (.ref al),some (.ref hd),some (.ref w),none,none,none,none,none,none,none,none,none,none] H8
 refine⟨_,rfl,.inl ⟨rfl,_,bZ.of hd8⟩,hd,_,rfl,rfl,hd8,?_⟩
 have B9:fX hd H8 (upd H8 hd (.lst [])):=.upd_at
 have h9:upd H8 hd (.lst []) hd=some (.lst []):=ae
 show Av K _ [some (.ref scr),some (.ref st),some (.ref pp),some (.int (k:Nat)),some (.ref al),some (.ref hd),some (.ref w),none,none,none,none,none,none,none,none,none,none] _
 generalize upd H8 hd (.lst [])=H9 at B9 h9 ⊢
 have S9:kO K H9 st k6:=S8.mono B9 hd8 (Ne.symm hdst)
 have P9:=(P7.mono (.of_same sm8)).mono (.of_but B9 hd8)
 obtain⟨pvs9,hpp9,hA9⟩:=P9.ex
 have pl9:pvs9.length=bs.length:=hA9.1
 refine⟨_,rfl,_,rfl,_,_,rfl,.inr ⟨_,eU.of hpp9,rfl⟩,st,_,k6,rfl,S9,by lia,by lia,by lia,λe2 H10 e20 e21 S10 B10=>?_⟩
 obtain⟨k2,rfl⟩:∃k2:Nat,e2=(k2:Int):=⟨e2.toNat,by lia⟩
 obtain⟨b2,hb2⟩:∃b2,bs[k2]?=some b2:=⟨_,ab (by lia)⟩
 have bm2:=c4 b2 (az hb2)
 obtain⟨_,hs9⟩:=S9.lst
 have P10:=P9.mono (.of_but B10 hs9)
 show Au K _ [some (.ref scr),some (.ref st),some (.ref pp),some (.int (k:Nat)),some (.ref al),some (.ref hd),some (.ref w),some (.int (k2:Nat)),none,none,none,none,none,none,none,none,none] H10
 refine⟨_,rfl,_,rfl,_,rfl,st,pp,k6+1,k2,ys,cs,bs,b2,rfl,S10,by lia,P10,hb2,by lia,λal2 zs2 k11 H11 nal2 hal2 zl2 zw2 S11 l11 B11=>?_⟩
 obtain⟨_,hs10⟩:=S10.lst
 obtain⟨_,hs11⟩:=S11.lst
 have P11:=P10.mono (.of_but B11 hs10)
 show As K _ [some (.ref scr),some (.ref st),some (.ref pp),some (.int (k:Nat)),some (.ref al),some (.ref hd),some (.ref w),some (.int (k2:Nat)),some (.ref al2),none,none,none,none,none,none,none,none] H11
 have K10:∀a o,a≠hd->a≠st->H8 a=some o->H10 a=some o:=λa o n1 n2 e=>B10 a o n2 (B9 a o n1 e)
 have K11:∀a o,a≠hd->a≠st->H8 a=some o->H11 a=some o:=λa o n1 n2 e=>B11 a o n2 (K10 a o n1 n2 e)
 have hd10:=B10 _ _ hdst h9
 have hd11:=B11 _ _ hdst hd10
 have F10:∀a,H10 a=none->H8 a=none:=λa e=>by
  by_cases c1:a=hd
  ·rw[c1,hd10] at e;cases e
  ·by_cases c2:a=st
   ·rw[c2,hs10] at e;cases e
   ·cases e8:H8 a with
    |none=>rfl
    |some u=>rw[K10 a u c1 c2 e8] at e;cases e
 have F11:∀a,H11 a=none->H8 a=none:=λa e=>by
  by_cases c1:a=hd
  ·rw[c1,hd11] at e;cases e
  ·by_cases c2:a=st
   ·rw[c2,hs11] at e;cases e
   ·cases e8:H8 a with
    |none=>rfl
    |some u=>rw[K11 a u c1 c2 e8] at e;cases e
 have al2st:al2≠st:=λz=>by rw[z,hs10] at nal2;cases nal2
 have hal11:H11 al=some (.lst (zs.map V.int)):=K11 _ _ hdal alst (sm8 _ _ (s7 _ _ hal))
 refine⟨_,rfl,_,rfl,_,rfl,λw2 dx2 nw2 ndx2 nwd2=>?_⟩
 have s12':aS H11 (upd (upd H11 dx2 (.own w2)) w2 (.ins (aR K "Walk") dx2 [])):=((aS.refl H11).new ndx2).new (by rw[aw (Ne.symm nwd2)];exact nw2)
 refine⟨w2,dx2,pp,al2,k2,H11,zs2,bs,b2,rfl,ae,s12',nw2,qy P11,hb2,by lia,.inl (s12' _ _ hal2),λH12 X12=>⟨rfl,?_⟩⟩
 clear s12'
 obtain⟨dy,ol2,sl2,fvs2,ds2,Y12⟩:=X12
 have s12:=Y12.sm
 show Ar K _ [some (.ref scr),some (.ref st),some (.ref pp),some (.int (k:Nat)),some (.ref al),some (.ref hd),some (.ref w),some (.int (k2:Nat)),some (.ref al2),some (.ref w2),none,none,none,none,none,none,none] H12
 refine⟨_,rfl,_,rfl,_,rfl,pp,al,k,zs,ys,cs,bs,b,rfl,P11.mono (.of_same s12),hb,by lia,by lia,.inl (s12 _ _ hal11),λv H13 fa nf s13=>⟨(by show 1<=sizeLine;decide),λL nL=>?_⟩⟩
 rw[rB hb] at fa
 have s14:aS H13 (upd H13 L (.lst [v])):=(aS.refl H13).new nL
 have h14:upd H13 L (.lst [v]) L=some (.lst [v]):=ae
 show Aq K _ [some (.ref scr),some (.ref st),some (.ref pp),some (.int (k:Nat)),some (.ref al),some (.ref hd),some (.ref w),some (.int (k2:Nat)),some (.ref al2),some (.ref w2),some (.ref L),none,none,none,none,none,none] _
 generalize upd H13 L (.lst [v])=H14 at s14 h14 ⊢
 refine⟨(by show 0<=sizeLine;decide),λW nW=>?_⟩
 have s15:aS H14 (upd H14 W (.lst [])):=(aS.refl H14).new nW
 have h15:upd H14 W (.lst []) W=some (.lst []):=ae
 show Ap K _ [some (.ref scr),some (.ref st),some (.ref pp),some (.int (k:Nat)),some (.ref al),some (.ref hd),some (.ref w),some (.int (k2:Nat)),some (.ref al2),some (.ref w2),some (.ref L),some (.ref W),some .non,none,none,none,none] _
 generalize upd H14 W (.lst [])=H15 at s15 h15 ⊢
 refine⟨(by show 0<=sizeLine;decide),λl0 n0=>⟨(by show 2<=sizeLine;decide),λt0 nt0=>⟨(by show 1<=sizeLine;decide),λT nT=>?_⟩⟩⟩
 have s16:aS H15 (upd (upd (upd H15 l0 (.lst [])) t0 (.tup [.ref l0,.non])) T (.lst [.ref t0])):=(((aS.refl H15).new n0).new nt0).new nT
 have hT:upd (upd (upd H15 l0 (.lst [])) t0 (.tup [.ref l0,.non])) T (.lst [.ref t0]) T=some (.lst [.ref t0]):=ae
 have ht0:upd (upd (upd H15 l0 (.lst [])) t0 (.tup [.ref l0,.non])) T (.lst [.ref t0]) t0=some (.tup [.ref l0,.non]):=(aS.refl _).new nT _ _ ae
 have hl0:upd (upd (upd H15 l0 (.lst [])) t0 (.tup [.ref l0,.non])) T (.lst [.ref t0]) l0=some (.lst []):=((aS.refl _).new nt0).new nT _ _ ae
 have nT15:H15 T=none:=jz (((aS.refl H15).new (o:=.lst []) n0).new (o:=.tup [.ref l0,.non]) nt0) nT
 have l0T:l0≠T:=λz=>by
  have e:upd (upd H15 l0 (.lst [])) t0 (.tup [.ref l0,.non]) l0=some (.lst []):=(aS.refl _).new nt0 _ _ ae
  rw[<-z,e] at nT;cases nT
 show Ao K _ [some (.ref scr),some (.ref st),some (.ref pp),some (.int (k:Nat)),some (.ref al),some (.ref hd),some (.ref w),some (.int (k2:Nat)),some (.ref al2),some (.ref w2),some (.ref L),some (.ref W),some .non,some (.ref T),none,none,none] _
 generalize upd (upd (upd H15 l0 (.lst [])) t0 (.tup [.ref l0,.non])) T (.lst [.ref t0])=H16 at s16 hT ht0 hl0 ⊢
 have t12:aS H12 H16:=((s13.trans s14).trans s15).trans s16
 have t11:aS H11 H16:=s12.trans t12
 have Bk:∀a o,¬(a=hd\/a=st)->H8 a=some o->H16 a=some o:=λa o n e=>t11 _ _ (K11 a o (λz=>n (.inl z)) (λz=>n (.inr z)) e)
 obtain⟨_,hs7⟩:=S7.lst
 obtain⟨H0,X16,c1,c2,c3⟩:=dz.turn (S:=λa=>a=hd\/a=st) X8 (by rintro a (rfl|rfl);rw[h7];simp;rw[hs7];simp) Bk
 have tup16:Tp H16 H0:=λp xs e=>c3 _ _ (λ_ _ _ z=>by cases z) (λ_ z=>by cases z) (λ_ z=>by cases z) e
 have f12:∀a,H12 a=none->H8 a=none:=λa e=>F11 a (jz s12 e)
 have f13:∀a,H13 a=none->H8 a=none:=λa e=>f12 a (jz s13 e)
 have f14:∀a,H14 a=none->H8 a=none:=λa e=>f13 a (jz s14 e)
 have f15:∀a,H15 a=none->H8 a=none:=λa e=>f14 a (jz s15 e)
 have hL16:H16 L=some (.lst [v]):=s16 _ _ (s15 _ _ h14)
 have hW16:H16 W=some (.lst []):=s16 _ _ h15
 have LW:L≠W:=ar h14 nW
 have LT:L≠T:=ar (s15 _ _ h14) nT15
 have WT:W≠T:=ar h15 nT15
 have st16:=t11 _ _ hs11
 have new13:∀{a u x},H13 a=some u->H13 x=none->a≠x:=λe n=>ar e n
 have own:∀a,(a=w2\/a=ol2\/a=sl2\/V.ref a∈fvs2\/a∈ds2)->H11 a=none/\∃u,H12 a=some u:=by
  rintro a (rfl|rfl|rfl|h|h)
  ·exact⟨Y12.nw,_,Y12.at_⟩
  ·exact⟨Y12.no,_,Y12.op⟩
  ·exact⟨Y12.ns,_,Y12.sp⟩
  ·obtain⟨_,_,e,_⟩:=Y12.fr.ins h
   exact⟨Y12.nf a h,_,e⟩
  ·obtain⟨_,e⟩:=Y12.fr.dct h
   exact⟨Y12.nd a h,_,e⟩
 have notown:∀a,H12 a=none->¬(a=w2\/a=ol2\/a=sl2\/V.ref a∈fvs2\/a∈ds2):=λa e o=>by
  obtain⟨_,u,z⟩:=own a o
  rw[e] at z;cases z
 have Y0:eN K (BN H0 w2 ol2 sl2 fvs2 ds2) H0 w2 pp dy ol2 sl2 fvs2 ds2 1 ⟨[gG b2 k2 zs2],[],.non⟩:=(Y12.same t12).else_ (λa u o e=>c2 _ _ (F11 _ (own a o).1) e) (λb u e=>by
   by_cases h:b=w2\/b=ol2\/b=sl2\/V.ref b∈fvs2\/b∈ds2
   ·rw[oR h] at e;cases e
   ·rw[iU h] at e;exact e) λa o=>oR o
 have L12:H12 L=none:=jz s13 nL
 have W12:H12 W=none:=jz (s13.trans s14) nW
 have T12:H12 T=none:=jz ((s13.trans s14).trans s15) nT15
 have L0:H0 L=some (.lst [v]):=c2 _ _ (f13 _ nL) hL16
 have W0:H0 W=some (.lst []):=c2 _ _ (f14 _ nW) hW16
 have T0:H0 T=some (.lst [.ref t0]):=c2 _ _ (f15 _ nT15) hT
 have hal16:=t11 _ _ hal11
 have hal216:=t11 _ _ hal2
 have B16:GV K ys cs bs H0 st pp al al2 w2 L W T zs zs2 ⟨[gG b k zs],[],.non⟩ ⟨[gG b2 k2 zs2],[],.non⟩ [⟨[gG b k zs],[],.non⟩]:=by
  refine⟨⟨k11,?_,by lia⟩,(P11.mono (.of_same t11)).mono tup16,c1 _ _ (by rw[s7 _ _ hal];simp) hal16,c2 _ _ (F10 _ nal2) hal216,⟨[v],L0,bR.nil.snoc ?_⟩,W0,⟨_,T0,bR.nil.snoc ⟨t0,l0,rfl,tup16 _ _ ht0,c2 _ _ (f15 _ n0) hl0,λz=>?_,λz=>?_,l0T⟩⟩,⟨_,⟨dy,ol2,sl2,fvs2,ds2,Y0⟩,?_,?_,?_⟩,⟨LW,LT,WT⟩,⟨λz=>?_,λz=>?_,λz=>?_⟩,⟨λz=>?_,λz=>?_,λz=>?_⟩,⟨λz=>?_,λz=>?_,λz=>?_⟩⟩
  ·obtain⟨scr',ns',c',e,sq,l⟩:=S11.same t11
   refine⟨scr',ns',c',c1 _ _ (by rw[hs7];simp) e,?_,l⟩
   rcases sq with⟨o,h⟩|h
   ·exact .inl ⟨o,c3 _ _ (λ_ _ _ z=>by cases z) (λ_ z=>by cases z) (λ_ z=>by cases z) h⟩
   ·exact .inr h
  ·obtain⟨p',d',e1,e2,e3⟩:=fa
   obtain⟨p9,d9,i9,n9,g1,g2,g3⟩:=nf
   rw[e1] at g1;cases g1
   rw[e2] at g2
   simp only[Option.some.injEq,HO.tup.injEq,List.cons.injEq,V.ref.injEq] at g2
   obtain⟨_,_,ed,_⟩:=g2
   rw[<-ed] at g3
   have s1316:aS H13 H16:=(s14.trans s15).trans s16
   exact⟨p',d',e1,tup16 _ _ (s1316 _ _ e2),c2 _ _ (f12 _ g3) (s1316 _ _ e3)⟩
  ·rw[z,s15 _ _ h14] at n0;cases n0
  ·rw[z,h15] at n0;cases n0
  ·rw[iU (notown _ L12),L0];simp
  ·rw[iU (notown _ W12),W0];simp
  ·rw[iU (notown _ T12),T0];simp
  ·rw[<-z,s12 _ _ hs11] at L12;cases L12
  ·rw[<-z,s12 _ _ hs11] at W12;cases W12
  ·rw[<-z,s12 _ _ hs11] at T12;cases T12
  ·rw[<-z,s12 _ _ hal11] at L12;cases L12
  ·rw[<-z,s12 _ _ hal11] at W12;cases W12
  ·rw[<-z,s12 _ _ hal11] at T12;cases T12
  ·rw[<-z,s12 _ _ hal2] at L12;cases L12
  ·rw[<-z,s12 _ _ hal2] at W12;cases W12
  ·rw[<-z,s12 _ _ hal2] at T12;cases T12
 have g0:=E7 P4.ok hb (show b.params.length=zs.length by lia) (by lia) zw
 have H00:xa bs ⟨[gG b k zs],[],.non⟩ [⟨[gG b k zs],[],.non⟩] ⟨[gG b k zs],[],.non⟩ 0:=by
  refine⟨λj s hj=>?_,rfl,by simp,.inr rfl⟩
  cases j with
  |zero=>cases hj;exact g0
  |succ j=>cases hj
 refine⟨60,rfl,by decide,by decide,my (n:=60) (λi σ' H'=>∃(H0':Hp) (stt:jb) (sts:List jb) (o14 o15:Option V),σ'=[some (.ref scr),some (.ref st),some (.ref pp),some (.int (k:Nat)),some (.ref al),some (.ref hd),some (.ref w),some (.int (k2:Nat)),some (.ref al2),some (.ref w2),some (.ref L),some (.ref W),some stt.out,some (.ref T),o14,o15,none]/\dz K H0' H' w pp (i+1) stt/\GV K ys cs bs H0' st pp al al2 w2 L W T zs zs2 stt ⟨[gG b2 k2 zs2],[],.non⟩ sts/\xa bs ⟨[gG b k zs],[],.non⟩ sts stt i) ⟨H0,_,_,none,none,rfl,X16,B16,H00⟩ ?_ ?_⟩
 ·rintro i σ' H' hi ⟨H0',stt,sts,o14,o15,rfl,X,B,hs⟩
  show uJ K _ [some (.ref scr),some (.ref st),some (.ref pp),some (.int (k:Nat)),some (.ref al),some (.ref hd),some (.ref w),some (.int (k2:Nat)),some (.ref al2),some (.ref w2),some (.ref L),some (.ref W),some stt.out,some (.ref T),some (.int (0+(i:Nat))),o15,none] H'
  exact Fq TX hi X B hs λH2 H02 stt' sts' o15' X' B' hs'=>⟨H02,stt',sts',_,o15',rfl,X',B',hs'⟩
 ·rintro σ' H' ⟨H0',stt,sts,o14,o15,rfl,X,B,hs⟩
  exact Ft TX hb (by lia) (by lia) zw hb2 (by lia) (by lia) zw2 X B hs q
end Bg
end
namespace Bg
open PySem PySem.Spec PyProof.Rows L2
section
variable{P:Program}{w:World}{K:Fg}{mg:Str->Option Value}{base:Heap}
theorem tU{vs:List V}{H:Hp}{Q:VK}{E:XK}(h:fI K vs H Q E):vs.length=fG.length:=by
 first|(obtain⟨_,_,_,_,_,rfl,_⟩:=h;rfl)
theorem vo{f:Addr}{fd:FuncData}(F:lF K "__init__" "Frame.__init__" ef f fd)(B:fW mg)(T:iJ K) :dt P w K mg base eT kL f fd fG (fI K):=
 F.ok pf (λvs H Q E h=>tU h) λcdv A outer s H vs Q E hr h=>⟨_,xF B hr,yn T (E:=E) h⟩
theorem BF{vs:List V}{H:Hp}{Q:VK}{E:XK}(h:gL K vs H Q E):vs.length=ix.length:=by
 first|(obtain⟨_,_,rfl,_⟩:=h;rfl)
theorem DV{f:Addr}{fd:FuncData}(F:lF K "goal" "goal" jG f fd)(B:fW mg) :dt P w K mg base eT mr f fd ix (gL K):=
 F.ok wx (λvs H Q E h=>BF h) λcdv A outer s H vs Q E hr h=>⟨_,ER B hr,Ge (E:=E) h⟩
theorem xZ{vs:List V}{H:Hp}{Q:VK}{E:XK}(h:eF K vs H Q E):vs.length=ff.length:=by
 first|(obtain⟨_,_,_,_,rfl,_⟩:=h;rfl)
theorem zH{f:Addr}{fd:FuncData}(F:lF K "stands" "stands" gv f fd)(B:fW mg)(c_p_goal:aM P w K mg base "goal" ix mr (gL K)):dt P w K mg base eT jQ f fd ff (eF K):=
 F.ok rR (λvs H Q E h=>xZ h) λcdv A outer s H vs Q E hr h=>⟨_,Bp B c_p_goal hr,BZ (E:=E) h⟩
theorem tW{vs:List V}{H:Hp}{Q:VK}{E:XK}(h:dh K vs H Q E):vs.length=dD.length:=by
 first|(obtain⟨_,_,_,_,_,_,_,_,_,_,rfl,_⟩:=h;rfl)
theorem vq{f:Addr}{fd:FuncData}(F:lF K "enter" "Walk.enter" en f fd)(B:fW mg)(T:iJ K)(mk_Frame:mL P w K mg base "Frame" (aR K "Frame") fG kL (fI K))(c_p_stands:aM P w K mg base "stands" ff jQ (eF K)):dt P w K mg base eT ir f fd dD (dh K):=
 F.ok pj (λvs H Q E h=>tW h) λcdv A outer s H vs Q E hr h=>⟨_,xH B mk_Frame c_p_stands hr,yp T (E:=E) h⟩
theorem ve{vs:List V}{H:Hp}{Q:VK}{E:XK}(h:cF K vs H Q E):vs.length=dk.length:=by
 first|(obtain⟨_,_,_,_,_,_,rfl,_⟩:=h;rfl)
theorem x8{f:Addr}{fd:FuncData}(F:lF K "ended" "Run.ended" fi f fd)(B:fW mg) :dt P w K mg base eT fY f fd dk (cF K):=
 F.ok qD (λvs H Q E h=>ve h) λcdv A outer s H vs Q E hr h=>⟨_,yP B hr,zO (E:=E) h⟩
theorem tX{vs:List V}{H:Hp}{Q:VK}{E:XK}(h:di K vs H Q E):vs.length=dE.length:=by
 first|(obtain⟨_,_,_,_,_,_,_,_,_,_,_,_,_,_,_,_,_,rfl,_⟩:=h;rfl)
theorem vt{f:Addr}{fd:FuncData}(F:lF K "go_on" "Walk.go_on" eA f fd)(B:fW mg)(T:iJ K)(c_p_stands:aM P w K mg base "stands" ff jQ (eF K)):dt P w K mg base eT iu f fd dE (di K):=
 F.ok pk (λvs H Q E h=>tX h) λcdv A outer s H vs Q E hr h=>⟨_,xI B c_p_stands hr,yq T (E:=E) h⟩
theorem BG{vs:List V}{H:Hp}{Q:VK}{E:XK}(h:j4 K vs H Q E):vs.length=jT.length:=by
 first|(obtain⟨_,_,rfl,_⟩:=h;rfl)
theorem DW{f:Addr}{fd:FuncData}(F:lF K "sets" "sets" jH f fd)(B:fW mg) :dt P w K mg base eT qh f fd jT (j4 K):=
 F.ok wz (λvs H Q E h=>BG h) λcdv A outer s H vs Q E hr h=>⟨_,ES B hr,Gf (E:=E) h⟩
theorem tY{vs:List V}{H:Hp}{Q:VK}{E:XK}(h:fJ K vs H Q E):vs.length=fH.length:=by
 first|(obtain⟨_,_,_,_,_,_,_,_,_,_,_,rfl,_⟩:=h;rfl)
theorem vv{f:Addr}{fd:FuncData}(F:lF K "leave" "Walk.leave" eB f fd)(B:fW mg)(T:iJ K)(cl_Walk:qc K (aR K "Walk"))(m_Walk_ended:cg P w K mg base (aR K "Walk") "ended" dk fY (cF K))(m_Walk_go_on:cg P w K mg base (aR K "Walk") "go_on" dE iu (di K))(c_p_sets:aM P w K mg base "sets" jT qh (j4 K)):dt P w K mg base eT kM f fd fH (fJ K):=
 F.ok pq (λvs H Q E h=>tY h) λcdv A outer s H vs Q E hr h=>⟨_,xJ B cl_Walk m_Walk_ended m_Walk_go_on c_p_sets hr,yt T (E:=E) h⟩
theorem sC{vs:List V}{H:Hp}{Q:VK}{E:XK}(h:eQ K vs H Q E):vs.length=eK.length:=by
 first|(obtain⟨_,_,_,rfl,_⟩:=h;rfl)
theorem ud{f:Addr}{fd:FuncData}(F:lF K "unbounded" "unbounded" dG f fd)(B:fW mg) :dt P w K mg base eT j8 f fd eK (eQ K):=
 F.ok ou (λvs H Q E h=>sC h) λcdv A outer s H vs Q E hr h=>⟨_,u5 B hr,vx (E:=E) h⟩
theorem zm{vs:List V}{H:Hp}{Q:VK}{E:XK}(h:jg K vs H Q E):vs.length=i6.length:=by
 first|(obtain⟨_,_,_,rfl,_⟩:=h;rfl)
theorem BP{f:Addr}{fd:FuncData}(F:lF K "worth" "worth" iC f fd)(B:fW mg)(c_p_unbounded:aM P w K mg base "unbounded" eK j8 (eQ K)):dt P w K mg base eT oJ f fd i6 (jg K):=
 F.ok uu (λvs H Q E h=>zm h) λcdv A outer s H vs Q E hr h=>⟨_,Dq B c_p_unbounded hr,D6 (E:=E) h⟩
theorem vh{vs:List V}{H:Hp}{Q:VK}{E:XK}(h:gy K vs H Q E):vs.length=gc.length:=by
 first|(obtain⟨_,_,_,_,_,_,_,_,_,_,_,_,_,_,_,_,_,_,_,_,rfl,_⟩:=h;rfl)
theorem yb{f:Addr}{fd:FuncData}(F:lF K "work" "Walk.work" fq f fd)(B:fW mg)(T:iJ K)(cl_Walk:qc K (aR K "Walk"))(m_Walk_go_on:cg P w K mg base (aR K "Walk") "go_on" dE iu (di K))(c_p_worth:aM P w K mg base "worth" i6 oJ (jg K))(c_p_goal:aM P w K mg base "goal" ix mr (gL K)):dt P w K mg base eT lG f fd gc (gy K):=
 F.ok qG (λvs H Q E h=>vh h) λcdv A outer s H vs Q E hr h=>⟨_,yS B cl_Walk m_Walk_go_on c_p_worth c_p_goal hr,zR T (E:=E) h⟩
theorem zk{vs:List V}{H:Hp}{Q:VK}{E:XK}(h:jf K vs H Q E):vs.length=iZ.length:=by
 first|(obtain⟨rfl,_⟩:=h;rfl)|(obtain⟨_,rfl,_⟩:=h;rfl)|(obtain⟨_,_,rfl,_⟩:=h;rfl)|(obtain⟨_,_,_,rfl,_⟩:=h;rfl)|(obtain⟨_,_,_,_,rfl,_⟩:=h;rfl)|(obtain⟨_,_,_,_,_,rfl,_⟩:=h;rfl)|(obtain⟨_,_,_,_,_,_,rfl,_⟩:=h;rfl)|(obtain⟨_,_,_,_,_,_,_,rfl,_⟩:=h;rfl)|(obtain⟨_,_,_,_,_,_,_,_,rfl,_⟩:=h;rfl)|(obtain⟨_,_,_,_,_,_,_,_,_,rfl,_⟩:=h;rfl)|(obtain⟨_,_,_,_,_,_,_,_,_,_,rfl,_⟩:=h;rfl)|(obtain⟨_,_,_,_,_,_,_,_,_,_,_,rfl,_⟩:=h;rfl)|(obtain⟨_,_,_,_,_,_,_,_,_,_,_,_,rfl,_⟩:=h;rfl)|(obtain⟨_,_,_,_,_,_,_,_,_,_,_,_,_,rfl,_⟩:=h;rfl)|(obtain⟨_,_,_,_,_,_,_,_,_,_,_,_,_,_,rfl,_⟩:=h;rfl)|(obtain⟨_,_,_,_,_,_,_,_,_,_,_,_,_,_,_,rfl,_⟩:=h;rfl)|(obtain⟨_,_,_,_,_,_,_,_,_,_,_,_,_,_,_,_,rfl,_⟩:=h;rfl)|(obtain⟨_,_,_,_,_,_,_,_,_,_,_,_,_,_,_,_,_,rfl,_⟩:=h;rfl)|(obtain⟨_,_,_,_,_,_,_,_,_,_,_,_,_,_,_,_,_,_,rfl,_⟩:=h;rfl)|(obtain⟨_,_,_,_,_,_,_,_,_,_,_,_,_,_,_,_,_,_,_,rfl,_⟩:=h;rfl)|(obtain⟨_,_,_,_,_,_,_,_,_,_,_,_,_,_,_,_,_,_,_,_,rfl,_⟩:=h;rfl)|(obtain⟨_,_,_,_,_,_,_,_,_,_,_,_,_,_,_,_,_,_,_,_,_,rfl,_⟩:=h;rfl)|(obtain⟨_,_,_,_,_,_,_,_,_,_,_,_,_,_,_,_,_,_,_,_,_,_,rfl,_⟩:=h;rfl)|(obtain⟨_,_,_,_,_,_,_,_,_,_,_,_,_,_,_,_,_,_,_,_,_,_,_,rfl,_⟩:=h;rfl)|(obtain⟨_,_,_,_,_,_,_,_,_,_,_,_,_,_,_,_,_,_,_,_,_,_,_,_,rfl,_⟩:=h;rfl)|(obtain⟨_,_,_,_,_,_,_,_,_,_,_,_,_,_,_,_,_,_,_,_,_,_,_,_,_,rfl,_⟩:=h;rfl)
theorem BO{f:Addr}{fd:FuncData}(F:lF K "reads" "reads" iB f fd)(B:fW mg) :dt P w K mg base eT oI f fd iZ (jf K):=
 F.ok ur (λvs H Q E h=>zk h) λcdv A outer s H vs Q E hr h=>⟨_,Dp B hr,D5 (E:=E) h⟩
theorem vg{vs:List V}{H:Hp}{Q:VK}{E:XK}(h:dI K vs H Q E):vs.length=dX.length:=by
 first|(obtain⟨_,_,_,_,_,_,_,rfl,_⟩:=h;rfl)
theorem ya{f:Addr}{fd:FuncData}(F:lF K "step" "Walk.step" eE f fd)(B:fW mg)(T:iJ K)(cl_Walk:qc K (aR K "Walk"))(m_Walk_enter:cg P w K mg base (aR K "Walk") "enter" dD ir (dh K))(m_Walk_leave:cg P w K mg base (aR K "Walk") "leave" fH kM (fJ K))(m_Walk_work:cg P w K mg base (aR K "Walk") "work" gc lG (gy K))(m_Walk_ended:cg P w K mg base (aR K "Walk") "ended" dk fY (cF K))(c_p_reads:aM P w K mg base "reads" iZ oI (jf K)):dt P w K mg base eT jj f fd dX (dI K):=
 F.ok qF (λvs H Q E h=>vg h) λcdv A outer s H vs Q E hr h=>⟨_,yR B cl_Walk m_Walk_enter m_Walk_leave m_Walk_work m_Walk_ended c_p_reads hr,zQ T (E:=E) h⟩
theorem xX{vs:List V}{H:Hp}{Q:VK}{E:XK}(h:ic K vs H Q E):vs.length=gY.length:=by
 first|(obtain⟨_,_,_,rfl,_⟩:=h;rfl)
theorem zE{f:Addr}{fd:FuncData}(F:lF K "__init__" "Run.__init__" gq f fd)(B:fW mg) :dt P w K mg base eT mJ f fd gY (ic K):=
 F.ok rP (λvs H Q E h=>xX h) λcdv A outer s H vs Q E hr h=>⟨_,Bn B hr,BX (E:=E) h⟩
theorem vf{vs:List V}{H:Hp}{Q:VK}{E:XK}(h:dq K vs H Q E):vs.length=dW.length:=by
 first|(obtain⟨_,_,_,_,_,_,_,_,_,rfl,_⟩:=h;rfl)
theorem x9{f:Addr}{fd:FuncData}(F:lF K "__init__" "Walk.__init__" fj f fd)(B:fW mg)(T:iJ K)(cl_Walk:qc K (aR K "Walk"))(m_Walk_enter:cg P w K mg base (aR K "Walk") "enter" dD ir (dh K))(b_Run_init:sU P w K mg base "Run" (aR K "Run") "__init__" gY mJ (ic K)):dt P w K mg base eT ji f fd dW (dq K):=
 F.ok qE (λvs H Q E h=>vf h) λcdv A outer s H vs Q E hr h=>⟨_,yQ B cl_Walk m_Walk_enter b_Run_init hr,zP T (E:=E) h⟩
theorem xY{vs:List V}{H:Hp}{Q:VK}{E:XK}(h:dM K vs H Q E):vs.length=fc.length:=by
 first|(obtain⟨_,_,_,_,_,_,rfl,_⟩:=h;rfl)
theorem zF{f:Addr}{fd:FuncData}(F:lF K "said" "Run.said" gr f fd)(B:fW mg) :dt P w K mg base eT jP f fd fc (dM K):=
 F.ok rQ (λvs H Q E h=>xY h) λcdv A outer s H vs Q E hr h=>⟨_,Bo B hr,BY (E:=E) h⟩
theorem tV{vs:List V}{H:Hp}{Q:VK}{E:XK}(h:cS K vs H Q E):vs.length=dC.length:=by
 first|(obtain⟨_,_,_,_,_,rfl,_⟩:=h;rfl)
theorem vp{f:Addr}{fd:FuncData}(F:lF K "answer" "Run.answer" eh f fd)(B:fW mg) :dt P w K mg base eT iq f fd dC (cS K):=
 F.ok ph (λvs H Q E h=>tV h) λcdv A outer s H vs Q E hr h=>⟨_,xG B hr,yo (E:=E) h⟩
theorem vi{vs:List V}{H:Hp}{Q:VK}{E:XK}(h:gA K vs H Q E):vs.length=gf.length:=by
 first|(obtain⟨_,_,_,_,_,_,rfl,_⟩:=h;rfl)|(obtain⟨_,_,_,_,_,_,_,_,rfl,_⟩:=h;rfl)
theorem yc{f:Addr}{fd:FuncData}(F:lF K "stepped" "stepped" fu f fd)(B:fW mg)(T:iJ K)(cl_Walk:qc K (aR K "Walk"))(m_Walk_said:cg P w K mg base (aR K "Walk") "said" fc jP (dM K))(m_Walk_answer:cg P w K mg base (aR K "Walk") "answer" dC iq (cS K))(m_Walk_ended:cg P w K mg base (aR K "Walk") "ended" dk fY (cF K))(m_Walk_step:cg P w K mg base (aR K "Walk") "step" dX jj (dI K)):dt P w K mg base eT lI f fd gf (gA K):=
 F.ok qH (λvs H Q E h=>vi h) λcdv A outer s H vs Q E hr h=>⟨_,yT B cl_Walk m_Walk_said m_Walk_answer m_Walk_ended m_Walk_step hr,zS T (E:=E) h⟩
theorem DN{vs:List V}{H:Hp}{Q:VK}{E:XK}(h:fE K vs H Q E):vs.length=fN.length:=by
 first|(obtain⟨_,_,_,_,_,_,_,_,_,rfl,_⟩:=h;rfl)
theorem zG{f:Addr}{fd:FuncData}{dV:Value}(F:G2 K "run" "run" gu dV f fd)(B:fW mg)(T:iJ K)(mk_Walk:mL P w K mg base "Walk" (aR K "Walk") dW ji (dq K))(c_p_stepped:aM P w K mg base "stepped" gf lI (gA K)):dt P w K mg base eT kN f fd fN (fE K):=
 F.ok Aa (λvs H Q E h=>DN h) λcdv A outer s H vs Q E hr h=>⟨_,Hk B mk_Walk c_p_stepped hr,Jd T (E:=E) h⟩
theorem Fy{vs:List V}{H:Hp}{Q:VK}{E:XK}(h:bK K vs H Q E):vs.length=dY.length:=by
 first|(obtain⟨_,_,_,rfl,_⟩:=h;rfl)
theorem HS{f:Addr}{fd:FuncData}(F:lF K "_law_draw" "_law_draw" m9 f fd)(B:fW mg) :dt P w K mg base eT iH f fd dY (bK K):=
 F.ok CW (λvs H Q E h=>Fy h) λcdv A outer s H vs Q E hr h=>⟨_,JT B hr,Lc (E:=E) h⟩
theorem vk{vs:List V}{H:Hp}{Q:VK}{E:XK}(h:gC K vs H Q E):vs.length=gh.length:=by
 first|(obtain⟨_,_,_,_,_,_,_,_,_,_,rfl,_⟩:=h;rfl)
theorem ye{f:Addr}{fd:FuncData}(F:lF K "_law_run_alike" "_law_run_alike" fB f fd)(B:fW mg)(c_p_run:aM P w K mg base "run" fN kN (fE K)):dt P w K mg base eT lK f fd gh (gC K):=
 F.ok qJ (λvs H Q E h=>vk h) λcdv A outer s H vs Q E hr h=>⟨_,yV B c_p_run hr,zU (E:=E) h⟩
theorem DO{vs:List V}{H:Hp}{Q:VK}{E:XK}(h:fU K vs H Q E):vs.length=g8.length:=by
 first|(obtain⟨_,_,_,_,rfl,_⟩:=h;rfl)
theorem FK{f:Addr}{fd:FuncData}(F:lF K "_law_stand" "_law_stand" kS f fd)(B:fW mg) :dt P w K mg base eT lM f fd g8 (fU K):=
 F.ok Ab (λvs H Q E h=>DO h) λcdv A outer s H vs Q E hr h=>⟨_,Hm B hr,Je (E:=E) h⟩
theorem BE{vs:List V}{H:Hp}{Q:VK}{E:XK}(h:fS K vs H Q E):vs.length=iw.length:=by
 first|(obtain⟨_,_,_,_,_,_,_,_,rfl,_⟩:=h;rfl)
theorem DU{f:Addr}{fd:FuncData}(F:lF K "_law_opened" "_law_opened" jF f fd)(B:fW mg)(c_stand:aM P w K mg base "_law_stand" g8 lM (fU K)):dt P w K mg base eT mq f fd iw (fS K):=
 F.ok wu (λvs H Q E h=>BE h) λcdv A outer s H vs Q E hr h=>⟨_,EO B c_stand hr,Gd (E:=E) h⟩
theorem sA{vs:List V}{H:Hp}{Q:VK}{E:XK}(h:eP K vs H Q E):vs.length=eJ.length:=by
 first|(obtain⟨_,_,_,_,_,rfl,_⟩:=h;rfl)
theorem uc{f:Addr}{fd:FuncData}(F:lF K "frames" "Walk.frames" dg f fd)(B:fW mg)(T:iJ K) :dt P w K mg base eT j7 f fd eJ (eP K):=
 F.ok ot (λvs H Q E h=>sA h) λcdv A outer s H vs Q E hr h=>⟨_,u4 B hr,vw T (E:=E) h⟩
theorem BI{vs:List V}{H:Hp}{Q:VK}{E:XK}(h:jq K vs H Q E):vs.length=jU.length:=by
 first|(obtain⟨_,_,rfl,_⟩:=h;rfl)
theorem DX{f:Addr}{fd:FuncData}(F:lF K "_law_worths" "_law_worths" iO f fd)(B:fW mg) :dt P w K mg base eT qi f fd jU (jq K):=
 F.ok wA (λvs H Q E h=>BI h) λcdv A outer s H vs Q E hr h=>⟨_,ET B hr,Gg (E:=E) h⟩
theorem DJ{vs:List V}{H:Hp}{Q:VK}{E:XK}(h:jJ K vs H Q E):vs.length=lj.length:=by
 first|(obtain⟨_,_,_,_,_,rfl,_⟩:=h;rfl)|(obtain⟨_,_,_,_,_,_,_,_,_,_,rfl,_⟩:=h;rfl)
theorem FH{f:Addr}{fd:FuncData}(F:lF K "_law_alike" "_law_alike" kQ f fd)(B:fW mg)(T:iJ K)(cl_Walk:qc K (aR K "Walk"))(m_Walk_answer:cg P w K mg base (aR K "Walk") "answer" dC iq (cS K))(m_Walk_said:cg P w K mg base (aR K "Walk") "said" fc jP (dM K))(m_Walk_frames:cg P w K mg base (aR K "Walk") "frames" eJ j7 (eP K))(c_worths:aM P w K mg base "_law_worths" jU qi (jq K)):dt P w K mg base eT sH f fd lj (jJ K):=
 F.ok zY (λvs H Q E h=>DJ h) λcdv A outer s H vs Q E hr h=>⟨_,Hg B cl_Walk m_Walk_answer m_Walk_said m_Walk_frames c_worths hr,Ja T (E:=E) h⟩
theorem x6{vs:List V}{H:Hp}{Q:VK}{E:XK}(h:ie K vs H Q E):vs.length=gZ.length:=by
 first|(obtain⟨_,_,_,rfl,_⟩:=h;rfl)
theorem zI{f:Addr}{fd:FuncData}(F:lF K "_law_reckoned" "_law_reckoned" gw f fd)(B:fW mg) :dt P w K mg base eT mK f fd gZ (ie K):=
 F.ok rS (λvs H Q E h=>x6 h) λcdv A outer s H vs Q E hr h=>⟨_,Bq B hr,B0 (E:=E) h⟩
theorem FB{vs:List V}{H:Hp}{Q:VK}{E:XK}(h:ni K vs H Q E):vs.length=mT.length:=by
 first|(obtain⟨_,_,_,_,_,_,_,_,_,_,rfl,_⟩:=h;rfl)
theorem HV{f:Addr}{fd:FuncData}(F:lF K "_law_shut" "_law_shut" ng f fd)(B:fW mg)(c_stand:aM P w K mg base "_law_stand" g8 lM (fU K)):dt P w K mg base eT xf f fd mT (ni K):=
 F.ok CZ (λvs H Q E h=>FB h) λcdv A outer s H vs Q E hr h=>⟨_,JV B c_stand hr,Le (E:=E) h⟩
theorem FC{vs:List V}{H:Hp}{Q:VK}{E:XK}(h:nj K vs H Q E):vs.length=mU.length:=by
 first|(obtain⟨_,_,_,_,_,_,rfl,_⟩:=h;rfl)|(obtain⟨_,_,_,_,_,_,_,_,_,_,rfl,_⟩:=h;rfl)
theorem HW{f:Addr}{fd:FuncData}(F:lF K "_law_step" "_law_step" lZ f fd)(B:fW mg)(c_stand:aM P w K mg base "_law_stand" g8 lM (fU K))(c_reckoned:aM P w K mg base "_law_reckoned" gZ mK (ie K))(c_opened:aM P w K mg base "_law_opened" iw mq (fS K))(c_shut:aM P w K mg base "_law_shut" mT xf (ni K)):dt P w K mg base eT xg f fd mU (nj K):=
 F.ok C0 (λvs H Q E h=>FC h) λcdv A outer s H vs Q E hr h=>⟨_,JW B c_stand c_reckoned c_opened c_shut hr,Lf (E:=E) h⟩
theorem DP{vs:List V}{H:Hp}{Q:VK}{E:XK}(h:iP K vs H Q E):vs.length=jy.length:=by
 first|(obtain⟨_,_,rfl,_⟩:=h;rfl)
theorem FL{f:Addr}{fd:FuncData}(F:lF K "_law_worth" "_law_worth" kT f fd)(B:fW mg)(c_draw:aM P w K mg base "_law_draw" dY iH (bK K)):dt P w K mg base eT oM f fd jy (iP K):=
 F.ok Ac (λvs H Q E h=>DP h) λcdv A outer s H vs Q E hr h=>⟨_,Hn B c_draw hr,Jf (E:=E) h⟩
theorem Fx{vs:List V}{H:Hp}{Q:VK}{E:XK}(h:lS K vs H Q E):vs.length=mR.length:=by
 first|(obtain⟨_,_,_,_,_,_,_,_,rfl,_⟩:=h;rfl)
theorem HR{f:Addr}{fd:FuncData}(F:lF K "_law_args" "_law_args" lX f fd)(B:fW mg)(c_worth:aM P w K mg base "_law_worth" jy oM (iP K)):dt P w K mg base eT xb f fd mR (lS K):=
 F.ok CV (λvs H Q E h=>Fx h) λcdv A outer s H vs Q E hr h=>⟨_,JS B c_worth hr,Lb (E:=E) h⟩
theorem BC{vs:List V}{H:Hp}{Q:VK}{E:XK}(h:jY K vs H Q E):vs.length=jR.length:=by
 first|(obtain⟨_,_,_,_,_,_,_,_,_,_,rfl,_⟩:=h;rfl)
theorem DS{f:Addr}{fd:FuncData}(F:lF K "_law_filled" "_law_filled" iN f fd)(B:fW mg)(c_draw:aM P w K mg base "_law_draw" dY iH (bK K)):dt P w K mg base eT qf f fd jR (jY K):=
 F.ok wq (λvs H Q E h=>BC h) λcdv A outer s H vs Q E hr h=>⟨_,EM B c_draw hr,Gb (E:=E) h⟩
theorem DK{vs:List V}{H:Hp}{Q:VK}{E:XK}(h:lB K vs H Q E):vs.length=lp.length:=by
 first|(obtain⟨_,_,_,_,_,rfl,_⟩:=h;rfl)
theorem FI{f:Addr}{fd:FuncData}(F:lF K "_law_leads" "_law_leads" kR f fd)(B:fW mg) :dt P w K mg base eT sI f fd lp (lB K):=
 F.ok zZ (λvs H Q E h=>DK h) λcdv A outer s H vs Q E hr h=>⟨_,Hi B hr,Jb (E:=E) h⟩
theorem vm{vs:List V}{H:Hp}{Q:VK}{E:XK}(h:gD K vs H Q E):vs.length=gp.length:=by
 first|(obtain⟨_,_,_,_,_,_,_,_,rfl,_⟩:=h;rfl)
theorem yf{f:Addr}{fd:FuncData}(F:lF K "_law_set_names" "_law_set_names" dJ f fd)(B:fW mg)(c_leads:aM P w K mg base "_law_leads" lp sI (lB K)):dt P w K mg base eT lL f fd gp (gD K):=
 F.ok qK (λvs H Q E h=>vm h) λcdv A outer s H vs Q E hr h=>⟨_,yW B c_leads hr,zV (E:=E) h⟩
theorem BD{vs:List V}{H:Hp}{Q:VK}{E:XK}(h:jZ K vs H Q E):vs.length=jS.length:=by
 first|(obtain⟨_,_,_,_,_,_,_,rfl,_⟩:=h;rfl)
theorem DT{f:Addr}{fd:FuncData}(F:lF K "_law_mended" "_law_mended" jE f fd)(B:fW mg) :dt P w K mg base eT qg f fd jS (jZ K):=
 F.ok wt (λvs H Q E h=>BD h) λcdv A outer s H vs Q E hr h=>⟨_,EN B hr,Gc (E:=E) h⟩
theorem vj{vs:List V}{H:Hp}{Q:VK}{E:XK}(h:gB K vs H Q E):vs.length=gg.length:=by
 first|(obtain⟨_,_,_,_,_,_,_,rfl,_⟩:=h;rfl)
theorem yd{f:Addr}{fd:FuncData}(F:lF K "_law_rough_row" "_law_rough_row" fA f fd)(B:fW mg)(c_draw:aM P w K mg base "_law_draw" dY iH (bK K))(c_worth:aM P w K mg base "_law_worth" jy oM (iP K)):dt P w K mg base eT lJ f fd gg (gB K):=
 F.ok qI (λvs H Q E h=>vj h) λcdv A outer s H vs Q E hr h=>⟨_,yU B c_draw c_worth hr,zT (E:=E) h⟩
theorem FA{vs:List V}{H:Hp}{Q:VK}{E:XK}(h:nh K vs H Q E):vs.length=mS.length:=by
 first|(obtain⟨_,_,_,_,_,_,_,_,_,_,rfl,_⟩:=h;rfl)
theorem HU{f:Addr}{fd:FuncData}(F:lF K "_law_part" "_law_part" lY f fd)(B:fW mg)(c_filled:aM P w K mg base "_law_filled" jR qf (jY K))(c_set_names:aM P w K mg base "_law_set_names" gp lL (gD K))(c_mended:aM P w K mg base "_law_mended" jS qg (jZ K))(c_rough_row:aM P w K mg base "_law_rough_row" gg lJ (gB K))(c_draw:aM P w K mg base "_law_draw" dY iH (bK K)):dt P w K mg base eT xc f fd mS (nh K):=
 F.ok CY (λvs H Q E h=>FA h) λcdv A outer s H vs Q E hr h=>⟨_,JU B c_filled c_set_names c_mended c_rough_row c_draw hr,Ld (E:=E) h⟩
theorem DM{vs:List V}{H:Hp}{Q:VK}{E:XK}(h:kr K vs H Q E):vs.length=lq.length:=by
 first|(obtain⟨_,_,_,rfl,_⟩:=h;rfl)
theorem FJ{f:Addr}{fd:FuncData}(F:lF K "_law_names" "_law_names" kh f fd)(B:fW mg)(c_draw:aM P w K mg base "_law_draw" dY iH (bK K)):dt P w K mg base eT sJ f fd lq (kr K):=
 F.ok z9 (λvs H Q E h=>DM h) λcdv A outer s H vs Q E hr h=>⟨_,Hj B c_draw hr,Jc (E:=E) h⟩
theorem zo{vs:List V}{H:Hp}{Q:VK}{E:XK}(h:jh K vs H Q E):vs.length=i8.length:=by
 first|(obtain⟨_,_,_,rfl,_⟩:=h;rfl)
theorem BQ{f:Addr}{fd:FuncData}(F:lF K "_law_program" "_law_program" gK f fd)(B:fW mg)(c_part:aM P w K mg base "_law_part" mS xc (nh K))(c_draw:aM P w K mg base "_law_draw" dY iH (bK K))(c_names:aM P w K mg base "_law_names" lq sJ (kr K)):dt P w K mg base eT oK f fd i8 (jh K):=
 F.ok uv (λvs H Q E h=>zo h) λcdv A outer s H vs Q E hr h=>⟨_,Dr B c_part c_draw c_names hr,D7 (E:=E) h⟩
theorem HI{vs:List V}{H:Hp}{Q:VK}{E:XK}(h:sp_law K vs H Q E):vs.length=tm.length:=by
 first|(obtain⟨_,_,rfl,_⟩:=h;rfl)
theorem Kh{f:Addr}{fd:FuncData}(F:lF K "law" "law" nF f fd)(B:fW mg)(T:iJ K)(cl_Walk:qc K (aR K "Walk"))(m_Walk_step:cg P w K mg base (aR K "Walk") "step" dX jj (dI K))(mk_Walk:mL P w K mg base "Walk" (aR K "Walk") dW ji (dq K))(c_p_run_d1:qe P w K mg base "run" fN kN [.int 400] (fE K))(c_p_run:aM P w K mg base "run" fN kN (fE K))(c_draw:aM P w K mg base "_law_draw" dY iH (bK K))(c_run_alike:aM P w K mg base "_law_run_alike" gh lK (gC K))(c_opened:aM P w K mg base "_law_opened" iw mq (fS K))(c_alike:aM P w K mg base "_law_alike" lj sH (jJ K))(c_step:aM P w K mg base "_law_step" mU xg (nj K))(c_args:aM P w K mg base "_law_args" mR xb (lS K))(c_program:aM P w K mg base "_law_program" i8 oK (jh K)):dt P w K mg base eT Ct f fd tm (sp_law K):=
 F.ok Gq (λvs H Q E h=>HI h) λcdv A outer s H vs Q E hr h=>⟨_,LN B cl_Walk m_Walk_step mk_Walk c_p_run_d1 c_p_run c_draw c_run_alike c_opened c_alike c_step c_args c_program hr,Mp T (E:=E) h⟩
end
theorem all_mk{l:PySem.W.OpenLaw}{w:World}{K:Fg}{h:Heap}{mg:Str->Option Value}{fa:Addr}(X:K.In h)(G:h.Ns mainGlobals mg)(hfa:mg "law"=some (.ref fa))
  {C_Frame:Addr} (zc_Frame:aF K mainGlobals "Frame"=some (some (.ref C_Frame))) (pg_Frame:fM K C_Frame Str.empty=true) (hd_Frame:gP K C_Frame=true) (po_Frame:jx K C_Frame=true) (sa_Frame:aX K (.ref C_Frame) "__setattr__"=some (some (.builtin "object.__setattr__"))) (ma_Frame:kA K C_Frame=true) (kp_Frame:aA K (.ref C_Frame)=true)
  {C_Walk:Addr} (zc_Walk:aF K mainGlobals "Walk"=some (some (.ref C_Walk))) (pg_Walk:fM K C_Walk Str.empty=true) (hd_Walk:gP K C_Walk=true) (po_Walk:jx K C_Walk=true) (sa_Walk:aX K (.ref C_Walk) "__setattr__"=some (some (.builtin "object.__setattr__"))) (ma_Walk:kA K C_Walk=true) (kp_Walk:aA K (.ref C_Walk)=true)
  {C_Run:Addr} (zc_Run:aF K mainGlobals "Run"=some (some (.ref C_Run)))
  (hg_Run:PySem.W.specialIn K (.ref C_Run) "__getattribute__"=some (some (.builtin "type.__getattribute__"))) (rd_Run:PySem.W.readsIn K C_Run (.type "type")=true)
  (no_0:aX K (.ref C_Walk) "program"=some none)
  (no_1:aX K (.ref C_Walk) "opened"=some none)
  (no_2:aX K (.ref C_Walk) "spoken"=some none)
  (no_3:aX K (.ref C_Walk) "outcome"=some none)
  (no_4:aX K (.ref C_Frame) "part"=some none)
  (no_5:aX K (.ref C_Frame) "row"=some none)
  (no_6:aX K (.ref C_Frame) "names"=some none)
  {od0 an0:Option Addr} {sl0:Array (Option Value)} {oc0 kV0 dc0 pm0 cd0 ct0:Value} {f0:Addr}
  (a0:aX K (.ref C_Frame) "__init__"=some (some (.ref f0)))
  (l0:K.lookup f0=some ⟨oc0,od0,.func (aI "__init__" "Frame.__init__" (bB ef) (aL ef) (ag ef) .none kV0 dc0 pm0 an0 cd0 ct0),sl0⟩) (c0:aE K cd0 "Frame.__init__"=true) (k0:aA K (.ref f0)=true)
  (i0:cM K (.ref f0)=true)
  {od1 an1:Option Addr} {sl1:Array (Option Value)} {oc1 kV1 dc1 pm1 cd1 ct1:Value} {f1:Addr}
  (a1:aF K mainGlobals "goal"=some (some (.ref f1)))
  (l1:K.lookup f1=some ⟨oc1,od1,.func (aI "goal" "goal" (bB jG) (aL jG) (ag jG) .none kV1 dc1 pm1 an1 cd1 ct1),sl1⟩) (c1:aE K cd1 "goal"=true) (k1:aA K (.ref f1)=true)
  {od2 an2:Option Addr} {sl2:Array (Option Value)} {oc2 kV2 dc2 pm2 cd2 ct2:Value} {f2:Addr}
  (a2:aF K mainGlobals "stands"=some (some (.ref f2)))
  (l2:K.lookup f2=some ⟨oc2,od2,.func (aI "stands" "stands" (bB gv) (aL gv) (ag gv) .none kV2 dc2 pm2 an2 cd2 ct2),sl2⟩) (c2:aE K cd2 "stands"=true) (k2:aA K (.ref f2)=true)
  {od3 an3:Option Addr} {sl3:Array (Option Value)} {oc3 kV3 dc3 pm3 cd3 ct3:Value} {f3:Addr}
  (a3:aX K (.ref C_Walk) "enter"=some (some (.ref f3)))
  (l3:K.lookup f3=some ⟨oc3,od3,.func (aI "enter" "Walk.enter" (bB en) (aL en) (ag en) .none kV3 dc3 pm3 an3 cd3 ct3),sl3⟩) (c3:aE K cd3 "Walk.enter"=true) (k3:aA K (.ref f3)=true)
  (i3:cM K (.ref f3)=true)
  {od4 an4:Option Addr} {sl4:Array (Option Value)} {oc4 kV4 dc4 pm4 cd4 ct4:Value} {f4:Addr}
  (a4:aX K (.ref C_Walk) "ended"=some (some (.ref f4)))
  (l4:K.lookup f4=some ⟨oc4,od4,.func (aI "ended" "Run.ended" (bB fi) (aL fi) (ag fi) .none kV4 dc4 pm4 an4 cd4 ct4),sl4⟩) (c4:aE K cd4 "Run.ended"=true) (k4:aA K (.ref f4)=true)
  (i4:cM K (.ref f4)=true)
  {od5 an5:Option Addr} {sl5:Array (Option Value)} {oc5 kV5 dc5 pm5 cd5 ct5:Value} {f5:Addr}
  (a5:aX K (.ref C_Walk) "go_on"=some (some (.ref f5)))
  (l5:K.lookup f5=some ⟨oc5,od5,.func (aI "go_on" "Walk.go_on" (bB eA) (aL eA) (ag eA) .none kV5 dc5 pm5 an5 cd5 ct5),sl5⟩) (c5:aE K cd5 "Walk.go_on"=true) (k5:aA K (.ref f5)=true)
  (i5:cM K (.ref f5)=true)
  {od6 an6:Option Addr} {sl6:Array (Option Value)} {oc6 kV6 dc6 pm6 cd6 ct6:Value} {f6:Addr}
  (a6:aF K mainGlobals "sets"=some (some (.ref f6)))
  (l6:K.lookup f6=some ⟨oc6,od6,.func (aI "sets" "sets" (bB jH) (aL jH) (ag jH) .none kV6 dc6 pm6 an6 cd6 ct6),sl6⟩) (c6:aE K cd6 "sets"=true) (k6:aA K (.ref f6)=true)
  {od7 an7:Option Addr} {sl7:Array (Option Value)} {oc7 kV7 dc7 pm7 cd7 ct7:Value} {f7:Addr}
  (a7:aX K (.ref C_Walk) "leave"=some (some (.ref f7)))
  (l7:K.lookup f7=some ⟨oc7,od7,.func (aI "leave" "Walk.leave" (bB eB) (aL eB) (ag eB) .none kV7 dc7 pm7 an7 cd7 ct7),sl7⟩) (c7:aE K cd7 "Walk.leave"=true) (k7:aA K (.ref f7)=true)
  (i7:cM K (.ref f7)=true)
  {od8 an8:Option Addr} {sl8:Array (Option Value)} {oc8 kV8 dc8 pm8 cd8 ct8:Value} {f8:Addr}
  (a8:aF K mainGlobals "unbounded"=some (some (.ref f8)))
  (l8:K.lookup f8=some ⟨oc8,od8,.func (aI "unbounded" "unbounded" (bB dG) (aL dG) (ag dG) .none kV8 dc8 pm8 an8 cd8 ct8),sl8⟩) (c8:aE K cd8 "unbounded"=true) (k8:aA K (.ref f8)=true)
  {od9 an9:Option Addr} {sl9:Array (Option Value)} {oc9 kV9 dc9 pm9 cd9 ct9:Value} {f9:Addr}
  (a9:aF K mainGlobals "worth"=some (some (.ref f9)))
  (l9:K.lookup f9=some ⟨oc9,od9,.func (aI "worth" "worth" (bB iC) (aL iC) (ag iC) .none kV9 dc9 pm9 an9 cd9 ct9),sl9⟩) (c9:aE K cd9 "worth"=true) (k9:aA K (.ref f9)=true)
  {od10 an10:Option Addr} {sl10:Array (Option Value)} {oc10 kV10 dc10 pm10 cd10 ct10:Value} {f10:Addr}
  (a10:aX K (.ref C_Walk) "work"=some (some (.ref f10)))
  (l10:K.lookup f10=some ⟨oc10,od10,.func (aI "work" "Walk.work" (bB fq) (aL fq) (ag fq) .none kV10 dc10 pm10 an10 cd10 ct10),sl10⟩) (c10:aE K cd10 "Walk.work"=true) (k10:aA K (.ref f10)=true)
  (i10:cM K (.ref f10)=true)
  {od11 an11:Option Addr} {sl11:Array (Option Value)} {oc11 kV11 dc11 pm11 cd11 ct11:Value} {f11:Addr}
  (a11:aF K mainGlobals "reads"=some (some (.ref f11)))
  (l11:K.lookup f11=some ⟨oc11,od11,.func (aI "reads" "reads" (bB iB) (aL iB) (ag iB) .none kV11 dc11 pm11 an11 cd11 ct11),sl11⟩) (c11:aE K cd11 "reads"=true) (k11:aA K (.ref f11)=true)
  {od12 an12:Option Addr} {sl12:Array (Option Value)} {oc12 kV12 dc12 pm12 cd12 ct12:Value} {f12:Addr}
  (a12:aX K (.ref C_Walk) "step"=some (some (.ref f12)))
  (l12:K.lookup f12=some ⟨oc12,od12,.func (aI "step" "Walk.step" (bB eE) (aL eE) (ag eE) .none kV12 dc12 pm12 an12 cd12 ct12),sl12⟩) (c12:aE K cd12 "Walk.step"=true) (k12:aA K (.ref f12)=true)
  (i12:cM K (.ref f12)=true)
  {od13 an13:Option Addr} {sl13:Array (Option Value)} {oc13 kV13 dc13 pm13 cd13 ct13:Value} {f13:Addr}
  (a13:PySem.W.findCls K (.ref C_Run) (.type "type") "__init__"=some (.val (.ref f13)))
  (l13:K.lookup f13=some ⟨oc13,od13,.func (aI "__init__" "Run.__init__" (bB gq) (aL gq) (ag gq) .none kV13 dc13 pm13 an13 cd13 ct13),sl13⟩) (c13:aE K cd13 "Run.__init__"=true) (k13:aA K (.ref f13)=true)
  (i13:cM K (.ref f13)=true)
  {od14 an14:Option Addr} {sl14:Array (Option Value)} {oc14 kV14 dc14 pm14 cd14 ct14:Value} {f14:Addr}
  (a14:aX K (.ref C_Walk) "__init__"=some (some (.ref f14)))
  (l14:K.lookup f14=some ⟨oc14,od14,.func (aI "__init__" "Walk.__init__" (bB fj) (aL fj) (ag fj) .none kV14 dc14 pm14 an14 cd14 ct14),sl14⟩) (c14:aE K cd14 "Walk.__init__"=true) (k14:aA K (.ref f14)=true)
  (i14:cM K (.ref f14)=true)
  {od15 an15:Option Addr} {sl15:Array (Option Value)} {oc15 kV15 dc15 pm15 cd15 ct15:Value} {f15:Addr}
  (a15:aX K (.ref C_Walk) "said"=some (some (.ref f15)))
  (l15:K.lookup f15=some ⟨oc15,od15,.func (aI "said" "Run.said" (bB gr) (aL gr) (ag gr) .none kV15 dc15 pm15 an15 cd15 ct15),sl15⟩) (c15:aE K cd15 "Run.said"=true) (k15:aA K (.ref f15)=true)
  (i15:cM K (.ref f15)=true)
  {od16 an16:Option Addr} {sl16:Array (Option Value)} {oc16 kV16 dc16 pm16 cd16 ct16:Value} {f16:Addr}
  (a16:aX K (.ref C_Walk) "answer"=some (some (.ref f16)))
  (l16:K.lookup f16=some ⟨oc16,od16,.func (aI "answer" "Run.answer" (bB eh) (aL eh) (ag eh) .none kV16 dc16 pm16 an16 cd16 ct16),sl16⟩) (c16:aE K cd16 "Run.answer"=true) (k16:aA K (.ref f16)=true)
  (i16:cM K (.ref f16)=true)
  {od17 an17:Option Addr} {sl17:Array (Option Value)} {oc17 kV17 dc17 pm17 cd17 ct17:Value} {f17:Addr}
  (a17:aF K mainGlobals "stepped"=some (some (.ref f17)))
  (l17:K.lookup f17=some ⟨oc17,od17,.func (aI "stepped" "stepped" (bB fu) (aL fu) (ag fu) .none kV17 dc17 pm17 an17 cd17 ct17),sl17⟩) (c17:aE K cd17 "stepped"=true) (k17:aA K (.ref f17)=true)
  {od18 an18:Option Addr} {sl18:Array (Option Value)} {oc18 kV18 dc18 pm18 cd18 ct18:Value} {f18:Addr}
  {dt18_0:Tok}
  {T18:Addr} {ocT18:Value} {odT18:Option Addr} {nT18:Nat} {slT18:Array (Option Value)}
  (a18:aF K mainGlobals "run"=some (some (.ref f18)))
  (l18:K.lookup f18=some ⟨oc18,od18,.func (aI "run" "run" (bB gu) (aL gu) (ag gu) (.ref T18) kV18 dc18 pm18 an18 cd18 ct18),sl18⟩) (c18:aE K cd18 "run"=true) (k18:aA K (.ref f18)=true)
  (t18:K.lookup T18=some ⟨ocT18,odT18,.seq #[(Value.int 400 dt18_0)] nT18,slT18⟩)
  {od19 an19:Option Addr} {sl19:Array (Option Value)} {oc19 kV19 dc19 pm19 cd19 ct19:Value} {f19:Addr}
  (a19:aF K mainGlobals "_law_draw"=some (some (.ref f19)))
  (l19:K.lookup f19=some ⟨oc19,od19,.func (aI "_law_draw" "_law_draw" (bB m9) (aL m9) (ag m9) .none kV19 dc19 pm19 an19 cd19 ct19),sl19⟩) (c19:aE K cd19 "_law_draw"=true) (k19:aA K (.ref f19)=true)
  {od20 an20:Option Addr} {sl20:Array (Option Value)} {oc20 kV20 dc20 pm20 cd20 ct20:Value} {f20:Addr}
  (a20:aF K mainGlobals "_law_run_alike"=some (some (.ref f20)))
  (l20:K.lookup f20=some ⟨oc20,od20,.func (aI "_law_run_alike" "_law_run_alike" (bB fB) (aL fB) (ag fB) .none kV20 dc20 pm20 an20 cd20 ct20),sl20⟩) (c20:aE K cd20 "_law_run_alike"=true) (k20:aA K (.ref f20)=true)
  {od21 an21:Option Addr} {sl21:Array (Option Value)} {oc21 kV21 dc21 pm21 cd21 ct21:Value} {f21:Addr}
  (a21:aF K mainGlobals "_law_stand"=some (some (.ref f21)))
  (l21:K.lookup f21=some ⟨oc21,od21,.func (aI "_law_stand" "_law_stand" (bB kS) (aL kS) (ag kS) .none kV21 dc21 pm21 an21 cd21 ct21),sl21⟩) (c21:aE K cd21 "_law_stand"=true) (k21:aA K (.ref f21)=true)
  {od22 an22:Option Addr} {sl22:Array (Option Value)} {oc22 kV22 dc22 pm22 cd22 ct22:Value} {f22:Addr}
  (a22:aF K mainGlobals "_law_opened"=some (some (.ref f22)))
  (l22:K.lookup f22=some ⟨oc22,od22,.func (aI "_law_opened" "_law_opened" (bB jF) (aL jF) (ag jF) .none kV22 dc22 pm22 an22 cd22 ct22),sl22⟩) (c22:aE K cd22 "_law_opened"=true) (k22:aA K (.ref f22)=true)
  {od23 an23:Option Addr} {sl23:Array (Option Value)} {oc23 kV23 dc23 pm23 cd23 ct23:Value} {f23:Addr}
  (a23:aX K (.ref C_Walk) "frames"=some (some (.ref f23)))
  (l23:K.lookup f23=some ⟨oc23,od23,.func (aI "frames" "Walk.frames" (bB dg) (aL dg) (ag dg) .none kV23 dc23 pm23 an23 cd23 ct23),sl23⟩) (c23:aE K cd23 "Walk.frames"=true) (k23:aA K (.ref f23)=true)
  (i23:cM K (.ref f23)=true)
  {od24 an24:Option Addr} {sl24:Array (Option Value)} {oc24 kV24 dc24 pm24 cd24 ct24:Value} {f24:Addr}
  (a24:aF K mainGlobals "_law_worths"=some (some (.ref f24)))
  (l24:K.lookup f24=some ⟨oc24,od24,.func (aI "_law_worths" "_law_worths" (bB iO) (aL iO) (ag iO) .none kV24 dc24 pm24 an24 cd24 ct24),sl24⟩) (c24:aE K cd24 "_law_worths"=true) (k24:aA K (.ref f24)=true)
  {od25 an25:Option Addr} {sl25:Array (Option Value)} {oc25 kV25 dc25 pm25 cd25 ct25:Value} {f25:Addr}
  (a25:aF K mainGlobals "_law_alike"=some (some (.ref f25)))
  (l25:K.lookup f25=some ⟨oc25,od25,.func (aI "_law_alike" "_law_alike" (bB kQ) (aL kQ) (ag kQ) .none kV25 dc25 pm25 an25 cd25 ct25),sl25⟩) (c25:aE K cd25 "_law_alike"=true) (k25:aA K (.ref f25)=true)
  {od26 an26:Option Addr} {sl26:Array (Option Value)} {oc26 kV26 dc26 pm26 cd26 ct26:Value} {f26:Addr}
  (a26:aF K mainGlobals "_law_reckoned"=some (some (.ref f26)))
  (l26:K.lookup f26=some ⟨oc26,od26,.func (aI "_law_reckoned" "_law_reckoned" (bB gw) (aL gw) (ag gw) .none kV26 dc26 pm26 an26 cd26 ct26),sl26⟩) (c26:aE K cd26 "_law_reckoned"=true) (k26:aA K (.ref f26)=true)
  {od27 an27:Option Addr} {sl27:Array (Option Value)} {oc27 kV27 dc27 pm27 cd27 ct27:Value} {f27:Addr}
  (a27:aF K mainGlobals "_law_shut"=some (some (.ref f27)))
  (l27:K.lookup f27=some ⟨oc27,od27,.func (aI "_law_shut" "_law_shut" (bB ng) (aL ng) (ag ng) .none kV27 dc27 pm27 an27 cd27 ct27),sl27⟩) (c27:aE K cd27 "_law_shut"=true) (k27:aA K (.ref f27)=true)
  {od28 an28:Option Addr} {sl28:Array (Option Value)} {oc28 kV28 dc28 pm28 cd28 ct28:Value} {f28:Addr}
  (a28:aF K mainGlobals "_law_step"=some (some (.ref f28)))
  (l28:K.lookup f28=some ⟨oc28,od28,.func (aI "_law_step" "_law_step" (bB lZ) (aL lZ) (ag lZ) .none kV28 dc28 pm28 an28 cd28 ct28),sl28⟩) (c28:aE K cd28 "_law_step"=true) (k28:aA K (.ref f28)=true)
  {od29 an29:Option Addr} {sl29:Array (Option Value)} {oc29 kV29 dc29 pm29 cd29 ct29:Value} {f29:Addr}
  (a29:aF K mainGlobals "_law_worth"=some (some (.ref f29)))
  (l29:K.lookup f29=some ⟨oc29,od29,.func (aI "_law_worth" "_law_worth" (bB kT) (aL kT) (ag kT) .none kV29 dc29 pm29 an29 cd29 ct29),sl29⟩) (c29:aE K cd29 "_law_worth"=true) (k29:aA K (.ref f29)=true)
  {od30 an30:Option Addr} {sl30:Array (Option Value)} {oc30 kV30 dc30 pm30 cd30 ct30:Value} {f30:Addr}
  (a30:aF K mainGlobals "_law_args"=some (some (.ref f30)))
  (l30:K.lookup f30=some ⟨oc30,od30,.func (aI "_law_args" "_law_args" (bB lX) (aL lX) (ag lX) .none kV30 dc30 pm30 an30 cd30 ct30),sl30⟩) (c30:aE K cd30 "_law_args"=true) (k30:aA K (.ref f30)=true)
  {od31 an31:Option Addr} {sl31:Array (Option Value)} {oc31 kV31 dc31 pm31 cd31 ct31:Value} {f31:Addr}
  (a31:aF K mainGlobals "_law_filled"=some (some (.ref f31)))
  (l31:K.lookup f31=some ⟨oc31,od31,.func (aI "_law_filled" "_law_filled" (bB iN) (aL iN) (ag iN) .none kV31 dc31 pm31 an31 cd31 ct31),sl31⟩) (c31:aE K cd31 "_law_filled"=true) (k31:aA K (.ref f31)=true)
  {od32 an32:Option Addr} {sl32:Array (Option Value)} {oc32 kV32 dc32 pm32 cd32 ct32:Value} {f32:Addr}
  (a32:aF K mainGlobals "_law_leads"=some (some (.ref f32)))
  (l32:K.lookup f32=some ⟨oc32,od32,.func (aI "_law_leads" "_law_leads" (bB kR) (aL kR) (ag kR) .none kV32 dc32 pm32 an32 cd32 ct32),sl32⟩) (c32:aE K cd32 "_law_leads"=true) (k32:aA K (.ref f32)=true)
  {od33 an33:Option Addr} {sl33:Array (Option Value)} {oc33 kV33 dc33 pm33 cd33 ct33:Value} {f33:Addr}
  (a33:aF K mainGlobals "_law_set_names"=some (some (.ref f33)))
  (l33:K.lookup f33=some ⟨oc33,od33,.func (aI "_law_set_names" "_law_set_names" (bB dJ) (aL dJ) (ag dJ) .none kV33 dc33 pm33 an33 cd33 ct33),sl33⟩) (c33:aE K cd33 "_law_set_names"=true) (k33:aA K (.ref f33)=true)
  {od34 an34:Option Addr} {sl34:Array (Option Value)} {oc34 kV34 dc34 pm34 cd34 ct34:Value} {f34:Addr}
  (a34:aF K mainGlobals "_law_mended"=some (some (.ref f34)))
  (l34:K.lookup f34=some ⟨oc34,od34,.func (aI "_law_mended" "_law_mended" (bB jE) (aL jE) (ag jE) .none kV34 dc34 pm34 an34 cd34 ct34),sl34⟩) (c34:aE K cd34 "_law_mended"=true) (k34:aA K (.ref f34)=true)
  {od35 an35:Option Addr} {sl35:Array (Option Value)} {oc35 kV35 dc35 pm35 cd35 ct35:Value} {f35:Addr}
  (a35:aF K mainGlobals "_law_rough_row"=some (some (.ref f35)))
  (l35:K.lookup f35=some ⟨oc35,od35,.func (aI "_law_rough_row" "_law_rough_row" (bB fA) (aL fA) (ag fA) .none kV35 dc35 pm35 an35 cd35 ct35),sl35⟩) (c35:aE K cd35 "_law_rough_row"=true) (k35:aA K (.ref f35)=true)
  {od36 an36:Option Addr} {sl36:Array (Option Value)} {oc36 kV36 dc36 pm36 cd36 ct36:Value} {f36:Addr}
  (a36:aF K mainGlobals "_law_part"=some (some (.ref f36)))
  (l36:K.lookup f36=some ⟨oc36,od36,.func (aI "_law_part" "_law_part" (bB lY) (aL lY) (ag lY) .none kV36 dc36 pm36 an36 cd36 ct36),sl36⟩) (c36:aE K cd36 "_law_part"=true) (k36:aA K (.ref f36)=true)
  {od37 an37:Option Addr} {sl37:Array (Option Value)} {oc37 kV37 dc37 pm37 cd37 ct37:Value} {f37:Addr}
  (a37:aF K mainGlobals "_law_names"=some (some (.ref f37)))
  (l37:K.lookup f37=some ⟨oc37,od37,.func (aI "_law_names" "_law_names" (bB kh) (aL kh) (ag kh) .none kV37 dc37 pm37 an37 cd37 ct37),sl37⟩) (c37:aE K cd37 "_law_names"=true) (k37:aA K (.ref f37)=true)
  {od38 an38:Option Addr} {sl38:Array (Option Value)} {oc38 kV38 dc38 pm38 cd38 ct38:Value} {f38:Addr}
  (a38:aF K mainGlobals "_law_program"=some (some (.ref f38)))
  (l38:K.lookup f38=some ⟨oc38,od38,.func (aI "_law_program" "_law_program" (bB gK) (aL gK) (ag gK) .none kV38 dc38 pm38 an38 cd38 ct38),sl38⟩) (c38:aE K cd38 "_law_program"=true) (k38:aA K (.ref f38)=true)
  {od39 an39:Option Addr} {sl39:Array (Option Value)} {oc39 kV39 dc39 pm39 cd39 ct39:Value} {f39:Addr}
  (a39:aF K mainGlobals "law"=some (some (.ref f39)))
  (l39:K.lookup f39=some ⟨oc39,od39,.func (aI "law" "law" (bB nF) (aL nF) (ag nF) .none kV39 dc39 pm39 an39 cd39 ct39),sl39⟩) (c39:aE K cd39 "law"=true) (k39:aA K (.ref f39)=true)
  (z_len:aF K mainGlobals "len"=some none) (z_range:aF K mainGlobals "range"=some none) (z_divmod:aF K mainGlobals "divmod"=some none) (z_max:aF K mainGlobals "max"=some none) (z_min:aF K mainGlobals "min"=some none) (z_sum:aF K mainGlobals "sum"=some none) (z_all:aF K mainGlobals "all"=some none) (z_isinstance:aF K mainGlobals "isinstance"=some none) (z_int:aF K mainGlobals "int"=some none) (z_bool:aF K mainGlobals "bool"=some none) (z_list:aF K mainGlobals "list"=some none) (z_tuple:aF K mainGlobals "tuple"=some none) (z_enumerate:aF K mainGlobals "enumerate"=some none) (z_zip:aF K mainGlobals "zip"=some none) (z_sorted:aF K mainGlobals "sorted"=some none) (z_set:aF K mainGlobals "set"=some none) (z_dict:aF K mainGlobals "dict"=some none) (z_str:aF K mainGlobals "str"=some none) (z_any:aF K mainGlobals "any"=some none) (z_reversed:aF K mainGlobals "reversed"=some none) (z_abs:aF K mainGlobals "abs"=some none) :
  ∃fd:FuncData,(∀(s:Shared) (v:Value),BindsTo s fd ⟨[v],[]⟩ [("_law_script",v)])/\∀base:Heap,K.In base->base.Ns mainGlobals mg->dt l.prog w K mg base eT Ct fa fd tm (sp_law K):=by
 have e:=hfa.symm.trans (aV X G a39)
 cases e
 have B:fW mg:=⟨aZ X G z_len,aZ X G z_range,aZ X G z_divmod,aZ X G z_max,aZ X G z_min,aZ X G z_sum,aZ X G z_all,aZ X G z_isinstance,aZ X G z_int,aZ X G z_bool,aZ X G z_list,aZ X G z_tuple,aZ X G z_enumerate,aZ X G z_zip,aZ X G z_sorted,aZ X G z_set,aZ X G z_dict,aZ X G z_str,aZ X G z_any,aZ X G z_reversed,aZ X G z_abs⟩
 have eC_Run:aR K "Run"=C_Run:=tH zc_Run
 have eC_Frame:aR K "Frame"=C_Frame:=tH zc_Frame
 have cl_Frame:qc K (aR K "Frame"):=by rw[eC_Frame];exact⟨pg_Frame,hd_Frame,po_Frame,sa_Frame⟩
 have eC_Walk:aR K "Walk"=C_Walk:=tH zc_Walk
 have cl_Walk:qc K (aR K "Walk"):=by rw[eC_Walk];exact⟨pg_Walk,hd_Walk,po_Walk,sa_Walk⟩
 have T:iJ K:=⟨cl_Walk,cl_Frame,(by rw[eC_Walk];exact no_0),(by rw[eC_Walk];exact no_1),(by rw[eC_Walk];exact no_2),(by rw[eC_Walk];exact no_3),(by rw[eC_Frame];exact no_4),(by rw[eC_Frame];exact no_5),(by rw[eC_Frame];exact no_6)⟩
 have F0:=cE (st:=ef) l0 c0 k0
 have b0:=F0.binds (ps:=fG) λ_ _ _ _ _ _ us hl=>by(obtain⟨_,_,_,_,rfl⟩:=Ls (us:=us) hl);rfl
 have F1:=cE (st:=jG) l1 c1 k1
 have b1:=F1.binds (ps:=ix) λ_ _ _ _ _ _ us hl=>by(obtain⟨_,rfl⟩:=Fu (us:=us) hl);rfl
 have F2:=cE (st:=gv) l2 c2 k2
 have b2:=F2.binds (ps:=ff) λ_ _ _ _ _ _ us hl=>by(obtain⟨_,_,rfl⟩:=JB (us:=us) hl);rfl
 have F3:=cE (st:=en) l3 c3 k3
 have b3:=F3.binds (ps:=dD) λ_ _ _ _ _ _ us hl=>by(obtain⟨_,_,_,rfl⟩:=DI (us:=us) hl);rfl
 have F4:=cE (st:=fi) l4 c4 k4
 have b4:=F4.binds (ps:=dk) λ_ _ _ _ _ _ us hl=>by(obtain⟨_,rfl⟩:=Fu (us:=us) hl);rfl
 have F5:=cE (st:=eA) l5 c5 k5
 have b5:=F5.binds (ps:=dE) λ_ _ _ _ _ _ us hl=>by(obtain⟨_,_,_,rfl⟩:=DI (us:=us) hl);rfl
 have F6:=cE (st:=jH) l6 c6 k6
 have b6:=F6.binds (ps:=jT) λ_ _ _ _ _ _ us hl=>by(obtain⟨_,rfl⟩:=Fu (us:=us) hl);rfl
 have F7:=cE (st:=eB) l7 c7 k7
 have b7:=F7.binds (ps:=fH) λ_ _ _ _ _ _ us hl=>by(obtain⟨_,_,rfl⟩:=JB (us:=us) hl);rfl
 have F8:=cE (st:=dG) l8 c8 k8
 have b8:=F8.binds (ps:=eK) λ_ _ _ _ _ _ us hl=>by(obtain⟨_,_,_,rfl⟩:=DI (us:=us) hl);rfl
 have F9:=cE (st:=iC) l9 c9 k9
 have b9:=F9.binds (ps:=i6) λ_ _ _ _ _ _ us hl=>by(obtain⟨_,_,_,rfl⟩:=DI (us:=us) hl);rfl
 have F10:=cE (st:=fq) l10 c10 k10
 have b10:=F10.binds (ps:=gc) λ_ _ _ _ _ _ us hl=>by(obtain⟨_,_,_,_,rfl⟩:=Ls (us:=us) hl);rfl
 have F11:=cE (st:=iB) l11 c11 k11
 have b11:=F11.binds (ps:=iZ) λ_ _ _ _ _ _ us hl=>by(obtain⟨_,rfl⟩:=Fu (us:=us) hl);rfl
 have F12:=cE (st:=eE) l12 c12 k12
 have b12:=F12.binds (ps:=dX) λ_ _ _ _ _ _ us hl=>by(obtain⟨_,rfl⟩:=Fu (us:=us) hl);rfl
 have F13:=cE (st:=gq) l13 c13 k13
 have b13:=F13.binds (ps:=gY) λ_ _ _ _ _ _ us hl=>by(obtain⟨_,rfl⟩:=Fu (us:=us) hl);rfl
 have F14:=cE (st:=fj) l14 c14 k14
 have b14:=F14.binds (ps:=dW) λ_ _ _ _ _ _ us hl=>by(obtain⟨_,_,_,_,rfl⟩:=Ls (us:=us) hl);rfl
 have F15:=cE (st:=gr) l15 c15 k15
 have b15:=F15.binds (ps:=fc) λ_ _ _ _ _ _ us hl=>by(obtain⟨_,rfl⟩:=Fu (us:=us) hl);rfl
 have F16:=cE (st:=eh) l16 c16 k16
 have b16:=F16.binds (ps:=dC) λ_ _ _ _ _ _ us hl=>by(obtain⟨_,rfl⟩:=Fu (us:=us) hl);rfl
 have F17:=cE (st:=fu) l17 c17 k17
 have b17:=F17.binds (ps:=gf) λ_ _ _ _ _ _ us hl=>by(obtain⟨_,_,rfl⟩:=JB (us:=us) hl);rfl
 have F18:=Hv (st:=gu) l18 c18 k18
 have F19:=cE (st:=m9) l19 c19 k19
 have b19:=F19.binds (ps:=dY) λ_ _ _ _ _ _ us hl=>by(obtain⟨_,_,rfl⟩:=JB (us:=us) hl);rfl
 have F20:=cE (st:=fB) l20 c20 k20
 have b20:=F20.binds (ps:=gh) λ_ _ _ _ _ _ us hl=>by(obtain⟨_,_,_,_,_,rfl⟩:=Nc (us:=us) hl);rfl
 have F21:=cE (st:=kS) l21 c21 k21
 have b21:=F21.binds (ps:=g8) λ_ _ _ _ _ _ us hl=>by(obtain⟨_,_,rfl⟩:=JB (us:=us) hl);rfl
 have F22:=cE (st:=jF) l22 c22 k22
 have b22:=F22.binds (ps:=iw) λ_ _ _ _ _ _ us hl=>by(obtain⟨_,_,_,rfl⟩:=DI (us:=us) hl);rfl
 have F23:=cE (st:=dg) l23 c23 k23
 have b23:=F23.binds (ps:=eJ) λ_ _ _ _ _ _ us hl=>by(obtain⟨_,rfl⟩:=Fu (us:=us) hl);rfl
 have F24:=cE (st:=iO) l24 c24 k24
 have b24:=F24.binds (ps:=jU) λ_ _ _ _ _ _ us hl=>by(obtain⟨_,rfl⟩:=Fu (us:=us) hl);rfl
 have F25:=cE (st:=kQ) l25 c25 k25
 have b25:=F25.binds (ps:=lj) λ_ _ _ _ _ _ us hl=>by(obtain⟨_,_,_,_,rfl⟩:=Ls (us:=us) hl);rfl
 have F26:=cE (st:=gw) l26 c26 k26
 have b26:=F26.binds (ps:=gZ) λ_ _ _ _ _ _ us hl=>by(obtain⟨_,_,_,rfl⟩:=DI (us:=us) hl);rfl
 have F27:=cE (st:=ng) l27 c27 k27
 have b27:=F27.binds (ps:=mT) λ_ _ _ _ _ _ us hl=>by(obtain⟨_,_,_,rfl⟩:=DI (us:=us) hl);rfl
 have F28:=cE (st:=lZ) l28 c28 k28
 have b28:=F28.binds (ps:=mU) λ_ _ _ _ _ _ us hl=>by(obtain⟨_,_,_,rfl⟩:=DI (us:=us) hl);rfl
 have F29:=cE (st:=kT) l29 c29 k29
 have b29:=F29.binds (ps:=jy) λ_ _ _ _ _ _ us hl=>by(obtain⟨_,rfl⟩:=Fu (us:=us) hl);rfl
 have F30:=cE (st:=lX) l30 c30 k30
 have b30:=F30.binds (ps:=mR) λ_ _ _ _ _ _ us hl=>by(obtain⟨_,_,_,rfl⟩:=DI (us:=us) hl);rfl
 have F31:=cE (st:=iN) l31 c31 k31
 have b31:=F31.binds (ps:=jR) λ_ _ _ _ _ _ us hl=>by(obtain⟨_,_,_,rfl⟩:=DI (us:=us) hl);rfl
 have F32:=cE (st:=kR) l32 c32 k32
 have b32:=F32.binds (ps:=lp) λ_ _ _ _ _ _ us hl=>by(obtain⟨_,_,rfl⟩:=JB (us:=us) hl);rfl
 have F33:=cE (st:=dJ) l33 c33 k33
 have b33:=F33.binds (ps:=gp) λ_ _ _ _ _ _ us hl=>by(obtain⟨_,_,_,rfl⟩:=DI (us:=us) hl);rfl
 have F34:=cE (st:=jE) l34 c34 k34
 have b34:=F34.binds (ps:=jS) λ_ _ _ _ _ _ us hl=>by(obtain⟨_,_,_,rfl⟩:=DI (us:=us) hl);rfl
 have F35:=cE (st:=fA) l35 c35 k35
 have b35:=F35.binds (ps:=gg) λ_ _ _ _ _ _ us hl=>by(obtain⟨_,_,_,_,rfl⟩:=Ls (us:=us) hl);rfl
 have F36:=cE (st:=lY) l36 c36 k36
 have b36:=F36.binds (ps:=mS) λ_ _ _ _ _ _ us hl=>by(obtain⟨_,_,_,_,_,_,rfl⟩:=Nd (us:=us) hl);rfl
 have F37:=cE (st:=kh) l37 c37 k37
 have b37:=F37.binds (ps:=lq) λ_ _ _ _ _ _ us hl=>by(obtain⟨_,_,rfl⟩:=JB (us:=us) hl);rfl
 have F38:=cE (st:=gK) l38 c38 k38
 have b38:=F38.binds (ps:=i8) λ_ _ _ _ _ _ us hl=>by(obtain⟨_,_,rfl⟩:=JB (us:=us) hl);rfl
 have F39:=cE (st:=nF) l39 c39 k39
 refine⟨aI "law" "law" (bB nF) (aL nF) (ag nF) .none kV39 dc39 pm39 an39 cd39 ct39,λs v=>.of_eq rfl,λbase _ _=>?_⟩
 have mk_Frame:mL l.prog w K mg base "Frame" (aR K "Frame") fG kL (fI K):=⟨⟨f0,_,aV X G zc_Frame |>.trans (by rw[eC_Frame]),by rw[eC_Frame];exact⟨ma_Frame,a0,i0,kp_Frame⟩,b0,vo F0 B T⟩⟩
 have c_p_goal:aM l.prog w K mg base "goal" ix mr (gL K):=⟨⟨_,_,aV X G a1,k1,b1,DV F1 B⟩⟩
 have c_p_stands:aM l.prog w K mg base "stands" ff jQ (eF K):=⟨⟨_,_,aV X G a2,k2,b2,zH F2 B c_p_goal⟩⟩
 have m_Walk_enter:cg l.prog w K mg base (aR K "Walk") "enter" dD ir (dh K):=⟨⟨f3,_,by rw[eC_Walk];exact⟨a3,i3,k3⟩,b3,vq F3 B T mk_Frame c_p_stands⟩⟩
 have m_Walk_ended:cg l.prog w K mg base (aR K "Walk") "ended" dk fY (cF K):=⟨⟨f4,_,by rw[eC_Walk];exact⟨a4,i4,k4⟩,b4,x8 F4 B⟩⟩
 have m_Walk_go_on:cg l.prog w K mg base (aR K "Walk") "go_on" dE iu (di K):=⟨⟨f5,_,by rw[eC_Walk];exact⟨a5,i5,k5⟩,b5,vt F5 B T c_p_stands⟩⟩
 have c_p_sets:aM l.prog w K mg base "sets" jT qh (j4 K):=⟨⟨_,_,aV X G a6,k6,b6,DW F6 B⟩⟩
 have m_Walk_leave:cg l.prog w K mg base (aR K "Walk") "leave" fH kM (fJ K):=⟨⟨f7,_,by rw[eC_Walk];exact⟨a7,i7,k7⟩,b7,vv F7 B T cl_Walk m_Walk_ended m_Walk_go_on c_p_sets⟩⟩
 have c_p_unbounded:aM l.prog w K mg base "unbounded" eK j8 (eQ K):=⟨⟨_,_,aV X G a8,k8,b8,ud F8 B⟩⟩
 have c_p_worth:aM l.prog w K mg base "worth" i6 oJ (jg K):=⟨⟨_,_,aV X G a9,k9,b9,BP F9 B c_p_unbounded⟩⟩
 have m_Walk_work:cg l.prog w K mg base (aR K "Walk") "work" gc lG (gy K):=⟨⟨f10,_,by rw[eC_Walk];exact⟨a10,i10,k10⟩,b10,yb F10 B T cl_Walk m_Walk_go_on c_p_worth c_p_goal⟩⟩
 have c_p_reads:aM l.prog w K mg base "reads" iZ oI (jf K):=⟨⟨_,_,aV X G a11,k11,b11,BO F11 B⟩⟩
 have m_Walk_step:cg l.prog w K mg base (aR K "Walk") "step" dX jj (dI K):=⟨⟨f12,_,by rw[eC_Walk];exact⟨a12,i12,k12⟩,b12,ya F12 B T cl_Walk m_Walk_enter m_Walk_leave m_Walk_work m_Walk_ended c_p_reads⟩⟩
 have b_Run_init:sU l.prog w K mg base "Run" (aR K "Run") "__init__" gY mJ (ic K):=⟨⟨f13,_,aV X G zc_Run |>.trans (by rw[eC_Run]),by rw[eC_Run];exact hg_Run,by rw[eC_Run];exact rd_Run,by rw[eC_Run];exact a13,k13,b13,zE F13 B⟩⟩
 have mk_Walk:mL l.prog w K mg base "Walk" (aR K "Walk") dW ji (dq K):=⟨⟨f14,_,aV X G zc_Walk |>.trans (by rw[eC_Walk]),by rw[eC_Walk];exact⟨ma_Walk,a14,i14,kp_Walk⟩,b14,x9 F14 B T cl_Walk m_Walk_enter b_Run_init⟩⟩
 have m_Walk_said:cg l.prog w K mg base (aR K "Walk") "said" fc jP (dM K):=⟨⟨f15,_,by rw[eC_Walk];exact⟨a15,i15,k15⟩,b15,zF F15 B⟩⟩
 have m_Walk_answer:cg l.prog w K mg base (aR K "Walk") "answer" dC iq (cS K):=⟨⟨f16,_,by rw[eC_Walk];exact⟨a16,i16,k16⟩,b16,vp F16 B⟩⟩
 have c_p_stepped:aM l.prog w K mg base "stepped" gf lI (gA K):=⟨⟨_,_,aV X G a17,k17,b17,yc F17 B T cl_Walk m_Walk_said m_Walk_answer m_Walk_ended m_Walk_step⟩⟩
 have b18_0:kJ K _ fN []:=λs us X hl=>by(obtain⟨_,_,_,_,rfl⟩:=Ls (us:=us) (show us.length=4 from by rw[kx] at hl;exact hl));exact PySem.W.binds_K (fd:=aI "run" "run" (bB gu) (aL gu) (ag gu) (.ref T18) kV18 dc18 pm18 an18 cd18 ct18) X rfl t18 rfl rfl rfl
 have c_p_run:aM l.prog w K mg base "run" fN kN (fE K):=⟨⟨_,_,aV X G a18,k18,b18_0,zG F18 B T mk_Walk c_p_stepped⟩⟩
 have b18_1:kJ K _ fN [(Value.int 400 dt18_0)]:=λs us X hl=>by(obtain⟨_,_,_,rfl⟩:=DI (us:=us) (show us.length=3 from by rw[aD] at hl;exact Nat.succ.inj hl));exact PySem.W.binds_K (fd:=aI "run" "run" (bB gu) (aL gu) (ag gu) (.ref T18) kV18 dc18 pm18 an18 cd18 ct18) X rfl t18 rfl rfl rfl
 have c_p_run_d1:qe l.prog w K mg base "run" fN kN [.int 400] (fE K):=⟨⟨_,_,_,aV X G a18,k18,b18_1,.cons ⟨_,rfl⟩ .nil,zG F18 B T mk_Walk c_p_stepped⟩⟩
 have c_draw:aM l.prog w K mg base "_law_draw" dY iH (bK K):=⟨⟨_,_,aV X G a19,k19,b19,HS F19 B⟩⟩
 have c_run_alike:aM l.prog w K mg base "_law_run_alike" gh lK (gC K):=⟨⟨_,_,aV X G a20,k20,b20,ye F20 B c_p_run⟩⟩
 have c_stand:aM l.prog w K mg base "_law_stand" g8 lM (fU K):=⟨⟨_,_,aV X G a21,k21,b21,FK F21 B⟩⟩
 have c_opened:aM l.prog w K mg base "_law_opened" iw mq (fS K):=⟨⟨_,_,aV X G a22,k22,b22,DU F22 B c_stand⟩⟩
 have m_Walk_frames:cg l.prog w K mg base (aR K "Walk") "frames" eJ j7 (eP K):=⟨⟨f23,_,by rw[eC_Walk];exact⟨a23,i23,k23⟩,b23,uc F23 B T⟩⟩
 have c_worths:aM l.prog w K mg base "_law_worths" jU qi (jq K):=⟨⟨_,_,aV X G a24,k24,b24,DX F24 B⟩⟩
 have c_alike:aM l.prog w K mg base "_law_alike" lj sH (jJ K):=⟨⟨_,_,aV X G a25,k25,b25,FH F25 B T cl_Walk m_Walk_answer m_Walk_said m_Walk_frames c_worths⟩⟩
 have c_reckoned:aM l.prog w K mg base "_law_reckoned" gZ mK (ie K):=⟨⟨_,_,aV X G a26,k26,b26,zI F26 B⟩⟩
 have c_shut:aM l.prog w K mg base "_law_shut" mT xf (ni K):=⟨⟨_,_,aV X G a27,k27,b27,HV F27 B c_stand⟩⟩
 have c_step:aM l.prog w K mg base "_law_step" mU xg (nj K):=⟨⟨_,_,aV X G a28,k28,b28,HW F28 B c_stand c_reckoned c_opened c_shut⟩⟩
 have c_worth:aM l.prog w K mg base "_law_worth" jy oM (iP K):=⟨⟨_,_,aV X G a29,k29,b29,FL F29 B c_draw⟩⟩
 have c_args:aM l.prog w K mg base "_law_args" mR xb (lS K):=⟨⟨_,_,aV X G a30,k30,b30,HR F30 B c_worth⟩⟩
 have c_filled:aM l.prog w K mg base "_law_filled" jR qf (jY K):=⟨⟨_,_,aV X G a31,k31,b31,DS F31 B c_draw⟩⟩
 have c_leads:aM l.prog w K mg base "_law_leads" lp sI (lB K):=⟨⟨_,_,aV X G a32,k32,b32,FI F32 B⟩⟩
 have c_set_names:aM l.prog w K mg base "_law_set_names" gp lL (gD K):=⟨⟨_,_,aV X G a33,k33,b33,yf F33 B c_leads⟩⟩
 have c_mended:aM l.prog w K mg base "_law_mended" jS qg (jZ K):=⟨⟨_,_,aV X G a34,k34,b34,DT F34 B⟩⟩
 have c_rough_row:aM l.prog w K mg base "_law_rough_row" gg lJ (gB K):=⟨⟨_,_,aV X G a35,k35,b35,yd F35 B c_draw c_worth⟩⟩
 have c_part:aM l.prog w K mg base "_law_part" mS xc (nh K):=⟨⟨_,_,aV X G a36,k36,b36,HU F36 B c_filled c_set_names c_mended c_rough_row c_draw⟩⟩
 have c_names:aM l.prog w K mg base "_law_names" lq sJ (kr K):=⟨⟨_,_,aV X G a37,k37,b37,FJ F37 B c_draw⟩⟩
 have c_program:aM l.prog w K mg base "_law_program" i8 oK (jh K):=⟨⟨_,_,aV X G a38,k38,b38,BQ F38 B c_part c_draw c_names⟩⟩
 exact Kh F39 B T cl_Walk m_Walk_step mk_Walk c_p_run_d1 c_p_run c_draw c_run_alike c_opened c_alike c_step c_args c_program
theorem Lh{K:Fg}{H:Hp}{a:Addr}{ns:List Int}(o:G6 H)(h:bZ K H a (ns.map V.int)):lu K H a ns:=by
 rcases h with(h|h)|h
 ·rcases o a with z|⟨ob,xs,z⟩<;>rw[h] at z<;>cases z
 ·exact .inl h
 ·exact .inr h
theorem walk{l:PySem.W.OpenLaw}{q:Program}{loose:List Str}{XP:(Str->Option Value)->Heap->Prop}{YP:World->Heap->Prop}{d:DefRec}{K:Params->Fg}(hn:l.most=some 63)(hdf:d.params.defaults=[])
  (hY:∀(w:World) (h:Heap),YP w h->(K w.params).In h)
  (F:∀(w:World) (mg:Str->Option Value) (fa:Addr) (h:Heap),(K w.params).In h->h.Ns mainGlobals mg->mg d.name=some (.ref fa)->
   ∃fd:FuncData,(∀(s:Shared) (u:Value),BindsTo s fd ⟨[u],[]⟩ [("_law_script",u)])/\∀base:Heap,(K w.params).In base->base.Ns mainGlobals mg->dt l.prog w (K w.params) mg base eT Ct fa fd tm (sp_law (K w.params))) :
  PySem.W.WalkO q loose XP YP l.row.toRowW d [] (λf vs=>sT f vs):=
 L2.walk_of (n:=63) (k:=Ct) (x:="_law_script") (CX:=λ_=>eT) (sp:=λw=>sp_law (K w.params)) hn (by decide) hdf ⟨rfl,by decide,by decide⟩ hY F (λ_ _ a ns hl hO hS=>⟨a,ns,rfl,Lh hO hS,hl,λ_=>rfl⟩) λ_ _ _ _ _ z=>z
end Bg
open PySem PySem.W PyProof.Rows
def PySem.W.Fast.tw14576751865941547776:Unit:=()
def PySem.W.Fast.tw5969032549906490275:Unit:=()
def PySem.W.Fast.tw11330811887897264427:Unit:=()
def PySem.W.Fast.tw4294063715905768966:Unit:=()
def PySem.W.Fast.tw8061239850413716195:Unit:=()
def PySem.W.Fast.tw8214845583582159880:Unit:=()
def PySem.W.Fast.tw11687959478306184461:Unit:=()
def PySem.W.Fast.tw11372114849093152258:Unit:=()
def PySem.W.Fast.tw7789040762830839173:Unit:=()
def PySem.W.Fast.tw16677593653995075724:Unit:=()
def PySem.W.Fast.tw10715851473447325065:Unit:=()
def PySem.W.Fast.tw16965239497575353051:Unit:=()
def PySem.W.Fast.tw15262050556304600139:Unit:=()
def PySem.W.Fast.tw13462149397749303076:Unit:=()
set_option maxRecDepth 100000 in
set_option maxHeartbeats 0 in
theorem PySem.Challenge.cw_beltgarth_k32_whole_walks_and_runs_holds : PySem.Challenge.rw_beltgarth_k32_whole_walks_and_runs.Holds := by
 w_on;o_law;k_head;(case hw=>w_witness2)
 k_fill
 refine Bg.walk (l:=PySem.Challenge.rw_beltgarth_k32_whole_walks_and_runs) rfl rfl (λw h Y=>PySem.W.kIn_of Y) ?F
 case F=>
  intro w mg fa h KX G hmg
  refine' Bg.all_mk KX G hmg ?zc_Frame ?pg_Frame ?hd_Frame ?po_Frame ?sa_Frame ?ma_Frame ?kp_Frame ?zc_Walk ?pg_Walk ?hd_Walk ?po_Walk ?sa_Walk ?ma_Walk ?kp_Walk ?zc_Run ?hg_Run ?rd_Run ?no_0 ?no_1 ?no_2 ?no_3 ?no_4 ?no_5 ?no_6 ?a0 ?l0 ?c0 ?k0 ?i0 ?a1 ?l1 ?c1 ?k1 ?a2 ?l2 ?c2 ?k2 ?a3 ?l3 ?c3 ?k3 ?i3 ?a4 ?l4 ?c4 ?k4 ?i4 ?a5 ?l5 ?c5 ?k5 ?i5 ?a6 ?l6 ?c6 ?k6 ?a7 ?l7 ?c7 ?k7 ?i7 ?a8 ?l8 ?c8 ?k8 ?a9 ?l9 ?c9 ?k9 ?a10 ?l10 ?c10 ?k10 ?i10 ?a11 ?l11 ?c11 ?k11 ?a12 ?l12 ?c12 ?k12 ?i12 ?a13 ?l13 ?c13 ?k13 ?i13 ?a14 ?l14 ?c14 ?k14 ?i14 ?a15 ?l15 ?c15 ?k15 ?i15 ?a16 ?l16 ?c16 ?k16 ?i16 ?a17 ?l17 ?c17 ?k17 ?a18 ?l18 ?c18 ?k18 ?t18 ?a19 ?l19 ?c19 ?k19 ?a20 ?l20 ?c20 ?k20 ?a21 ?l21 ?c21 ?k21 ?a22 ?l22 ?c22 ?k22 ?a23 ?l23 ?c23 ?k23 ?i23 ?a24 ?l24 ?c24 ?k24 ?a25 ?l25 ?c25 ?k25 ?a26 ?l26 ?c26 ?k26 ?a27 ?l27 ?c27 ?k27 ?a28 ?l28 ?c28 ?k28 ?a29 ?l29 ?c29 ?k29 ?a30 ?l30 ?c30 ?k30 ?a31 ?l31 ?c31 ?k31 ?a32 ?l32 ?c32 ?k32 ?a33 ?l33 ?c33 ?k33 ?a34 ?l34 ?c34 ?k34 ?a35 ?l35 ?c35 ?k35 ?a36 ?l36 ?c36 ?k36 ?a37 ?l37 ?c37 ?k37 ?a38 ?l38 ?c38 ?k38 ?a39 ?l39 ?c39 ?k39 ?z_len ?z_range ?z_divmod ?z_max ?z_min ?z_sum ?z_all ?z_isinstance ?z_int ?z_bool ?z_list ?z_tuple ?z_enumerate ?z_zip ?z_sorted ?z_set ?z_dict ?z_str ?z_any ?z_reversed ?z_abs
  (case zc_Frame=>k_is)
  (case pg_Frame=>k_is)
  (case hd_Frame=>k_is)
  (case po_Frame=>k_is)
  (case sa_Frame=>k_is)
  (case ma_Frame=>k_is)
  (case kp_Frame=>k_is)
  (case zc_Walk=>k_is)
  (case pg_Walk=>k_is)
  (case hd_Walk=>k_is)
  (case po_Walk=>k_is)
  (case sa_Walk=>k_is)
  (case ma_Walk=>k_is)
  (case kp_Walk=>k_is)
  (case zc_Run=>k_is)
  (case hg_Run=>k_is)
  (case rd_Run=>k_is)
  (case no_0=>k_is)
  (case no_1=>k_is)
  (case no_2=>k_is)
  (case no_3=>k_is)
  (case no_4=>k_is)
  (case no_5=>k_is)
  (case no_6=>k_is)
  (case a0=>k_is)
  (case l0=>k_is)
  (case c0=>k_is)
  (case k0=>k_is)
  (case i0=>k_is)
  (case a1=>k_is)
  (case l1=>k_is)
  (case c1=>k_is)
  (case k1=>k_is)
  (case a2=>k_is)
  (case l2=>k_is)
  (case c2=>k_is)
  (case k2=>k_is)
  (case a3=>k_is)
  (case l3=>k_is)
  (case c3=>k_is)
  (case k3=>k_is)
  (case i3=>k_is)
  (case a4=>k_is)
  (case l4=>k_is)
  (case c4=>k_is)
  (case k4=>k_is)
  (case i4=>k_is)
  (case a5=>k_is)
  (case l5=>k_is)
  (case c5=>k_is)
  (case k5=>k_is)
  (case i5=>k_is)
  (case a6=>k_is)
  (case l6=>k_is)
  (case c6=>k_is)
  (case k6=>k_is)
  (case a7=>k_is)
  (case l7=>k_is)
  (case c7=>k_is)
  (case k7=>k_is)
  (case i7=>k_is)
  (case a8=>k_is)
  (case l8=>k_is)
  (case c8=>k_is)
  (case k8=>k_is)
  (case a9=>k_is)
  (case l9=>k_is)
  (case c9=>k_is)
  (case k9=>k_is)
  (case a10=>k_is)
  (case l10=>k_is)
  (case c10=>k_is)
  (case k10=>k_is)
  (case i10=>k_is)
  (case a11=>k_is)
  (case l11=>k_is)
  (case c11=>k_is)
  (case k11=>k_is)
  (case a12=>k_is)
  (case l12=>k_is)
  (case c12=>k_is)
  (case k12=>k_is)
  (case i12=>k_is)
  (case a13=>k_is)
  (case l13=>k_is)
  (case c13=>k_is)
  (case k13=>k_is)
  (case i13=>k_is)
  (case a14=>k_is)
  (case l14=>k_is)
  (case c14=>k_is)
  (case k14=>k_is)
  (case i14=>k_is)
  (case a15=>k_is)
  (case l15=>k_is)
  (case c15=>k_is)
  (case k15=>k_is)
  (case i15=>k_is)
  (case a16=>k_is)
  (case l16=>k_is)
  (case c16=>k_is)
  (case k16=>k_is)
  (case i16=>k_is)
  (case a17=>k_is)
  (case l17=>k_is)
  (case c17=>k_is)
  (case k17=>k_is)
  (case a18=>k_is)
  (case l18=>k_is)
  (case c18=>k_is)
  (case k18=>k_is)
  (case t18=>k_is)
  (case a19=>k_is)
  (case l19=>k_is)
  (case c19=>k_is)
  (case k19=>k_is)
  (case a20=>k_is)
  (case l20=>k_is)
  (case c20=>k_is)
  (case k20=>k_is)
  (case a21=>k_is)
  (case l21=>k_is)
  (case c21=>k_is)
  (case k21=>k_is)
  (case a22=>k_is)
  (case l22=>k_is)
  (case c22=>k_is)
  (case k22=>k_is)
  (case a23=>k_is)
  (case l23=>k_is)
  (case c23=>k_is)
  (case k23=>k_is)
  (case i23=>k_is)
  (case a24=>k_is)
  (case l24=>k_is)
  (case c24=>k_is)
  (case k24=>k_is)
  (case a25=>k_is)
  (case l25=>k_is)
  (case c25=>k_is)
  (case k25=>k_is)
  (case a26=>k_is)
  (case l26=>k_is)
  (case c26=>k_is)
  (case k26=>k_is)
  (case a27=>k_is)
  (case l27=>k_is)
  (case c27=>k_is)
  (case k27=>k_is)
  (case a28=>k_is)
  (case l28=>k_is)
  (case c28=>k_is)
  (case k28=>k_is)
  (case a29=>k_is)
  (case l29=>k_is)
  (case c29=>k_is)
  (case k29=>k_is)
  (case a30=>k_is)
  (case l30=>k_is)
  (case c30=>k_is)
  (case k30=>k_is)
  (case a31=>k_is)
  (case l31=>k_is)
  (case c31=>k_is)
  (case k31=>k_is)
  (case a32=>k_is)
  (case l32=>k_is)
  (case c32=>k_is)
  (case k32=>k_is)
  (case a33=>k_is)
  (case l33=>k_is)
  (case c33=>k_is)
  (case k33=>k_is)
  (case a34=>k_is)
  (case l34=>k_is)
  (case c34=>k_is)
  (case k34=>k_is)
  (case a35=>k_is)
  (case l35=>k_is)
  (case c35=>k_is)
  (case k35=>k_is)
  (case a36=>k_is)
  (case l36=>k_is)
  (case c36=>k_is)
  (case k36=>k_is)
  (case a37=>k_is)
  (case l37=>k_is)
  (case c37=>k_is)
  (case k37=>k_is)
  (case a38=>k_is)
  (case l38=>k_is)
  (case c38=>k_is)
  (case k38=>k_is)
  (case a39=>k_is)
  (case l39=>k_is)
  (case c39=>k_is)
  (case k39=>k_is)
  (case z_len=>k_is)
  (case z_range=>k_is)
  (case z_divmod=>k_is)
  (case z_max=>k_is)
  (case z_min=>k_is)
  (case z_sum=>k_is)
  (case z_all=>k_is)
  (case z_isinstance=>k_is)
  (case z_int=>k_is)
  (case z_bool=>k_is)
  (case z_list=>k_is)
  (case z_tuple=>k_is)
  (case z_enumerate=>k_is)
  (case z_zip=>k_is)
  (case z_sorted=>k_is)
  (case z_set=>k_is)
  (case z_dict=>k_is)
  (case z_str=>k_is)
  (case z_any=>k_is)
  (case z_reversed=>k_is)
  (case z_abs=>k_is)
